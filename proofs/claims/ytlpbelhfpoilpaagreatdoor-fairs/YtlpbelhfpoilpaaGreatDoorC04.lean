import Derived.Test.YtlpbelhfpoilpaaGreatDoorC03
set_option linter.all false
set_option maxRecDepth 100000
set_option maxHeartbeats 16000000
namespace Go.Scout
open Go.RowKit
structure PartD where
 kind:Int
 sources:Nat
 clauses:Nat
 order:List Int
 size:Nat
 cost:Nat
def coversB (a b:Nat):Bool:=decide (b &&& (18446744073709551615-a)=0)
def concernN (ts:List TableD) (src:List Int) (cs:List CondD):List Int:=(columnsN cs).map fun c=>(sourceN ts src c:Int)
def risesB (ts:List TableD) (q:QueryV) (l:List Int) (s:Nat):Bool:=
 (List.range l.length).all fun i=>decide ((if i=0 then -1 else l.getD (i-1) 0)<l.getD i 0)&&decide (l.getD i 0<q.wh.length)&&coversB s (setN (concernN ts q.src.xs (q.wh.getD (l.getD i 0).toNat lz).cs))
theorem concern_small {ts:List TableD} {src:List Int} (hc:catB ts=true) (ha:allB src ts.length=true) {cs:List CondD} (h:∀ c∈columnsN cs,0<=c/\c<widthN ts src):SmallL src.length (concernN ts src cs):=fun x hx=>by
 obtain⟨c,hm,rfl⟩:=List.mem_map.1 hx;obtain⟨h0,h1⟩:=h c hm;have:=(sourceN_at hc ha h0 h1).1;omega
theorem covers_within {ts:List TableD} {src:List Int} (hc:catB ts=true) (ha:allB src ts.length=true) (hn:src.length<=64) {cs:List CondD} (h:∀ c∈columnsN cs,0<=c/\c<widthN ts src) {s:List Int} (hs:SmallL src.length s) :
  coversB (setN s) (setN (concernN ts src cs))=withinB ts src cs s:=by
 unfold coversB withinB;rw[Bool.eq_iff_iff,decide_eq_true_eq,List.all_eq_true,setN_covers hn hs (concern_small hc ha h)];constructor
 ·intro e c hm;exact decide_eq_true (e _ (List.mem_map.2 ⟨c,hm,rfl⟩))
 ·intro e x hx;obtain⟨c,hm,rfl⟩:=List.mem_map.1 hx;exact of_decide_eq_true (e c hm)
def ClausesOk (ts:List TableD) (q:QueryV):Prop:=∀ i,i<q.wh.length->∀ c∈columnsN (q.wh.getD i lz).cs,0<=c/\c<widthN ts q.src.xs
theorem rises_listed {ts:List TableD} {q:QueryV} (hc:catB ts=true) (ha:allB q.src.xs ts.length=true) (hn:q.src.xs.length<=64) (hk:ClausesOk ts q) {s:List Int} (hs:SmallL q.src.xs.length s) (l:List Int) :
  risesB ts q l (setN s)=listedB ts q l s:=by
 unfold risesB listedB;rw[Bool.eq_iff_iff,List.all_eq_true,List.all_eq_true];constructor
 ·intro h;have hpos:∀ i,i<l.length->0<=l.getD i 0:=by
   intro i
   induction i with
   | zero =>
    intro hi;have h1:=h 0 (List.mem_range.2 hi);simp only[Bool.and_eq_true,decide_eq_true_eq] at h1;have h2:=h1.1.1;rw[if_pos trivial] at h2;omega
   | succ i ih =>
    intro hi;have h0:=ih (by omega);have h1:=h (i+1) (List.mem_range.2 hi);simp only[Bool.and_eq_true,decide_eq_true_eq] at h1;have h2:=h1.1.1;rw[if_neg (by omega),Nat.add_sub_cancel] at h2;omega
  intro i hi;have hi':=List.mem_range.1 hi;have h1:=h i hi;have h2:=hpos i hi';simp only[Bool.and_eq_true,decide_eq_true_eq] at h1;obtain⟨⟨h3,h4⟩,h5⟩:=h1;rw[covers_within hc ha hn (hk _ (by omega)) hs] at h5;simp only[Bool.and_eq_true,Bool.or_eq_true,decide_eq_true_eq];refine⟨⟨⟨h2,h4⟩,?_⟩,h5⟩;by_cases e:i=0
  ·exact .inl e
  ·rw[if_neg e] at h3;exact .inr h3
 ·intro h i hi;have h1:=h i hi;simp only[Bool.and_eq_true,Bool.or_eq_true,decide_eq_true_eq] at h1;obtain⟨⟨⟨h2,h4⟩,h3⟩,h5⟩:=h1;simp only[Bool.and_eq_true,decide_eq_true_eq];rw[covers_within hc ha hn (hk _ (by omega)) hs];refine⟨⟨?_,h4⟩,h5⟩;by_cases e:i=0
  ·rw[if_pos e]; omega
  ·rw[if_neg e];rcases h3 with h3 | h3
   ·exact absurd h3 e
   ·exact h3
theorem setN_one (k:Nat):setN [(k:Int)]=2 ^ k:=by
 unfold setN;rw[List.foldl_cons,List.foldl_nil,Nat.zero_or,Int.toNat_natCast]
theorem covers_one {n:Nat} (hn:n<=64) {s:List Int} (hs:SmallL n s) {k:Nat} (hk:k<n):coversB (setN s) (2 ^ k)=decide ((k:Int)∈s):=by
 unfold coversB;rw[<- setN_one,Bool.eq_iff_iff,decide_eq_true_eq,decide_eq_true_eq,setN_covers hn hs (fun x hx=>by rw[List.mem_singleton] at hx; omega)];constructor
 ·intro h; exact h _ (by simp)
 ·intro h x hx;rw[List.mem_singleton] at hx;rw[hx]; exact h
def keysP (ts:List TableD) (src:List Int) (cs:List CondD) (a b:Nat):Int × Int × Bool:=
 if cs.length > 1∨(cs.getD 0 cz).op≠0∨(cs.getD 0 cz).not=true∨(cs.getD 0 cz).const=true then (0,0,false)
 else if (coversB a (2 ^ sourceN ts src (cs.getD 0 cz).left)&&coversB b (2 ^ sourceN ts src (cs.getD 0 cz).right))=true then ((cs.getD 0 cz).left,(cs.getD 0 cz).right,true)
 else if (coversB a (2 ^ sourceN ts src (cs.getD 0 cz).right)&&coversB b (2 ^ sourceN ts src (cs.getD 0 cz).left))=true then ((cs.getD 0 cz).right,(cs.getD 0 cz).left,true)
 else (0,0,false)
theorem keys_sides {ts:List TableD} {src:List Int} (hc:catB ts=true) (ha:allB src ts.length=true) (hn:src.length<=64) {cs:List CondD} (h0:0<cs.length) (h:∀ c∈columnsN cs,0<=c/\c<widthN ts src) {a b:List Int}
  (hsa:SmallL src.length a) (hsb:SmallL src.length b) :
  (keysP ts src cs (setN a) (setN b)).2.2=(sidesN ts src cs a b).2.2/\((sidesN ts src cs a b).2.2=true->keysP ts src cs (setN a) (setN b)=sidesN ts src cs a b):=by
 unfold keysP sidesN;by_cases c1:cs.length≠1∨(cs.getD 0 cz).not=true∨(cs.getD 0 cz).const=true∨(cs.getD 0 cz).op≠0
 ·have c1':cs.length > 1∨(cs.getD 0 cz).op≠0∨(cs.getD 0 cz).not=true∨(cs.getD 0 cz).const=true:=by
   rcases c1 with e | e | e | e
   ·left; omega
   ·exact .inr (.inr (.inl e))
   ·exact .inr (.inr (.inr e))
   ·exact .inr (.inl e)
  rw[if_pos c1,if_pos c1'];exact⟨rfl,fun _=>rfl⟩
 ·have c1':¬ (cs.length > 1∨(cs.getD 0 cz).op≠0∨(cs.getD 0 cz).not=true∨(cs.getD 0 cz).const=true):=by
   rintro (e | e | e | e)
   ·exact c1 (.inl (by omega))
   ·exact c1 (.inr (.inr (.inr e)))
   ·exact c1 (.inr (.inl e))
   ·exact c1 (.inr (.inr (.inl e)))
  rw[if_neg c1,if_neg c1'];have hcols:(cs.getD 0 cz).left∈columnsN cs/\(cs.getD 0 cz).right∈columnsN cs:=by
   have hm:cs.getD 0 cz∈cs:=by
    have e:cs.getD 0 cz=cs[0]:=by simp[List.getD,h0]
    rw[e]; exact List.getElem_mem _
   have h2:(cs.getD 0 cz).op≠2/\(cs.getD 0 cz).const=false:=by
    refine⟨fun e=>c1 (.inr (.inr (.inr (by omega)))),?_⟩
    cases hk:(cs.getD 0 cz).const with
    | false => rfl
    | true => exact absurd (.inr (.inr (.inl hk))) c1
   unfold columnsN;refine⟨List.mem_flatMap.2 ⟨_,hm,?_⟩,List.mem_flatMap.2 ⟨_,hm,?_⟩⟩
   ·unfold condCols; rw[if_pos h2]; simp
   ·unfold condCols; rw[if_pos h2]; simp
  have hl:=h _ hcols.1;have hr:=h _ hcols.2;have sl:=(sourceN_at hc ha hl.1 hl.2).1;have sr:=(sourceN_at hc ha hr.1 hr.2).1;generalize cs.getD 0 cz=c at *;rw[covers_one hn hsa sl,covers_one hn hsb sr,covers_one hn hsa sr,covers_one hn hsb sl];by_cases e1:(sourceN ts src c.left:Int)∈a/\(sourceN ts src c.right:Int)∈b
  ·rw[if_pos e1,if_pos (by rw[decide_eq_true e1.1,decide_eq_true e1.2]; rfl)];exact⟨rfl,fun _=>rfl⟩
  ·have e1':¬ (decide ((sourceN ts src c.left:Int)∈a)&&decide ((sourceN ts src c.right:Int)∈b))=true:=by
    rw[Bool.and_eq_true,decide_eq_true_eq,decide_eq_true_eq]; exact e1
   rw[if_neg e1,if_neg e1'];by_cases e2:(decide ((sourceN ts src c.right:Int)∈a)&&decide ((sourceN ts src c.left:Int)∈b))=true
   ·rw[if_pos e2,e2];exact⟨rfl,fun _=>rfl⟩
   ·rw[if_neg e2];have e3:(decide ((sourceN ts src c.right:Int)∈a)&&decide ((sourceN ts src c.left:Int)∈b))=false:=by simpa using e2
    rw[e3];exact⟨rfl,fun x=>by cases x⟩
theorem sumTo'_le {f:Nat->Nat} (h:∀ k,f k<=1):∀ n,sumTo' n f<=n
 | 0 => Nat.le_refl _
 | n+1 => by
  rw[sumTo'_succ];have:=sumTo'_le h n;have:=h n;omega
theorem small_len {n:Nat} {s:List Int} (hs:SmallL n s) (hd:s.Nodup):s.length<=n:=by
 have hlt:∀ k∈s.map Int.toNat,k<n:=fun k hk=>by
  have:=(hs _ ((mem_nat hs k).1 hk)).2;omega
 have hsum:=sumTo'_count hlt;rw[List.length_map] at hsum;have hc:=List.nodup_iff_count.1 (nodup_nat hs hd);have:=sumTo'_le (f:=fun k=>(s.map Int.toNat).count k) hc n;omega
theorem apart_nodup {xs:List Int} (h:apartB xs=true):xs.Nodup:=by
 unfold apartB at h;rw[decide_eq_true_eq] at h
 show List.Pairwise _ _
 rw[List.pairwise_iff_getElem];intro i j hi hj hij e;have h1:=h j hj i hij;have e1:xs.getD j 0=xs[j]:=by simp[List.getD,hj]
 have e2:xs.getD i 0=xs[i]:=by simp[List.getD,hi]
 rw[e1,e2] at h1;exact h1 e.symm
def sortP (ts:List TableD) (src cols:List Int) (s:Nat):Bool:=
 decide (0<cols.length)&&decide ((cols.length:Int)<=widthN ts src) &&
  (List.range cols.length).all fun i=>decide (0<=cols.getD i 0)&&decide (cols.getD i 0<widthN ts src) && !decide (cols.getD i 0∈cols.take i)&&coversB s (2 ^ sourceN ts src (cols.getD i 0))
theorem mem_take_iff {xs:List Int} {i:Nat} (hi:i<xs.length) {x:Int}:x∈xs.take i↔∃ j,j<i/\xs.getD j 0=x:=by
 rw[List.mem_take_iff_getElem];constructor
 ·rintro⟨j,hj,e⟩;refine⟨j,by omega,?_⟩;rw[<- e];simp[List.getD,show j<xs.length by omega]
 ·rintro⟨j,hj,e⟩;refine⟨j,by omega,?_⟩;rw[<- e];simp[List.getD,show j<xs.length by omega]
theorem sort_same {ts:List TableD} {src:List Int} (hc:catB ts=true) (ha:allB src ts.length=true) (hn:src.length<=64) {s:List Int} (hs:SmallL src.length s) {cols:List Int} (h0:0<cols.length) :
  sortP ts src cols (setN s)=(allB cols (widthN ts src)&&apartB cols&&cols.all fun c=>decide ((sourceN ts src c:Int)∈s)):=by
 unfold sortP;rw[Bool.eq_iff_iff,decide_eq_true h0,Bool.true_and,Bool.and_eq_true,decide_eq_true_eq,List.all_eq_true,Bool.and_eq_true,Bool.and_eq_true,List.all_eq_true];have at':∀ c∈cols,∃ i,i<cols.length/\cols.getD i 0=c:=fun c hm=>by
  obtain⟨i,hi,e⟩:=List.getElem_of_mem hm;exact⟨i,hi,by rw[<- e]; simp[List.getD,hi]⟩
 have of':∀ i,i<cols.length->cols.getD i 0∈cols:=fun i hi=>by
  have e:cols.getD i 0=cols[i]:=by simp[List.getD,hi]
  rw[e]; exact List.getElem_mem _
 constructor
 ·rintro⟨_,h⟩;have h':∀ i,i<cols.length->0<=cols.getD i 0/\cols.getD i 0<widthN ts src/\cols.getD i 0 ∉ cols.take i/\(sourceN ts src (cols.getD i 0):Int)∈s:=fun i hi=>by
   have h1:=h i (List.mem_range.2 hi);simp only[Bool.and_eq_true,Bool.not_eq_true',decide_eq_true_eq,decide_eq_false_iff_not] at h1;obtain⟨⟨⟨h2,h3⟩,h4⟩,h5⟩:=h1;rw[covers_one hn hs (sourceN_at hc ha h2 h3).1,decide_eq_true_eq] at h5;exact⟨h2,h3,h4,h5⟩
  refine⟨⟨?_,?_⟩,?_⟩
  ·unfold allB;rw[List.all_eq_true];intro c hm;obtain⟨i,hi,rfl⟩:=at' c hm;rw[Bool.and_eq_true,decide_eq_true_eq,decide_eq_true_eq];exact⟨(h' i hi).1,(h' i hi).2.1⟩
  ·unfold apartB;rw[decide_eq_true_eq];intro i hi j hj e;exact (h' i hi).2.2.1 ((mem_take_iff hi).2 ⟨j,hj,e.symm⟩)
  ·intro c hm;obtain⟨i,hi,rfl⟩:=at' c hm;exact decide_eq_true (h' i hi).2.2.2
 ·rintro⟨⟨h1,h2⟩,h3⟩;have hnd:=apart_nodup h2;have hsm:SmallL (widthN ts src).toNat cols:=fun x hx=>by
   unfold allB at h1;have h4:=List.all_eq_true.1 h1 x hx;rw[Bool.and_eq_true,decide_eq_true_eq,decide_eq_true_eq] at h4;omega
  have hlen:=small_len hsm hnd;have hw:=widthN_bd hc ha src.length (Nat.le_refl _);rw[List.take_length] at hw;refine⟨by omega,fun i hi=>?_⟩;have hi':=List.mem_range.1 hi;have hm:=of' i hi';have hx:=hsm _ hm;have hx2:cols.getD i 0<widthN ts src:=by omega
  simp only[Bool.and_eq_true,Bool.not_eq_true',decide_eq_true_eq,decide_eq_false_iff_not];rw[covers_one hn hs (sourceN_at hc ha hx.1 hx2).1];refine⟨⟨⟨hx.1,hx2⟩,?_⟩,h3 _ hm⟩;intro e;obtain⟨j,hj,e2⟩:=(mem_take_iff hi').1 e;unfold apartB at h2;rw[decide_eq_true_eq] at h2;exact h2 i hi' j hj e2.symm
def sizeP (ts:List TableD) (q:QueryV) (sources clauses:Nat):Nat:=
 if ((risingN sources).map fun (k:Nat)=>rowsN ts q.src.xs (k:Int)).foldl timesN 1=0 then 0
 else max ((risingN clauses).foldl (fun x c=>x / partsN ts q.src.xs (q.wh.getD c lz).cs) (((risingN sources).map fun (k:Nat)=>rowsN ts q.src.xs (k:Int)).foldl timesN 1)) 1
theorem size_same (ts:List TableD) (q:QueryV) (hw:q.wh.length<=64) {n:Nat} (hn:n<=64) {s c:List Int} (hs:SmallL n s) (hd:s.Nodup) (hc:SmallL q.wh.length c):sizeP ts q (setN s) (setN c)=sizeN ts q s c:=by
 have e1:(s.map (rowsN ts q.src.xs))=(s.map Int.toNat).map fun (k:Nat)=>rowsN ts q.src.xs (k:Int):=by
  rw[List.map_map];apply List.map_congr_left;intro x hx
  show rowsN ts q.src.xs x=rowsN ts q.src.xs ((x.toNat:Nat):Int)
  rw[Int.toNat_of_nonneg (hs x hx).1]
 have e2:((risingN (setN s)).map fun (k:Nat)=>rowsN ts q.src.xs (k:Int)).foldl timesN 1=(s.map (rowsN ts q.src.xs)).foldl timesN 1:=by
  rw[e1];exact (timesN_perm ((rising_perm hn hs hd).map _)).symm
 unfold sizeP sizeN;rw[e2];by_cases h0:(s.any fun x=>decide (rowsN ts q.src.xs x=0))=true
 ·rw[if_pos h0];obtain⟨x,hx,hz⟩:=List.any_eq_true.1 h0;rw[if_pos (timesN_fold_has _ 1 (List.mem_map.2 ⟨x,hx,of_decide_eq_true hz⟩))]
 ·rw[if_neg h0];have hp:∀ y∈s.map (rowsN ts q.src.xs),1<=y:=fun y hy=>by
   obtain⟨x,hx,rfl⟩:=List.mem_map.1 hy;by_cases e:rowsN ts q.src.xs x=0
   ·exact absurd (List.any_eq_true.2 ⟨x,hx,decide_eq_true e⟩) h0
   ·omega
  have hpos:=timesN_fold_pos _ 1 (Nat.le_refl _) hp;rw[if_neg (by omega)];unfold lessN;rw[rising_div hw hc]
def workP (kind:Int) (l r s:Nat):Nat:=if kind=4 then sumN [l,r,r,s] else if kind=5 then sumN [l,r,s] else timesN l r
def costP (kind:Int) (s lc ls rc rs:Nat):Nat:=
 if kind=1 then sumN [s,1]
 else if kind=3∨kind=4∨kind=5 then sumN [lc,rc,workP kind ls rs s]
 else if kind=6∨kind=10 then sumN [lc,timesN ls (bitsN ls+1)]
 else if kind=7 then sumN [lc,ls,ls]
 else sumN [lc,ls]
theorem sumN2 (a b:Nat):sumN [a,b]=plusN a b:=by rw[sumN_eq]; unfold plusN; simp
theorem sumN3 (a b c:Nat):sumN [a,b,c]=plusN (plusN a b) c:=by
 rw[sumN_eq];unfold plusN;simp only[List.sum_cons,List.sum_nil,Nat.min_def]
 repeat' split
 all_goals omega
theorem sumN4 (a b c d:Nat):sumN [a,b,c,d]=plusN (plusN a b) (plusN c d):=by
 rw[sumN_eq];unfold plusN;simp only[List.sum_cons,List.sum_nil,Nat.min_def]
 repeat' split
 all_goals omega
theorem times_two (a:Nat):timesN 2 a=plusN a a:=by unfold timesN plusN; rw[Nat.two_mul]
theorem cost_same (kind:Int) (s:Nat) (l r:ViewD):costP kind s l.cost l.size r.cost r.size=costN kind s l r:=by
 unfold costP costN workP;by_cases k1:kind=1
 ·rw[if_pos k1,if_pos k1,sumN2]
 rw[if_neg k1,if_neg k1];by_cases k3:kind=3
 ·rw[if_pos (.inl k3),if_pos k3,if_neg (by omega),if_neg (by omega),sumN3]
 rw[if_neg k3];by_cases k4:kind=4
 ·rw[if_pos (.inr (.inl k4)),if_pos k4,if_pos k4,sumN3,sumN4,times_two];congr 1;rw[plusN_assoc,plusN_assoc,plusN_comm s (plusN r.size r.size),plusN_assoc]
 simp only[if_neg k4];by_cases k5:kind=5
 ·rw[if_pos (.inr (.inr k5))];simp only[if_pos k5];rw[sumN3,sumN3];congr 1;rw[plusN_assoc,plusN_assoc,plusN_comm s r.size]
 simp only[if_neg k5];rw[if_neg (show ¬ (kind=3∨kind=4∨kind=5) by omega)];by_cases k6:kind=6∨kind=10
 ·rw[if_pos k6,if_pos k6,sumN2]
 rw[if_neg k6,if_neg k6];by_cases k7:kind=7
 ·rw[if_pos k7,if_pos k7,sumN3,times_two,plusN_assoc]
 rw[if_neg k7,if_neg k7,sumN2]
end Go.Scout

import Derived.Test.YtlpbelhfpoilpaaGreatDoorC02
import Derived.Test.YtlpbelhfpoilpaaGreatDoorC04
set_option linter.all false
set_option maxRecDepth 100000
set_option maxHeartbeats 16000000
namespace Go.Scout
open Go.RowKit
def outK (k:Int):Bool:=decide (7<=k)&&decide (k<=10)
def pz:PartD:=⟨0,0,0,[],0,0⟩
def keyP (ts:List TableD) (q:QueryV) (n:NodeV) (a b:Nat):Int × Int × Bool:=
 if n.key∈n.cl.xs/\0<=n.key/\n.key<q.wh.length then keysP ts q.src.xs (q.wh.getD n.key.toNat lz).cs a b else (0,0,false)
def joinP (ts:List TableD) (q:QueryV) (n:NodeV) (a b:Nat):Bool:=decide (a &&& b=0)&&risesB ts q n.cl.xs (a|||b)
def wholeP (q:QueryV) (l:PartD):Bool:=decide (l.sources=2 ^ q.src.xs.length-1)&&decide (l.clauses=2 ^ q.wh.length-1)
def kindsP (kind:Int) (l r:PartD):Bool:=(outK l.kind==decide (kind=10)) && !outK r.kind
def fitsP (ts:List TableD) (q:QueryV) (n:NodeV) (l r:PartD):Bool:=
 if n.kind=1 then decide (0<=n.source)&&decide (n.source<q.src.xs.length)
 else if n.kind=2 then decide (0<n.cl.xs.length)&&risesB ts q n.cl.xs l.sources
 else if n.kind=3 then joinP ts q n l.sources r.sources
 else if n.kind=4 then (keyP ts q n l.sources r.sources).2.2&&joinP ts q n l.sources r.sources
 else if n.kind=5 then (keyP ts q n l.sources r.sources).2.2&&joinP ts q n l.sources r.sources&&startsB l.order [(keyP ts q n l.sources r.sources).1]&&startsB r.order [(keyP ts q n l.sources r.sources).2.1]
 else if n.kind=6 then sortP ts q.src.xs n.co.xs l.sources
 else if n.kind=7 then q.group&&wholeP q l
 else if n.kind=8 then q.group&&wholeP q l&&startsB l.order q.keys.xs
 else if n.kind=9 then !q.group&&wholeP q l
 else decide (0<q.ord.xs.length)
def partP (ts:List TableD) (q:QueryV) (n:NodeV) (l r:PartD):PartD:=
 let s:=(if n.kind=1 then 2 ^ n.source.toNat else 0)|||l.sources|||r.sources
 let c:=setN n.cl.xs|||l.clauses|||r.clauses
 let z:=if outK n.kind=true then l.size else sizeP ts q s c
 ⟨n.kind,s,c,if n.kind=6 then n.co.xs else if 2<=n.kind/\n.kind<=5 then l.order else [],z,costP n.kind z l.cost l.size r.cost r.size⟩
structure PV (q:QueryV) (p:PartD) (v:ViewD):Prop where
 out:outK p.kind=v.out
 sources:p.sources=setN v.sources
 ssmall:SmallL q.src.xs.length v.sources
 snodup:v.sources.Nodup
 clauses:p.clauses=setN v.clauses
 csmall:SmallL q.wh.length v.clauses
 cnodup:v.clauses.Nodup
 order:v.out=false->p.order=v.order
 size:p.size=v.size
 cost:p.cost=v.cost
theorem pv_zero (q:QueryV):PV q pz vz where
 out:=by decide
 sources:=rfl
 ssmall:=fun x hx=>by cases hx
 snodup:=List.nodup_nil
 clauses:=rfl
 csmall:=fun x hx=>by cases hx
 cnodup:=List.nodup_nil
 order:=fun _=>rfl
 size:=rfl
 cost:=rfl
def nodeOk (ts:List TableD) (q:QueryV) (n:NodeV) (l r:ViewD):Bool:=
 !(r.out || (l.out != decide (n.kind=10)))&&decide ((withN l.sources r.sources).length=l.sources.length+r.sources.length)&&listedB ts q n.cl.xs (withN l.sources r.sources)&&kindB ts q n l r
theorem nodeV_eq (ts:List TableD) (q:QueryV) (n:NodeV) (l r:ViewD):nodeV ts q n l r=if nodeOk ts q n l r=true then
  some ⟨withN l.sources r.sources,withN (withN l.clauses r.clauses) n.cl.xs,if n.kind=6 then n.co.xs else l.order,decide (7<=n.kind),sizeN ts q (withN l.sources r.sources) (withN (withN l.clauses r.clauses) n.cl.xs),
   costN n.kind (sizeN ts q (withN l.sources r.sources) (withN (withN l.clauses r.clauses) n.cl.xs)) l r⟩ else none:=by
 unfold nodeV nodeOk;by_cases c1:(r.out || (l.out != decide (n.kind=10)))=true
 ·rw[if_pos c1,c1]; rfl
 have c1':(r.out || (l.out != decide (n.kind=10)))=false:=by simpa using c1
 rw[if_neg c1,c1'];by_cases c2:(withN l.sources r.sources).length=l.sources.length+r.sources.length
 ·rw[if_neg (not_not_intro c2),decide_eq_true c2]
  cases c3:listedB ts q n.cl.xs (withN l.sources r.sources) with
  | false => rfl
  | true =>
   cases c4:kindB ts q n l r with
   | false => rfl
   | true => rfl
 ·rw[if_pos c2,decide_eq_false c2]; rfl
structure Ok (ts:List TableD) (q:QueryV):Prop where
 cat:catB ts=true
 src:allB q.src.xs ts.length=true
 small:q.src.xs.length<=64
 whs:q.wh.length<=64
 cols:ClausesOk ts q
 some:∀ i,i<q.wh.length->0<(q.wh.getD i lz).cs.length
theorem apart_same {n:Nat} {a b:List Int} (ha:SmallL n a) (hb:SmallL n b) (hd:b.Nodup):decide (setN a &&& setN b=0)=decide ((withN a b).length=a.length+b.length):=by
 rw[Bool.eq_iff_iff,decide_eq_true_eq,decide_eq_true_eq,withN_len hd];have h:=setN_meets ha hb;constructor
 ·intro e x hx hxa;exact h.2 ⟨x,hxa,hx⟩ e
 ·intro e;by_cases h0:setN a &&& setN b=0
  ·exact h0
  ·obtain⟨x,h1,h2⟩:=h.1 h0;exact absurd h1 (e x h2)
theorem whole_same {q:QueryV} {p:PartD} {v:ViewD} (h:PV q p v):wholeP q p=wholeV q v:=by
 unfold wholeP wholeV;rw[h.sources,h.clauses];congr 1
 ·rw[Bool.eq_iff_iff,decide_eq_true_eq,decide_eq_true_eq]; exact setN_full h.ssmall h.snodup
 ·rw[Bool.eq_iff_iff,decide_eq_true_eq,decide_eq_true_eq]; exact setN_full h.csmall h.cnodup
theorem listed_small {ts:List TableD} {q:QueryV} {l s:List Int} (h:listedB ts q l s=true):SmallL q.wh.length l:=fun x hx=>by
 obtain⟨i,hi,e⟩:=List.getElem_of_mem hx;unfold listedB at h;rw[List.all_eq_true] at h;have h1:=h i (List.mem_range.2 hi);simp only[Bool.and_eq_true,decide_eq_true_eq] at h1;have e2:l.getD i 0=x:=by rw[<- e]; simp[List.getD,hi]
 rw[e2] at h1;exact⟨h1.1.1.1,h1.1.1.2⟩
theorem rises_or {ts:List TableD} {q:QueryV} (ok:Ok ts q) {a b:List Int} (ha:SmallL q.src.xs.length a) (hb:SmallL q.src.xs.length b) (l:List Int):risesB ts q l (setN a|||setN b)=listedB ts q l (withN a b):=by
 rw[<- setN_with ha hb];exact rises_listed ok.cat ok.src ok.small ok.cols (ha.with hb) l
theorem key_same {ts:List TableD} {q:QueryV} (ok:Ok ts q) (n:NodeV) {a b:List Int} (ha:SmallL q.src.xs.length a) (hb:SmallL q.src.xs.length b) (hl:listedB ts q n.cl.xs (withN a b)=true) :
  (keyP ts q n (setN a) (setN b)).2.2=(decide (n.key∈n.cl.xs)&&(sidesN ts q.src.xs (q.wh.getD n.key.toNat lz).cs a b).2.2)/\
  ((keyP ts q n (setN a) (setN b)).2.2=true->keyP ts q n (setN a) (setN b)=sidesN ts q.src.xs (q.wh.getD n.key.toNat lz).cs a b):=by
 unfold keyP;by_cases c:n.key∈n.cl.xs
 ·have hk:=listed_small hl _ c;rw[if_pos ⟨c,hk.1,hk.2⟩,decide_eq_true c,Bool.true_and];obtain⟨h1,h2⟩:=keys_sides ok.cat ok.src ok.small (cs:=(q.wh.getD n.key.toNat lz).cs) (ok.some _ (by omega)) (ok.cols _ (by omega)) ha hb;refine⟨h1,fun e=>h2 ?_⟩;rw[<- h1]; exact e
 ·rw[if_neg (fun e=>c e.1),decide_eq_false c];exact⟨rfl,fun e=>by cases e⟩
theorem fits_same {ts:List TableD} {q:QueryV} (ok:Ok ts q) {n:NodeV} (hp:plainB n=true) (h2:2<=n.kind) (h10:n.kind<=10) {l r:PartD} {vl vr:ViewD} (hl:PV q l vl) (hr:PV q r vr)
  (h1:arity n.kind≠2->r=pz/\vr=vz):(kindsP n.kind l r&&fitsP ts q n l r)=nodeOk ts q n vl vr:=by
 unfold plainB at hp;rw[decide_eq_true_eq] at hp;obtain⟨_,_,_,_,hcl,hco⟩:=hp;have e1:kindsP n.kind l r = !(vr.out || (vl.out != decide (n.kind=10))):=by
  unfold kindsP;rw[hl.out,hr.out]
  cases vr.out <;> cases vl.out <;> cases decide (n.kind=10) <;> rfl
 unfold nodeOk;rw[e1]
 cases hA:!(vr.out || (vl.out != decide (n.kind=10))) with
 | false => rfl
 | true =>
  rw[Bool.true_and,Bool.true_and];have hA':vr.out=false/\vl.out=decide (n.kind=10):=by
   revert hA
   cases vr.out <;> cases vl.out <;> cases decide (n.kind=10) <;> simp
  have one:arity n.kind≠2->n.cl.xs=[]->decide ((withN vl.sources vr.sources).length=vl.sources.length+vr.sources.length)=true/\listedB ts q n.cl.xs (withN vl.sources vr.sources)=true:=by
   intro ha hn;rw[(h1 ha).2,hn];exact⟨decide_eq_true rfl,rfl⟩
  have nocl:¬ (n.kind=2∨3<=n.kind/\n.kind<=5)->n.cl.xs=[]:=fun e=>by
   rcases hcl with h | h | h
   ·exact absurd (.inl h) e
   ·exact absurd (.inr h) e
   ·exact List.length_eq_zero_iff.1 h
  have join:∀ X:Bool,(joinP ts q n l.sources r.sources&&X)=(decide ((withN vl.sources vr.sources).length=vl.sources.length+vr.sources.length)&&listedB ts q n.cl.xs (withN vl.sources vr.sources)&&X):=fun X=>by
   unfold joinP;rw[hl.sources,hr.sources,apart_same hl.ssmall hr.ssmall hr.snodup,rises_or ok hl.ssmall hr.ssmall]
  unfold fitsP kindB;rw[if_neg (show ¬ n.kind=1 by omega)];by_cases k2:n.kind=2
  ·have ha:arity n.kind≠2:=by rw[k2]; decide
   rw[if_pos k2,if_pos k2,(h1 ha).2,hl.sources];have e:=rises_listed ok.cat ok.src ok.small ok.cols hl.ssmall n.cl.xs;rw[e,show withN vl.sources vz.sources=vl.sources from rfl,show vz.sources.length=0 from rfl,Nat.add_zero,decide_eq_true rfl,Bool.true_and,Bool.and_comm]
  rw[if_neg k2,if_neg k2];by_cases k3:n.kind=3
  ·rw[if_pos k3,if_neg (by omega),if_neg (by omega),if_neg (by omega),if_neg (by omega),if_neg (by omega),if_neg (by omega),<- join,Bool.and_true]
  rw[if_neg k3];by_cases k45:n.kind=4∨n.kind=5
  ·rw[if_pos k45,<- join];by_cases hlst:listedB ts q n.cl.xs (withN vl.sources vr.sources)=true
   ·obtain⟨a1,a2⟩:=key_same ok n hl.ssmall hr.ssmall hlst;rw[<- hl.sources,<- hr.sources] at a1 a2;have o1:vl.out=false:=by rw[hA'.2]; exact decide_eq_false (by omega)
    rw[hl.order o1,hr.order hA'.1];rw[<- a1]
    cases hK:(keyP ts q n l.sources r.sources).2.2 with
    | false =>
     by_cases k4:n.kind=4
     ·rw[if_pos k4]; simp
     ·rw[if_neg k4,if_pos (by omega)]; simp
    | true =>
     rw[a2 hK];by_cases k4:n.kind=4
     ·rw[if_pos k4]; simp[k4]
     ·rw[if_neg k4,if_pos (by omega)]; simp[k4,Bool.and_assoc]
   ·have hlst':listedB ts q n.cl.xs (withN vl.sources vr.sources)=false:=by simpa using hlst
    have hj:joinP ts q n l.sources r.sources=false:=by
     have:=join true;rw[Bool.and_true,hlst'] at this;rw[this]; simp
    rw[hj];by_cases k4:n.kind=4
    ·rw[if_pos k4]; simp
    ·rw[if_neg k4,if_pos (by omega)]; simp
  rw[if_neg k45,if_neg (show ¬ n.kind=4 by omega),if_neg (show ¬ n.kind=5 by omega)];have ha:arity n.kind≠2:=by
   unfold arity;rw[if_neg (by omega),if_neg (by omega)]; omega
  obtain⟨b1,b2⟩:=one ha (nocl (by omega));rw[b1,b2,Bool.true_and,Bool.true_and];by_cases k6:n.kind=6
  ·rw[if_pos k6,if_pos k6,hl.sources];have h0:0<n.co.xs.length:=Nat.pos_of_ne_zero (hco.1 k6);exact sort_same ok.cat ok.src ok.small hl.ssmall h0
  rw[if_neg k6,if_neg k6];rw[whole_same hl];by_cases k7:n.kind=7
  ·rw[if_pos k7,if_pos k7]
  rw[if_neg k7,if_neg k7];by_cases k8:n.kind=8
  ·rw[if_pos k8,if_pos k8];have o1:vl.out=false:=by rw[hA'.2]; exact decide_eq_false (by omega)
   rw[hl.order o1]
  rw[if_neg k8,if_neg k8];by_cases k9:n.kind=9
  ·rw[if_pos k9,if_pos k9]
  rw[if_neg k9,if_neg k9,if_pos (by omega)]
theorem part_same {ts:List TableD} {q:QueryV} (ok:Ok ts q) {n:NodeV} (hp:plainB n=true) (h2:2<=n.kind) (h10:n.kind<=10) {l r:PartD} {vl vr:ViewD} (hl:PV q l vl) (hr:PV q r vr) (hz:vl.size=sizeN ts q vl.sources vl.clauses)
  (h1:arity n.kind≠2->r=pz/\vr=vz) {v:ViewD} (hv:nodeV ts q n vl vr=some v):PV q (partP ts q n l r) v/\v.size=sizeN ts q v.sources v.clauses:=by
 rw[nodeV_eq] at hv;by_cases hok:nodeOk ts q n vl vr=true
 ·rw[if_pos hok] at hv;injection hv with hv;subst hv;unfold nodeOk at hok;simp only[Bool.and_eq_true,decide_eq_true_eq] at hok;obtain⟨⟨⟨hA,_⟩,hlst⟩,_⟩:=hok;have hcl:=listed_small hlst;have hA':vl.out=decide (n.kind=10):=by
   revert hA
   cases vr.out <;> cases vl.out <;> cases decide (n.kind=10) <;> simp
  have ho:outK n.kind=decide (7<=n.kind):=by unfold outK; rw[decide_eq_true h10,Bool.and_true]
  have es:(if n.kind=1 then 2 ^ n.source.toNat else 0)|||l.sources|||r.sources=setN (withN vl.sources vr.sources):=by
   rw[if_neg (by omega),Nat.zero_or,hl.sources,hr.sources,setN_with hl.ssmall hr.ssmall]
  have ec:setN n.cl.xs|||l.clauses|||r.clauses=setN (withN (withN vl.clauses vr.clauses) n.cl.xs):=by
   rw[setN_with (hl.csmall.with hr.csmall) hcl,setN_with hl.csmall hr.csmall,hl.clauses,hr.clauses,Nat.or_assoc,Nat.or_comm]
  have csm:SmallL q.wh.length (withN (withN vl.clauses vr.clauses) n.cl.xs):=(hl.csmall.with hr.csmall).with hcl;have ez:(if outK n.kind=true then l.size else sizeP ts q (setN (withN vl.sources vr.sources)) (setN (withN (withN vl.clauses vr.clauses) n.cl.xs)))=sizeN ts q (withN vl.sources vr.sources) (withN (withN vl.clauses vr.clauses) n.cl.xs):=by
   by_cases h7:7<=n.kind
   ·rw[ho,decide_eq_true h7,if_pos rfl,hl.size,hz];have ha:arity n.kind≠2:=by
     unfold arity;rw[if_neg (by omega),if_neg (by omega)]; omega
    have hnil:n.cl.xs=[]:=by
     unfold plainB at hp;rw[decide_eq_true_eq] at hp;rcases hp.2.2.2.2.1 with h | h | h
     ·omega
     ·omega
     ·exact List.length_eq_zero_iff.1 h
    rw[(h1 ha).2,hnil];rfl
   ·rw[ho,decide_eq_false h7,if_neg (by simp)];exact size_same ts q ok.whs ok.small (hl.ssmall.with hr.ssmall) (withN_nodup hl.snodup) csm
  refine⟨?_,rfl⟩;refine⟨ho,es,hl.ssmall.with hr.ssmall,withN_nodup hl.snodup,ec,csm,withN_nodup (withN_nodup hl.cnodup),?_,?_,?_⟩
  ·intro e;have h7:¬ 7<=n.kind:=of_decide_eq_false e
   show (if n.kind=6 then n.co.xs else if 2<=n.kind/\n.kind<=5 then l.order else [])=if n.kind=6 then n.co.xs else vl.order
   split
   ·rfl
   ·rw[if_pos (by omega)];exact hl.order (by rw[hA']; exact decide_eq_false (by omega))
  ·show (if outK n.kind=true then l.size else sizeP ts q ((if n.kind=1 then 2 ^ n.source.toNat else 0)|||l.sources|||r.sources) (setN n.cl.xs|||l.clauses|||r.clauses))=_
   rw[es,ec,ez]
  ·show costP n.kind (if outK n.kind=true then l.size else sizeP ts q ((if n.kind=1 then 2 ^ n.source.toNat else 0)|||l.sources|||r.sources) (setN n.cl.xs|||l.clauses|||r.clauses)) l.cost l.size r.cost r.size=_
   rw[es,ec,ez,hl.cost,hl.size,hr.cost,hr.size];exact cost_same _ _ _ _
 ·rw[if_neg hok] at hv; cases hv
def moreP (n:NodeV):Bool:=
 decide ((1<=arity n.kind∨n.l=0)/\(2<=arity n.kind∨n.r=0)/\(n.kind=1∨n.source=0)/\(n.kind=4∨n.kind=5∨n.key=0)/\
  (n.kind=2∨3<=n.kind/\n.kind<=5∨n.cl.xs.length=0)/\(n.kind=6∨n.co.xs.length=0))
def standsP (n:NodeV) (i:Nat):Bool:=
 decide (1<=n.kind)&&decide (n.kind<=10)&&moreP n&&(decide (arity n.kind<1) || (decide (0<=n.l)&&decide (n.l<i)))&&(decide (arity n.kind<2) || (decide (0<=n.r)&&decide (n.r<i)))
def lPart (n:NodeV) (ps:List PartD):PartD:=if 1<=arity n.kind then ps.getD n.l.toNat pz else pz
def rPart (n:NodeV) (ps:List PartD):PartD:=if arity n.kind=2 then ps.getD n.r.toNat pz else pz
def stepP (ts:List TableD) (q:QueryV) (n:NodeV) (ps:List PartD):Option (List PartD):=
 if (kindsP n.kind (lPart n ps) (rPart n ps)&&fitsP ts q n (lPart n ps) (rPart n ps))=true then some (ps++[partP ts q n (lPart n ps) (rPart n ps)]) else none
def partsP (ts:List TableD) (q:QueryV) (plan:List NodeV):Nat->Option (List PartD)
 | 0 => some []
 | k+1 => (partsP ts q plan k).bind (stepP ts q (plan.getD k nz))
theorem viewF_more (ts:List TableD) (q:QueryV) (plan:List NodeV):∀ (f g i:Nat),i<f->i<g->viewF ts q plan f i=viewF ts q plan g i
 | 0,_,_,h,_ => by omega
 | _,0,_,_,h => by omega
 | f+1,g+1,i,h1,h2 => by
  unfold viewF;simp only;generalize plan.getD i nz=n;split
  ·rfl
  split
  ·rfl
  split
  ·rfl
  rename_i c
  rw[viewF_more ts q plan f g n.l.toNat (by omega) (by omega)];split
  ·rfl
  split
  ·split
   ·rfl
   ·rename_i d
    rw[viewF_more ts q plan f g n.r.toNat (by omega) (by omega)]
  ·rfl
theorem plain_more (n:NodeV):plainB n=(moreP n&&decide (n.kind=6->n.co.xs.length≠0)):=by
 unfold plainB moreP;rw[Bool.eq_iff_iff,Bool.and_eq_true,decide_eq_true_eq,decide_eq_true_eq,decide_eq_true_eq];constructor
 ·rintro⟨a,b,c,d,e,f⟩;refine⟨⟨a,b,c,d,e,?_⟩,f.1⟩;by_cases h:n.kind=6
  ·exact .inl h
  ·right;by_cases g:n.co.xs.length=0
   ·exact g
   ·exact absurd (f.2 g) h
 ·rintro⟨⟨a,b,c,d,e,f⟩,g⟩;refine⟨a,b,c,d,e,g,fun h=>?_⟩;rcases f with f | f
  ·exact f
  ·exact absurd f h
def viewN (ts:List TableD) (q:QueryV) (plan:List NodeV) (i:Nat):Option ViewD:=viewF ts q plan (i+1) i
theorem viewF_N (ts:List TableD) (q:QueryV) (plan:List NodeV) {f i:Nat} (h:i<f):viewF ts q plan f i=viewN ts q plan i:=viewF_more ts q plan f (i+1) i h (Nat.lt_succ_self i)
theorem viewN_scan (ts:List TableD) (q:QueryV) (plan:List NodeV) (i:Nat) {n:NodeV} (hn:plan.getD i nz=n) (hp:plainB n=true) (hk:n.kind=1) :
  viewN ts q plan i=if n.source<0∨(q.src.xs.length:Int)<=n.source then none else some ⟨[n.source],[],[],false,sizeN ts q [n.source] [],costN 1 (sizeN ts q [n.source] []) vz vz⟩:=by
 unfold viewN viewF;simp only[hn];rw[if_neg (by rw[hp]; simp; omega),if_pos hk]
theorem viewN_bad (ts:List TableD) (q:QueryV) (plan:List NodeV) (i:Nat) {n:NodeV} (hn:plan.getD i nz=n) (hp:plainB n=false):viewN ts q plan i=none:=by
 unfold viewN viewF;simp only[hn];rw[if_pos (.inl hp)]
theorem viewN_one (ts:List TableD) (q:QueryV) (plan:List NodeV) (i:Nat) {n:NodeV} (hn:plan.getD i nz=n) (hp:plainB n=true) (hk:2<=n.kind) (hk':n.kind<=10) (ha:arity n.kind≠2) (h0:0<=n.l) (h1:n.l<i) :
  viewN ts q plan i=(viewN ts q plan n.l.toNat).bind fun l=>nodeV ts q n l vz:=by
 unfold viewN;rw[viewF];simp only[hn];rw[if_neg (by rw[hp]; simp; omega),if_neg (by omega),if_neg (by omega),viewF_N ts q plan (f:=i) (by omega)];unfold viewN
 cases viewF ts q plan (n.l.toNat+1) n.l.toNat with
 | none => rfl
 | some v => simp only[if_neg ha]; rfl
theorem viewN_two (ts:List TableD) (q:QueryV) (plan:List NodeV) (i:Nat) {n:NodeV} (hn:plan.getD i nz=n) (hp:plainB n=true) (hk:2<=n.kind) (hk':n.kind<=10) (ha:arity n.kind=2) (h0:0<=n.l) (h1:n.l<i) (h2:0<=n.r) (h3:n.r<i) :
  viewN ts q plan i=(viewN ts q plan n.l.toNat).bind fun l=>(viewN ts q plan n.r.toNat).bind fun r=>nodeV ts q n l r:=by
 unfold viewN;rw[viewF];simp only[hn];rw[if_neg (by rw[hp]; simp; omega),if_neg (by omega),if_neg (by omega),viewF_N ts q plan (f:=i) (by omega),viewF_N ts q plan (i:=n.r.toNat) (f:=i) (by omega)];unfold viewN
 cases viewF ts q plan (n.l.toNat+1) n.l.toNat with
 | none => rfl
 | some v =>
  simp only[if_pos ha];rw[if_neg (by omega)]
  cases viewF ts q plan (n.r.toNat+1) n.r.toNat with
  | none => rfl
  | some v => rfl
def Known (ts:List TableD) (q:QueryV) (plan:List NodeV) (ps:List PartD):Prop:=
 ∀ i,i<ps.length->∃ v,viewN ts q plan i=some v/\PV q (ps.getD i pz) v/\v.size=sizeN ts q v.sources v.clauses
theorem getD_snoc {α:Type} (ps:List α) (p z:α) (i:Nat):(ps++[p]).getD i z=if i<ps.length then ps.getD i z else if i=ps.length then p else z:=by
 by_cases h:i<ps.length
 ·rw[if_pos h];simp[List.getD,List.getElem?_append_left h]
 ·rw[if_neg h];by_cases h2:i=ps.length
  ·rw[if_pos h2,h2]; simp[List.getD]
  ·rw[if_neg h2];have:ps.length+1<=i:=by omega
   simp[List.getD,List.getElem?_eq_none (l:=ps++[p]) (i:=i) (by simp; omega)]
theorem Known.snoc {ts:List TableD} {q:QueryV} {plan:List NodeV} {ps:List PartD} (h:Known ts q plan ps) {p:PartD} {v:ViewD} (hv:viewN ts q plan ps.length=some v) (hp:PV q p v) (hz:v.size=sizeN ts q v.sources v.clauses):Known ts q plan (ps++[p]):=fun i hi=>by
 rw[List.length_append,List.length_singleton] at hi;rw[getD_snoc];by_cases e:i<ps.length
 ·rw[if_pos e]; exact h i e
 ·have e2:i=ps.length:=by omega
  rw[if_neg e,if_pos e2,e2];exact⟨v,hv,hp,hz⟩
theorem step_same {ts:List TableD} {q:QueryV} (ok:Ok ts q) (plan:List NodeV) {ps:List PartD} (hk:Known ts q plan ps) (hs:standsP (plan.getD ps.length nz) ps.length=true) :
  (viewN ts q plan ps.length=none/\stepP ts q (plan.getD ps.length nz) ps=none)∨∃ p v,stepP ts q (plan.getD ps.length nz) ps=some (ps++[p])/\viewN ts q plan ps.length=some v/\PV q p v/\v.size=sizeN ts q v.sources v.clauses:=by
 generalize hn:plan.getD ps.length nz=n at hs ⊢;unfold standsP at hs;simp only[Bool.and_eq_true,Bool.or_eq_true,decide_eq_true_eq] at hs;obtain⟨⟨⟨⟨h1,h10⟩,hm⟩,hl⟩,hr⟩:=hs;unfold stepP;by_cases k1:n.kind=1
 ·have ha:arity n.kind=0:=arity_scan k1;have hp:plainB n=true:=by rw[plain_more,hm,Bool.true_and,decide_eq_true_eq]; intro e; omega
  have el:lPart n ps=pz:=by unfold lPart; rw[if_neg (by omega)]
  have er:rPart n ps=pz:=by unfold rPart; rw[if_neg (by omega)]
  have hcl:n.cl.xs=[]:=by
   unfold moreP at hm;rw[decide_eq_true_eq] at hm;rcases hm.2.2.2.2.1 with h | h | h
   ·omega
   ·omega
   ·exact List.length_eq_zero_iff.1 h
  rw[el,er,viewN_scan ts q plan _ hn hp k1];have ek:kindsP n.kind pz pz=true:=by rw[k1]; decide
  have ef:fitsP ts q n pz pz=(decide (0<=n.source)&&decide (n.source<q.src.xs.length)):=by unfold fitsP; rw[if_pos k1]
  rw[ek,ef,Bool.true_and];by_cases c:n.source<0∨(q.src.xs.length:Int)<=n.source
  ·left;rw[if_pos c];refine⟨rfl,if_neg ?_⟩;rw[Bool.and_eq_true,decide_eq_true_eq,decide_eq_true_eq]; omega
  ·right;rw[if_neg c,if_pos (by rw[Bool.and_eq_true,decide_eq_true_eq,decide_eq_true_eq]; omega)];refine⟨_,_,rfl,rfl,?_,rfl⟩;have e1:2 ^ n.source.toNat=setN [n.source]:=by
    have:=setN_one n.source.toNat;rw[<- this,Int.toNat_of_nonneg (by omega)]
   have sm:SmallL q.src.xs.length [n.source]:=fun x hx=>by rw[List.mem_singleton] at hx; omega
   have es:(if n.kind=1 then 2 ^ n.source.toNat else 0)|||pz.sources|||pz.sources=setN [n.source]:=by
    rw[if_pos k1,e1]
    show setN [n.source]|||0|||0=_
    rw[Nat.or_zero,Nat.or_zero]
   have ec:setN n.cl.xs|||pz.clauses|||pz.clauses=setN []:=by rw[hcl]; rfl
   have ez:(if outK n.kind=true then pz.size else sizeP ts q (setN [n.source]) (setN []))=sizeN ts q [n.source] []:=by
    rw[if_neg (by rw[k1]; decide)];exact size_same ts q ok.whs ok.small sm (by simp) (fun x hx=>by cases hx)
   refine⟨by show outK n.kind=false; rw[k1]; decide,es,sm,by simp,ec,(fun x hx=>by cases hx),List.nodup_nil,?_,?_,?_⟩
   ·intro _
    show (if n.kind=6 then n.co.xs else if 2<=n.kind/\n.kind<=5 then pz.order else [])=[]
    rw[if_neg (by omega),if_neg (by omega)]
   ·show (if outK n.kind=true then pz.size else sizeP ts q ((if n.kind=1 then 2 ^ n.source.toNat else 0)|||pz.sources|||pz.sources) (setN n.cl.xs|||pz.clauses|||pz.clauses))=_
    rw[es,ec,ez]
   ·show costP n.kind (if outK n.kind=true then pz.size else sizeP ts q ((if n.kind=1 then 2 ^ n.source.toNat else 0)|||pz.sources|||pz.sources) (setN n.cl.xs|||pz.clauses|||pz.clauses)) pz.cost pz.size pz.cost pz.size=_
    rw[es,ec,ez,k1];exact cost_same 1 _ vz vz
 have h2:2<=n.kind:=by omega
 have ha1:1<=arity n.kind:=by
  unfold arity;rw[if_neg k1];split <;> omega
 have hl':0<=n.l/\n.l<ps.length:=by
  rcases hl with h | h
  ·omega
  ·exact h
 cases hp:plainB n with
 | false =>
  left;refine⟨viewN_bad ts q plan _ hn hp,if_neg ?_⟩;rw[plain_more,hm,Bool.true_and,decide_eq_false_iff_not] at hp;have k6:n.kind=6:=by
   by_cases e:n.kind=6
   ·exact e
   ·exact absurd (fun x=>absurd x e) hp
  have hc0:n.co.xs.length=0:=by
   by_cases e:n.co.xs.length=0
   ·exact e
   ·exact absurd (fun _=>e) hp
  have ef:fitsP ts q n (lPart n ps) (rPart n ps)=false:=by
   unfold fitsP;rw[if_neg (by omega),if_neg (by omega),if_neg (by omega),if_neg (by omega),if_neg (by omega),if_pos k6];unfold sortP;rw[decide_eq_false (show ¬ 0<n.co.xs.length by omega)];rfl
  rw[ef,Bool.and_false];simp
 | true =>
  obtain⟨vl,hv,hP,hz⟩:=hk n.l.toNat (by omega);have el:lPart n ps=ps.getD n.l.toNat pz:=by unfold lPart; rw[if_pos ha1]
  by_cases a2:arity n.kind=2
  ·have hr':0<=n.r/\n.r<ps.length:=by
    rcases hr with h | h
    ·omega
    ·exact h
   obtain⟨vr,hv2,hP2,_⟩:=hk n.r.toNat (by omega);have er:rPart n ps=ps.getD n.r.toNat pz:=by unfold rPart; rw[if_pos a2]
   rw[el,er,fits_same ok hp h2 h10 hP hP2 (fun e=>absurd a2 e),viewN_two ts q plan _ hn hp h2 h10 a2 hl'.1 hl'.2 hr'.1 hr'.2,hv,hv2];simp only[Option.bind_some]
   cases hN:nodeV ts q n vl vr with
   | none =>
    left;refine⟨rfl,if_neg fun e=>?_⟩;rw[nodeV_eq,if_pos e] at hN
    cases hN
   | some v =>
    right;have e:nodeOk ts q n vl vr=true:=by
     by_cases e:nodeOk ts q n vl vr=true
     ·exact e
     ·rw[nodeV_eq,if_neg e] at hN; cases hN
    rw[if_pos e];obtain⟨x,y⟩:=part_same ok hp h2 h10 hP hP2 hz (fun e=>absurd a2 e) hN;exact⟨_,_,rfl,rfl,x,y⟩
  ·have er:rPart n ps=pz:=by unfold rPart; rw[if_neg a2]
   rw[el,er,fits_same ok hp h2 h10 hP (pv_zero q) (fun _=>⟨rfl,rfl⟩),viewN_one ts q plan _ hn hp h2 h10 a2 hl'.1 hl'.2,hv];simp only[Option.bind_some]
   cases hN:nodeV ts q n vl vz with
   | none =>
    left;refine⟨rfl,if_neg fun e=>?_⟩;rw[nodeV_eq,if_pos e] at hN
    cases hN
   | some v =>
    right;have e:nodeOk ts q n vl vz=true:=by
     by_cases e:nodeOk ts q n vl vz=true
     ·exact e
     ·rw[nodeV_eq,if_neg e] at hN; cases hN
    rw[if_pos e];obtain⟨x,y⟩:=part_same ok hp h2 h10 hP (pv_zero q) hz (fun _=>⟨rfl,rfl⟩) hN;exact⟨_,_,rfl,rfl,x,y⟩
theorem parts_same {ts:List TableD} {q:QueryV} (ok:Ok ts q) (plan:List NodeV):∀ k,(∀ i,i<k->standsP (plan.getD i nz) i=true)->
  (partsP ts q plan k=none/\∃ i,i<k/\viewN ts q plan i=none)∨∃ ps,partsP ts q plan k=some ps/\ps.length=k/\Known ts q plan ps
 | 0,_ => .inr ⟨[],rfl,rfl,fun i hi => by cases hi⟩
 | k+1,h => by
  rcases parts_same ok plan k (fun i hi=>h i (by omega)) with⟨h1,i,hi,h2⟩ | ⟨ps,h1,rfl,h2⟩
  ·left;refine⟨?_,i,by omega,h2⟩;rw[partsP,h1]; rfl
  ·rcases step_same ok plan h2 (h _ (by omega)) with⟨a,b⟩ | ⟨p,v,a,b,c,d⟩
   ·left;refine⟨?_,ps.length,by omega,a⟩;rw[partsP,h1]; exact b
   ·right;refine⟨ps++[p],?_,by simp,h2.snoc b c d⟩;rw[partsP,h1]; exact a
def countsB (l:List Int):Bool:=(List.range l.length).all fun i=>decide (l.getD i 0=(i:Int))
def wantN (q:QueryV):List Int:=q.ord.xs.map fun p=>q.sel.xs.getD p.toNat 0
def endsP (q:QueryV) (kind:Int) (order:List Int):Bool:=
 if q.ord.xs.length=0 then true
 else if kind=10 then true
 else if kind=9 then startsB order (wantN q)
 else if kind=8 then decide (q.ord.xs.length<=q.keys.xs.length)&&countsB q.ord.xs
 else false
def onceB (plan:List NodeV):Bool:=(List.range (plan.length-1)).all fun k=>decide (sumTo' plan.length (fun i=>(inpN plan i).count k)=1)
def isPlanP (plan:List NodeV):Bool:=
 decide (1<=plan.length)&&decide (plan.length<=64)&&((List.range plan.length).all fun i=>standsP (plan.getD i nz) i)&&onceB plan
def lookP (ts:List TableD) (q:QueryV) (plan:List NodeV):Option (List PartD):=
 if isPlanP plan=false then none
 else (partsP ts q plan plan.length).bind fun ps=>
  let n:=plan.getD (plan.length-1) nz
  if (outK n.kind&&endsP q n.kind (ps.getD n.l.toNat pz).order)=true then some ps else none
def sortedB (ts:List TableD) (q:QueryV) (plan:List NodeV):Bool:=
 let n:=plan.getD (plan.length-1) nz
 if q.ord.xs.length=0∨n.kind=10 then true
 else if n.kind=9 then startsB ((viewN ts q plan n.l.toNat).getD vz).order (wantN q)
 else countsB q.ord.xs&&(decide (n.kind=8)&&decide (q.ord.xs.length<=q.keys.xs.length))
def readN (ts:List TableD) (q:QueryV) (plan:List NodeV):Option ViewD:=
 if plan.length<1∨64<plan.length then none
 else (readF ts q plan plan.length (plan.length-1) []).bind fun x=>if x.1.out=true/\x.2.length=plan.length/\sortedB ts q plan=true then some x.1 else none
theorem view_stands {ts:List TableD} {q:QueryV} {plan:List NodeV} {i:Nat} {v:ViewD} (h:viewN ts q plan i=some v) :
  standsP (plan.getD i nz) i=true/\v.out=outK (plan.getD i nz).kind/\∀ j∈inpN plan i,∃ u,viewN ts q plan j=some u:=by
 unfold viewN viewF at h;unfold inpN;simp only at h ⊢;generalize plan.getD i nz=n at h ⊢;by_cases c1:plainB n=false∨n.kind<1∨10<n.kind
 ·rw[if_pos c1] at h; cases h
 rw[if_neg c1] at h;have hp:plainB n=true:=by
  cases hp:plainB n with
  | true => rfl
  | false => exact absurd (.inl hp) c1
 have hm:moreP n=true:=by
  rw[plain_more,Bool.and_eq_true] at hp;exact hp.1
 have hk:1<=n.kind/\n.kind<=10:=by
  refine⟨?_,?_⟩ <;> · rw[<- Int.not_lt]; intro e; exact c1 (by first | exact .inr (.inl e) | exact .inr (.inr e))
 have hnode:∀ l r,nodeV ts q n l r=some v->v.out=outK n.kind:=fun l r e=>by
  rw[nodeV_eq] at e;split at e
  ·injection e with e;rw[<- e]
   show decide (7<=n.kind)=_
   unfold outK;rw[decide_eq_true hk.2,Bool.and_true]
  ·cases e
 unfold standsP;rw[decide_eq_true hk.1,decide_eq_true hk.2,hm];by_cases c2:n.kind=1
 ·have ha:=arity_scan c2;rw[if_pos c2] at h;by_cases c3:n.source<0∨(q.src.xs.length:Int)<=n.source
  ·rw[if_pos c3] at h; cases h
  rw[if_neg c3] at h;injection h with h;rw[ha,if_pos rfl];refine⟨rfl,?_,fun j hj=>by cases hj⟩;rw[<- h,c2]
  show false=outK 1
  decide
 rw[if_neg c2] at h;have ha1:arity n.kind≠0:=by
  unfold arity;rw[if_neg c2];split <;> omega
 rw[if_neg ha1];by_cases c4:n.l<0∨(i:Int)<=n.l
 ·rw[if_pos c4] at h; cases h
 rw[if_neg c4,viewF_N ts q plan (f:=i) (by omega)] at h;have hl:decide (0<=n.l)=true/\decide (n.l<i)=true:=⟨decide_eq_true (by omega),decide_eq_true (by omega)⟩
 rw[hl.1,hl.2]
 cases hvl:viewN ts q plan n.l.toNat with
 | none => rw[hvl] at h; cases h
 | some l =>
  rw[hvl] at h;simp only at h;by_cases c5:arity n.kind=2
  ·rw[if_pos c5] at h;by_cases c6:n.r<0∨(i:Int)<=n.r
   ·rw[if_pos c6] at h; cases h
   rw[if_neg c6,viewF_N ts q plan (f:=i) (by omega)] at h;have hr:decide (0<=n.r)=true/\decide (n.r<i)=true:=⟨decide_eq_true (by omega),decide_eq_true (by omega)⟩
   rw[hr.1,hr.2,if_neg (show ¬ arity n.kind=1 by omega),if_pos (by omega)]
   cases hvr:viewN ts q plan n.r.toNat with
   | none => rw[hvr] at h; cases h
   | some r =>
    rw[hvr] at h;simp only at h;refine⟨by simp,hnode l r h,fun j hj=>?_⟩;rcases List.mem_cons.1 hj with e | e
    ·rw[e]; exact⟨l,hvl⟩
    ·rw[List.mem_singleton] at e;rw[e]; exact⟨r,hvr⟩
  ·have a1:=arity_two c2 c5;rw[if_neg c5] at h;rw[a1,if_pos rfl,if_pos (by omega)];refine⟨by simp,hnode l vz h,fun j hj=>?_⟩;rw[List.mem_singleton] at hj;rw[hj]; exact⟨l,hvl⟩
theorem view_tree {ts:List TableD} {q:QueryV} {plan:List NodeV}:∀ (m i:Nat),i<=m->∀ {v:ViewD},viewN ts q plan i=some v->∀ k∈treeN plan i,∃ u,viewN ts q plan k=some u:=by
 intro m
 induction m with
 | zero =>
  intro i hi v hv k hk;have e:i=0:=by omega
  subst e;rw[treeN_eq] at hk;rcases List.mem_cons.1 hk with e | e
  ·rw[e]; exact⟨v,hv⟩
  ·obtain⟨j,hj,_⟩:=List.mem_flatMap.1 e;exact absurd (inpN_lt plan 0 j hj) (by omega)
 | succ m ih =>
  intro i hi v hv k hk;rw[treeN_eq] at hk;rcases List.mem_cons.1 hk with e | e
  ·rw[e]; exact⟨v,hv⟩
  ·obtain⟨j,hj,hkj⟩:=List.mem_flatMap.1 e;obtain⟨u,hu⟩:=(view_stands hv).2.2 j hj;have:=inpN_lt plan i j hj;exact ih j (by omega) hu k hkj
theorem view_all {ts:List TableD} {q:QueryV} {plan:List NodeV} {last:Nat} (ho:∀ k,k<last->sumTo' (last+1) (fun i=>(inpN plan i).count k)=1) {v:ViewD} (hv:viewN ts q plan last=some v):∀ k,k<=last->∃ u,viewN ts q plan k=some u:=fun k hk=>by
 have h1:=(once_iff (inpN_lt plan) last).1 ho k hk;exact view_tree last last (Nat.le_refl _) hv k (List.count_pos_iff.1 (by unfold treeN; omega))
theorem once_all (plan:List NodeV) (h:1<=plan.length):onceB plan=true↔∀ k,k<plan.length-1->sumTo' (plan.length-1+1) (fun i=>(inpN plan i).count k)=1:=by
 unfold onceB;rw[List.all_eq_true,Nat.sub_add_cancel h];constructor
 ·intro e k hk;exact of_decide_eq_true (e k (List.mem_range.2 hk))
 ·intro e k hk;exact decide_eq_true (e k (List.mem_range.1 hk))
theorem look_same {ts:List TableD} {q:QueryV} (ok:Ok ts q) (plan:List NodeV):(lookP ts q plan=none/\readN ts q plan=none)∨
  ∃ ps v,lookP ts q plan=some ps/\readN ts q plan=some v/\1<=plan.length/\ps.length=plan.length/\Known ts q plan ps/\(ps.getD (plan.length-1) pz).cost=v.cost:=by
 unfold lookP readN;by_cases hlen:plan.length<1∨64<plan.length
 ·left;rw[if_pos hlen,if_pos]
  ·exact⟨rfl,rfl⟩
  ·unfold isPlanP;rcases hlen with h | h
   ·rw[decide_eq_false (show ¬ 1<=plan.length by omega)]; rfl
   ·rw[decide_eq_false (show ¬ plan.length<=64 by omega),Bool.and_false]; rfl
 rw[if_neg hlen];have h1:1<=plan.length:=by omega
 have hplan:isPlanP plan=(((List.range plan.length).all fun i=>standsP (plan.getD i nz) i)&&onceB plan):=by
  unfold isPlanP;rw[decide_eq_true h1,decide_eq_true (show plan.length<=64 by omega)];rfl
 have hiff:=readF_iff ts q plan plan.length (plan.length-1);rw[Nat.sub_add_cancel h1] at hiff
 -- where the document reads it,all is well
 have good:∀ v s,readF ts q plan plan.length (plan.length-1) []=some (v,s)->s.length=plan.length->isPlanP plan=true/\viewN ts q plan (plan.length-1)=some v/\∀ i,i<plan.length->∃ u,viewN ts q plan i=some u:=by
  intro v s hr hs;obtain⟨a,_,c⟩:=(hiff v s).1 ⟨hr,hs⟩;rw[viewF_N ts q plan (by omega)] at a;have c':onceB plan=true:=(once_all plan h1).2 (by rw[Nat.sub_add_cancel h1]; exact c);have hall:=view_all ((once_all plan h1).1 c') a;refine⟨?_,a,fun i hi=>hall i (by omega)⟩;rw[hplan,c',Bool.and_true,List.all_eq_true];intro i hi;obtain⟨u,hu⟩:=hall i (by have:=List.mem_range.1 hi; omega);exact (view_stands hu).1
 cases hI:isPlanP plan with
 | false =>
  left;rw[if_pos rfl];refine⟨rfl,?_⟩
  cases hr:readF ts q plan plan.length (plan.length-1) [] with
  | none => rfl
  | some x =>
   obtain⟨v,s⟩:=x
   show (if _ then _ else _)=_
   rw[if_neg];rintro⟨_,e,_⟩;have:=(good v s hr e).1;rw[hI] at this; cases this
 | true =>
  rw[if_neg (by simp)];rw[hplan,Bool.and_eq_true,List.all_eq_true] at hI;obtain⟨hst,hon⟩:=hI;rcases parts_same ok plan plan.length (fun i hi=>hst i (List.mem_range.2 hi)) with⟨hp,i,hi,hv⟩ | ⟨ps,hp,hpl,hk⟩
  ·left;rw[hp];refine⟨rfl,?_⟩
   cases hr:readF ts q plan plan.length (plan.length-1) [] with
   | none => rfl
   | some x =>
    obtain⟨v,s⟩:=x
    show (if _ then _ else _)=_
    rw[if_neg];rintro⟨_,e,_⟩;obtain⟨u,hu⟩:=(good v s hr e).2.2 i hi;rw[hv] at hu; cases hu
  ·rw[hp];obtain⟨v,hv,hP,_⟩:=hk (plan.length-1) (by omega);have hr:readF ts q plan plan.length (plan.length-1) []=some (v,treeN plan (plan.length-1))/\(treeN plan (plan.length-1)).length=plan.length:=
    (hiff v _).2 ⟨by rw[viewF_N ts q plan (by omega)]; exact hv,rfl,by have:=(once_all plan h1).1 hon; rwa [Nat.sub_add_cancel h1] at this⟩
   rw[hr.1];obtain⟨hs1,hs2,hs3⟩:=view_stands hv;simp only[Option.bind_some,hr.2];generalize hn:plan.getD (plan.length-1) nz=n at hs1 hs2;have hends:outK n.kind=true->endsP q n.kind (ps.getD n.l.toNat pz).order=sortedB ts q plan:=by
    intro ho;have hk7:7<=n.kind/\n.kind<=10:=by
     unfold outK at ho;rw[Bool.and_eq_true,decide_eq_true_eq,decide_eq_true_eq] at ho;exact ho
    unfold endsP sortedB;simp only[hn];by_cases c1:q.ord.xs.length=0
    ·rw[if_pos c1,if_pos (.inl c1)]
    rw[if_neg c1];by_cases c2:n.kind=10
    ·rw[if_pos c2,if_pos (.inr c2)]
    rw[if_neg c2,if_neg (show ¬ (q.ord.xs.length=0∨n.kind=10) from fun e=>e.elim c1 c2)];by_cases c3:n.kind=9
    ·rw[if_pos c3,if_pos c3];unfold standsP at hs1;simp only[Bool.and_eq_true,Bool.or_eq_true,decide_eq_true_eq] at hs1;have ha:arity n.kind=1:=by rw[c3]; decide
     have hl:0<=n.l/\n.l<(plan.length-1:Nat):=by
      rcases hs1.1.2 with h | h
      ·omega
      ·exact h
     obtain⟨u,hu,hPu,_⟩:=hk n.l.toNat (by omega);rw[hu];have hp':plainB n=true:=by
      cases hp':plainB n with
      | true => rfl
      | false => rw[viewN_bad ts q plan _ hn hp'] at hv; cases hv
     have hone:=viewN_one ts q plan _ hn hp' (by omega) (by omega) (by omega) hl.1 hl.2;rw[hv,hu] at hone;simp only[Option.bind_some] at hone;rw[nodeV_eq] at hone;have hok:nodeOk ts q n u vz=true:=by
      by_cases e:nodeOk ts q n u vz=true
      ·exact e
      ·rw[if_neg e] at hone; cases hone
     unfold nodeOk at hok;simp only[Bool.and_eq_true] at hok;have huo:u.out=false:=by
      have h:=hok.1.1.1;rw[decide_eq_false c2] at h
      cases hu':u.out with
      | false => rfl
      | true => rw[hu'] at h; simp at h
     rw[hPu.order huo];rfl
    rw[if_neg c3,if_neg c3];by_cases c4:n.kind=8
    ·rw[if_pos c4,decide_eq_true c4,Bool.true_and,Bool.and_comm]
    ·rw[if_neg c4,decide_eq_false c4,Bool.false_and,Bool.and_false]
   cases ho:outK n.kind with
   | false =>
    left;rw[hs2,ho];simp
   | true =>
    rw[hs2,ho,hends ho,Bool.true_and]
    cases hsB:sortedB ts q plan with
    | false => left; simp
    | true => right; exact⟨ps,v,by simp,by simp,h1,hpl,hk,hP.cost⟩
def NodeV.cells (n:NodeV):Array Value:=#[.int .i64 n.kind,.int .i64 n.l,.int .i64 n.r,.int .i64 n.source,n.cl.val,.int .i64 n.key,n.co.val]
end Go.Scout

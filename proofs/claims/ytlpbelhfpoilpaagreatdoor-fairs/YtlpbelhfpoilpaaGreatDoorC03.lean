import Derived.Test.YtlpbelhfpoilpaaGreatDoorC02
set_option linter.all false
set_option maxRecDepth 100000
set_option maxHeartbeats 16000000
namespace Go.Scout
open Go.RowKit
structure ViewD where
 sources:List Int
 clauses:List Int
 order:List Int
 out:Bool
 size:Nat
 cost:Nat
def vz:ViewD:=⟨[],[],[],false,0,0⟩
def withN (l m:List Int):List Int:=m.foldl (fun out x=>if x∈out then out else out++[x]) l
def condCols (c:CondD):List Int:=if c.op≠2/\c.const=false then [c.left,c.right] else [c.left]
def columnsN (cs:List CondD):List Int:=cs.flatMap condCols
def withinB (ts:List TableD) (src:List Int) (cs:List CondD) (sources:List Int):Bool:=(columnsN cs).all fun c=>decide ((sourceN ts src c:Int)∈sources)
def partsN (ts:List TableD) (src:List Int) (cs:List CondD):Nat:=
 if cs.length≠1∨(cs.getD 0 cz).not=true then 2
 else if (cs.getD 0 cz).op=1 then 3
 else if (cs.getD 0 cz).op=2 then 10
 else if (cs.getD 0 cz).const=true then (kindsN ts src (cs.getD 0 cz).left).toNat
 else max (kindsN ts src (cs.getD 0 cz).left).toNat (kindsN ts src (cs.getD 0 cz).right).toNat
def rowsN (ts:List TableD) (src:List Int) (s:Int):Nat:=(ts.getD (src.getD s.toNat 0).toNat tz).rows.toNat
def lessN (ts:List TableD) (q:QueryV) (clauses:List Int) (n:Nat):Nat:=(List.range q.wh.length).foldl (fun (n c:Nat)=>if (c:Int)∈clauses then n / partsN ts q.src.xs (q.wh.getD c lz).cs else n) n
def sizeN (ts:List TableD) (q:QueryV) (sources clauses:List Int):Nat:=
 if (sources.any fun s=>decide (rowsN ts q.src.xs s=0))=true then 0
 else max (lessN ts q clauses ((sources.map (rowsN ts q.src.xs)).foldl timesN 1)) 1
def costN (kind:Int) (s:Nat) (l r:ViewD):Nat:=
 if kind=1 then plusN s 1
 else if kind=3 then plusN (plusN l.cost r.cost) (timesN l.size r.size)
 else if kind=4 then plusN (plusN l.cost r.cost) (plusN (plusN l.size s) (timesN 2 r.size))
 else if kind=5 then plusN (plusN l.cost r.cost) (plusN (plusN l.size s) r.size)
 else if kind=6∨kind=10 then plusN l.cost (timesN l.size (bitsN l.size+1))
 else if kind=7 then plusN l.cost (timesN 2 l.size)
 else plusN l.cost l.size
def startsB (l m:List Int):Bool:=decide (m.length<=l.length)&&decide (l.take m.length=m)
def sidesN (ts:List TableD) (src:List Int) (cs:List CondD) (a b:List Int):Int × Int × Bool:=
 if cs.length≠1∨(cs.getD 0 cz).not=true∨(cs.getD 0 cz).const=true∨(cs.getD 0 cz).op≠0 then (0,0,false)
 else if (sourceN ts src (cs.getD 0 cz).left:Int)∈a/\(sourceN ts src (cs.getD 0 cz).right:Int)∈b then ((cs.getD 0 cz).left,(cs.getD 0 cz).right,true)
 else ((cs.getD 0 cz).right,(cs.getD 0 cz).left,decide ((sourceN ts src (cs.getD 0 cz).right:Int)∈a)&&decide ((sourceN ts src (cs.getD 0 cz).left:Int)∈b))
def arity (kind:Int):Nat:=if kind=1 then 0 else if 3<=kind/\kind<=5 then 2 else 1
def plainB (n:NodeV):Bool:=
 decide ((1<=arity n.kind∨n.l=0)/\(2<=arity n.kind∨n.r=0)/\(n.kind=1∨n.source=0)/\(n.kind=4∨n.kind=5∨n.key=0)/\
  (n.kind=2∨3<=n.kind/\n.kind<=5∨n.cl.xs.length=0)/\(n.kind=6↔n.co.xs.length≠0))
def listedB (ts:List TableD) (q:QueryV) (l sources:List Int):Bool:=
 (List.range l.length).all fun i=>decide (0<=l.getD i 0)&&decide (l.getD i 0<q.wh.length)&&(decide (i=0) || decide (l.getD (i-1) 0<l.getD i 0))&&withinB ts q.src.xs (q.wh.getD (l.getD i 0).toNat lz).cs sources
def wholeV (q:QueryV) (v:ViewD):Bool:=decide (v.sources.length=q.src.xs.length)&&decide (v.clauses.length=q.wh.length)
def kindB (ts:List TableD) (q:QueryV) (n:NodeV) (l r:ViewD):Bool:=
 if n.kind=2 then decide (0<n.cl.xs.length)
 else if n.kind=4∨n.kind=5 then
  decide (n.key∈n.cl.xs)&&(sidesN ts q.src.xs (q.wh.getD n.key.toNat lz).cs l.sources r.sources).2.2 &&
   (decide (n.kind=4) || (startsB l.order [(sidesN ts q.src.xs (q.wh.getD n.key.toNat lz).cs l.sources r.sources).1]&&startsB r.order [(sidesN ts q.src.xs (q.wh.getD n.key.toNat lz).cs l.sources r.sources).2.1]))
 else if n.kind=6 then allB n.co.xs (widthN ts q.src.xs)&&apartB n.co.xs&&n.co.xs.all fun c=>decide ((sourceN ts q.src.xs c:Int)∈l.sources)
 else if n.kind=7 then q.group&&wholeV q l
 else if n.kind=8 then q.group&&wholeV q l&&startsB l.order q.keys.xs
 else if n.kind=9 then !q.group&&wholeV q l
 else if n.kind=10 then decide (0<q.ord.xs.length)
 else true
def nodeV (ts:List TableD) (q:QueryV) (n:NodeV) (l r:ViewD):Option ViewD:=
 if (r.out || (l.out != decide (n.kind=10)))=true then none
 else if (withN l.sources r.sources).length≠l.sources.length+r.sources.length then none
 else if listedB ts q n.cl.xs (withN l.sources r.sources)=false then none
 else if kindB ts q n l r=false then none
 else
  let c:=withN (withN l.clauses r.clauses) n.cl.xs
  let s:=sizeN ts q (withN l.sources r.sources) c
  some ⟨withN l.sources r.sources,c,if n.kind=6 then n.co.xs else l.order,decide (7<=n.kind),s,costN n.kind s l r⟩
def viewF (ts:List TableD) (q:QueryV) (plan:List NodeV):Nat->Nat->Option ViewD
 | 0,_ => none
 | f+1,i =>
  let n:=plan.getD i nz
  if plainB n=false∨n.kind<1∨10<n.kind then none
  else if n.kind=1 then
   if n.source<0∨(q.src.xs.length:Int)<=n.source then none
   else some ⟨[n.source],[],[],false,sizeN ts q [n.source] [],costN 1 (sizeN ts q [n.source] []) vz vz⟩
  else if n.l<0∨(i:Int)<=n.l then none
  else
   match viewF ts q plan f n.l.toNat with
   | none => none
   | some l =>
    if arity n.kind=2 then
     if n.r<0∨(i:Int)<=n.r then none
     else
      match viewF ts q plan f n.r.toNat with
      | none => none
      | some r => nodeV ts q n l r
    else nodeV ts q n l vz
def readF (ts:List TableD) (q:QueryV) (plan:List NodeV):Nat->Nat->List Nat->Option (ViewD × List Nat)
 | 0,_,_ => none
 | f+1,i,seen =>
  let n:=plan.getD i nz
  if plainB n=false∨n.kind<1∨10<n.kind then none
  else if n.kind=1 then
   if n.source<0∨(q.src.xs.length:Int)<=n.source then none
   else some (⟨[n.source],[],[],false,sizeN ts q [n.source] [],costN 1 (sizeN ts q [n.source] []) vz vz⟩,seen++[i])
  else if n.l<0∨(i:Int)<=n.l∨n.l.toNat∈seen++[i] then none
  else
   match readF ts q plan f n.l.toNat (seen++[i]) with
   | none => none
   | some (l,s) =>
    if arity n.kind=2 then
     if n.r<0∨(i:Int)<=n.r∨n.r.toNat∈s then none
     else
      match readF ts q plan f n.r.toNat s with
      | none => none
      | some (r,s) => (nodeV ts q n l r).map fun v => (v,s)
    else (nodeV ts q n l vz).map fun v=>(v,s)
def inpN (plan:List NodeV) (i:Nat):List Nat:=
 let n:=plan.getD i nz
 if arity n.kind=0 then []
 else if arity n.kind=1 then (if 0<=n.l/\n.l<i then [n.l.toNat] else [])
 else (if 0<=n.l/\n.l<i/\0<=n.r/\n.r<i then [n.l.toNat,n.r.toNat] else [])
theorem inpN_lt (plan:List NodeV) (i:Nat):∀ j∈inpN plan i,j<i:=by
 intro j hj;unfold inpN at hj;simp only at hj;split at hj
 ·cases hj
 ·split at hj
  ·split at hj
   ·rw[List.mem_singleton] at hj; omega
   ·cases hj
  ·split at hj
   ·rcases List.mem_cons.1 hj with h | h
    ·omega
    ·rw[List.mem_singleton] at h; omega
   ·cases hj
def treeN (plan:List NodeV) (i:Nat):List Nat:=treeOf (inpN plan) i
theorem treeN_eq (plan:List NodeV) (i:Nat):treeN plan i=i::(inpN plan i).flatMap (treeN plan):=treeOf_eq (inpN_lt plan) i
theorem arity_two {k:Int} (h1:k≠1) (h2:arity k≠2):arity k=1:=by
 unfold arity at *;rw[if_neg h1] at *;split
 ·rename_i h
  rw[if_pos h] at h2;omega
 ·rfl
theorem arity_scan {k:Int} (h1:k=1):arity k=0:=by unfold arity; rw[if_pos h1]
theorem readF_some (ts:List TableD) (q:QueryV) (plan:List NodeV):∀ (f i:Nat) (seen:List Nat) (v:ViewD) (s':List Nat),i ∉ seen->readF ts q plan f i seen=some (v,s')->
  viewF ts q plan f i=some v/\s' = seen++treeN plan i/\(treeN plan i).Nodup/\∀ x∈treeN plan i,x ∉ seen:=by
 intro f
 induction f with
 | zero => intro i seen v s' _ h; cases h
 | succ f ih =>
  intro i seen v s' hi h;unfold readF at h;unfold viewF;simp only at h ⊢;rw[treeN_eq];unfold inpN;simp only;generalize plan.getD i nz=n at h ⊢;by_cases c1:plainB n=false∨n.kind<1∨10<n.kind
  ·rw[if_pos c1] at h; cases h
  rw[if_neg c1] at h ⊢;by_cases c2:n.kind=1
  ·rw[if_pos c2] at h ⊢;rw[if_pos (arity_scan c2)];by_cases c3:n.source<0∨(q.src.xs.length:Int)<=n.source
   ·rw[if_pos c3] at h; cases h
   rw[if_neg c3] at h ⊢;injection h with h;injection h with h1 h2;refine⟨by rw[h1],h2.symm,by simp,fun x hx=>?_⟩;have:x=i:=by simpa using hx
   rw[this]; exact hi
  rw[if_neg c2] at h ⊢;by_cases c4:n.l<0∨(i:Int)<=n.l∨n.l.toNat∈seen++[i]
  ·rw[if_pos c4] at h; cases h
  have c4':¬ (n.l<0∨(i:Int)<=n.l):=fun e=>c4 (by rcases e with e | e; exact .inl e; exact .inr (.inl e))
  have c4m:n.l.toNat ∉ seen++[i]:=fun e=>c4 (.inr (.inr e))
  rw[if_neg c4] at h;rw[if_neg c4']
  cases hl:readF ts q plan f n.l.toNat (seen++[i]) with
  | none => rw[hl] at h; cases h
  | some x =>
   obtain⟨l,s⟩:=x;obtain⟨l1,l2,l3,l4⟩:=ih _ _ _ _ c4m hl;rw[hl] at h;rw[l1];simp only at h ⊢;by_cases c5:arity n.kind=2
   ·rw[if_pos c5] at h ⊢;rw[if_neg (show ¬ arity n.kind=0 by omega),if_neg (show ¬ arity n.kind=1 by omega)];by_cases c6:n.r<0∨(i:Int)<=n.r∨n.r.toNat∈s
    ·rw[if_pos c6] at h; cases h
    have c6':¬ (n.r<0∨(i:Int)<=n.r):=fun e=>c6 (by rcases e with e | e; exact .inl e; exact .inr (.inl e))
    have c6m:n.r.toNat ∉ s:=fun e=>c6 (.inr (.inr e))
    rw[if_neg c6] at h;rw[if_neg c6',if_pos (by omega)]
    cases hr:readF ts q plan f n.r.toNat s with
    | none => rw[hr] at h; cases h
    | some y =>
     obtain⟨r,t⟩:=y;obtain⟨r1,r2,r3,r4⟩:=ih _ _ _ _ c6m hr;rw[hr] at h;rw[r1];simp only at h ⊢
     cases hv:nodeV ts q n l r with
     | none => rw[hv] at h; cases h
     | some v0 =>
      rw[hv] at h;simp only[Option.map_some] at h;injection h with h;injection h with h1 h2;subst h1 h2;rw[l2] at r2 r4;refine⟨rfl,?_,?_,?_⟩
      ·rw[r2]; simp
      ·simp only[List.flatMap_cons,List.flatMap_nil,List.append_nil];rw[List.nodup_cons,List.nodup_append];refine⟨fun e=>?_,l3,r3,fun a ha b hb e=>?_⟩
       ·rcases List.mem_append.1 e with e | e
        ·exact l4 i e (by simp)
        ·exact r4 i e (by simp)
       ·subst e;exact r4 a hb (by simp[ha])
      ·intro x hx hs;simp only[List.flatMap_cons,List.flatMap_nil,List.append_nil] at hx;rcases List.mem_cons.1 hx with e | e
       ·rw[e] at hs; exact hi hs
       ·rcases List.mem_append.1 e with e | e
        ·exact l4 x e (by simp[hs])
        ·exact r4 x e (by simp[hs])
   ·rw[if_neg c5] at h ⊢;have a1:=arity_two c2 c5;rw[if_neg (show ¬ arity n.kind=0 by omega),if_pos a1,if_pos (by omega)]
    cases hv:nodeV ts q n l vz with
    | none => rw[hv] at h; cases h
    | some v0 =>
     rw[hv] at h;simp only[Option.map_some] at h;injection h with h;injection h with h1 h2;subst h1 h2;refine⟨rfl,?_,?_,?_⟩
     ·rw[l2]; simp
     ·simp only[List.flatMap_cons,List.flatMap_nil,List.append_nil];rw[List.nodup_cons];exact⟨fun e=>l4 i e (by simp),l3⟩
     ·intro x hx hs;simp only[List.flatMap_cons,List.flatMap_nil,List.append_nil] at hx;rcases List.mem_cons.1 hx with e | e
      ·rw[e] at hs; exact hi hs
      ·exact l4 x e (by simp[hs])
theorem readF_of_view (ts:List TableD) (q:QueryV) (plan:List NodeV):∀ (f i:Nat) (seen:List Nat) (v:ViewD),viewF ts q plan f i=some v->(treeN plan i).Nodup->(∀ x∈treeN plan i,x ∉ seen)->
  readF ts q plan f i seen=some (v,seen++treeN plan i):=by
 intro f
 induction f with
 | zero => intro i seen v h; cases h
 | succ f ih =>
  intro i seen v h hnd hds;rw[treeN_eq] at hnd hds ⊢;unfold viewF at h;unfold readF;unfold inpN at hnd hds ⊢;simp only at h hnd hds ⊢;generalize plan.getD i nz=n at h hnd hds ⊢;by_cases c1:plainB n=false∨n.kind<1∨10<n.kind
  ·rw[if_pos c1] at h; cases h
  rw[if_neg c1] at h ⊢;by_cases c2:n.kind=1
  ·rw[if_pos c2] at h ⊢;rw[if_pos (arity_scan c2)];by_cases c3:n.source<0∨(q.src.xs.length:Int)<=n.source
   ·rw[if_pos c3] at h; cases h
   rw[if_neg c3] at h ⊢;injection h with h;rw[h];rfl
  rw[if_neg c2] at h ⊢;by_cases c4:n.l<0∨(i:Int)<=n.l
  ·rw[if_pos c4] at h; cases h
  rw[if_neg c4] at h
  cases hl:viewF ts q plan f n.l.toNat with
  | none => rw[hl] at h; cases h
  | some l =>
   rw[hl] at h;simp only at h;by_cases c5:arity n.kind=2
   ·rw[if_pos c5] at h;by_cases c6:n.r<0∨(i:Int)<=n.r
    ·rw[if_pos c6] at h; cases h
    rw[if_neg c6] at h;rw[if_neg (show ¬ arity n.kind=0 by omega),if_neg (show ¬ arity n.kind=1 by omega),if_pos (show 0<=n.l/\n.l<(i:Int)/\0<=n.r/\n.r<(i:Int) by omega)] at hnd hds ⊢;simp only[List.flatMap_cons,List.flatMap_nil,List.append_nil] at hnd hds ⊢;rw[List.nodup_cons,List.nodup_append] at hnd;obtain⟨n1,n2,n3,n4⟩:=hnd;have hml:n.l.toNat∈treeN plan n.l.toNat:=by rw[treeN_eq]; simp
    have hmr:n.r.toNat∈treeN plan n.r.toNat:=by rw[treeN_eq]; simp
    have hdl:∀ x∈treeN plan n.l.toNat,x ∉ seen++[i]:=fun x hx e=>by
     rcases List.mem_append.1 e with e | e
     ·exact hds x (by simp[hx]) e
     ·rw[List.mem_singleton] at e;subst e;exact n1 (by simp[hx])
    have hdr:∀ x∈treeN plan n.r.toNat,x ∉ seen++[i]++treeN plan n.l.toNat:=fun x hx e=>by
     rcases List.mem_append.1 e with e | e
     ·rcases List.mem_append.1 e with e | e
      ·exact hds x (by simp[hx]) e
      ·rw[List.mem_singleton] at e;subst e;exact n1 (by simp[hx])
     ·exact n4 x e x hx rfl
    have c4n:¬ (n.l<0∨(i:Int)<=n.l∨n.l.toNat∈seen++[i]):=by
     rintro (e | e | e)
     ·exact c4 (.inl e)
     ·exact c4 (.inr e)
     ·exact hdl _ hml e
    have c6n:¬ (n.r<0∨(i:Int)<=n.r∨n.r.toNat∈seen++[i]++treeN plan n.l.toNat):=by
     rintro (e | e | e)
     ·exact c6 (.inl e)
     ·exact c6 (.inr e)
     ·exact hdr _ hmr e
    rw[if_neg c4n,ih _ _ _ hl n2 hdl];simp only;rw[if_pos c5,if_neg c6n]
    cases hr:viewF ts q plan f n.r.toNat with
    | none => rw[hr] at h; cases h
    | some r =>
     rw[hr] at h;simp only at h;rw[ih _ _ _ hr n3 hdr];simp only;rw[h];simp
   ·rw[if_neg c5] at h;have a1:=arity_two c2 c5;rw[if_neg (show ¬ arity n.kind=0 by omega),if_pos a1,if_pos (show 0<=n.l/\n.l<(i:Int) by omega)] at hnd hds ⊢;simp only[List.flatMap_cons,List.flatMap_nil,List.append_nil] at hnd hds ⊢;rw[List.nodup_cons] at hnd;obtain⟨n1,n2⟩:=hnd;have hml:n.l.toNat∈treeN plan n.l.toNat:=by rw[treeN_eq]; simp
    have hdl:∀ x∈treeN plan n.l.toNat,x ∉ seen++[i]:=fun x hx e=>by
     rcases List.mem_append.1 e with e | e
     ·exact hds x (by simp[hx]) e
     ·rw[List.mem_singleton] at e;subst e;exact n1 hx
    have c4n:¬ (n.l<0∨(i:Int)<=n.l∨n.l.toNat∈seen++[i]):=by
     rintro (e | e | e)
     ·exact c4 (.inl e)
     ·exact c4 (.inr e)
     ·exact hdl _ hml e
    rw[if_neg c4n,ih _ _ _ hl n2 hdl];simp only;rw[if_neg c5,h];simp
theorem readF_iff (ts:List TableD) (q:QueryV) (plan:List NodeV) (f last:Nat) (v:ViewD) (s:List Nat):(readF ts q plan f last []=some (v,s)/\s.length=last+1)↔
  (viewF ts q plan f last=some v/\s=treeN plan last/\∀ k,k<last->sumTo' (last+1) (fun i=>(inpN plan i).count k)=1):=by
 have key:=once_read (inpN_lt plan) last;constructor
 ·rintro⟨h,hl⟩;obtain⟨h1,h2,h3,_⟩:=readF_some ts q plan f last [] v s (by simp) h;rw[List.nil_append] at h2;exact⟨h1,h2,key.2 ⟨h3,by rw[h2] at hl; exact hl⟩⟩
 ·rintro⟨h1,h2,h3⟩;obtain⟨h4,h5⟩:=key.1 h3;have h6:=readF_of_view ts q plan f last [] v h1 h4 (by simp);rw[List.nil_append] at h6;rw[h2];exact⟨h6,h5⟩
theorem withN_cons (l:List Int) (a:Int) (m:List Int):withN l (a::m)=withN (if a∈l then l else l++[a]) m:=rfl
theorem withN_mem {x:Int}:∀ {m l:List Int},x∈withN l m↔x∈l∨x∈m
 | [],l => by show x∈l↔_; simp
 | a::m,l => by
  rw[withN_cons,withN_mem];split
  ·rename_i h
   constructor
   ·rintro (e | e)
    ·exact .inl e
    ·exact .inr (by simp[e])
   ·rintro (e | e)
    ·exact .inl e
    ·rcases List.mem_cons.1 e with e | e
     ·left; rw[e]; exact h
     ·exact .inr e
  ·rw[List.mem_append,List.mem_singleton,List.mem_cons];constructor
   ·rintro ((e | e) | e)
    ·exact .inl e
    ·exact .inr (.inl e)
    ·exact .inr (.inr e)
   ·rintro (e | e | e)
    ·exact .inl (.inl e)
    ·exact .inl (.inr e)
    ·exact .inr e
theorem withN_nodup:∀ {m l:List Int},l.Nodup->(withN l m).Nodup
 | [],l,h => h
 | a::m,l,h => by
  rw[withN_cons];apply withN_nodup;split
  ·exact h
  ·rename_i ha
   rw[List.nodup_append];refine⟨h,by simp,fun x hx y hy e=>?_⟩;rw[List.mem_singleton] at hy;subst e hy;exact ha hx
theorem withN_len_le:∀ {m l:List Int},(withN l m).length<=l.length+m.length
 | [],l => by show l.length<=_; simp
 | a::m,l => by
  rw[withN_cons];refine Nat.le_trans withN_len_le ?_;split
  ·rw[List.length_cons]; omega
  ·rw[List.length_append,List.length_singleton,List.length_cons]; omega
theorem withN_len:∀ {m l:List Int},m.Nodup->((withN l m).length=l.length+m.length↔∀ x∈m,x ∉ l)
 | [],l,_ => by
  constructor
  ·intro _ x hx; cases hx
  ·intro _; show l.length=_; simp
 | a::m,l,h => by
  rw[List.nodup_cons] at h;rw[withN_cons];by_cases ha:a∈l
  ·rw[if_pos ha];have h1:=withN_len_le (m:=m) (l:=l);rw[List.length_cons];constructor
   ·intro e; omega
   ·intro e; exact absurd ha (e a (by simp))
  ·rw[if_neg ha];have h1:=withN_len (m:=m) (l:=l++[a]) h.2;rw[List.length_append,List.length_singleton] at h1;rw[List.length_cons,show l.length+(m.length+1)=l.length+1+m.length by omega,h1];constructor
   ·intro e x hx;rcases List.mem_cons.1 hx with hx | hx
    ·rw[hx]; exact ha
    ·exact fun hl=>e x hx (by simp[hl])
   ·intro e x hx hm;rcases List.mem_append.1 hm with hm | hm
    ·exact e x (by simp[hx]) hm
    ·rw[List.mem_singleton] at hm;rw[hm] at hx;exact h.1 hx
def SmallL (n:Nat) (l:List Int):Prop:=∀ x∈l,0<=x/\x<(n:Int)
theorem SmallL.with {n:Nat} {l m:List Int} (hl:SmallL n l) (hm:SmallL n m):SmallL n (withN l m):=fun x hx=>by
 rcases withN_mem.1 hx with h | h
 ·exact hl x h
 ·exact hm x h
theorem SmallL.lt {n:Nat} (hn:n<=64) {l:List Int} (h:SmallL n l):setN l<18446744073709551616:=by
 have h1:=setN_lt (n:=n) h;have h2:2 ^ n<=2 ^ 64:=Nat.pow_le_pow_right (by omega) hn;omega
theorem setN_with {n:Nat} {l m:List Int} (hl:SmallL n l) (hm:SmallL n m):setN (withN l m)=setN l|||setN m:=by
 apply Nat.eq_of_testBit_eq;intro i;rw[Nat.testBit_or,setN_bit (fun x hx=>(hl.with hm x hx).1),setN_bit (fun x hx=>(hl x hx).1),setN_bit (fun x hx=>(hm x hx).1),Bool.eq_iff_iff];simp only[Bool.or_eq_true,decide_eq_true_eq];exact withN_mem
theorem setN_covers {n:Nat} (hn:n<=64) {s l:List Int} (hs:SmallL n s) (hl:SmallL n l):(setN l &&& (18446744073709551615-setN s)=0)↔∀ x∈l,x∈s:=by
 rw[covers_iff (hs.lt hn) (hl.lt hn)];constructor
 ·intro h x hx;have h0:=(hl x hx).1;have h1:=h x.toNat (by rw[setN_bit (fun x hx=>(hl x hx).1),decide_eq_true_eq]; rw[Int.toNat_of_nonneg h0]; exact hx);rw[setN_bit (fun x hx=>(hs x hx).1),decide_eq_true_eq,Int.toNat_of_nonneg h0] at h1;exact h1
 ·intro h i hi;rw[setN_bit (fun x hx=>(hl x hx).1),decide_eq_true_eq] at hi;rw[setN_bit (fun x hx=>(hs x hx).1),decide_eq_true_eq];exact h _ hi
theorem setN_meets {n:Nat} {s l:List Int} (hs:SmallL n s) (hl:SmallL n l):(setN s &&& setN l≠0)↔∃ x,x∈s/\x∈l:=by
 rw[meets_iff];constructor
 ·rintro⟨i,h1,h2⟩;rw[setN_bit (fun x hx=>(hs x hx).1),decide_eq_true_eq] at h1;rw[setN_bit (fun x hx=>(hl x hx).1),decide_eq_true_eq] at h2;exact⟨_,h1,h2⟩
 ·rintro⟨x,h1,h2⟩;have h0:=(hs x h1).1;refine⟨x.toNat,?_,?_⟩
  ·rw[setN_bit (fun x hx=>(hs x hx).1),decide_eq_true_eq,Int.toNat_of_nonneg h0]; exact h1
  ·rw[setN_bit (fun x hx=>(hl x hx).1),decide_eq_true_eq,Int.toNat_of_nonneg h0]; exact h2
theorem setN_full {n:Nat} {s:List Int} (hs:SmallL n s) (hd:s.Nodup):setN s=2 ^ n-1↔s.length=n:=by
 have hmem:∀ k:Nat,k∈s.map Int.toNat↔(k:Int)∈s:=fun k=>by
  rw[List.mem_map];constructor
  ·rintro⟨x,hx,rfl⟩;rw[Int.toNat_of_nonneg (hs x hx).1]; exact hx
  ·intro h;exact⟨_,h,by simp⟩
 have hnd:(s.map Int.toNat).Nodup:=by
  show List.Pairwise _ _
  rw[List.pairwise_map];refine List.Pairwise.imp_of_mem ?_ hd;intro a b ha hb hne e;have h1:=(hs a ha).1;have h2:=(hs b hb).1;exact hne (by omega)
 have hlt:∀ k∈s.map Int.toNat,k<n:=fun k hk=>by
  have:=(hs _ ((hmem k).1 hk)).2;omega
 have hsum:=sumTo'_count hlt;rw[List.length_map] at hsum;have hc:=List.nodup_iff_count.1 hnd;constructor
 ·intro h;rw[<- hsum];have e:∀ k,k<n->(s.map Int.toNat).count k=1:=fun k hk=>by
   have h1:(k:Int)∈s:=by
    have h2:=setN_bit (fun x hx=>(hs x hx).1) k;rw[h,first_bit,decide_eq_true hk] at h2;exact of_decide_eq_true h2.symm
   have h3:=List.count_pos_iff.2 ((hmem k).2 h1);have:=hc k;omega
  have one:∀ m,m<=n->sumTo' m (fun k=>(s.map Int.toNat).count k)=m:=by
   intro m
   induction m with
   | zero => intro _; rfl
   | succ m ih => intro hm; rw[sumTo'_succ,ih (by omega),e m (by omega)]
  exact one n (Nat.le_refl _)
 ·intro h;have e:=sumTo'_full (n:=n) (fun k _=>hc k) (by rw[hsum,h]);apply Nat.eq_of_testBit_eq;intro i;rw[setN_bit (fun x hx=>(hs x hx).1),first_bit,Bool.eq_iff_iff,decide_eq_true_eq,decide_eq_true_eq];constructor
  ·intro hi;have:=(hs _ hi).2;omega
  ·intro hi;have h1:=e i hi;exact (hmem i).1 (List.count_pos_iff.1 (by omega))
def risingN (s:Nat):List Nat:=(List.range 64).filter fun i=>s.testBit i
theorem risingN_mem {n:Nat} (hn:n<=64) {l:List Int} (h:SmallL n l) (i:Nat):i∈risingN (setN l)↔(i:Int)∈l:=by
 unfold risingN;rw[List.mem_filter,List.mem_range,setN_bit (fun x hx=>(h x hx).1),decide_eq_true_eq];constructor
 ·exact fun e=>e.2
 ·intro e;have:=(h _ e).2;exact⟨by omega,e⟩
theorem risingN_nodup (s:Nat):(risingN s).Nodup:=List.Pairwise.filter _ List.nodup_range
theorem nodup_nat {n:Nat} {s:List Int} (hs:SmallL n s) (hd:s.Nodup):(s.map Int.toNat).Nodup:=by
 show List.Pairwise _ _
 rw[List.pairwise_map];refine List.Pairwise.imp_of_mem ?_ hd;intro a b ha hb hne e;have h1:=(hs a ha).1;have h2:=(hs b hb).1;exact hne (by omega)
theorem mem_nat {n:Nat} {s:List Int} (hs:SmallL n s) (k:Nat):k∈s.map Int.toNat↔(k:Int)∈s:=by
 rw[List.mem_map];constructor
 ·rintro⟨x,hx,rfl⟩;rw[Int.toNat_of_nonneg (hs x hx).1]; exact hx
 ·intro h;exact⟨_,h,by simp⟩
theorem rising_perm {n:Nat} (hn:n<=64) {s:List Int} (hs:SmallL n s) (hd:s.Nodup):(s.map Int.toNat).Perm (risingN (setN s)):=
 (List.perm_ext_iff_of_nodup (nodup_nat hs hd) (risingN_nodup _)).2 fun k=>by rw[mem_nat hs,risingN_mem hn hs]
theorem prod_perm {a b:List Nat} (h:a.Perm b):∀ m,a.foldl (· * ·) m=b.foldl (· * ·) m:=by
 induction h with
 | nil => intro m; rfl
 | cons x _ ih => intro m; rw[List.foldl_cons,List.foldl_cons,ih]
 | swap x y l => intro m; simp only[List.foldl_cons]; rw[Nat.mul_right_comm]
 | trans _ _ h1 h2 => intro m; rw[h1,h2]
theorem timesN_fold_zero:∀ (l:List Nat),l.foldl timesN 0=0
 | [] => rfl
 | a::l => by rw[List.foldl_cons,timesN_zero,timesN_fold_zero l]
theorem timesN_fold_has:∀ (l:List Nat) (m:Nat),0∈l->l.foldl timesN m=0
 | [],_,h => by cases h
 | a::l,m,h => by
  rw[List.foldl_cons];rcases List.mem_cons.1 h with h | h
  ·rw[<- h];have e:timesN m 0=0:=by unfold timesN; rw[Nat.mul_zero]; rfl
   rw[e,timesN_fold_zero]
  ·exact timesN_fold_has l _ h
theorem timesN_fold_pos:∀ (l:List Nat) (m:Nat),1<=m->(∀ x∈l,1<=x)->1<=l.foldl timesN m
 | [],m,h,_ => h
 | a::l,m,h,hl => by
  rw[List.foldl_cons];refine timesN_fold_pos l _ ?_ (fun x hx=>hl x (by simp[hx]));have h1:=Nat.mul_le_mul h (hl a (by simp));unfold timesN topN;rw[Nat.min_def];split <;> omega
theorem timesN_perm {a b:List Nat} (h:a.Perm b):a.foldl timesN 1=b.foldl timesN 1:=by
 by_cases h0:0∈a
 ·rw[timesN_fold_has a 1 h0,timesN_fold_has b 1 (h.mem_iff.1 h0)]
 ·have ha:∀ x∈a,1<=x:=fun x hx=>by
   by_cases e:x=0
   ·rw[e] at hx; exact absurd hx h0
   ·omega
  have hb:∀ x∈b,1<=x:=fun x hx=>ha x (h.mem_iff.2 hx)
  rw[prod_min a 1 (by unfold topN; omega) ha,prod_min b 1 (by unfold topN; omega) hb,prod_perm h]
theorem range_filter {n m:Nat} (hnm:n<=m) (p:Nat->Bool) (h:∀ i,n<=i->p i=false):(List.range m).filter p=(List.range n).filter p:=by
 induction m with
 | zero =>
  obtain rfl:n=0:=by omega
  rfl
 | succ m ih =>
  by_cases e:n=m+1
  ·rw[e]
  ·rw[List.range_succ,List.filter_append,ih (by omega),List.filter_cons_of_neg (by rw[h m (by omega)]; simp)];simp
theorem rising_div {n:Nat} (hn:n<=64) {l:List Int} (h:SmallL n l) (g:Nat->Nat) (m:Nat) :
  (risingN (setN l)).foldl (fun x c=>x / g c) m=(List.range n).foldl (fun (x c:Nat)=>if (c:Int)∈l then x / g c else x) m:=by
 unfold risingN;rw[range_filter hn _ (fun i hi=>by rw[setN_bit (fun x hx=>(h x hx).1),decide_eq_false_iff_not]; intro e; have:=(h _ e).2; omega),List.foldl_filter];congr 1
 funext x c
 rw[setN_bit (fun x hx=>(h x hx).1)];by_cases e:(c:Int)∈l
 ·rw[if_pos e,if_pos (decide_eq_true e)]
 ·rw[if_neg e,if_neg (by rw[decide_eq_false e]; simp)]
end Go.Scout

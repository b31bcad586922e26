import Derived.Test.YtgemohlbjehmbaaGreatDoorF11
set_option linter.all false
set_option maxRecDepth 100000
set_option maxHeartbeats 16000000
namespace Go.Proofs.Zz
open Go.RowKit Go.Shelf
variable {k xs:List Int} {ks:List (List Int)} {n:Nat}
section
open Go.Maps Go.WideMaps
structure GrV where
 gb:Nat
 sb:Nat
 k:ai
 cnt:Nat
 ss:List Int
def GrV.gr(g:GrV):Gr:=⟨g.k.xs,g.cnt,g.ss⟩
def GrV.own(g:GrV)(b:Nat):Prop:=b=g.gb∨b=g.sb∨bU.blk g.k=some b
structure GrV.At(tg ti:TypeId)(n:Nat)(g:GrV)(W:World):Prop where
 cells:W.heap[g.gb]? = some (.cells #[g.k.val,.int .i64 g.cnt,.slice (some (aD g.sb 0)) n n] tg)
 sums:W.heap[g.sb]? = some (.cells (g.ss.map (Value.int .i64)).toArray ti)
 key:bU.At g.k W
 len:g.ss.length=n
 ne:g.gb≠g.sb
 nk:bU.blk g.k≠some g.gb/\bU.blk g.k≠some g.sb
end
section
open Go.Maps Go.WideMaps
def arR(a b c d:Int):Value:=.agg #[.int .i64 a,.int .i64 b,.int .i64 c,.int .i64 d]
def Cs(xs:List Int):Value:=arR (xs.getD 0 0) (xs.getD 1 0) (xs.getD 2 0) (xs.getD 3 0)
theorem Ul{ys:List Int}(hl:xs.length=ys.length)(h4:ys.length<=4)(h:Cs xs=Cs ys):xs=ys:=by unfold Cs arR at h;simp only[Value.agg.injEq,Array.mk.injEq,List.cons.injEq,Value.int.injEq,true_and,and_true]at h;obtain⟨a,b,d,e⟩:=h;apply List.ext_getElem hl;grind
structure aeu(ks:List (List Int))(D:DataW Unit)(xs:List Int)(l:Lit):Prop where
 hit:∀ i,xC ks xs=some i->Maps.has D l=true/\D.atKey l (.lit (.int .i64 0))=.lit (.int .i64 i)
 miss:xC ks xs=none->Maps.has D l=false
def MapAt(P:Program)(tk te:TypeId)(nk bm n:Nat)(ks:List (List Int))(W:World):Prop:=
 ∃ D:DataW Unit,W.ownsMap P tk (plainElem P te) bm n D/\∀ xs l,xs.length=nk->keyOf P tk (Cs xs)=some l->aeu ks D xs l
theorem sG(h:k≠xs):xC (ks++[k]) xs=xC ks xs:=by unfold xC;grind
theorem uw(h:xC ks k=none):xC (ks++[k]) k=some ks.length:=by unfold xC at *;rw[List.findIdx?_append,h];simp
theorem MapAt.put{P:Program}{tk te:TypeId}(K:Keyed P tk){nk bm:Nat}{W':World}{D:DataW Unit}(hk:∀ xs l,xs.length=nk->keyOf P tk (Cs xs)=some l->aeu ks D xs l)(hD:IsMap D)(h4:nk<=4)
  {kl:Lit} (hkn:k.length=nk) (hkl:keyOf P tk (Cs k)=some kl) (hmiss:xC ks k=none) (hown:W'.ownsMap P tk (plainElem P te) bm n (D.put kl (.lit (.int .i64 ks.length)))) :
  MapAt P tk te nk bm n (ks++[k]) W':=by
 refine⟨_,hown,λxs l j d=>?_⟩;by_cases e:k=xs
 ·subst e;have f:l=kl:=by rw[hkl]at d; cases d; rfl
  subst f;refine⟨λi a=>?_,λa=>?_⟩
  ·rw[uw hmiss]at a
   cases a;exact⟨has_put_same hD (K.key hkl) _,atKey_put_same hD (K.key hkl) _ _⟩
  ·rw[uw hmiss]at a
   cases a
 ·have b:l≠kl:=λf=>by subst f;exact e (Ul (hkn.trans j.symm) (by omega) (K.inj hkl d))
  have g:=hk xs l j d;refine⟨λi a=>?_,λa=>?_⟩
  ·rw[sG e]at a;rw[has_put_other b,atKey_put_other b];exact g.hit i a
  ·rw[sG e]at a;rw[has_put_other b];exact g.miss a
end
section
open Go.Maps Go.WideMaps
theorem nY{A:World}{base:Nat}{e:TypeId}{v:Value}{xs:List Value}(h:A.ownsRow base e 1 v n xs):∃ a cap,v=.slice a n cap:=by
 rcases h.2 with⟨rfl,h0⟩ | ⟨g',cap,cur,rfl,_⟩
 ·subst h0;exact⟨_,_,rfl⟩
 ·exact⟨_,_,rfl⟩
end

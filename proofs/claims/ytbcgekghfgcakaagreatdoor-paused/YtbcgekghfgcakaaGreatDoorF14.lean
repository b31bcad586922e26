import Derived.Test.YtbcgekghfgcakaaGreatDoorF10
set_option linter.all false
set_option maxRecDepth 100000
set_option maxHeartbeats 16000000
namespace Go.Proofs.Zz
open Go.RowKit Go.Shelf
structure aB.New (f:aB) (n:Nat):Prop where
 ca:∀ a,f.ca=some a->n<=a.block
 ra:∀ a,f.ra=some a->n<=a.block
 na:∀ a,f.na=some a->n<=a.block
 pa:∀ a,f.pa=some a->n<=a.block
theorem VP (ts:List af) (src:List Int) (cs:List aj) (a b:Nat):N7 ts src cs a b =
  if (bE cs).2.2=false then (0,0,false)
  else if (bP a (2 ^ bD ts src (bE cs).1)&&bP b (2 ^ bD ts src (bE cs).2.1))=true then ((bE cs).1,(bE cs).2.1,true)
  else if (bP a (2 ^ bD ts src (bE cs).2.1)&&bP b (2 ^ bD ts src (bE cs).1))=true then ((bE cs).2.1,(bE cs).1,true)
  else (0,0,false):=by
 unfold N7 bE;by_cases h:cs.length > 1∨(cs.getD 0 cz).op≠0∨(cs.getD 0 cz).not=true∨(cs.getD 0 cz).const=true
 ·rw[Qr h,Qr h]; rfl
 ·rw[Qs h,Qs h]; rfl
theorem Du {ts:List af} {q:ae} (ok:Ok ts q) {k:Nat} (hk:k<q.wh.length) (h:(bE (q.wh.getD k lz).cs).2.2=true):eT ts q [(bE (q.wh.getD k lz).cs).1]/\eT ts q [(bE (q.wh.getD k lz).cs).2.1]:=by
 have h0:=ok.some k hk;have hc:=ok.aH k hk;generalize (q.wh.getD k lz).cs=cs at *;unfold bE at h ⊢;by_cases hh:cs.length > 1∨(cs.getD 0 cz).op≠0∨(cs.getD 0 cz).not=true∨(cs.getD 0 cz).const=true
 ·rw[Qr hh] at h; cases h
 rw[Qs hh];have hm:∀ x,x∈aK (cs.getD 0 cz)->x∈bV cs:=fun x hx=>Xz.2 ⟨_,ZM h0,hx⟩
 have hop:(cs.getD 0 cz).op=0:=by
  rcases Int.decEq (cs.getD 0 cz).op 0 with h' | h'
  ·exact absurd (.inr (.inl h')) hh
  ·exact h'
 have hco:(cs.getD 0 cz).const=false:=by
  cases h':(cs.getD 0 cz).const with
  | false => rfl
  | true => exact absurd (.inr (.inr (.inr h'))) hh
 have hcc:aK (cs.getD 0 cz)=[(cs.getD 0 cz).left,(cs.getD 0 cz).right]:=by
  unfold aK;rw[Qr ⟨by rw[hop]; decide,hco⟩]
 rw[hcc] at hm;refine⟨fun c hx=>?_,fun c hx=>?_⟩
 ·rw[QY] at hx; rw[hx]; exact hc _ (hm _ (by simp))
 ·rw[QY] at hx; rw[hx]; exact hc _ (hm _ (by simp))
theorem nV (ca:Option Addr) (cc:Nat) (cs:List aj) (w:World) (hx:aR w ca cs) (h0:0<cs.length) :
  Calls Tryz.prog 119 #[.agg #[.slice ca cs.length cc]] w fun e w'=>e=.returned (.tuple #[.int .i64 (bE cs).1,.int .i64 (bE cs).2.1,.bool (bE cs).2.2])/\Below w.heap.size w w':=by
 obtain⟨cb,co,rfl,c0,c1,c2,c3,c4⟩:=hx.2 0 h0;have hcl:=hx.1;rw[QD,ZU] at c0 c1 c2 c3 c4;have HE:Hid (bE cs=if cs.length > 1∨(cs.getD 0 cz).op≠0∨(cs.getD 0 cz).not=true∨(cs.getD 0 cz).const=true then (0,0,false) else ((cs.getD 0 cz).left,(cs.getD 0 cz).right,true)):=rfl;generalize bE cs=EC at *;generalize cs.getD 0 cz=c at *;obtain⟨not,op,left,const,right⟩:=c;simp only at *;obtain⟨w1,hw1,hk1,hg1⟩:=bu w #[.slice (some (aD cb co)) cs.length cc] 77;obtain⟨w2,hw2,hk2,hg2⟩:=bu w1 #[.bool not,.int .i64 op,.int .i64 left,.bool const,.int .i64 right] 73;have hc1:=hk2;have hc0:=aG hk1 hc1;have wI:=hg1.of (hc1.block _ hg1.lt);have mJ:=wI.at 0;have Et:=hg2;obtain⟨xh,UW,UX,ahW,U2⟩:=Et.k5;have k0:=hg1.at 0;have d0:=cB hk1 c0;have d1:=cB hk1 c1;have d2:=cB hk1 c2;have d3:=cB hk1 c3;have d4:=cB hk1 c4;have HC:=Zh hc0;by_cases h1:cs.length > 1
 ·obtain rfl:EC=(0,0,false):=by rw[HE.out,Qr (.inl h1)]
  go_enter Tryz.func119,Tryz.ntmps119;go_wp2;go_ret3;exact⟨rfl,HC.out⟩
 by_cases h2:op≠0
 ·obtain rfl:EC=(0,0,false):=by rw[HE.out,Qr (.inr (.inl h2))]
  have h2':(op != 0)=true:=by rw[bne_iff_ne]; exact h2
  go_enter Tryz.func119,Tryz.ntmps119;go_wp2;go_ret3;exact⟨rfl,HC.out⟩
 have h2':op=0:=by omega
 subst h2'
 cases not with
 | true =>
  obtain rfl:EC=(0,0,false):=by rw[HE.out,Qr (.inr (.inr (.inl rfl)))]
  go_enter Tryz.func119,Tryz.ntmps119;go_wp2;go_ret3;exact⟨rfl,HC.out⟩
 | false =>
  cases const with
  | true =>
   obtain rfl:EC=(0,0,false):=by rw[HE.out,Qr (.inr (.inr (.inr rfl)))]
   go_enter Tryz.func119,Tryz.ntmps119;go_wp2;go_ret3;exact⟨rfl,HC.out⟩
  | false =>
   obtain rfl:EC=(left,right,true):=by
    rw[HE.out,Qs];rintro (h | h | h | h)
    ·exact h1 h
    ·exact h rfl
    ·cases h
    ·cases h
   go_enter Tryz.func119,Tryz.ntmps119;go_wp2;go_quiet (fail);go_wp2;go_ret3;exact⟨rfl,below_drewN HC.out _⟩

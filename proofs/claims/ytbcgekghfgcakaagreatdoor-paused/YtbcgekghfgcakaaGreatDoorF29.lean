import Derived.Test.YtbcgekghfgcakaaGreatDoorF15
import Derived.Test.YtbcgekghfgcakaaGreatDoorF21
import Derived.Test.YtbcgekghfgcakaaGreatDoorF26
import Derived.Test.YtbcgekghfgcakaaGreatDoorF28
set_option linter.all false
set_option maxRecDepth 100000
set_option maxHeartbeats 16000000
namespace Go.Proofs.Zz
open Go.RowKit Go.Shelf
theorem Sj (ts:List af) (q:ae) (l r:aW) (g:List ai) (cl:List Int) (acc:List aW) (key:Int):(gq ts q l r g cl acc key).length<=acc.length+2:=by
 unfold gq;simp only;split
 ·split
  ·simp
  ·split <;> simp
 ·omega
theorem uG (ts:List af) (q:ae) (l r:aW) (g:List ai) (cl:List Int):∀ (ks:List Int) (acc:List aW),(ks.foldl (gq ts q l r g cl) acc).length<=acc.length+2*ks.length
 | [],_ => by simp
 | k::ks,acc => by
  refine Q4 (uG ts q l r g cl ks _) ?_;have:=Sj ts q l r g cl acc k;simp only[Q5];omega
theorem Wl (s:Nat):(ib s).length<=64:=by
 unfold ib bz;rw[QU];exact Q4 (List.length_filter_le _ _) (by simp)
theorem Dy {s n:Nat} (h:s<2 ^ n) (hn:n<=64):(ib s).length<=n:=by
 unfold ib bz;rw[QU];have h2:∀ m,((List.range m).filter fun i=>s.testBit i).length<=min m n:=by
  intro m
  induction m with
  | zero => simp
  | succ m ih =>
   rw[QR,List.filter_append,QT];by_cases hb:s.testBit m=true
   ·have hm:m<n:=by
     by_cases hmn:m<n
     ·exact hmn
     ·rw[Nat.testBit_lt_two_pow (Q8 h (QZ (by omega) (by omega)))] at hb
      cases hb
    simp[hb];omega
   ·simp[hb];omega
 exact Q4 (h2 64) (by omega)
theorem bJ.base {T Tp:TypeId} {F:Nat->Prop} {base base':Nat} {w:World} {v:Value} {bs:List (Nat × aW)} (h:bJ T Tp F base w v bs) (hb:base'<=base):bJ T Tp F base' w v bs:=
 ⟨Z5 h.own hb,fun x hx=>⟨(h.tree x hx).1,Q4 hb (h.tree x hx).2.1,(h.tree x hx).2.2⟩,h.rise⟩
theorem bJ.fz {T Tp:TypeId} {F:Nat->Prop} {base:Nat} {W0 w:World} {v:Value} {bs:List (Nat × aW)} (h:bJ T Tp F base w v bs) (hz:Fz F W0 w) (hb:W0.heap.size<=base):Fz (Fv F v) W0 w:=hz.own fun g e=>⟨Q4 hb (Zy h.own e).1,(Zy h.own e).2⟩
theorem bJ.mono {T Tp:TypeId} {F G:Nat->Prop} {base:Nat} {w:World} {v:Value} {bs:List (Nat × aW)} (h:bJ T Tp F base w v bs) (hs:∀ b,b<w.heap.size->F b->G b):bJ T Tp G base w v bs:=
 ⟨h.own,fun x hx=>⟨(h.tree x hx).1.mono (fun b hb hf=>⟨hs b hb hf.1,hf.2⟩),(h.tree x hx).2⟩,h.rise⟩
theorem bJ.ajh {T Tp:TypeId} {F s:Nat->Prop} {base:Nat} {w w':World} {v:Value} {bs:List (Nat × aW)} (h:bJ T Tp F base w v bs) (hk:Kept s w w') (hF:∀ b,F b->s b) (hv:∀ g,v.ownBlock=some g->s g):bJ T Tp F base w' v bs:=
 ⟨Zx h.own hk hv,fun x hx=>⟨(h.tree x hx).1.aT (hk.mono fun b _ hb=>hF b hb.1),(h.tree x hx).2.1,Q8 (h.tree x hx).2.2 hk.size⟩,h.rise⟩
theorem Wm {ts:List af} {q:ae} {l r:aW} {g:List ai} {cl:List Int} {acc:List aW} {key:Int} (h:(si ts q (eu 4 cl key) l.d.sources r.d.sources).2.2=false):gq ts q l r g cl acc key=acc:=by
 unfold gq;simp only;rw[h];rfl
theorem MU {ts:List af} {q:ae} {l r:aW} {g:List ai} {cl:List Int} {acc:List aW} {key:Int} (h:(si ts q (eu 4 cl key) l.d.sources r.d.sources).2.2=true) (hm:qF g (si ts q (eu 4 cl key) l.d.sources r.d.sources).2.1=none):gq ts q l r g cl acc key=acc++[aP ts q (eu 4 cl key) [l,r]]:=by
 unfold gq;simp only;rw[Qr h,hm]
theorem MW {ts:List af} {q:ae} {l r m:aW} {g:List ai} {cl:List Int} {acc:List aW} {key:Int} (h:(si ts q (eu 4 cl key) l.d.sources r.d.sources).2.2=true) (hm:qF g (si ts q (eu 4 cl key) l.d.sources r.d.sources).2.1=some m):gq ts q l r g cl acc key=if bO l.d.order [(si ts q (eu 4 cl key) l.d.sources r.d.sources).1]=true then acc++[aP ts q (eu 4 cl key) [l,r]]++[aP ts q (eu 5 cl key) [l,m]] else acc++[aP ts q (eu 4 cl key) [l,r]]:=by
 unfold gq;simp only;rw[Qr h,hm]
theorem MX {F:Nat->Prop} {W0 w:World} {f:aB} {ts:List af} {q:ae} (E:Env f ts q W0) (hz:Fz F W0 w) (a:Nat) (l:aW) (ht:aC 120 F w a l) (hlo:iC q l) {gb:Nat} {A:Nat->Nat} {os:List ah} {g:List ai} (hg:aX 120 195 F w gb A os g) (hgl:g.length<=20) (gc:Nat) (hgo:∀ p∈g,∀ x,p.2=some x->iC q x.2) (hs:(bZ g).isSome=true) :
  Calls Tryz.prog 186 #[.agg (f.cells ts q),.pointer (some (aD a 0)),.slice (some (aD gb 0)) g.length gc] w (iP 120 100 F w (dL ts q (aA ts q) l g)):=by
 obtain⟨v0,v1,v2,v3,v4,v5,v6,v7,v8,v9,v10,v11,v12,dw,-⟩:=Z8 f ts q;obtain⟨r,hr⟩:=Option.isSome_iff_exists.1 hs;obtain⟨y,hy,hyr⟩:=Dn hr;have hg0:0<g.length:=by
  cases g with
  | nil => cases hs
  | cons _ _ => simp
 have hrt:=hg.tree _ (kE hg0) y hy;rw[hyr] at hrt;have hro:iC q r:=by rw[<- hyr]; exact hgo _ (kE hg0) y hy
 have Oy:Hid (∀ x,Below w.heap.size w x->Calls Tryz.prog 222 #[.slice (some (aD gb 0)) g.length gc] x fun e w'=>e=.returned (.pointer (some (aD (A y.1) 0)))/\w' = x):=fun x hx=>by
  have:=oV (hg.below hx) hg0 gc;rw[hy] at this;exact this
 obtain⟨pl,hPl,afA⟩:=ht.jP;obtain⟨pr,hPr,ajj⟩:=hrt.jP;have esl:pl.sources=l.d.sources:=congrArg iG.sources afA;have esr:pr.sources=r.d.sources:=congrArg iG.sources ajj;have eol:pl.order.xs=l.d.order:=congrArg iG.order afA;obtain⟨CL,Mm⟩:∃ CL,CL=ib (gP (aA ts q) l.d.sources r.d.sources):=⟨_,rfl⟩
 have hbt:=tV (aA ts q) l.d.sources r.d.sources;rw[ZQ] at hbt;have aoH:CL.length<=8:=by rw[Mm]; exact Q4 (Dy hbt (by have:=E.eight; omega)) E.eight
 have hsm:fJ q.wh.length CL:=by rw[Mm]; exact oJ hbt
 have HJ:Hid (dL ts q (aA ts q) l g=CL.foldl (gq ts q l r g CL) [aP ts q (eu 3 CL 0) [l,r]]):=by
  show _=_
  unfold dL;simp only;rw[hr,Mm];rfl
 have xz:Hid (∀ x,Below w.heap.size w x->Calls Tryz.prog 226 #[.agg #[v0,v1,v2,v3,v4,v5,v6,v7,v8,v9,v10,v11,v12],.int .u64 (pl.sources:Int),.int .u64 (pr.sources:Int)] x fun e w'=>e=.returned (.int .u64 ((gP (aA ts q) l.d.sources r.d.sources:Nat):Int))/\Below x.heap.size x w'):=fun x hx=>by
  rw[<- dw,esl,esr];exact Jk E (hz.next hx) _ _ hlo.src hro.src
 have Ir:Hid (∀ x,Calls Tryz.prog 129 #[.int .u64 ((gP (aA ts q) l.d.sources r.d.sources:Nat):Int)] x fun e w'=>∃ v,e=.returned v/\w'.ownsRow x.heap.size 3 1 v CL.length (CL.map (Value.int .i64))/\Below x.heap.size x w'):=fun x=>by
  rw[Mm];exact Af _ (Q8 hbt (Q4 (QZ (n:=2) (by omega) E.eight) (by decide))) x
 have vz:Hid (∀ (G:Nat->Prop) (x:World) (b mb:Nat) (mt:aW) (ia:Option Addr) (ic:Nat) (kind key:Int),Fz G W0 x->3<=kind->kind<=5->IntsIn G x ⟨ia,ic,CL⟩->aC 120 G x a l->aC 120 G x mb mt->iC q mt->x.cell? (aD b 0)=some (.pointer (some (aD a 0)))->x.cell? (aD b 1)=some (.pointer (some (aD mb 0)))->Calls Tryz.prog 113 #[.agg #[v0,v1,v2,v3,v4,v5,v6,v7,v8,v9,v10,v11,v12],.agg #[.int .i64 kind,.int .i64 0,.int .i64 0,.int .i64 0,.slice ia CL.length ic,.int .i64 key,.slice none 0 0],.slice (some (aD b 0)) 2 2] x (bF 120 G x (aP ts q (eu kind CL key) [l,mt]))):=fun G x b mb mt ia ic kind key hx h3 h5 hi OC htb hmo hc hc'=>by
  rw[<- dw];exact Hy E hx ⟨kind,0,0,0,⟨ia,ic,CL⟩,key,dU⟩ ⟨hi.at',hi.inf,hi.nil,gI x,mI.nil _ _,fun _=>rfl,Qq _,by show CL.length<=1000; omega,QQ _⟩ a mb b l mt OC hlo htb hmo hc hc' h3 h5 hsm
 obtain⟨KP,hKP⟩:∃ KP:Int->Int × Int × Bool,KP=fun key=>si ts q (eu 4 CL key) l.d.sources r.d.sources:=⟨_,rfl⟩
 have HKC:Hid (∀ (x:World) (ia:Option Addr) (ic:Nat) (key:Int),Below w.heap.size w x->au x ia CL->Calls Tryz.prog 227 #[.agg #[v0,v1,v2,v3,v4,v5,v6,v7,v8,v9,v10,v11,v12],.agg #[.int .i64 4,.int .i64 0,.int .i64 0,.int .i64 0,.slice ia CL.length ic,.int .i64 key,.slice none 0 0],.agg #[.int .i64 pl.kind,.int .u64 (pl.sources:Int),.int .u64 (pl.clauses:Int),.slice pl.order.ad pl.order.xs.length pl.order.cap,.int .u64 (pl.size:Int),.int .u64 (pl.cost:Int)],.agg #[.int .i64 pr.kind,.int .u64 (pr.sources:Int),.int .u64 (pr.clauses:Int),.slice pr.order.ad pr.order.xs.length pr.order.cap,.int .u64 (pr.size:Int),.int .u64 (pr.cost:Int)]] x fun e w'=>e=.returned (.tuple #[.int .i64 (KP key).1,.int .i64 (KP key).2.1,.bool (KP key).2.2])/\Below x.heap.size x w'):=fun x ia ic key hx hi=>by
  have:=Bb f ts q ⟨4,0,0,0,⟨ia,ic,CL⟩,key,dU⟩ pl pr x E.ok ((E.at' hz).below hx) hi hPl.ok.sources hPr.ok.sources;rw[<- dw,hKP];simp only;rw[<- esl,<- esr];exact this
 have HSB:Hid (∀ (G:Nat->Prop) (x:World) (fZ:Int),aX 120 195 G x gb A os g->Calls Tryz.prog 228 #[.slice (some (aD gb 0)) g.length gc,.int .i64 fZ] x fun e w'=>∃ pv,e=.returned pv/\PtrTo 120 G w' pv (qF g fZ)/\Below x.heap.size x w'):=fun G x fZ hx=>Fy hx hgl gc fZ
 have Uc:Hid (∀ (x:World) (c:Nat) (fZ:Int),Below w.heap.size w x->x.cell? (aD c 0)=some (.int .i64 fZ)->Calls Tryz.prog 229 #[.slice pl.order.ad pl.order.xs.length pl.order.cap,.slice (some (aD c 0)) 1 1] x fun e w'=>e=.returned (.bool (bO l.d.order [fZ]))/\Below x.heap.size x w'):=fun x c fZ hx hc=>by
  rw[<- eol];exact lV pl.order.ad (some (aD c 0)) pl.order.cap 1 pl.order.xs [fZ] x (Qo hx hPl.ok.order) ⟨by simp,fun i hi=>⟨c,0,rfl,by
   have:i=0:=by simpa using hi
   subst this;exact hc⟩⟩ hPl.ok.cap
 have HMT:Hid (∀ fZ m,qF g fZ=some m->iC q m):=fun fZ m hm=>by
  rcases EF fZ _ none m hm with h0 | ⟨n,hn⟩
  ·cases h0
  ·rcases lN g [] _ hn with h0 | ⟨p,hp,e⟩
   ·cases h0
   ·exact hgo p hp _ e
 obtain⟨JK,Y1⟩:∃ J:Nat->List aW,J=fun k=>(CL.take k).foldl (gq ts q l r g CL) [aP ts q (eu 3 CL 0) [l,r]]:=⟨_,rfl⟩
 have HST:Hid (∀ k,k<CL.length->JK (k+1)=gq ts q l r g CL (JK k) (CL.getD k 0)):=fun k hk=>by rw[Y1]; exact gy _ _ CL 0 hk
 have HNO:Hid (∀ k,k<CL.length->(KP (CL.getD k 0)).2.2=false->JK (k+1)=JK k):=fun k hk e=>by rw[HST.out k hk]; rw[hKP] at e; exact Wm e
 have HHA:Hid (∀ k,k<CL.length->(KP (CL.getD k 0)).2.2=true->qF g (KP (CL.getD k 0)).2.1=none->JK (k+1)=JK k++[aP ts q (eu 4 CL (CL.getD k 0)) [l,r]]):=fun k hk e em=>by rw[HST.out k hk]; rw[hKP] at e em; exact MU e em
 have HMA:Hid (∀ k m,k<CL.length->(KP (CL.getD k 0)).2.2=true->qF g (KP (CL.getD k 0)).2.1=some m->JK (k+1)=if bO l.d.order [(KP (CL.getD k 0)).1]=true then JK k++[aP ts q (eu 4 CL (CL.getD k 0)) [l,r]]++[aP ts q (eu 5 CL (CL.getD k 0)) [l,m]] else JK k++[aP ts q (eu 4 CL (CL.getD k 0)) [l,r]]):=fun k m hk e em=>by rw[HST.out k hk]; rw[hKP] at e em ⊢; exact MW e em
 have HJL:Hid (∀ k,(JK k).length<=20):=fun k=>by
  rw[Y1];refine Q4 (uG ts q l r g CL (CL.take k) _) ?_;rw[Q6];simp;omega
 have HJE:Hid (JK CL.length=dL ts q (aA ts q) l g):=by
  show _=_
  rw[HJ.out,Y1]
  show (CL.take CL.length).foldl _ _=_
  rw[Qt]
 have HJ0:Hid (JK 0=[aP ts q (eu 3 CL 0) [l,r]]):=by show _=_; rw[Y1]; rfl
 have HZ:=hd hz;have Kh:=hd ht;obtain⟨ra,hra⟩:∃ ra,ra=A y.1:=⟨_,rfl⟩
 rw[<- hra] at Oy hPr hrt;have VY:=hd hrt;have MZ:=hd hro;have HGG:=hd hg;have su:=hd hPl;have Kg:=hd hPr;rw[dw];clear dw E hz ht hlo hg hgo hs hr hy hyr hrt hro hPl afA hPr ajj esl esr eol Mm hbt hsm HJ hKP Y1 HST hra;generalize dL ts q (aA ts q) l g=R at *;generalize gP (aA ts q) l.d.sources r.d.sources=C at *;obtain⟨T3,AV⟩:∃ t,t=aP ts q (eu 3 CL 0) [l,r]:=⟨_,rfl⟩
 rw[<- AV] at HJ0;have HT3:=Zh AV;clear AV;obtain⟨plk,pls,plc,⟨Ow,Ox,pox⟩,afB,plt⟩:=pl;obtain⟨prk,prs,prc,⟨pra,prq,prx⟩,prz,prt⟩:=pr;simp only at xz HKC Uc;obtain⟨Ov,abr⟩:∃ n,n=pox.length:=⟨_,rfl⟩
 obtain⟨prl,afC⟩:∃ n,n=prx.length:=⟨_,rfl⟩
 rw[<- abr,<- afC] at HKC;rw[<- abr] at Uc;have Ua:Hid (∀ x,Below w.heap.size w x->x.cell? (aD a 0)=some (.int .i64 plk)/\x.cell? (aD a 1)=some (.int .u64 (pls:Int))/\x.cell? (aD a 2)=some (.int .u64 (plc:Int))/\x.cell? (aD a 3)=some (.slice Ow Ov Ox)/\x.cell? (aD a 4)=some (.int .u64 (afB:Int))/\x.cell? (aD a 5)=some (.int .u64 (plt:Int))):=fun x hx=>by
  rw[abr];exact⟨cB hx su.out.c0,cB hx su.out.c1,cB hx su.out.c2,cB hx su.out.c3,cB hx su.out.c4,cB hx su.out.c5⟩
 have HRC:Hid (∀ x,Below w.heap.size w x->x.cell? (aD ra 0)=some (.int .i64 prk)/\x.cell? (aD ra 1)=some (.int .u64 (prs:Int))/\x.cell? (aD ra 2)=some (.int .u64 (prc:Int))/\x.cell? (aD ra 3)=some (.slice pra prl prq)/\x.cell? (aD ra 4)=some (.int .u64 (prz:Int))/\x.cell? (aD ra 5)=some (.int .u64 (prt:Int))):=fun x hx=>by
  rw[afC];exact⟨cB hx Kg.out.c0,cB hx Kg.out.c1,cB hx Kg.out.c2,cB hx Kg.out.c3,cB hx Kg.out.c4,cB hx Kg.out.c5⟩
 clear abr afC su Kg;obtain⟨gl,EM⟩:∃ n,n=g.length:=⟨_,rfl⟩
 rw[<- EM] at Oy HSB hgl ⊢;clear EM;obtain⟨w1,hw1,hb1,hg1⟩:=bu w #[v0,v1,v2,v3,v4,v5,v6,v7,v8,v9,v10,v11,v12] 94;obtain⟨a0,a1,a2,a3,a4,a5,a6,a7,a8,a9,fI,fU,a12⟩:=hg1.k13;obtain⟨p0,p1,p2,p3,p4,p5⟩:=Ua.out w1 hb1;obtain⟨q0,q1,q2,q3,q4,q5⟩:=HRC.out w1 hb1;have HB1:=hd hb1;have pR:=hd hg1;have ajl:=Oy.out w1 hb1;clear hb1 hg1 Oy;go_enter Tryz.func186,Tryz.ntmps186;go_wp2_with fail;refine ajl.mono ?_;rintro e wz ⟨rfl,hwz⟩;have nI:=hwz.symm;subst nI;clear ajl hw1;go_wp2_with fail;refine wH w1 fun hS=>?_
 refine wT 0 (.agg #[v0,v1,v2,v3,v4,v5,v6,v7,v8,v9,v10,v11,v12]) hS (fun x hx=>?_) ?_
 ·have e0:=qd hx a0 a1 a2 a3 a4 a5 a6 a7 a8 a9 fI fU a12;go_simp
 refine wt 1 (.pointer (some (aD a 0))) hS ?_;refine wt 2 (.pointer (some (aD a 0))) hS ?_;refine wt 3 (.pointer (some (aD a 0))) hS ?_;refine wt 4 (.pointer (some (aD a 1))) hS ?_;refine iB 5 (.int .u64 (pls:Int)) hS p1 ?_;refine wt 6 (.pointer (some (aD ra 0))) hS ?_;refine wt 7 (.pointer (some (aD ra 0))) hS ?_;refine wt 8 (.pointer (some (aD ra 0))) hS ?_;refine wt 9 (.pointer (some (aD ra 1))) hS ?_;refine iB 10 (.int .u64 (prs:Int)) hS q1 ?_;refine wR 11 fun K hK=>?_
 go_simp;refine Z7 (xz.out _ (aG HB1.out hS)) ?_;rintro e wy ⟨rfl,hb⟩;refine oT hK hS hb fun hS=>?_
 clear hK K;have hSL:=hS.size;refine wR 12 fun K hK=>?_
 go_simp;refine Z7 (Ir.out _) ?_;rintro e w2 ⟨v,rfl,hv,hb⟩;obtain⟨ia,lm,ic,rfl⟩:=ZA hv;refine oT hK hS hb fun hS=>?_
 clear hK K;refine wR 13 fun K hK=>?_
 go_simp;refine hK.out _ _ hS fun hS=>?_
 clear hK K;refine wD ?_
 try simp only[pV]
 try simp only[pV]
 clear p0 p1 p2 p3 p4 p5 q0 q1 q2 q3 q4 q5;obtain⟨iv,oh,nG,iX,afD,afE,afF⟩:=fO hv (by omega);obtain⟨ja,jc,ix⟩:=iv;simp only[ah.val] at oh nG iX afD afE afF;subst nG;injection oh with hi1 hi2 hi3;subst hi1 hi2 hi3;have uH:=hS;have Ve:Hid (IntsIn F w2 ⟨ia,ic,ix⟩):=⟨iX,fun _ z e=>HZ.out.high _ (Q4 HB1.out.size (Q4 hSL (afD z e))),afE,afF⟩
 have HG2:=Zh (pR.out.keep (Q9 (s:=fun b=>b<w1.heap.size) uH (fun _ h _=>h)) pR.out.lt);have HB2:=Zh (aG HB1.out uH);obtain⟨cn,hcn⟩:∃ n,n=ix.length:=⟨_,rfl⟩
 clear hS hSL hv iX afD afE afF uH a0 a1 a2 a3 a4 a5 a6 a7 a8 a9 fI fU a12;obtain⟨w3,hw3⟩:∃ x,w2.alloc (.cells #[.pointer (some (aD a 0)),.pointer (some (aD ra 0))] 100)=x:=⟨_,rfl⟩
 have hb3:Below w2.heap.size w2 w3:=by rw[<- hw3]; exact bU _ _
 have hB3:=aG HB2.out hb3;have abt:=vz.out F w3 w2.heap.size ra r ia ic 3 0 (HZ.out.next hB3) (by omega) (by omega) (Ve.out.below hb3) (Kh.out.below hB3) (VY.out.below hB3) MZ.out (by rw[<- hw3]; simp) (by rw[<- hw3]; simp);rw[<- HT3.out] at abt;have hf2:=HG2.out;obtain⟨a0,a1,a2,a3,a4,a5,a6,a7,a8,a9,fI,fU,a12⟩:=hf2.k13;have Sk:=hd hb3;rw[<- hcn] at abt aoH ⊢;have T9:=hd hcn;clear hb3 hB3 hf2 hcn;go_wp2_with fail;refine abt.mono ?_;rintro e w4 ⟨r1,rfl,hT,hr1,hr2,hb4⟩;obtain⟨w5,uL⟩:∃ x,w4.alloc (.cells #[.pointer (some (aD r1 0))] 100)=x:=⟨_,rfl⟩
 have hb5:Below w4.heap.size w4 w5:=by rw[<- uL]; exact bU _ _
 have HI5:=Zh (bJ.one (Q4 Sk.out.size hb4.size) (by rw[<- uL]; exact kG _ _) hT hb5 (Qq _) (Q4 Sk.out.size hr1) (Q8 hr2 hb5.size));have jZ:=Zh (aG Sk.out (aG hb4 hb5));clear abt hT hr1 hr2 hb4 hb5 hw3 a0 a1 a2 a3 a4 a5 a6 a7 a8 a9 fI fU a12;go_wp2;clear uL;go_loopw [9,42] (fun pv xv wr=>∃ (k:Nat) (bs:List (Nat × aW)),k<=cn/\xv=.int .i64 (k:Int)/\Hid (bs.map Prod.snd=JK k)/\Hid (bJ 120 100 F w2.heap.size wr pv bs)/\Hid (Below w2.heap.size w2 wr)) (fun _ xv _=>cn-(intOf xv).toNat)
 case atStart=>exact⟨0,[(r1,T3)],QQ _,rfl,by show _=_; rw[HJ0.out]; rfl,HI5.out,jZ.out⟩
 case round=>
  obtain⟨k,bs,hk,rfl,xI,HTI,jV⟩:=hrel;obtain⟨pa,pm,pc,rfl⟩:=ZA HTI.out.own;by_cases hlt:k<cn
  ·have hlt':k<ix.length:=by rw[<- T9.out]; exact hlt
   obtain⟨kb,vU,rfl,hkc⟩:=Qf (Qo jV.out Ve.out.at').2 hlt';have hck:=hkc k hlt';obtain⟨key,hkey⟩:∃ key,key=ix.getD k 0:=⟨_,rfl⟩
   rw[<- hkey] at hck;have abu:=HNO.out k hlt';have abv:=HHA.out k hlt';have abw:=fun m=>HMA.out k m hlt'
   rw[<- hkey] at abu abv abw;have hBw:=aG HB2.out jV.out;have HBw:=hd hBw;have hv:∀ z,(Value.slice pa pm pc).ownBlock=some z->w2.heap.size<=z/\z<wr.heap.size:=fun z e=>Zy HTI.out.own e
   have HVO:=Zh hv;obtain⟨FN,hFN⟩:∃ G:Nat->Prop,G=fun b=>F b/\b≠wr.heap.size:=⟨_,rfl⟩
   have wM:Hid (∀ b,FN b↔F b/\b≠wr.heap.size):=fun b=>by rw[hFN]
   have YK:=Zh (HTI.out.mono (fun b hb h=>(wM.out b).2 ⟨h,by omega⟩));obtain⟨G,hG⟩:∃ G,G=Fv FN (.slice pa pm pc):=⟨_,rfl⟩
   have HLW:Hid (W0.heap.size<=w.heap.size/\w.heap.size<=w2.heap.size/\w2.heap.size<=wr.heap.size):=⟨HZ.out.below.size,HB2.out.size,jV.out.size⟩
   have HZN:Hid (∀ x,Below wr.heap.size wr x->wr.heap.size<x.heap.size->Fz FN W0 x):=fun x hx hl=>by
    have h0:=(HZ.out.next hBw).next hx;have:=HLW.out;exact⟨h0.below,fun b hb=>(wM.out b).2 ⟨h0.low b hb,by have:=hb.lt; omega⟩,fun b hb=>(wM.out b).2 ⟨h0.high b hb,by omega⟩⟩
   have HZr:Hid (∀ x,Below wr.heap.size wr x->wr.heap.size<x.heap.size->Fz G W0 x):=fun x hx hl=>by
    rw[hG];exact (HZN.out x hx hl).own (fun g e=>by have:=hv g e; have:=HLW.out; omega)
   have aoU:Hid (aC 120 G wr a l):=by rw[hG]; exact (Kh.out.mono (G:=FN) (fun b hb h=>(wM.out b).2 ⟨h,by have:=HLW.out; omega⟩)).own hBw (fun z e=>Q4 HB2.out.size (hv z e).1)
   have aoV:Hid (aC 120 G wr ra r):=by rw[hG]; exact (VY.out.mono (G:=FN) (fun b hb h=>(wM.out b).2 ⟨h,by have:=HLW.out; omega⟩)).own hBw (fun z e=>Q4 HB2.out.size (hv z e).1)
   have ajm:Hid (IntsIn G wr ⟨some (aD kb vU),ic,ix⟩):=by
    rw[hG];exact (Ve.out.mono (G:=Fv FN (.slice pa pm pc)) (fun b hb h=>⟨(wM.out b).2 ⟨h,by have:=HLW.out; omega⟩,fun e=>by have:=(hv b e).1; omega⟩)).below jV.out
   have ajn:=HKC.out;have hfr:=HG2.out.keep (Q9 (s:=fun b=>b<w2.heap.size) jV.out (fun _ h _=>h)) HG2.out.lt;have HLX:=Zh HG2.out.lt;have pW:=hd hG;obtain⟨wq,hwq⟩:∃ x,x=wr:=⟨_,rfl⟩
   subst hwq;obtain⟨y1,hy1,hc1,hn1⟩:=bu wq #[.int .i64 4,.int .i64 0,.int .i64 0,.int .i64 0,.slice (some (aD kb vU)) cn ic,.int .i64 key,.slice none 0 0] 71;have hf1:=hfr.keep (Q9 (s:=fun b=>b<wq.heap.size) hc1 (fun _ h _=>h)) hfr.lt;obtain⟨a0,a1,a2,a3,a4,a5,a6,a7,a8,a9,fI,fU,a12⟩:=hf1.k13;obtain⟨n0,n1,n2,n3,n4,n5,n6⟩:=hn1.k7;obtain⟨p0,p1,p2,p3,p4,p5⟩:=Ua.out y1 (aG hBw hc1);obtain⟨q0,q1,q2,q3,q4,q5⟩:=HRC.out y1 (aG hBw hc1);have wO:=hd hc1;have HN1:=hd hn1;have Vh:=hd hf1;have HY1:=hd hy1;have Wn:Hid (∀ x,Below y1.heap.size y1 x->Calls Tryz.prog 227 #[.agg #[v0,v1,v2,v3,v4,v5,v6,v7,v8,v9,v10,v11,v12],.agg #[.int .i64 4,.int .i64 0,.int .i64 0,.int .i64 0,.slice (some (aD kb vU)) cn ic,.int .i64 key,.slice none 0 0],.agg #[.int .i64 plk,.int .u64 (pls:Int),.int .u64 (plc:Int),.slice Ow Ov Ox,.int .u64 (afB:Int),.int .u64 (plt:Int)],.agg #[.int .i64 prk,.int .u64 (prs:Int),.int .u64 (prc:Int),.slice pra prl prq,.int .u64 (prz:Int),.int .u64 (prt:Int)]] x fun e w'=>e=.returned (.tuple #[.int .i64 (KP key).1,.int .i64 (KP key).2.1,.bool (KP key).2.2])/\Below x.heap.size x w'):=fun x hx=>by
    have:=ajn x (some (aD kb vU)) ic key (aG hBw (aG hc1 hx)) (ajm.out.below (aG hc1 hx)).at';rw[<- T9.out] at this;exact this
   have HL1:=Zh hn1.lt;clear hkc hkey hlt' hG hFN hv hfr hBw hc1 hn1 hf1 hy1 ajn;generalize (KP key).1=k1 at *;generalize (KP key).2.1=k2 at *;generalize hk3:(KP key).2.2=k3 at *;clear hk3;go_wp2_with fail;rw[HY1.out];clear HY1;refine wH y1 fun hS=>?_
   refine wT 0 (.agg #[v0,v1,v2,v3,v4,v5,v6,v7,v8,v9,v10,v11,v12]) hS (fun x hx=>?_) ?_
   ·have e0:=qd hx a0 a1 a2 a3 a4 a5 a6 a7 a8 a9 fI fU a12;go_simp
   refine wT 1 (.agg #[.int .i64 4,.int .i64 0,.int .i64 0,.int .i64 0,.slice (some (aD kb vU)) cn ic,.int .i64 key,.slice none 0 0]) hS (fun x hx=>?_) ?_
   ·have e0:=TP hx n0 n1 n2 n3 n4 n5 n6;go_simp
   refine wt 2 (.pointer (some (aD a 0))) hS ?_;refine wt 3 (.pointer (some (aD a 0))) hS ?_;refine wt 4 (.pointer (some (aD a 0))) hS ?_;refine wT 5 (.agg #[.int .i64 plk,.int .u64 (pls:Int),.int .u64 (plc:Int),.slice Ow Ov Ox,.int .u64 (afB:Int),.int .u64 (plt:Int)]) hS (fun x hx=>?_) ?_
   ·have e0:=cR6 hx p0 p1 p2 p3 p4 p5;go_simp
   refine wt 6 (.pointer (some (aD ra 0))) hS ?_;refine wt 7 (.pointer (some (aD ra 0))) hS ?_;refine wt 8 (.pointer (some (aD ra 0))) hS ?_;refine wT 9 (.agg #[.int .i64 prk,.int .u64 (prs:Int),.int .u64 (prc:Int),.slice pra prl prq,.int .u64 (prz:Int),.int .u64 (prt:Int)]) hS (fun x hx=>?_) ?_
   ·have e0:=cR6 hx q0 q1 q2 q3 q4 q5;go_simp
   refine wR 10 fun K hK=>?_
   go_simp;refine Z7 (Wn.out _ hS) ?_;rintro e y2 ⟨rfl,hb⟩;refine oT hK hS hb fun hS=>?_
   clear hK K;refine wt 11 (.tuple #[.int .i64 k1,.int .i64 k2,.bool k3]) hS ?_;refine wt 12 (.int .i64 k1) hS ?_;refine wt 13 (.int .i64 k2) hS ?_;refine wt 14 (.bool k3) hS ?_;refine wt 15 (.int .i64 k1) hS ?_;refine wt 16 (.int .i64 k2) hS ?_;refine wR 17 fun K hK=>?_
   go_simp;refine hK.out _ _ hS fun hS=>?_
   clear hK K;refine wD ?_
   try simp only[pV]
   try simp only[pV]
   clear p0 p1 p2 p3 p4 p5 q0 q1 q2 q3 q4 q5 hck a0 a1 a2 a3 a4 a5 a6 a7 a8 a9 fI fU a12 n0 n1 n2 n3 n4 n5 n6;have tY:=hd hS;clear hS
   cases k3 with
   | false =>
    have pX:=Zh (abu rfl);have HF:Hid (bJ 120 100 F w2.heap.size y2 (.slice pa pm pc) bs/\Below w2.heap.size w2 y2):=⟨(HTI.out.below wO.out).below tY.out,aG jV.out (aG wO.out tY.out)⟩
    clear abu abv abw;go_wp2;go_roundw
    case rel=>exact⟨k+1,bs,by omega,by go_num,xI.out.trans pX.out.symm,HF.out.1,HF.out.2⟩
    case measure=>simp[intOf]; omega
   | true =>
    have aby:=Zh (abv rfl);have abz:Hid _:=fun m=>abw m rfl
    clear abu abv abw;have hn2:=HN1.out.keep (Q9 (s:=fun b=>b<y1.heap.size) tY.out (fun _ h _=>h)) HN1.out.lt;have hf2:=Vh.out.keep (Q9 (s:=fun b=>b<y1.heap.size) tY.out (fun _ h _=>h)) Vh.out.lt;obtain⟨a0,a1,a2,a3,a4,a5,a6,a7,a8,a9,fI,fU,a12⟩:=hf2.k13;obtain⟨n0,n1,n2,n3,n4,n5,n6⟩:=hn2.k7;obtain⟨y3,hy3⟩:∃ x,y2.alloc (.cells #[.pointer (some (aD a 0)),.pointer (some (aD ra 0))] 100)=x:=⟨_,rfl⟩
    have hc3:Below y2.heap.size y2 y3:=by rw[<- hy3]; exact bU _ _
    have abA:=Zh (aG wO.out (aG tY.out hc3));have abB:=vz.out G y3 y2.heap.size ra r (some (aD kb vU)) ic 4 key (HZr.out y3 abA.out (Q8 HL1.out (Q4 tY.out.size hc3.size))) (by omega) (by omega) (ajm.out.below abA.out) (aoU.out.below abA.out) (aoV.out.below abA.out) MZ.out (by rw[<- hy3]; simp) (by rw[<- hy3]; simp);rw[<- T9.out] at abB;obtain⟨T4,hT4⟩:∃ t,t=aP ts q (eu 4 ix key) [l,r]:=⟨_,rfl⟩
    rw[<- hT4] at abB aby abz;have HN2:=hd hn2;have HF2:=hd hf2;have ajp:=hd hc3;clear hn2 hf2 hc3 hT4;go_wp2_with fail;refine abB.mono ?_;rintro e y4 ⟨r4,rfl,hT,hr1,hr2,hb4⟩;have abC:=Zh (aG ajp.out hb4);have Wo:=Zh (aG wO.out (aG tY.out abC.out));have hbl:(bs.map Prod.fst).length=bs.length:=QU _;have Wu:bs.length<=20:=by have h1:=congrArg List.length xI.out; rw[QU] at h1; rw[h1]; exact HJL.out k
    obtain⟨v5,y5,pO,lD,hk5,⟨za,zm,zc,rfl⟩,rq⟩:=vB y4 w2.heap.size (.slice pa pm pc) (bs.map Prod.fst) (by rw[hbl]; exact (HTI.out.below Wo.out).own) (by rw[hbl]; omega) (Q4 jV.out.size Wo.out.size) r4 118;have ac9:(Value.slice za zm zc).ownBlock=(Value.slice pa pm pc).ownBlock∨∃ z,(Value.slice za zm zc).ownBlock=some z/\y4.heap.size<=z:=by
     rcases rq with h | h
     ·exact .inl h
     ·exact .inr ⟨_,h,by omega⟩
    have Sl:=Zh ((YK.out.below wO.out).push (aG tY.out abC.out) (by rw[pW.out] at hT; exact hT) (Q4 tY.out.size (Q4 ajp.out.size hr1)) hr2 (Q4 jV.out.size wO.out.size) lD hk5 ac9);have afG:=(Q9 abC.out (fun _ h _=>h)).trans hk5;have I5:=Zh ((aG jV.out Wo.out).trans (hk5.below (Q4 jV.out.size Wo.out.size) (fun b hb e=>by have:=(HVO.out b e).1; omega)));have Fj:=HF2.out.keep afG (fun e=>by have:=(HVO.out _ e).1; have:=HLX.out; omega);have hn5:=HN2.out.keep afG (fun e=>by have:=(HVO.out _ e).2; omega);have HF5:=hd Fj;have HN5:=hd hn5;obtain⟨G5,hG5⟩:∃ G,G=Fv FN (.slice za zm zc):=⟨_,rfl⟩
    have ajr:=Zh hG5;have hv5:∀ z,(Value.slice za zm zc).ownBlock=some z->w2.heap.size<=z/\z<y5.heap.size:=fun z e=>Zy Sl.out.own e
    have Sm:=aG HB2.out I5.out;have aoW:Hid (aX 120 195 G5 y5 gb A os g):=by rw[hG5]; exact (HGG.out.mono (G:=Fv FN (.slice za zm zc)) (fun b hb h=>⟨(wM.out b).2 ⟨h,by have:=HLW.out; omega⟩,fun e=>by have:=(hv5 b e).1; have:=HB2.out.size; omega⟩)).below Sm
    have HL5:=Zh hn5.lt;have aoX:Hid (Fz FN W0 y5):=⟨(HZ.out.next Sm).below,(HZN.out y4 Wo.out (Q8 HL1.out (Q4 tY.out.size abC.out.size))).low,fun b hb=>(wM.out b).2 ⟨(HZ.out.next Sm).high b hb,by have:=HL5.out; omega⟩⟩
    have HZ5:Hid (Fz G5 W0 y5):=by rw[hG5]; exact Sl.out.fz aoX.out (Q4 HZ.out.below.size HB2.out.size)
    have aoY:Hid (aC 120 G5 y5 a l):=by rw[hG5]; exact (Kh.out.mono (G:=FN) (fun b hb h=>(wM.out b).2 ⟨h,by have:=HLW.out; omega⟩)).own Sm (fun z e=>Q4 HB2.out.size (hv5 z e).1)
    have aoZ:Hid (IntsIn G5 y5 ⟨some (aD kb vU),ic,ix⟩):=by
     rw[hG5];exact (Ve.out.mono (G:=Fv FN (.slice za zm zc)) (fun b hb h=>⟨(wM.out b).2 ⟨h,by have:=HLW.out; omega⟩,fun e=>by have:=(hv5 b e).1; omega⟩)).below I5.out
    have ajs:=hd Sm;have abD:Hid ((bs++[(r4,T4)]).length<=21/\(bs++[(r4,T4)]).map Prod.snd=JK k++[T4]):=⟨by simp; omega,by rw[Ql,xI.out]; rfl⟩
    have ajt:=HSB.out G5 y5 k2 aoW.out;clear abB hT hr1 hr2 hb4 hbl Wu lD hk5 rq ac9 afG hG5 hv5 Sm Fj hn5 hy3;generalize bs++[(r4,T4)]=bs5 at *;go_wp2_with (first | (at_builtin; refine ZN rfl (.tmp 66) (.tmp 73) 118 rfl (.slice pa pm pc) (.slice (some (aD y4.heap.size 0)) 1 1) (.slice za zm zc) y5 rfl rfl pO ?_));clear pO a0 a1 a2 a3 a4 a5 a6 a7 a8 a9 fI fU a12 n0 n1 n2 n3 n4 n5 n6;go_wp2_with fail;refine ajt.mono ?_;rintro e y6 ⟨mv,rfl,hmt,hb6⟩;have ao0:=Zh ((Sl.out.below hb6).mono (fun b _ h=>((wM.out b).1 h).1));have ao1:=Zh (aG I5.out hb6);clear ajt;rcases hmt with⟨hm0,rfl⟩ | ⟨m,mb,hm0,rfl,hmT⟩
    ·have pX:=Zh (aby.out hm0);clear hm0 hb6 aby abz;go_wp2;go_roundw
     case rel=>exact⟨k+1,bs5,by omega,by go_num,abD.out.2.trans pX.out.symm,ao0.out,ao1.out⟩
     case measure=>simp[intOf]; omega
    ·have abF:=abz.out m hm0;have HMO:=Zh (HMT.out _ m hm0);have HMB:=hd hmT;obtain⟨p0,p1,p2,p3,p4,p5⟩:=Ua.out y6 (aG ajs.out hb6);clear p0 p1 p2 p4 p5;obtain⟨y7,hy7⟩:∃ x,y6.alloc (.cells #[.int .i64 k1] 3)=x:=⟨_,rfl⟩
     have hc7:Below y6.heap.size y6 y7:=by rw[<- hy7]; exact bU _ _
     have hBG:=Uc.out y7 y6.heap.size k1 (aG ajs.out (aG hb6 hc7)) (by rw[<- hy7]; simp);have HC7:=Zh (aG hb6 hc7);have ao3:=hd hc7;generalize bO l.d.order [k1]=SB at *;clear hm0 hb6 aby abz hmT hc7;go_wp2_with fail;refine hBG.mono ?_;rintro e y8 ⟨rfl,hb8⟩;have Si:=Zh (aG HC7.out hb8);have ao4:=Zh (aG ao3.out hb8);clear hBG hb8 hy7 p3
     cases SB with
     | false =>
      have pX:=hd abF;have HF:Hid (bJ 120 100 F w2.heap.size y8 (.slice za zm zc) bs5/\Below w2.heap.size w2 y8):=⟨(Sl.out.below Si.out).mono (fun b _ h=>((wM.out b).1 h).1),aG I5.out Si.out⟩
      clear abF;go_wp2;go_roundw
      case rel=>exact⟨k+1,bs5,by omega,by go_num,abD.out.2.trans pX.out.symm,HF.out.1,HF.out.2⟩
      case measure=>simp[intOf]; omega
     | true =>
      obtain⟨T5,Ud⟩:∃ t,t=aP ts q (eu 5 ix key) [l,m]:=⟨_,rfl⟩
      have pX:Hid (JK (k+1)=JK k++[T4]++[T5]):=by rw[Ud]; exact abF
      have hn8:=HN5.out.keep (Q9 (s:=fun b=>b<y5.heap.size) Si.out (fun _ h _=>h)) HN5.out.lt;have hf8:=HF5.out.keep (Q9 (s:=fun b=>b<y5.heap.size) Si.out (fun _ h _=>h)) HF5.out.lt;have n0:=hn8.at 0;have z0:=hn8.frozen 0;clear abF;go_upto_region 14 with fail;obtain⟨y9,hy9⟩:∃ x,x=y8.setCell (aD wq.heap.size 0) (.int .i64 5):=⟨_,rfl⟩
      rw[<- hy9];have hn9:GB y9 wq.heap.size 71 #[.int .i64 5,.int .i64 0,.int .i64 0,.int .i64 0,.slice (some (aD kb vU)) cn ic,.int .i64 key,.slice none 0 0]:=by rw[hy9]; exact hn8.set 0 _
      have Jo:Kept (fun b=>b≠wq.heap.size) y8 y9:=by rw[hy9]; exact Zv _ _ _ (fun h=>h rfl)
      have hf9:=hf8.keep Jo (by have:=HLX.out; have:=jV.out.size; show w.heap.size≠wq.heap.size; omega);clear hy9 n0 z0 hn8 hf8;obtain⟨a0,a1,a2,a3,a4,a5,a6,a7,a8,a9,fI,fU,a12⟩:=hf9.k13;obtain⟨n0,n1,n2,n3,n4,n5,n6⟩:=hn9.k7;have aju:Below wq.heap.size y8 y9:=Jo.below (by have:=Si.out.size; have:=HL5.out; omega) (fun b hb=>by omega);have hW9:=(aG I5.out Si.out).trans (aju.mono jV.out.size);have ajv:=Zh (XR Sl.out.own HN5.out (by decide));have M0:Hid (∀ b,G5 b->b≠wq.heap.size):=fun b h=>by rw[ajr.out] at h; exact ((wM.out b).1 h.1).2
      have hZ9:=(HZ5.out.next Si.out).kept' Jo (fun b hb=>by have:=HLW.out; have:=hb.lt; omega);have ajw:=(aoY.out.below Si.out).aT (Jo.mono (fun b _ h=>M0.out b h));have ajx:=(HMB.out.below ao4.out).aT (Jo.mono (fun b _ h=>M0.out b h));have ajy:=(aoZ.out.below Si.out).aT (Jo.mono (fun b _ h=>M0.out b h));obtain⟨x1,hx1⟩:∃ x,y9.alloc (.cells #[.pointer (some (aD a 0)),.pointer (some (aD mb 0))] 100)=x:=⟨_,rfl⟩
      have hd1:Below y9.heap.size y9 x1:=by rw[<- hx1]; exact bU _ _
      have afJ:=vz.out G5 x1 y9.heap.size mb m (some (aD kb vU)) ic 5 key (hZ9.next hd1) (by omega) (by omega) (ajy.below hd1) (ajw.below hd1) (ajx.below hd1) HMO.out (by rw[<- hx1]; simp) (by rw[<- hx1]; simp);rw[<- T9.out,<- Ud] at afJ;have HD1:=hd hd1;have HW9:=hd hW9;have afK:=Zh ((Sl.out.below Si.out).ajh Jo (fun b h=>((wM.out b).1 h).2) (fun g e h=>ajv.out (h ▸ e)));clear Ud hn9 hf9 Jo aju hW9 hZ9 ajw ajx ajy hd1;go_wp2_with fail;refine afJ.mono ?_;rintro e x2 ⟨r5,rfl,hT,hr1,hr2,hb2⟩;have HD2:=Zh (aG HD1.out hb2);have hbl:(bs5.map Prod.fst).length=bs5.length:=QU _;have Wu:=abD.out.1;obtain⟨v6,x3,hr6,Wv,mQ,⟨ua,um,uc,rfl⟩,ajz⟩:=vB x2 w2.heap.size (.slice za zm zc) (bs5.map Prod.fst) (by rw[hbl]; exact (afK.out.below HD2.out).own) (by rw[hbl]; omega) (Q4 HW9.out.size HD2.out.size) r5 118;have ada:(Value.slice ua um uc).ownBlock=(Value.slice za zm zc).ownBlock∨∃ z,(Value.slice ua um uc).ownBlock=some z/\x2.heap.size<=z:=by
       rcases ajz with h | h
       ·exact .inl h
       ·exact .inr ⟨_,h,by omega⟩
      have HF:Hid (bJ 120 100 F w2.heap.size x3 (.slice ua um uc) (bs5++[(r5,T5)])/\Below w2.heap.size w2 x3):=⟨(afK.out.push HD2.out (by rw[ajr.out] at hT; exact hT) (Q4 HD1.out.size hr1) hr2 HW9.out.size Wv mQ ada).mono (fun b _ h=>((wM.out b).1 h).1),(aG HW9.out HD2.out).trans (mQ.below (Q4 HW9.out.size HD2.out.size) (fun b hb e=>by have:=(Zy afK.out.own e).1; omega))⟩
      have HSN:Hid ((bs5++[(r5,T5)]).map Prod.snd=JK (k+1)):=by show _=_; rw[Ql,abD.out.2,pX.out]; rfl
      clear afJ hT hr1 hr2 hb2 hbl Wu Wv mQ ajz ada hx1;generalize bs5++[(r5,T5)]=bs6 at *;go_wp2_with (first | (at_builtin; refine ZN rfl (.tmp 91) (.tmp 98) 118 rfl (.slice za zm zc) (.slice (some (aD x2.heap.size 0)) 1 1) (.slice ua um uc) x3 rfl rfl hr6 ?_));clear hr6 a0 a1 a2 a3 a4 a5 a6 a7 a8 a9 fI fU a12 n0 n1 n2 n3 n4 n5 n6;go_wp2;go_roundw
      case rel=>exact⟨k+1,bs6,by omega,by go_num,HSN.out,HF.out.1,HF.out.2⟩
      case measure=>simp[intOf]; omega
  ·have hkc:cn=k:=by omega
   have HF:Hid (bs.map Prod.snd=R):=by
    have:=xI.out;rw[<- hkc,T9.out,HJE.out] at this;exact this
   clear hkc;go_wp2;go_ret;exact⟨.slice pa pm pc,bs,rfl,HF.out,HTI.out.base HB2.out.size,aG HB2.out jV.out⟩

import Derived.Test.YtlpbelhfpoilpabGreatDoorC01
import Derived.Test.YtlpbelhfpoilpabGreatDoorC17
import Derived.Test.YtlpbelhfpoilpabGreatDoorC20
import Derived.Test.YtlpbelhfpoilpabGreatDoorC21
import Derived.Test.YtlpbelhfpoilpabGreatDoorC22
import Derived.Test.YtlpbelhfpoilpabGreatDoorC25
set_option linter.all false
set_option maxRecDepth 100000
set_option maxHeartbeats 16000000
namespace Go.Scout
open Go.RowKit
theorem joinS_len (ts:List TableD) (q:QueryV) (l r:TrD) (g:List PlaceD) (cl:List Int) (acc:List TrD) (key:Int):(joinS ts q l r g cl acc key).length<=acc.length+2:=by
 unfold joinS;simp only;split
 ·split
  ·simp
  ·split <;> simp
 ·omega
theorem joinsS_len (ts:List TableD) (q:QueryV) (l r:TrD) (g:List PlaceD) (cl:List Int):∀ (ks:List Int) (acc:List TrD),(ks.foldl (joinS ts q l r g cl) acc).length<=acc.length+2*ks.length
 | [],_ => by simp
 | k::ks,acc => by
  refine Nat.le_trans (joinsS_len ts q l r g cl ks _) ?_;have:=joinS_len ts q l r g cl acc k;simp only[List.length_cons];omega
theorem risI_len (s:Nat):(risI s).length<=64:=by
 unfold risI risingN;rw[List.length_map];exact Nat.le_trans (List.length_filter_le _ _) (by simp)
theorem risI_len8 {s n:Nat} (h:s<2 ^ n) (hn:n<=64):(risI s).length<=n:=by
 unfold risI risingN;rw[List.length_map];have h2:∀ m,((List.range m).filter fun i=>s.testBit i).length<=min m n:=by
  intro m
  induction m with
  | zero => simp
  | succ m ih =>
   rw[List.range_succ,List.filter_append,List.length_append];by_cases hb:s.testBit m=true
   ·have hm:m<n:=by
     by_cases hmn:m<n
     ·exact hmn
     ·rw[Nat.testBit_lt_two_pow (Nat.lt_of_lt_of_le h (Nat.pow_le_pow_right (by omega) (by omega)))] at hb
      cases hb
    simp[hb];omega
   ·simp[hb];omega
 exact Nat.le_trans (h2 64) (by omega)
theorem TreesIn.base {T Tp:TypeId} {F:Nat->Prop} {base base':Nat} {w:World} {v:Value} {bs:List (Nat × TrD)} (h:TreesIn T Tp F base w v bs) (hb:base'<=base):TreesIn T Tp F base' w v bs:=
 ⟨ownsRow_base h.own hb,fun x hx=>⟨(h.tree x hx).1,Nat.le_trans hb (h.tree x hx).2.1,(h.tree x hx).2.2⟩,h.rise⟩
theorem TreesIn.fz {T Tp:TypeId} {F:Nat->Prop} {base:Nat} {W0 w:World} {v:Value} {bs:List (Nat × TrD)} (h:TreesIn T Tp F base w v bs) (hz:Fz F W0 w) (hb:W0.heap.size<=base):Fz (Fv F v) W0 w:=hz.own fun g e=>⟨Nat.le_trans hb (ownsRow_lt h.own e).1,(ownsRow_lt h.own e).2⟩
theorem TreesIn.mono {T Tp:TypeId} {F G:Nat->Prop} {base:Nat} {w:World} {v:Value} {bs:List (Nat × TrD)} (h:TreesIn T Tp F base w v bs) (hs:∀ b,b<w.heap.size->F b->G b):TreesIn T Tp G base w v bs:=
 ⟨h.own,fun x hx=>⟨(h.tree x hx).1.mono (fun b hb hf=>⟨hs b hb hf.1,hf.2⟩),(h.tree x hx).2⟩,h.rise⟩
theorem TreesIn.keptS {T Tp:TypeId} {F s:Nat->Prop} {base:Nat} {w w':World} {v:Value} {bs:List (Nat × TrD)} (h:TreesIn T Tp F base w v bs) (hk:Kept s w w') (hF:∀ b,F b->s b) (hv:∀ g,v.ownBlock=some g->s g):TreesIn T Tp F base w' v bs:=
 ⟨ownsRow_keep h.own hk hv,fun x hx=>⟨(h.tree x hx).1.keptF (hk.mono fun b _ hb=>hF b hb.1),(h.tree x hx).2.1,Nat.lt_of_lt_of_le (h.tree x hx).2.2 hk.size⟩,h.rise⟩
theorem joinS_no {ts:List TableD} {q:QueryV} {l r:TrD} {g:List PlaceD} {cl:List Int} {acc:List TrD} {key:Int} (h:(keyP ts q (joinK 4 cl key) l.d.sources r.d.sources).2.2=false):joinS ts q l r g cl acc key=acc:=by
 unfold joinS;simp only;rw[h];rfl
theorem joinS_hash {ts:List TableD} {q:QueryV} {l r:TrD} {g:List PlaceD} {cl:List Int} {acc:List TrD} {key:Int} (h:(keyP ts q (joinK 4 cl key) l.d.sources r.d.sources).2.2=true) (hm:mateN g (keyP ts q (joinK 4 cl key) l.d.sources r.d.sources).2.1=none):joinS ts q l r g cl acc key=acc++[growT ts q (joinK 4 cl key) [l,r]]:=by
 unfold joinS;simp only;rw[if_pos h,hm]
theorem joinS_mate {ts:List TableD} {q:QueryV} {l r m:TrD} {g:List PlaceD} {cl:List Int} {acc:List TrD} {key:Int} (h:(keyP ts q (joinK 4 cl key) l.d.sources r.d.sources).2.2=true) (hm:mateN g (keyP ts q (joinK 4 cl key) l.d.sources r.d.sources).2.1=some m):joinS ts q l r g cl acc key=if startsB l.d.order [(keyP ts q (joinK 4 cl key) l.d.sources r.d.sources).1]=true then acc++[growT ts q (joinK 4 cl key) [l,r]]++[growT ts q (joinK 5 cl key) [l,m]] else acc++[growT ts q (joinK 4 cl key) [l,r]]:=by
 unfold joinS;simp only;rw[if_pos h,hm]
end Go.Scout
namespace Go.Proofs.YtlpbelhfpoilpabGreatDoor
open Go.RowKit Go.Scout Go.Shelf
theorem joined_any {F:Nat->Prop} {W0 w:World} {f:FactsV} {ts:List TableD} {q:QueryV} (E:Env f ts q W0) (hz:Fz F W0 w) (a:Nat) (l:TrD) (ht:TreeF 95 F w a l) (hlo:TOk q l) {gb:Nat} {A:Nat->Nat} {os:List IntsV} {g:List PlaceD} (hg:GrpAt 95 141 F w gb A os g) (hgl:g.length<=20) (gc:Nat) (hgo:∀ p∈g,∀ x,p.2=some x->TOk q x.2) (hs:(headP g).isSome=true) :
  Calls Tryz.prog 111 #[.agg (f.cells ts q),.pointer (some (aD a 0)),.slice (some (aD gb 0)) g.length gc] w (TreesPost 95 85 F w (joinedT ts q (concL ts q) l g)):=by
 obtain⟨v0,v1,v2,v3,v4,v5,v6,v7,v8,v9,v10,v11,v12,hFC,-⟩:=factsCells f ts q;obtain⟨r,hr⟩:=Option.isSome_iff_exists.1 hs;obtain⟨y,hy,hyr⟩:=headP_get hr;have hg0:0<g.length:=by
  cases g with
  | nil => cases hs
  | cons _ _ => simp
 have hrt:=hg.tree _ (getD_memP hg0) y hy;rw[hyr] at hrt;have hro:TOk q r:=by rw[<- hyr]; exact hgo _ (getD_memP hg0) y hy
 have hAP0:=anyPiece_any hg hg0 gc;have HAP:Hid (∀ x,Below w.heap.size w x->Calls Tryz.prog 128 #[.slice (some (aD gb 0)) g.length gc] x fun e w'=>e=.returned (.pointer (some (aD (A y.1) 0)))/\w' = x):=fun x hx=>by
  have:=anyPiece_any (hg.below hx) hg0 gc;rw[hy] at this;exact this
 obtain⟨pl,hPl,hpld⟩:=ht.partIn;obtain⟨pr,hPr,hprd⟩:=hrt.partIn;have esl:pl.sources=l.d.sources:=congrArg PartD.sources hpld;have esr:pr.sources=r.d.sources:=congrArg PartD.sources hprd;have eol:pl.order.xs=l.d.order:=congrArg PartD.order hpld;obtain⟨CL,hCL⟩:∃ CL,CL=risI (betweenP (concL ts q) l.d.sources r.d.sources):=⟨_,rfl⟩
 have hbt:=between_lt (concL ts q) l.d.sources r.d.sources;rw[concL_len] at hbt;have hcl8:CL.length<=8:=by rw[hCL]; exact Nat.le_trans (risI_len8 hbt (by have:=E.eight; omega)) E.eight
 have hsm:SmallL q.wh.length CL:=by rw[hCL]; exact risI_small hbt
 have HJ:Hid (joinedT ts q (concL ts q) l g=CL.foldl (joinS ts q l r g CL) [growT ts q (joinK 3 CL 0) [l,r]]):=by
  show _=_
  unfold joinedT;simp only;rw[hr,hCL];rfl
 have HBT:Hid (∀ x,Below w.heap.size w x->Calls Tryz.prog 132 #[.agg #[v0,v1,v2,v3,v4,v5,v6,v7,v8,v9,v10,v11,v12],.int .u64 (pl.sources:Int),.int .u64 (pr.sources:Int)] x fun e w'=>e=.returned (.int .u64 ((betweenP (concL ts q) l.d.sources r.d.sources:Nat):Int))/\Below x.heap.size x w'):=fun x hx=>by
  rw[<- hFC,esl,esr];exact between_any E (hz.next hx) _ _ hlo.src hro.src
 have HLI:Hid (∀ x,Calls Tryz.prog 80 #[.int .u64 ((betweenP (concL ts q) l.d.sources r.d.sources:Nat):Int)] x fun e w'=>∃ v,e=.returned v/\w'.ownsRow x.heap.size 3 1 v CL.length (CL.map (Value.int .i64))/\Below x.heap.size x w'):=fun x=>by
  rw[hCL];exact list_any _ (Nat.lt_of_lt_of_le hbt (Nat.le_trans (Nat.pow_le_pow_right (n:=2) (by omega) E.eight) (by decide))) x
 have HGR:Hid (∀ (G:Nat->Prop) (x:World) (b mb:Nat) (mt:TrD) (ia:Option Addr) (ic:Nat) (kind key:Int),Fz G W0 x->3<=kind->kind<=5->IntsIn G x ⟨ia,ic,CL⟩->TreeF 95 G x a l->TreeF 95 G x mb mt->TOk q mt->x.cell? (aD b 0)=some (.pointer (some (aD a 0)))->x.cell? (aD b 1)=some (.pointer (some (aD mb 0)))->Calls Tryz.prog 64 #[.agg #[v0,v1,v2,v3,v4,v5,v6,v7,v8,v9,v10,v11,v12],.agg #[.int .i64 kind,.int .i64 0,.int .i64 0,.int .i64 0,.slice ia CL.length ic,.int .i64 key,.slice none 0 0],.slice (some (aD b 0)) 2 2] x (TreePost 95 G x (growT ts q (joinK kind CL key) [l,mt]))):=fun G x b mb mt ia ic kind key hx h3 h5 hi hta htb hmo hc hc'=>by
  rw[<- hFC];exact grow_two E hx ⟨kind,0,0,0,⟨ia,ic,CL⟩,key,nilV⟩ ⟨hi.at',hi.inf,hi.nil,nilV_at x,InF.nil _ _,fun _=>rfl,Nat.le_refl _,by show CL.length<=1000; omega,Nat.zero_le _⟩ a mb b l mt hta hlo htb hmo hc hc' h3 h5 hsm
 obtain⟨KP,hKP⟩:∃ KP:Int->Int × Int × Bool,KP=fun key=>keyP ts q (joinK 4 CL key) l.d.sources r.d.sources:=⟨_,rfl⟩
 have HKC:Hid (∀ (x:World) (ia:Option Addr) (ic:Nat) (key:Int),Below w.heap.size w x->IntsAt x ia CL->Calls Tryz.prog 133 #[.agg #[v0,v1,v2,v3,v4,v5,v6,v7,v8,v9,v10,v11,v12],.agg #[.int .i64 4,.int .i64 0,.int .i64 0,.int .i64 0,.slice ia CL.length ic,.int .i64 key,.slice none 0 0],.agg #[.int .i64 pl.kind,.int .u64 (pl.sources:Int),.int .u64 (pl.clauses:Int),.slice pl.order.ad pl.order.xs.length pl.order.cap,.int .u64 (pl.size:Int),.int .u64 (pl.cost:Int)],.agg #[.int .i64 pr.kind,.int .u64 (pr.sources:Int),.int .u64 (pr.clauses:Int),.slice pr.order.ad pr.order.xs.length pr.order.cap,.int .u64 (pr.size:Int),.int .u64 (pr.cost:Int)]] x fun e w'=>e=.returned (.tuple #[.int .i64 (KP key).1,.int .i64 (KP key).2.1,.bool (KP key).2.2])/\Below x.heap.size x w'):=fun x ia ic key hx hi=>by
  have:=keyColumns_any f ts q ⟨4,0,0,0,⟨ia,ic,CL⟩,key,nilV⟩ pl pr x E.ok ((E.at' hz).below hx) hi hPl.ok.sources hPr.ok.sources;rw[<- hFC,hKP];simp only;rw[<- esl,<- esr];exact this
 have HSB:Hid (∀ (G:Nat->Prop) (x:World) (col:Int),GrpAt 95 141 G x gb A os g->Calls Tryz.prog 134 #[.slice (some (aD gb 0)) g.length gc,.int .i64 col] x fun e w'=>∃ pv,e=.returned pv/\PtrTo 95 G w' pv (mateN g col)/\Below x.heap.size x w'):=fun G x col hx=>sortedBy_any hx hgl gc col
 have HBG:Hid (∀ (x:World) (c:Nat) (col:Int),Below w.heap.size w x->x.cell? (aD c 0)=some (.int .i64 col)->Calls Tryz.prog 135 #[.slice pl.order.ad pl.order.xs.length pl.order.cap,.slice (some (aD c 0)) 1 1] x fun e w'=>e=.returned (.bool (startsB l.d.order [col]))/\Below x.heap.size x w'):=fun x c col hx hc=>by
  rw[<- eol];exact begins_any pl.order.ad (some (aD c 0)) pl.order.cap 1 pl.order.xs [col] x (IntsAt.below hx hPl.ok.order) ⟨by simp,fun i hi=>⟨c,0,rfl,by
   have:i=0:=by simpa using hi
   subst this;exact hc⟩⟩ hPl.ok.cap
 have HMT:Hid (∀ col m,mateN g col=some m->TOk q m):=fun col m hm=>by
  rcases mate_in col _ none m hm with h0 | ⟨n,hn⟩
  ·cases h0
  ·rcases pieces_in g [] _ hn with h0 | ⟨p,hp,e⟩
   ·cases h0
   ·exact hgo p hp _ e
 obtain⟨JK,hJK⟩:∃ J:Nat->List TrD,J=fun k=>(CL.take k).foldl (joinS ts q l r g CL) [growT ts q (joinK 3 CL 0) [l,r]]:=⟨_,rfl⟩
 have HST:Hid (∀ k,k<CL.length->JK (k+1)=joinS ts q l r g CL (JK k) (CL.getD k 0)):=fun k hk=>by rw[hJK]; exact foldl_takeR _ _ CL 0 hk
 have HNO:Hid (∀ k,k<CL.length->(KP (CL.getD k 0)).2.2=false->JK (k+1)=JK k):=fun k hk e=>by rw[HST.out k hk]; rw[hKP] at e; exact joinS_no e
 have HHA:Hid (∀ k,k<CL.length->(KP (CL.getD k 0)).2.2=true->mateN g (KP (CL.getD k 0)).2.1=none->JK (k+1)=JK k++[growT ts q (joinK 4 CL (CL.getD k 0)) [l,r]]):=fun k hk e em=>by rw[HST.out k hk]; rw[hKP] at e em; exact joinS_hash e em
 have HMA:Hid (∀ k m,k<CL.length->(KP (CL.getD k 0)).2.2=true->mateN g (KP (CL.getD k 0)).2.1=some m->JK (k+1)=if startsB l.d.order [(KP (CL.getD k 0)).1]=true then JK k++[growT ts q (joinK 4 CL (CL.getD k 0)) [l,r]]++[growT ts q (joinK 5 CL (CL.getD k 0)) [l,m]] else JK k++[growT ts q (joinK 4 CL (CL.getD k 0)) [l,r]]):=fun k m hk e em=>by rw[HST.out k hk]; rw[hKP] at e em ⊢; exact joinS_mate e em
 have HJL:Hid (∀ k,(JK k).length<=20):=fun k=>by
  rw[hJK];refine Nat.le_trans (joinsS_len ts q l r g CL (CL.take k) _) ?_;rw[List.length_take];simp;omega
 have HJE:Hid (JK CL.length=joinedT ts q (concL ts q) l g):=by
  show _=_
  rw[HJ.out,hJK]
  show (CL.take CL.length).foldl _ _=_
  rw[List.take_length]
 have HJ0:Hid (JK 0=[growT ts q (joinK 3 CL 0) [l,r]]):=by show _=_; rw[hJK]; rfl
 have HZ:Hid (Fz F W0 w):=hz;have HTA:Hid (TreeF 95 F w a l):=ht;obtain⟨ra,hra⟩:∃ ra,ra=A y.1:=⟨_,rfl⟩
 rw[<- hra] at HAP hPr hrt;have HTR:Hid (TreeF 95 F w ra r):=hrt;have HRO:Hid (TOk q r):=hro;have HGG:Hid (GrpAt 95 141 F w gb A os g):=hg;have HPL:Hid (PartIn F w a pl):=hPl;have HPR:Hid (PartIn F w ra pr):=hPr;rw[hFC];clear hFC E hz ht hlo hg hgo hs hr hy hyr hrt hro hAP0 hPl hpld hPr hprd esl esr eol hCL hbt hsm HJ hKP hJK HST hra;generalize joinedT ts q (concL ts q) l g=R at *;generalize betweenP (concL ts q) l.d.sources r.d.sources=C at *;obtain⟨T3,hT3⟩:∃ t,t=growT ts q (joinK 3 CL 0) [l,r]:=⟨_,rfl⟩
 rw[<- hT3] at HJ0;have HT3:Hid _:=hT3;clear hT3;obtain⟨plk,pls,plc,⟨poa,poc,pox⟩,plz',plt⟩:=pl;obtain⟨prk,prs,prc,⟨pra,prq,prx⟩,prz,prt⟩:=pr;simp only at HBT HKC HBG;obtain⟨pol,hpol⟩:∃ n,n=pox.length:=⟨_,rfl⟩
 obtain⟨prl,hprl⟩:∃ n,n=prx.length:=⟨_,rfl⟩
 rw[<- hpol,<- hprl] at HKC;rw[<- hpol] at HBG;have HPC:Hid (∀ x,Below w.heap.size w x->x.cell? (aD a 0)=some (.int .i64 plk)/\x.cell? (aD a 1)=some (.int .u64 (pls:Int))/\x.cell? (aD a 2)=some (.int .u64 (plc:Int))/\x.cell? (aD a 3)=some (.slice poa pol poc)/\x.cell? (aD a 4)=some (.int .u64 (plz':Int))/\x.cell? (aD a 5)=some (.int .u64 (plt:Int))):=fun x hx=>by
  rw[hpol];exact⟨cB hx HPL.out.c0,cB hx HPL.out.c1,cB hx HPL.out.c2,cB hx HPL.out.c3,cB hx HPL.out.c4,cB hx HPL.out.c5⟩
 have HRC:Hid (∀ x,Below w.heap.size w x->x.cell? (aD ra 0)=some (.int .i64 prk)/\x.cell? (aD ra 1)=some (.int .u64 (prs:Int))/\x.cell? (aD ra 2)=some (.int .u64 (prc:Int))/\x.cell? (aD ra 3)=some (.slice pra prl prq)/\x.cell? (aD ra 4)=some (.int .u64 (prz:Int))/\x.cell? (aD ra 5)=some (.int .u64 (prt:Int))):=fun x hx=>by
  rw[hprl];exact⟨cB hx HPR.out.c0,cB hx HPR.out.c1,cB hx HPR.out.c2,cB hx HPR.out.c3,cB hx HPR.out.c4,cB hx HPR.out.c5⟩
 clear hpol hprl HPL HPR;obtain⟨gl,hgl'⟩:∃ n,n=g.length:=⟨_,rfl⟩
 rw[<- hgl'] at HAP HSB hgl ⊢;clear hgl';obtain⟨w1,hw1,hb1,hg1⟩:=newB w #[v0,v1,v2,v3,v4,v5,v6,v7,v8,v9,v10,v11,v12] 79;have a0:w1.cell? (aD w.heap.size 0)=some (v0):=hg1.cell 0;have a1:w1.cell? (aD w.heap.size 1)=some (v1):=hg1.cell 1;have a2:w1.cell? (aD w.heap.size 2)=some (v2):=hg1.cell 2;have a3:w1.cell? (aD w.heap.size 3)=some (v3):=hg1.cell 3;have a4:w1.cell? (aD w.heap.size 4)=some (v4):=hg1.cell 4;have a5:w1.cell? (aD w.heap.size 5)=some (v5):=hg1.cell 5;have a6:w1.cell? (aD w.heap.size 6)=some (v6):=hg1.cell 6;have a7:w1.cell? (aD w.heap.size 7)=some (v7):=hg1.cell 7;have a8:w1.cell? (aD w.heap.size 8)=some (v8):=hg1.cell 8;have a9:w1.cell? (aD w.heap.size 9)=some (v9):=hg1.cell 9;have a10:w1.cell? (aD w.heap.size 10)=some (v10):=hg1.cell 10;have a11:w1.cell? (aD w.heap.size 11)=some (v11):=hg1.cell 11;have a12:w1.cell? (aD w.heap.size 12)=some (v12):=hg1.cell 12;obtain⟨p0,p1,p2,p3,p4,p5⟩:=HPC.out w1 hb1;obtain⟨q0,q1,q2,q3,q4,q5⟩:=HRC.out w1 hb1;have HB1:Hid (Below w.heap.size w w1):=hb1;have HG1:Hid (GB w1 w.heap.size 79 #[v0,v1,v2,v3,v4,v5,v6,v7,v8,v9,v10,v11,v12]):=hg1;have hAP1:=HAP.out w1 hb1;clear hb1 hg1 HAP;go_enter Tryz.func111,Tryz.ntmps111;go_wp2_with fail;refine hAP1.mono ?_;rintro e wz ⟨rfl,hwz⟩;have hwz':=hwz.symm;subst hwz';clear hAP1 hw1;go_wp2_with fail;refine wp_region_held_drew (S:=fun x=>Below w1.heap.size w1 x) (by kernel_rfl) ((Below.refl _ _).drew) (fun hS=>?_);refine wT 0 (.agg #[v0,v1,v2,v3,v4,v5,v6,v7,v8,v9,v10,v11,v12]) hS (fun x hx=>?_) ?_
 ·have e0:=cB hx a0;have e1:=cB hx a1;have e2:=cB hx a2;have e3:=cB hx a3;have e4:=cB hx a4;have e5:=cB hx a5;have e6:=cB hx a6;have e7:=cB hx a7;have e8:=cB hx a8;have e9:=cB hx a9;have e10:=cB hx a10;have e11:=cB hx a11;have e12:=cB hx a12;go_simp
 refine wT 1 (.pointer (some (aD a 0))) hS (fun x hx=>?_) ?_
 ·go_simp
 refine wT 2 (.pointer (some (aD a 0))) hS (fun x hx=>?_) ?_
 ·go_simp
 refine wT 3 (.pointer (some (aD a 0))) hS (fun x hx=>?_) ?_
 ·go_simp
 refine wT 4 (.pointer (some (aD a 1))) hS (fun x hx=>?_) ?_
 ·go_simp
 refine wT 5 (.int .u64 (pls:Int)) hS (fun x hx=>?_) ?_
 ·have e0:=cB hx p1;go_simp
 refine wT 6 (.pointer (some (aD ra 0))) hS (fun x hx=>?_) ?_
 ·go_simp
 refine wT 7 (.pointer (some (aD ra 0))) hS (fun x hx=>?_) ?_
 ·go_simp
 refine wT 8 (.pointer (some (aD ra 0))) hS (fun x hx=>?_) ?_
 ·go_simp
 refine wT 9 (.pointer (some (aD ra 1))) hS (fun x hx=>?_) ?_
 ·go_simp
 refine wT 10 (.int .u64 (prs:Int)) hS (fun x hx=>?_) ?_
 ·have e0:=cB hx q1;go_simp
 refine wR 11 fun K hK=>?_
 go_simp;refine Calls.mono (HBT.out _ (bQ1 HB1.out hS)) ?_;rintro e wy ⟨rfl,hb⟩;refine hK.out _ _ (hS.trans (hb.mono hS.size)) (fun hS=>?_);clear hK K;have hSL:w1.heap.size<=wy.heap.size:=hS.size;refine wR 12 fun K hK=>?_
 go_simp;refine Calls.mono (HLI.out _) ?_;rintro e w2 ⟨v,rfl,hv,hb⟩;obtain⟨ia,lm,ic,rfl⟩:=ownsRow_slice hv;refine hK.out _ _ (hS.trans (hb.mono hS.size)) (fun hS=>?_);clear hK K;refine wR 13 fun K hK=>?_
 go_simp;refine hK.out _ _ (hS) (fun hS=>?_);clear hK K;refine wpAnyH_done (by kernel_rfl) ?_ _
 try simp only[Act.put,List.getElem_toArray,List.getElem_cons_succ,List.getElem_cons_zero,List.setIfInBounds_toArray,List.set_cons_succ,List.set_cons_zero]
 try simp only[Act.put,List.getElem_toArray,List.getElem_cons_succ,List.getElem_cons_zero,List.setIfInBounds_toArray,List.set_cons_succ,List.set_cons_zero]
 clear p0 p1 p2 p3 p4 p5 q0 q1 q2 q3 q4 q5;obtain⟨iv,hiv,hivx,hivat,hivn,hivc,hivl⟩:=ints_ownR hv (by omega);obtain⟨ja,jc,ix⟩:=iv;simp only[IntsV.val] at hiv hivx hivat hivn hivc hivl;subst hivx;injection hiv with hi1 hi2 hi3;subst hi1 hi2 hi3;have hb12:Below w1.heap.size w1 w2:=hS;have HIN:Hid (IntsIn F w2 ⟨ia,ic,ix⟩):=⟨hivat,fun _ z e=>HZ.out.high _ (Nat.le_trans HB1.out.size (Nat.le_trans hSL (hivn z e))),hivc,hivl⟩
 have HG2:Hid (GB w2 w.heap.size 79 #[v0,v1,v2,v3,v4,v5,v6,v7,v8,v9,v10,v11,v12]):=HG1.out.keep (Kept.of_below (s:=fun b=>b<w1.heap.size) hb12 (fun _ h _=>h)) HG1.out.lt;have HB2:Hid (Below w.heap.size w w2):=bQ1 HB1.out hb12;obtain⟨cn,hcn⟩:∃ n,n=ix.length:=⟨_,rfl⟩
 clear hS hSL hv hivat hivn hivc hivl hb12 a0 a1 a2 a3 a4 a5 a6 a7 a8 a9 a10 a11 a12;obtain⟨w3,hw3⟩:∃ x,w2.alloc (.cells #[.pointer (some (aD a 0)),.pointer (some (aD ra 0))] 85)=x:=⟨_,rfl⟩
 have hb3:Below w2.heap.size w2 w3:=by rw[<- hw3]; exact bQ2 _ _
 have hB3:Below w.heap.size w w3:=bQ1 HB2.out hb3;have hGR3:=HGR.out F w3 w2.heap.size ra r ia ic 3 0 (HZ.out.next hB3) (by omega) (by omega) (HIN.out.below hb3) (HTA.out.below hB3) (HTR.out.below hB3) HRO.out (by rw[<- hw3]; simp) (by rw[<- hw3]; simp);rw[<- HT3.out] at hGR3;have hf2:=HG2.out;have a0:w2.cell? (aD w.heap.size 0)=some (v0):=hf2.cell 0;have a1:w2.cell? (aD w.heap.size 1)=some (v1):=hf2.cell 1;have a2:w2.cell? (aD w.heap.size 2)=some (v2):=hf2.cell 2;have a3:w2.cell? (aD w.heap.size 3)=some (v3):=hf2.cell 3;have a4:w2.cell? (aD w.heap.size 4)=some (v4):=hf2.cell 4;have a5:w2.cell? (aD w.heap.size 5)=some (v5):=hf2.cell 5;have a6:w2.cell? (aD w.heap.size 6)=some (v6):=hf2.cell 6;have a7:w2.cell? (aD w.heap.size 7)=some (v7):=hf2.cell 7;have a8:w2.cell? (aD w.heap.size 8)=some (v8):=hf2.cell 8;have a9:w2.cell? (aD w.heap.size 9)=some (v9):=hf2.cell 9;have a10:w2.cell? (aD w.heap.size 10)=some (v10):=hf2.cell 10;have a11:w2.cell? (aD w.heap.size 11)=some (v11):=hf2.cell 11;have a12:w2.cell? (aD w.heap.size 12)=some (v12):=hf2.cell 12;have HB23:Hid (Below w2.heap.size w2 w3):=hb3;rw[<- hcn] at hGR3 hcl8 ⊢;have HCN:Hid (cn=ix.length):=hcn;clear hb3 hB3 hf2 hcn;go_wp2_with fail;refine hGR3.mono ?_;rintro e w4 ⟨r1,rfl,hT,hr1,hr2,hb4⟩;obtain⟨w5,hw5⟩:∃ x,w4.alloc (.cells #[.pointer (some (aD r1 0))] 85)=x:=⟨_,rfl⟩
 have hb5:Below w4.heap.size w4 w5:=by rw[<- hw5]; exact bQ2 _ _
 have HI5:Hid (TreesIn 95 85 F w2.heap.size w5 (.slice (some (aD w4.heap.size 0)) 1 1) [(r1,T3)]):=TreesIn.one (Nat.le_trans HB23.out.size hb4.size) (by rw[<- hw5]; exact bQ3 _ _) hT hb5 (Nat.le_refl _) (Nat.le_trans HB23.out.size hr1) (Nat.lt_of_lt_of_le hr2 hb5.size);have HB5:Hid (Below w2.heap.size w2 w5):=bQ1 HB23.out (bQ1 hb4 hb5);clear hGR3 hT hr1 hr2 hb4 hb5 hw3 a0 a1 a2 a3 a4 a5 a6 a7 a8 a9 a10 a11 a12;go_wp2;clear hw5;have hcn8:=hcl8;go_loopw [9,42] (fun pv xv wr=>∃ (k:Nat) (bs:List (Nat × TrD)),k<=cn/\xv=.int .i64 (k:Int)/\Hid (bs.map Prod.snd=JK k)/\Hid (TreesIn 95 85 F w2.heap.size wr pv bs)/\Hid (Below w2.heap.size w2 wr)) (fun _ xv _=>cn-(intOf xv).toNat)
 case atStart=>exact⟨0,[(r1,T3)],Nat.zero_le _,rfl,by show _=_; rw[HJ0.out]; rfl,HI5.out,HB5.out⟩
 case round=>
  obtain⟨k,bs,hk,rfl,HBS,HTI,HBW⟩:=hrel;obtain⟨pa,pm,pc,rfl⟩:=ownsRow_slice HTI.out.own;by_cases hlt:k<cn
  ·have hlt':k<ix.length:=by rw[<- HCN.out]; exact hlt
   obtain⟨kb,koff,rfl,hkc⟩:=CellsAt.get (IntsAt.below HBW.out HIN.out.at').2 hlt';have hck:=hkc k hlt';obtain⟨key,hkey⟩:∃ key,key=ix.getD k 0:=⟨_,rfl⟩
   rw[<- hkey] at hck;have HNOk:=HNO.out k hlt';have HHAk:=HHA.out k hlt';have HMAk:=fun m=>HMA.out k m hlt'
   rw[<- hkey] at HNOk HHAk HMAk;have hBw:Below w.heap.size w wr:=bQ1 HB2.out HBW.out;have HBw:Hid (Below w.heap.size w wr):=hBw;have hv:∀ z,(Value.slice pa pm pc).ownBlock=some z->w2.heap.size<=z/\z<wr.heap.size:=fun z e=>ownsRow_lt HTI.out.own e
   have HVO:Hid _:=hv;obtain⟨FN,hFN⟩:∃ G:Nat->Prop,G=fun b=>F b/\b≠wr.heap.size:=⟨_,rfl⟩
   have HFN:Hid (∀ b,FN b↔F b/\b≠wr.heap.size):=fun b=>by rw[hFN]
   have HTN:Hid (TreesIn 95 85 FN w2.heap.size wr (.slice pa pm pc) bs):=HTI.out.mono (fun b hb h=>(HFN.out b).2 ⟨h,by omega⟩);obtain⟨G,hG⟩:∃ G,G=Fv FN (.slice pa pm pc):=⟨_,rfl⟩
   have HLW:Hid (W0.heap.size<=w.heap.size/\w.heap.size<=w2.heap.size/\w2.heap.size<=wr.heap.size):=⟨HZ.out.below.size,HB2.out.size,HBW.out.size⟩
   have HZN:Hid (∀ x,Below wr.heap.size wr x->wr.heap.size<x.heap.size->Fz FN W0 x):=fun x hx hl=>by
    have h0:=(HZ.out.next hBw).next hx;have:=HLW.out;exact⟨h0.below,fun b hb=>(HFN.out b).2 ⟨h0.low b hb,by have:=hb.lt; omega⟩,fun b hb=>(HFN.out b).2 ⟨h0.high b hb,by omega⟩⟩
   have HZr:Hid (∀ x,Below wr.heap.size wr x->wr.heap.size<x.heap.size->Fz G W0 x):=fun x hx hl=>by
    rw[hG];exact (HZN.out x hx hl).own (fun g e=>by have:=hv g e; have:=HLW.out; omega)
   have HTAr:Hid (TreeF 95 G wr a l):=by rw[hG]; exact (HTA.out.mono (G:=FN) (fun b hb h=>(HFN.out b).2 ⟨h,by have:=HLW.out; omega⟩)).own hBw (fun z e=>Nat.le_trans HB2.out.size (hv z e).1)
   have HTRr:Hid (TreeF 95 G wr ra r):=by rw[hG]; exact (HTR.out.mono (G:=FN) (fun b hb h=>(HFN.out b).2 ⟨h,by have:=HLW.out; omega⟩)).own hBw (fun z e=>Nat.le_trans HB2.out.size (hv z e).1)
   have HINr:Hid (IntsIn G wr ⟨some (aD kb koff),ic,ix⟩):=by
    rw[hG];exact (HIN.out.mono (G:=Fv FN (.slice pa pm pc)) (fun b hb h=>⟨(HFN.out b).2 ⟨h,by have:=HLW.out; omega⟩,fun e=>by have:=(hv b e).1; omega⟩)).below HBW.out
   have HKCk:=HKC.out;have hfr:=HG2.out.keep (Kept.of_below (s:=fun b=>b<w2.heap.size) HBW.out (fun _ h _=>h)) HG2.out.lt;have HLX:Hid (w.heap.size<w2.heap.size):=HG2.out.lt;have HGE:Hid (G=Fv FN (.slice pa pm pc)):=hG;obtain⟨wq,hwq⟩:∃ x,x=wr:=⟨_,rfl⟩
   subst hwq;obtain⟨y1,hy1,hc1,hn1⟩:=newB wq #[.int .i64 4,.int .i64 0,.int .i64 0,.int .i64 0,.slice (some (aD kb koff)) cn ic,.int .i64 key,.slice none 0 0] 61;have hf1:=hfr.keep (Kept.of_below (s:=fun b=>b<wq.heap.size) hc1 (fun _ h _=>h)) hfr.lt;have a0:y1.cell? (aD w.heap.size 0)=some (v0):=hf1.cell 0;have a1:y1.cell? (aD w.heap.size 1)=some (v1):=hf1.cell 1;have a2:y1.cell? (aD w.heap.size 2)=some (v2):=hf1.cell 2;have a3:y1.cell? (aD w.heap.size 3)=some (v3):=hf1.cell 3;have a4:y1.cell? (aD w.heap.size 4)=some (v4):=hf1.cell 4;have a5:y1.cell? (aD w.heap.size 5)=some (v5):=hf1.cell 5;have a6:y1.cell? (aD w.heap.size 6)=some (v6):=hf1.cell 6;have a7:y1.cell? (aD w.heap.size 7)=some (v7):=hf1.cell 7;have a8:y1.cell? (aD w.heap.size 8)=some (v8):=hf1.cell 8;have a9:y1.cell? (aD w.heap.size 9)=some (v9):=hf1.cell 9;have a10:y1.cell? (aD w.heap.size 10)=some (v10):=hf1.cell 10;have a11:y1.cell? (aD w.heap.size 11)=some (v11):=hf1.cell 11;have a12:y1.cell? (aD w.heap.size 12)=some (v12):=hf1.cell 12;have n0:y1.cell? (aD wq.heap.size 0)=some (.int .i64 4):=hn1.cell 0;have n1:y1.cell? (aD wq.heap.size 1)=some (.int .i64 0):=hn1.cell 1;have n2:y1.cell? (aD wq.heap.size 2)=some (.int .i64 0):=hn1.cell 2;have n3:y1.cell? (aD wq.heap.size 3)=some (.int .i64 0):=hn1.cell 3;have n4:y1.cell? (aD wq.heap.size 4)=some (.slice (some (aD kb koff)) cn ic):=hn1.cell 4;have n5:y1.cell? (aD wq.heap.size 5)=some (.int .i64 key):=hn1.cell 5;have n6:y1.cell? (aD wq.heap.size 6)=some (.slice none 0 0):=hn1.cell 6;obtain⟨p0,p1,p2,p3,p4,p5⟩:=HPC.out y1 (bQ1 hBw hc1);obtain⟨q0,q1,q2,q3,q4,q5⟩:=HRC.out y1 (bQ1 hBw hc1);have HC1:Hid (Below wq.heap.size wq y1):=hc1;have HN1:Hid (GB y1 wq.heap.size 61 #[.int .i64 4,.int .i64 0,.int .i64 0,.int .i64 0,.slice (some (aD kb koff)) cn ic,.int .i64 key,.slice none 0 0]):=hn1;have HF1:Hid (GB y1 w.heap.size 79 #[v0,v1,v2,v3,v4,v5,v6,v7,v8,v9,v10,v11,v12]):=hf1;have HY1:Hid (wq.alloc (.cells #[.int .i64 4,.int .i64 0,.int .i64 0,.int .i64 0,.slice (some (aD kb koff)) cn ic,.int .i64 key,.slice none 0 0] 61)=y1):=hy1
   have HKX:Hid (∀ x,Below y1.heap.size y1 x->Calls Tryz.prog 133 #[.agg #[v0,v1,v2,v3,v4,v5,v6,v7,v8,v9,v10,v11,v12],.agg #[.int .i64 4,.int .i64 0,.int .i64 0,.int .i64 0,.slice (some (aD kb koff)) cn ic,.int .i64 key,.slice none 0 0],.agg #[.int .i64 plk,.int .u64 (pls:Int),.int .u64 (plc:Int),.slice poa pol poc,.int .u64 (plz':Int),.int .u64 (plt:Int)],.agg #[.int .i64 prk,.int .u64 (prs:Int),.int .u64 (prc:Int),.slice pra prl prq,.int .u64 (prz:Int),.int .u64 (prt:Int)]] x fun e w'=>e=.returned (.tuple #[.int .i64 (KP key).1,.int .i64 (KP key).2.1,.bool (KP key).2.2])/\Below x.heap.size x w'):=fun x hx=>by
    have:=HKCk x (some (aD kb koff)) ic key (bQ1 hBw (bQ1 hc1 hx)) (HINr.out.below (bQ1 hc1 hx)).at';rw[<- HCN.out] at this;exact this
   have HL1:Hid (wq.heap.size<y1.heap.size):=hn1.lt;clear hkc hkey hlt' hG hFN hv hfr hBw hc1 hn1 hf1 hy1 HKCk;generalize (KP key).1=k1 at *;generalize (KP key).2.1=k2 at *;generalize hk3:(KP key).2.2=k3 at *;clear hk3;go_wp2_with fail;rw[HY1.out];clear HY1;refine wp_region_held_drew (S:=fun x=>Below y1.heap.size y1 x) (by kernel_rfl) ((Below.refl _ _).drew) (fun hS=>?_);refine wT 0 (.agg #[v0,v1,v2,v3,v4,v5,v6,v7,v8,v9,v10,v11,v12]) hS (fun x hx=>?_) ?_
   ·have e0:=cB hx a0;have e1:=cB hx a1;have e2:=cB hx a2;have e3:=cB hx a3;have e4:=cB hx a4;have e5:=cB hx a5;have e6:=cB hx a6;have e7:=cB hx a7;have e8:=cB hx a8;have e9:=cB hx a9;have e10:=cB hx a10;have e11:=cB hx a11;have e12:=cB hx a12;go_simp
   refine wT 1 (.agg #[.int .i64 4,.int .i64 0,.int .i64 0,.int .i64 0,.slice (some (aD kb koff)) cn ic,.int .i64 key,.slice none 0 0]) hS (fun x hx=>?_) ?_
   ·have e0:=cB hx n0;have e1:=cB hx n1;have e2:=cB hx n2;have e3:=cB hx n3;have e4:=cB hx n4;have e5:=cB hx n5;have e6:=cB hx n6;go_simp
   refine wT 2 (.pointer (some (aD a 0))) hS (fun x hx=>?_) ?_
   ·go_simp
   refine wT 3 (.pointer (some (aD a 0))) hS (fun x hx=>?_) ?_
   ·go_simp
   refine wT 4 (.pointer (some (aD a 0))) hS (fun x hx=>?_) ?_
   ·go_simp
   refine wT 5 (.agg #[.int .i64 plk,.int .u64 (pls:Int),.int .u64 (plc:Int),.slice poa pol poc,.int .u64 (plz':Int),.int .u64 (plt:Int)]) hS (fun x hx=>?_) ?_
   ·have e0:=cB hx p0;have e1:=cB hx p1;have e2:=cB hx p2;have e3:=cB hx p3;have e4:=cB hx p4;have e5:=cB hx p5;go_simp
   refine wT 6 (.pointer (some (aD ra 0))) hS (fun x hx=>?_) ?_
   ·go_simp
   refine wT 7 (.pointer (some (aD ra 0))) hS (fun x hx=>?_) ?_
   ·go_simp
   refine wT 8 (.pointer (some (aD ra 0))) hS (fun x hx=>?_) ?_
   ·go_simp
   refine wT 9 (.agg #[.int .i64 prk,.int .u64 (prs:Int),.int .u64 (prc:Int),.slice pra prl prq,.int .u64 (prz:Int),.int .u64 (prt:Int)]) hS (fun x hx=>?_) ?_
   ·have e0:=cB hx q0;have e1:=cB hx q1;have e2:=cB hx q2;have e3:=cB hx q3;have e4:=cB hx q4;have e5:=cB hx q5;go_simp
   refine wR 10 fun K hK=>?_
   go_simp;refine Calls.mono (HKX.out _ hS) ?_;rintro e y2 ⟨rfl,hb⟩;refine hK.out _ _ (hS.trans (hb.mono hS.size)) (fun hS=>?_);clear hK K;refine wT 11 (.tuple #[.int .i64 k1,.int .i64 k2,.bool k3]) hS (fun x hx=>?_) ?_
   ·go_simp
   refine wT 12 (.int .i64 k1) hS (fun x hx=>?_) ?_
   ·go_simp
   refine wT 13 (.int .i64 k2) hS (fun x hx=>?_) ?_
   ·go_simp
   refine wT 14 (.bool k3) hS (fun x hx=>?_) ?_
   ·go_simp
   refine wT 15 (.int .i64 k1) hS (fun x hx=>?_) ?_
   ·go_simp
   refine wT 16 (.int .i64 k2) hS (fun x hx=>?_) ?_
   ·go_simp
   refine wR 17 fun K hK=>?_
   go_simp;refine hK.out _ _ (hS) (fun hS=>?_);clear hK K;refine wpAnyH_done (by kernel_rfl) ?_ _
   try simp only[Act.put,List.getElem_toArray,List.getElem_cons_succ,List.getElem_cons_zero,List.setIfInBounds_toArray,List.set_cons_succ,List.set_cons_zero]
   try simp only[Act.put,List.getElem_toArray,List.getElem_cons_succ,List.getElem_cons_zero,List.setIfInBounds_toArray,List.set_cons_succ,List.set_cons_zero]
   clear p0 p1 p2 p3 p4 p5 q0 q1 q2 q3 q4 q5 hck a0 a1 a2 a3 a4 a5 a6 a7 a8 a9 a10 a11 a12 n0 n1 n2 n3 n4 n5 n6;have HC2:Hid (Below y1.heap.size y1 y2):=hS;clear hS
   cases k3 with
   | false =>
    have HNX:Hid (JK (k+1)=JK k):=HNOk rfl;have HF:Hid (TreesIn 95 85 F w2.heap.size y2 (.slice pa pm pc) bs/\Below w2.heap.size w2 y2):=⟨(HTI.out.below HC1.out).below HC2.out,bQ1 HBW.out (bQ1 HC1.out HC2.out)⟩
    clear HNOk HHAk HMAk;go_wp2;go_roundw
    case rel=>exact⟨k+1,bs,by omega,by go_num,HBS.out.trans HNX.out.symm,HF.out.1,HF.out.2⟩
    case measure=>simp[intOf]; omega
   | true =>
    have HHA2:Hid _:=HHAk rfl;have HMA2:Hid _:=fun m=>HMAk m rfl
    clear HNOk HHAk HMAk;have hn2:GB y2 wq.heap.size 61 #[.int .i64 4,.int .i64 0,.int .i64 0,.int .i64 0,.slice (some (aD kb koff)) cn ic,.int .i64 key,.slice none 0 0]:=HN1.out.keep (Kept.of_below (s:=fun b=>b<y1.heap.size) HC2.out (fun _ h _=>h)) HN1.out.lt;have hf2:GB y2 w.heap.size 79 #[v0,v1,v2,v3,v4,v5,v6,v7,v8,v9,v10,v11,v12]:=HF1.out.keep (Kept.of_below (s:=fun b=>b<y1.heap.size) HC2.out (fun _ h _=>h)) HF1.out.lt;have a0:y2.cell? (aD w.heap.size 0)=some (v0):=hf2.cell 0;have a1:y2.cell? (aD w.heap.size 1)=some (v1):=hf2.cell 1;have a2:y2.cell? (aD w.heap.size 2)=some (v2):=hf2.cell 2;have a3:y2.cell? (aD w.heap.size 3)=some (v3):=hf2.cell 3;have a4:y2.cell? (aD w.heap.size 4)=some (v4):=hf2.cell 4;have a5:y2.cell? (aD w.heap.size 5)=some (v5):=hf2.cell 5;have a6:y2.cell? (aD w.heap.size 6)=some (v6):=hf2.cell 6;have a7:y2.cell? (aD w.heap.size 7)=some (v7):=hf2.cell 7;have a8:y2.cell? (aD w.heap.size 8)=some (v8):=hf2.cell 8;have a9:y2.cell? (aD w.heap.size 9)=some (v9):=hf2.cell 9;have a10:y2.cell? (aD w.heap.size 10)=some (v10):=hf2.cell 10;have a11:y2.cell? (aD w.heap.size 11)=some (v11):=hf2.cell 11;have a12:y2.cell? (aD w.heap.size 12)=some (v12):=hf2.cell 12;have n0:y2.cell? (aD wq.heap.size 0)=some (.int .i64 4):=hn2.cell 0;have n1:y2.cell? (aD wq.heap.size 1)=some (.int .i64 0):=hn2.cell 1;have n2:y2.cell? (aD wq.heap.size 2)=some (.int .i64 0):=hn2.cell 2;have n3:y2.cell? (aD wq.heap.size 3)=some (.int .i64 0):=hn2.cell 3;have n4:y2.cell? (aD wq.heap.size 4)=some (.slice (some (aD kb koff)) cn ic):=hn2.cell 4;have n5:y2.cell? (aD wq.heap.size 5)=some (.int .i64 key):=hn2.cell 5;have n6:y2.cell? (aD wq.heap.size 6)=some (.slice none 0 0):=hn2.cell 6;obtain⟨y3,hy3⟩:∃ x,y2.alloc (.cells #[.pointer (some (aD a 0)),.pointer (some (aD ra 0))] 85)=x:=⟨_,rfl⟩
    have hc3:Below y2.heap.size y2 y3:=by rw[<- hy3]; exact bQ2 _ _
    have HC13:Hid (Below wq.heap.size wq y3):=bQ1 HC1.out (bQ1 HC2.out hc3);have hGR4:=HGR.out G y3 y2.heap.size ra r (some (aD kb koff)) ic 4 key (HZr.out y3 HC13.out (Nat.lt_of_lt_of_le HL1.out (Nat.le_trans HC2.out.size hc3.size))) (by omega) (by omega) (HINr.out.below HC13.out) (HTAr.out.below HC13.out) (HTRr.out.below HC13.out) HRO.out (by rw[<- hy3]; simp) (by rw[<- hy3]; simp);rw[<- HCN.out] at hGR4;obtain⟨T4,hT4⟩:∃ t,t=growT ts q (joinK 4 ix key) [l,r]:=⟨_,rfl⟩
    rw[<- hT4] at hGR4 HHA2 HMA2;have HN2:Hid (GB y2 wq.heap.size 61 #[.int .i64 4,.int .i64 0,.int .i64 0,.int .i64 0,.slice (some (aD kb koff)) cn ic,.int .i64 key,.slice none 0 0]):=hn2;have HF2:Hid (GB y2 w.heap.size 79 #[v0,v1,v2,v3,v4,v5,v6,v7,v8,v9,v10,v11,v12]):=hf2;have HC23:Hid (Below y2.heap.size y2 y3):=hc3;clear hn2 hf2 hc3 hT4;go_wp2_with fail;refine hGR4.mono ?_;rintro e y4 ⟨r4,rfl,hT,hr1,hr2,hb4⟩;have HC24:Hid (Below y2.heap.size y2 y4):=bQ1 HC23.out hb4;have HC14:Hid (Below wq.heap.size wq y4):=bQ1 HC1.out (bQ1 HC2.out HC24.out);have hbl:(bs.map Prod.fst).length=bs.length:=List.length_map _;have hblen:bs.length<=20:=by have h1:=congrArg List.length HBS.out; rw[List.length_map] at h1; rw[h1]; exact HJL.out k
    obtain⟨v5,y5,hr5,ho5,hk5,⟨za,zm,zc,rfl⟩,hat5⟩:=push_ptr y4 w2.heap.size (.slice pa pm pc) (bs.map Prod.fst) (by rw[hbl]; exact (HTI.out.below HC14.out).own) (by rw[hbl]; omega) (Nat.le_trans HBW.out.size HC14.out.size) r4 93;have hat5':(Value.slice za zm zc).ownBlock=(Value.slice pa pm pc).ownBlock∨∃ z,(Value.slice za zm zc).ownBlock=some z/\y4.heap.size<=z:=by
     rcases hat5 with h | h
     ·exact .inl h
     ·exact .inr ⟨_,h,by omega⟩
    have HTI5:Hid (TreesIn 95 85 FN w2.heap.size y5 (.slice za zm zc) (bs++[(r4,T4)])):=(HTN.out.below HC1.out).push (bQ1 HC2.out HC24.out) (by rw[HGE.out] at hT; exact hT) (Nat.le_trans HC2.out.size (Nat.le_trans HC23.out.size hr1)) hr2 (Nat.le_trans HBW.out.size HC1.out.size) ho5 hk5 hat5';have hk25:Kept (fun b=>(Value.slice pa pm pc).ownBlock≠some b) y2 y5:=(Kept.of_below HC24.out (fun _ h _=>h)).trans hk5;have HK25:Hid _:=hk25;have HKW5:Hid (Below w2.heap.size w2 y5):=(bQ1 HBW.out HC14.out).trans (hk5.below (Nat.le_trans HBW.out.size HC14.out.size) (fun b hb e=>by have:=(HVO.out b e).1; omega));have hf5:GB y5 w.heap.size 79 #[v0,v1,v2,v3,v4,v5,v6,v7,v8,v9,v10,v11,v12]:=HF2.out.keep hk25 (fun e=>by have:=(HVO.out _ e).1; have:=HLX.out; omega);have hn5:GB y5 wq.heap.size 61 #[.int .i64 4,.int .i64 0,.int .i64 0,.int .i64 0,.slice (some (aD kb koff)) cn ic,.int .i64 key,.slice none 0 0]:=HN2.out.keep hk25 (fun e=>by have:=(HVO.out _ e).2; omega);have HF5:Hid (GB y5 w.heap.size 79 #[v0,v1,v2,v3,v4,v5,v6,v7,v8,v9,v10,v11,v12]):=hf5;have HN5:Hid (GB y5 wq.heap.size 61 #[.int .i64 4,.int .i64 0,.int .i64 0,.int .i64 0,.slice (some (aD kb koff)) cn ic,.int .i64 key,.slice none 0 0]):=hn5;obtain⟨G5,hG5⟩:∃ G,G=Fv FN (.slice za zm zc):=⟨_,rfl⟩
    have HG5E:Hid _:=hG5;have hv5:∀ z,(Value.slice za zm zc).ownBlock=some z->w2.heap.size<=z/\z<y5.heap.size:=fun z e=>ownsRow_lt HTI5.out.own e
    have hBw5:Below w.heap.size w y5:=bQ1 HB2.out HKW5.out;have HGG5:Hid (GrpAt 95 141 G5 y5 gb A os g):=by rw[hG5]; exact (HGG.out.mono (G:=Fv FN (.slice za zm zc)) (fun b hb h=>⟨(HFN.out b).2 ⟨h,by have:=HLW.out; omega⟩,fun e=>by have:=(hv5 b e).1; have:=HB2.out.size; omega⟩)).below hBw5
    have HL5:Hid (wq.heap.size<y5.heap.size):=hn5.lt;have HZN5:Hid (Fz FN W0 y5):=⟨(HZ.out.next hBw5).below,(HZN.out y4 HC14.out (Nat.lt_of_lt_of_le HL1.out (Nat.le_trans HC2.out.size HC24.out.size))).low,fun b hb=>(HFN.out b).2 ⟨(HZ.out.next hBw5).high b hb,by have:=HL5.out; omega⟩⟩
    have HZ5:Hid (Fz G5 W0 y5):=by rw[hG5]; exact HTI5.out.fz HZN5.out (Nat.le_trans HZ.out.below.size HB2.out.size)
    have HTA5:Hid (TreeF 95 G5 y5 a l):=by rw[hG5]; exact (HTA.out.mono (G:=FN) (fun b hb h=>(HFN.out b).2 ⟨h,by have:=HLW.out; omega⟩)).own hBw5 (fun z e=>Nat.le_trans HB2.out.size (hv5 z e).1)
    have HIN5:Hid (IntsIn G5 y5 ⟨some (aD kb koff),ic,ix⟩):=by
     rw[hG5];exact (HIN.out.mono (G:=Fv FN (.slice za zm zc)) (fun b hb h=>⟨(HFN.out b).2 ⟨h,by have:=HLW.out; omega⟩,fun e=>by have:=(hv5 b e).1; omega⟩)).below HKW5.out
    have HBw5:Hid (Below w.heap.size w y5):=hBw5;have HBL5:Hid ((bs++[(r4,T4)]).length<=21/\(bs++[(r4,T4)]).map Prod.snd=JK k++[T4]):=⟨by simp; omega,by rw[List.map_append,HBS.out]; rfl⟩
    have hSB5:=HSB.out G5 y5 k2 HGG5.out;clear hGR4 hT hr1 hr2 hb4 hbl hblen ho5 hk5 hat5 hat5' hk25 hG5 hv5 hBw5 hf5 hn5 hy3;generalize bs++[(r4,T4)]=bs5 at *;go_wp2_with (first | (at_builtin; refine wpList_append_run rfl (.tmp 66) (.tmp 73) 93 rfl (.slice pa pm pc) (.slice (some (aD y4.heap.size 0)) 1 1) (.slice za zm zc) y5 rfl rfl hr5 ?_));clear hr5 a0 a1 a2 a3 a4 a5 a6 a7 a8 a9 a10 a11 a12 n0 n1 n2 n3 n4 n5 n6;go_wp2_with fail;refine hSB5.mono ?_;rintro e y6 ⟨mv,rfl,hmt,hb6⟩;have HC6:Hid (Below y5.heap.size y5 y6):=hb6;have HTI6:Hid (TreesIn 95 85 F w2.heap.size y6 (.slice za zm zc) bs5):=(HTI5.out.below hb6).mono (fun b _ h=>((HFN.out b).1 h).1);have HKW6:Hid (Below w2.heap.size w2 y6):=bQ1 HKW5.out hb6;clear hSB5;rcases hmt with⟨hm0,rfl⟩ | ⟨m,mb,hm0,rfl,hmT⟩
    ·have HNX:Hid (JK (k+1)=JK k++[T4]):=HHA2.out hm0;clear hm0 hb6 HHA2 HMA2;go_wp2;go_roundw
     case rel=>exact⟨k+1,bs5,by omega,by go_num,HBL5.out.2.trans HNX.out.symm,HTI6.out,HKW6.out⟩
     case measure=>simp[intOf]; omega
    ·have HNX0:=HMA2.out m hm0;have HMO:Hid (TOk q m):=HMT.out _ m hm0;have HMB:Hid (TreeF 95 G5 y6 mb m):=hmT;obtain⟨p0,p1,p2,p3,p4,p5⟩:=HPC.out y6 (bQ1 HBw5.out hb6);clear p0 p1 p2 p4 p5;obtain⟨y7,hy7⟩:∃ x,y6.alloc (.cells #[.int .i64 k1] 3)=x:=⟨_,rfl⟩
     have hc7:Below y6.heap.size y6 y7:=by rw[<- hy7]; exact bQ2 _ _
     have hBG:=HBG.out y7 y6.heap.size k1 (bQ1 HBw5.out (bQ1 hb6 hc7)) (by rw[<- hy7]; simp);have HC7:Hid (Below y5.heap.size y5 y7):=bQ1 hb6 hc7;have HC67:Hid (Below y6.heap.size y6 y7):=hc7;generalize startsB l.d.order [k1]=SB at *;clear hm0 hb6 HHA2 HMA2 hmT hc7;go_wp2_with fail;refine hBG.mono ?_;rintro e y8 ⟨rfl,hb8⟩;have HC8:Hid (Below y5.heap.size y5 y8):=bQ1 HC7.out hb8;have HC68:Hid (Below y6.heap.size y6 y8):=bQ1 HC67.out hb8;clear hBG hb8 hy7 p3
     cases SB with
     | false =>
      have HNX:Hid (JK (k+1)=JK k++[T4]):=HNX0;have HF:Hid (TreesIn 95 85 F w2.heap.size y8 (.slice za zm zc) bs5/\Below w2.heap.size w2 y8):=⟨(HTI5.out.below HC8.out).mono (fun b _ h=>((HFN.out b).1 h).1),bQ1 HKW5.out HC8.out⟩
      clear HNX0;go_wp2;go_roundw
      case rel=>exact⟨k+1,bs5,by omega,by go_num,HBL5.out.2.trans HNX.out.symm,HF.out.1,HF.out.2⟩
      case measure=>simp[intOf]; omega
     | true =>
      obtain⟨T5,hT5⟩:∃ t,t=growT ts q (joinK 5 ix key) [l,m]:=⟨_,rfl⟩
      have HNX:Hid (JK (k+1)=JK k++[T4]++[T5]):=by rw[hT5]; exact HNX0
      have hn8:GB y8 wq.heap.size 61 #[.int .i64 4,.int .i64 0,.int .i64 0,.int .i64 0,.slice (some (aD kb koff)) cn ic,.int .i64 key,.slice none 0 0]:=HN5.out.keep (Kept.of_below (s:=fun b=>b<y5.heap.size) HC8.out (fun _ h _=>h)) HN5.out.lt;have hf8:GB y8 w.heap.size 79 #[v0,v1,v2,v3,v4,v5,v6,v7,v8,v9,v10,v11,v12]:=HF5.out.keep (Kept.of_below (s:=fun b=>b<y5.heap.size) HC8.out (fun _ h _=>h)) HF5.out.lt;have n0:y8.cell? (aD wq.heap.size 0)=some (.int .i64 4):=hn8.cell 0;have z0:=hn8.frozen 0;clear HNX0;go_upto_region 14 with fail;obtain⟨y9,hy9⟩:∃ x,x=y8.setCell (aD wq.heap.size 0) (.int .i64 5):=⟨_,rfl⟩
      rw[<- hy9];have hn9:GB y9 wq.heap.size 61 #[.int .i64 5,.int .i64 0,.int .i64 0,.int .i64 0,.slice (some (aD kb koff)) cn ic,.int .i64 key,.slice none 0 0]:=by rw[hy9]; exact hn8.set 0 _
      have hk89:Kept (fun b=>b≠wq.heap.size) y8 y9:=by rw[hy9]; exact Kept.setCell _ _ _ (fun h=>h rfl)
      have hf9:GB y9 w.heap.size 79 #[v0,v1,v2,v3,v4,v5,v6,v7,v8,v9,v10,v11,v12]:=hf8.keep hk89 (by have:=HLX.out; have:=HBW.out.size; show w.heap.size≠wq.heap.size; omega);clear hy9 n0 z0 hn8 hf8;have a0:y9.cell? (aD w.heap.size 0)=some (v0):=hf9.cell 0;have a1:y9.cell? (aD w.heap.size 1)=some (v1):=hf9.cell 1;have a2:y9.cell? (aD w.heap.size 2)=some (v2):=hf9.cell 2;have a3:y9.cell? (aD w.heap.size 3)=some (v3):=hf9.cell 3;have a4:y9.cell? (aD w.heap.size 4)=some (v4):=hf9.cell 4;have a5:y9.cell? (aD w.heap.size 5)=some (v5):=hf9.cell 5;have a6:y9.cell? (aD w.heap.size 6)=some (v6):=hf9.cell 6;have a7:y9.cell? (aD w.heap.size 7)=some (v7):=hf9.cell 7;have a8:y9.cell? (aD w.heap.size 8)=some (v8):=hf9.cell 8;have a9:y9.cell? (aD w.heap.size 9)=some (v9):=hf9.cell 9;have a10:y9.cell? (aD w.heap.size 10)=some (v10):=hf9.cell 10;have a11:y9.cell? (aD w.heap.size 11)=some (v11):=hf9.cell 11;have a12:y9.cell? (aD w.heap.size 12)=some (v12):=hf9.cell 12;have n0:y9.cell? (aD wq.heap.size 0)=some (.int .i64 5):=hn9.cell 0;have n1:y9.cell? (aD wq.heap.size 1)=some (.int .i64 0):=hn9.cell 1;have n2:y9.cell? (aD wq.heap.size 2)=some (.int .i64 0):=hn9.cell 2;have n3:y9.cell? (aD wq.heap.size 3)=some (.int .i64 0):=hn9.cell 3;have n4:y9.cell? (aD wq.heap.size 4)=some (.slice (some (aD kb koff)) cn ic):=hn9.cell 4;have n5:y9.cell? (aD wq.heap.size 5)=some (.int .i64 key):=hn9.cell 5;have n6:y9.cell? (aD wq.heap.size 6)=some (.slice none 0 0):=hn9.cell 6;have hB89:Below wq.heap.size y8 y9:=hk89.below (by have:=HC8.out.size; have:=HL5.out; omega) (fun b hb=>by omega);have hW9:Below w2.heap.size w2 y9:=(bQ1 HKW5.out HC8.out).trans (hB89.mono HBW.out.size);have HNOWN:Hid ((Value.slice za zm zc).ownBlock≠some wq.heap.size):=own_not HTI5.out.own HN5.out (by decide);have HGN:Hid (∀ b,G5 b->b≠wq.heap.size):=fun b h=>by rw[HG5E.out] at h; exact ((HFN.out b).1 h.1).2
      have hZ9:Fz G5 W0 y9:=(HZ5.out.next HC8.out).kept' hk89 (fun b hb=>by have:=HLW.out; have:=hb.lt; omega);have hTA9:TreeF 95 G5 y9 a l:=(HTA5.out.below HC8.out).keptF (hk89.mono (fun b _ h=>HGN.out b h));have hMB9:TreeF 95 G5 y9 mb m:=(HMB.out.below HC68.out).keptF (hk89.mono (fun b _ h=>HGN.out b h));have hIN9:IntsIn G5 y9 ⟨some (aD kb koff),ic,ix⟩:=(HIN5.out.below HC8.out).keptF (hk89.mono (fun b _ h=>HGN.out b h));obtain⟨x1,hx1⟩:∃ x,y9.alloc (.cells #[.pointer (some (aD a 0)),.pointer (some (aD mb 0))] 85)=x:=⟨_,rfl⟩
      have hd1:Below y9.heap.size y9 x1:=by rw[<- hx1]; exact bQ2 _ _
      have hGR5:=HGR.out G5 x1 y9.heap.size mb m (some (aD kb koff)) ic 5 key (hZ9.next hd1) (by omega) (by omega) (hIN9.below hd1) (hTA9.below hd1) (hMB9.below hd1) HMO.out (by rw[<- hx1]; simp) (by rw[<- hx1]; simp);rw[<- HCN.out,<- hT5] at hGR5;have HD1:Hid (Below y9.heap.size y9 x1):=hd1;have HW9:Hid (Below w2.heap.size w2 y9):=hW9;have HTI9:Hid (TreesIn 95 85 FN w2.heap.size y9 (.slice za zm zc) bs5):=(HTI5.out.below HC8.out).keptS hk89 (fun b h=>((HFN.out b).1 h).2) (fun g e h=>HNOWN.out (h ▸ e));clear hT5 hn9 hf9 hk89 hB89 hW9 hZ9 hTA9 hMB9 hIN9 hd1;go_wp2_with fail;refine hGR5.mono ?_;rintro e x2 ⟨r5,rfl,hT,hr1,hr2,hb2⟩;have HD2:Hid (Below y9.heap.size y9 x2):=bQ1 HD1.out hb2;have hbl:(bs5.map Prod.fst).length=bs5.length:=List.length_map _;have hblen:=HBL5.out.1;obtain⟨v6,x3,hr6,ho6,hk6,⟨ua,um,uc,rfl⟩,hat6⟩:=push_ptr x2 w2.heap.size (.slice za zm zc) (bs5.map Prod.fst) (by rw[hbl]; exact (HTI9.out.below HD2.out).own) (by rw[hbl]; omega) (Nat.le_trans HW9.out.size HD2.out.size) r5 93;have hat6':(Value.slice ua um uc).ownBlock=(Value.slice za zm zc).ownBlock∨∃ z,(Value.slice ua um uc).ownBlock=some z/\x2.heap.size<=z:=by
       rcases hat6 with h | h
       ·exact .inl h
       ·exact .inr ⟨_,h,by omega⟩
      have HF:Hid (TreesIn 95 85 F w2.heap.size x3 (.slice ua um uc) (bs5++[(r5,T5)])/\Below w2.heap.size w2 x3):=⟨(HTI9.out.push HD2.out (by rw[HG5E.out] at hT; exact hT) (Nat.le_trans HD1.out.size hr1) hr2 HW9.out.size ho6 hk6 hat6').mono (fun b _ h=>((HFN.out b).1 h).1),(bQ1 HW9.out HD2.out).trans (hk6.below (Nat.le_trans HW9.out.size HD2.out.size) (fun b hb e=>by have:=(ownsRow_lt HTI9.out.own e).1; omega))⟩
      have HSN:Hid ((bs5++[(r5,T5)]).map Prod.snd=JK (k+1)):=by show _=_; rw[List.map_append,HBL5.out.2,HNX.out]; rfl
      clear hGR5 hT hr1 hr2 hb2 hbl hblen ho6 hk6 hat6 hat6' hx1;generalize bs5++[(r5,T5)]=bs6 at *;go_wp2_with (first | (at_builtin; refine wpList_append_run rfl (.tmp 91) (.tmp 98) 93 rfl (.slice za zm zc) (.slice (some (aD x2.heap.size 0)) 1 1) (.slice ua um uc) x3 rfl rfl hr6 ?_));clear hr6 a0 a1 a2 a3 a4 a5 a6 a7 a8 a9 a10 a11 a12 n0 n1 n2 n3 n4 n5 n6;go_wp2;go_roundw
      case rel=>exact⟨k+1,bs6,by omega,by go_num,HSN.out,HF.out.1,HF.out.2⟩
      case measure=>simp[intOf]; omega
  ·have hkc:cn=k:=by omega
   have HF:Hid (bs.map Prod.snd=R):=by
    have:=HBS.out;rw[<- hkc,HCN.out,HJE.out] at this;exact this
   clear hkc;go_wp2;go_ret;exact⟨.slice pa pm pc,bs,rfl,HF.out,HTI.out.base HB2.out.size,bQ1 HB2.out HBW.out⟩
end Go.Proofs.YtlpbelhfpoilpabGreatDoor

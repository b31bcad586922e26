import Derived.Test.YtbcgekghfgcakaaGreatDoorF19
set_option linter.all false
set_option maxRecDepth 100000
set_option maxHeartbeats 16000000
namespace Go.Proofs.Zz
open Go.RowKit Go.Shelf
def az.list (n:az):List Value:=[.int .i64 n.kind,.int .i64 n.l,.int .i64 n.r,.int .i64 n.source,n.cl.val,.int .i64 n.key,n.co.val]
theorem xD (n:az):n.list.length=7:=rfl
theorem rU:∀ (l:List az) (i j:Nat) (v:Value) (n:az),i<l.length->j<7->n.list=(l.getD i nz).list.set j v->(l.flatMap az.list).set (i*7+j) v=(l.set i n).flatMap az.list
 | [],i,_,_,_,h,_,_ => absurd h (by simp)
 | a::l,0,j,v,n,_,hj,e => by
  rw[QA,Qc,QA,QD,QE,List.set_append_left _ _ (by rw[xD]; exact hj),e];rfl
 | a::l,i+1,j,v,n,h,hj,e => by
  rw[QA,Qb,QA,ZI _ _ (by rw[xD]; omega),xD,show (i+1)*7+j-7=i*7+j by omega,rU l i j v n (by simpa using h) hj e]
theorem zk {w:World} {base:Nat} {e:TypeId} {sz:Nat} {v:Value} {n:Nat} {xs:List Value} (h:w.ownsRow base e sz v n xs) {g:Nat} (hg:v.ownBlock=some g) {j:Nat} (hj:j<n*sz) (u:Value):(w.setCell (aD g j) u).ownsRow base e sz v n (xs.set j u):=by
 refine⟨by rw[XF]; exact h.1,?_⟩;rcases h.2 with⟨rfl,_⟩ | ⟨g',cap,cur,rfl,hb,hh,hn,hm,hs,ht⟩
 ·cases hg
 ·cases hg
  refine .inr ⟨g',cap,cur.setIfInBounds j u,rfl,hb,GB.set (show GB w g' e cur from hh) j u,hn,hm,by rw[Array.size_setIfInBounds]; exact hs,?_⟩;rw[Array.toList_setIfInBounds,List.take_set,ht]
theorem Am {w:World} {base:Nat} {e:TypeId} {sz:Nat} {v:Value} {n:Nat} {xs:List Value} (h:w.ownsRow base e sz v n xs) {g:Nat} (hg:v.ownBlock=some g) (j:Nat):w.frozen? (aD g j)=false:=by
 rcases h.2 with⟨rfl,_⟩ | ⟨g',cap,cur,rfl,hb,hh,_⟩
 ·cases hg
 ·cases hg
  exact QH (show GB w g' e cur from hh) j
theorem EA {w:World} {g j:Nat} (u:Value):Kept (fun b=>b≠g) w (w.setCell (aD g j) u):=Zv _ _ _ (fun h=>h rfl)
theorem H8 {w:World} {base:Nat} {e:TypeId} {v:Value} {ns:List az} {m:Nat} (h:w.ownsRow base e 7 v m (ns.flatMap az.list)) {i:Nat} (hi:i<ns.length) :
  ∃ g cap,v=.slice (some (aD g 0)) m cap/\base<=g/\g<w.heap.size/\∀ j u,j<7->(ns.getD i nz).list[j]? = some u->w.cell? (aD g (i*7+j))=some u:=by
 have hl:ns.length=m:=by have:=h.1; rw[iV az.list 7 (fun _=>rfl)] at this; omega
 rcases ZT h with⟨_,h1⟩ | ⟨g,cap,hv,hb,hlt,hc⟩
 ·omega
 ·exact⟨g,cap,hv,hb,hlt,fun j u hj hu=>hc _ _ (by rw[ZR az.list 7 (fun _=>rfl) nz ns i j hi hj]; exact hu)⟩
structure eZ (Tn:TypeId) (F:Nat->Prop) (base:Nat) (w:World) (v:Value) (nv:List az):Prop where
 own:w.ownsRow base Tn 7 v nv.length (nv.flatMap az.list)
 blk:∀ g,v.ownBlock=some g->F g
 lists:∀ n∈nv,n.cl.At w/\mI F n.cl.ad n.cl.xs.length/\n.co.At w/\mI F n.co.ad n.co.xs.length/\n.co.xs.length<=n.co.cap
theorem eZ.aT {Tn:TypeId} {F:Nat->Prop} {base:Nat} {w w':World} {v:Value} {nv:List az} (h:eZ Tn F base w v nv) (hk:Kept F w w'):eZ Tn F base w' v nv:=
 ⟨Zx h.own hk h.blk,h.blk,fun n hn=>by
  obtain⟨h1,h2,h3,h4,h5⟩:=h.lists n hn;exact⟨Xu h1 hk h2,h2,Xu h3 hk h4,h4,h5⟩⟩
theorem eZ.below {Tn:TypeId} {F:Nat->Prop} {base:Nat} {w w':World} {v:Value} {nv:List az} (h:eZ Tn F base w v nv) (hb:Below w.heap.size w w'):eZ Tn F base w' v nv:=h.aT (Q9 hb fun _ h _=>h)
theorem eZ.mono {Tn:TypeId} {F G:Nat->Prop} {base:Nat} {w:World} {v:Value} {nv:List az} (h:eZ Tn F base w v nv) (hs:∀ b,b<w.heap.size->F b->G b):eZ Tn G base w v nv:=
 ⟨h.own,fun g hg=>hs g (Zy h.own hg).2 (h.blk g hg),fun n hn=>by
  obtain⟨h1,h2,h3,h4,h5⟩:=h.lists n hn;exact⟨h1,mI.mono h1.2 h2 hs,h3,mI.mono h3.2 h4 hs,h5⟩⟩
def gW (Tn:TypeId) (F:Nat->Prop) (w:World) (ns:List az) (e:Ending) (w':World):Prop:=
 ∃ v nv,e=.returned v/\nv.map fK=ns/\eZ Tn F w.heap.size w' v nv/\Below w.heap.size w w'
def gJ (a:Nat) (ns:List az) (k:Nat):List az:=(ns.take k).map (gM a)++ns.drop k
theorem H9 (a:Nat) (ns:List az) (k:Nat):(gJ a ns k).length=ns.length:=by
 unfold gJ;rw[QT,QU,<- QT,List.take_append_drop]
theorem Ia (a:Nat) {ns:List az} {k:Nat} (hk:k<ns.length):(gJ a ns k).getD k nz=ns.getD k nz:=by
 unfold gJ;rw[Xq,Xq,QF (by rw[QU,Q6]; omega),QU,Q6,Qy (by omega),ZJ,XH,ZU]
theorem ED (a:Nat) {ns:List az} {k:Nat} (hk:k<ns.length):gJ a ns (k+1)=(gJ a ns k).set k (gM a (ns.getD k nz)):=by
 unfold gJ;have h1:((ns.take k).map (gM a)).length=k:=by rw[QU,Q6]; omega
 have h2:ns.drop k=ns.getD k nz::ns.drop (k+1):=by
  rw[Xc hk,Xq,ZG hk];rfl
 rw[ZI _ _ (by rw[h1]; exact Qq _),h1,ZJ,h2,Qc,XB ns nz hk,Ql,QC];rfl
theorem U7 {α:Type} (l:List α) (d:α) {k:Nat} (hk:k<l.length):l.set k (l.getD k d)=l:=by
 rw[Xq,ZG hk];exact List.set_getElem_self hk
theorem EE (a:Nat) (ns:List az):gJ a ns 0=ns:=by unfold gJ; simp
theorem Ib (a:Nat) (ns:List az):gJ a ns ns.length=ns.map (gM a):=by unfold gJ; simp
def XG:=@EA
theorem MR (sb:Nat) (v0 v1 v2 v3 v4 v5 v6 v7 v8 v9 v10 v11 v12 gs bv pk:Value) (aa:Option Addr) (n ac:Nat) (ct:Bool) (st:Int) (w:World) (hg:GB w sb 102 #[v0,v1,v2,v3,v4,v5,v6,v7,v8,v9,v10,v11,v12,gs,.slice aa n ac,.bool ct,bv,pk,.int .i64 st]) :
  Calls Tryz.prog 78 #[.pointer (some (aD sb 0))] w fun e w'=>(∃ v,e=.returned v)/\Kept (fun b=>b≠sb) w w'/\GB w' sb 102 #[v0,v1,v2,v3,v4,v5,v6,v7,v8,v9,v10,v11,v12,gs,.slice aa n ac,.bool ct,bv,pk,.int .i64 (if 0<n then st else if ct=true then 3 else 2)]:=by
 have c14:=hg.at 14;have c15:=hg.at 15;have c18:=hg.at 18;have f18:=hg.frozen 18;have HS:Hid (∀ x:Int,GB (w.setCell (aD sb 18) (.int .i64 x)) sb 102 #[v0,v1,v2,v3,v4,v5,v6,v7,v8,v9,v10,v11,v12,gs,.slice aa n ac,.bool ct,bv,pk,.int .i64 x]):=fun x=>hg.set 18 (.int .i64 x)
 have HG:=Zh hg;obtain⟨R,hR⟩:∃ R,R=if 0<n then st else if ct=true then 3 else 2:=⟨_,rfl⟩
 rw[<- hR];have HR:=Zh hR;clear hg hR;by_cases h0:0<n
 ·have HV:=Zh (HR.out.trans (Qr h0));clear HR;go_enter Tryz.func78,Tryz.ntmps78;go_wp2;refine Xi (results_none rfl _ _ _) rfl ?_;exact⟨⟨_,rfl⟩,Q7 _ _,by rw[HV.out]; exact HG.out⟩
 ·obtain rfl:n=0:=by omega
  cases ct with
  | true =>
   have HV:Hid (R=3):=HR.out.trans (by simp);clear HR;go_enter Tryz.func78,Tryz.ntmps78;go_wp2;go_end0;exact⟨⟨_,rfl⟩,Zv _ _ _ (fun h=>h rfl),by rw[HV.out]; exact HS.out 3⟩
  | false =>
   have HV:Hid (R=2):=HR.out.trans (by simp);clear HR;go_enter Tryz.func78,Tryz.ntmps78;go_wp2;go_end0;exact⟨⟨_,rfl⟩,Zv _ _ _ (fun h=>h rfl),by rw[HV.out]; exact HS.out 2⟩
theorem MS (sb:Nat) (pa:Option Addr) (n pc:Nat) (w:World) (hc:w.cell? (aD sb 17)=some (.slice pa n pc)) :
  Calls Tryz.prog 28 #[.pointer (some (aD sb 0))] w fun e w'=>e=.returned (.int .i64 (n:Int))/\w' = w:=by
 go_enter Tryz.func28,Tryz.ntmps28;go_wp2;go_ret;exact⟨rfl,rfl⟩
theorem Tryz.Bd:(Tryz.prog.info? 71).map (fun i=>(i.zero,i.size,i.bytes))=some (some (.agg #[.int .i64 0,.int .i64 0,.int .i64 0,.int .i64 0,.slice none 0 0,.int .i64 0,.slice none 0 0]),7,88):=by kernel_rfl
theorem Dz {ns:List az}:∀ u∈ns.flatMap az.list,u.oneCell' = true:=by
 intro u hu;obtain⟨n,_,hn⟩:=Xz.1 hu;unfold az.list ah.val at hn;simp at hn;rcases hn with rfl | rfl | rfl | rfl | rfl | rfl | rfl <;> rfl
theorem Be (v:Value) (base:Nat) (ns:List az) (w:World) (hx:w.ownsRow base 71 7 v ns.length (ns.flatMap az.list)) (hl:ns.length<=1000) :
  Calls Tryz.prog 202 #[v] w fun e w'=>∃ v,e=.returned v/\w'.ownsRow w.heap.size 71 7 v ns.length (ns.flatMap az.list)/\Below w.heap.size w w':=by
 obtain⟨i0,hi,hz0,hz1,hz2⟩:=ZC Tryz.Bd;rcases ZT hx with⟨rfl,h1⟩ | ⟨g,cap,rfl,hb,hlt,hc⟩
 ·have h0:=List.length_eq_zero_iff.1 h1;subst h0;have hnil:∀ W,(binOp .eql 41 (.slice none 0 0) (.slice none 0 0)).run Tryz.prog W=.ok (.bool true) W:=fun W=>XC W 41 _ none _ _ _ _ Tryz.underlying41
  clear hx;go_enter Tryz.func202,Tryz.ntmps202;go_wp2;go_ret;exact⟨_,rfl,ZE _ _ _ _,Qp _ _⟩
 ·obtain⟨v',w',hr,ho,hbw,⟨va,vm,vc,rfl⟩⟩:=lL (P:=Tryz.prog) w 41 41 71 i0 _ 7 88 Tryz.underlying41 hi hz0 hz1 hz2 rfl (by decide) (aD g 0) ns.length cap (ns.flatMap az.list) (iV az.list 7 (fun _=>rfl) ns)
   (fun j u hj=>⟨g,0,rfl,by rw[QE]; exact hc j u hj⟩) Dz (by omega) (by decide)
  have hnil:∀ W,(binOp .eql 41 (.slice (some (aD g 0)) ns.length cap) (.slice none 0 0)).run Tryz.prog W=.ok (.bool false) W:=fun W=>XC W 41 _ (some (aD g 0)) _ _ _ _ Tryz.underlying41
  have HO:Hid _:=ho;have HB:=Zh hbw;clear ho hbw hx hi hz0 hz1 hz2 hc;go_enter Tryz.func202,Tryz.ntmps202;go_wp2_with (first | (at_builtin; refine ZN rfl (.tmp 5) (.tmp 6) 41 rfl (.slice (some (aD w.heap.size 0)) 0 0) (.slice (some (aD g 0)) ns.length cap) (.slice va vm vc) w' rfl rfl hr ?_));clear hr;go_wp2;go_ret;exact⟨_,rfl,HO.out,HB.out⟩
theorem M8 (v:Value) (base:Nat) (ns:List az) (a:Nat) (w:World) (hx:w.ownsRow base 71 7 v ns.length (ns.flatMap az.list)) (hl:ns.length<=1000) (hs:cZ w 0) (hk:∀ m∈ns,1<=m.kind/\m.kind<=10) :
  Calls Tryz.prog 144 #[v,.int .i64 (a:Int)] w fun e w'=>∃ v,e=.returned v/\w'.ownsRow w.heap.size 71 7 v ns.length ((ns.map (gM a)).flatMap az.list)/\Below w.heap.size w w':=by
 have Mm:=Be v base ns w hx hl;have HS:=Zh hs;have HKI:Hid (∀ i,i<ns.length->1<=(ns.getD i nz).kind/\(ns.getD i nz).kind<=10):=fun i hi=>hk _ (ZM hi)
 have HM0:=Zh (EE a ns);have HMA:=Zh (Ib a ns);have HMG:Hid (∀ k,k<ns.length->(gJ a ns k).getD k nz=ns.getD k nz):=fun k hk=>Ia a hk
 have HMS:Hid (∀ k,k<ns.length->gJ a ns (k+1)=(gJ a ns k).set k (gM a (ns.getD k nz))):=fun k hk=>ED a hk
 have HML:=Zh (H9 a ns);obtain⟨va,vn,vc,rfl⟩:=ZA hx;clear hx hs hk;obtain⟨MV,hMV⟩:∃ M,M=gJ a ns:=⟨_,rfl⟩
 rw[<- hMV] at HM0 HMA HMG HMS HML;clear hMV;generalize ns.map (gM a)=R at *;go_enter Tryz.func144,Tryz.ntmps144;go_wp2_with fail;refine Mm.mono ?_;rintro e w1 ⟨v1,rfl,ho1,hb1⟩;clear Mm;have Ls:Hid (w1.ownsRow w.heap.size 71 7 v1 ns.length ((MV 0).flatMap az.list)):=by rw[HM0.out]; exact ho1
 have HB1:=Zh hb1;obtain⟨xa,xm,xc,rfl⟩:=ZA ho1;have hxm:xm=ns.length:=by
  rcases ho1.2 with⟨h,h1⟩ | ⟨g,c,cur,h,_⟩
  ·injection h with _ h _; omega
  ·injection h with _ h _
 subst hxm;clear ho1 hb1;go_wp2;go_loopw [12] (fun iv wr=>∃ k:Nat,k<=ns.length/\iv=.int .i64 (k:Int)/\Hid (wr.ownsRow w.heap.size 71 7 (.slice xa ns.length xc) ns.length ((MV k).flatMap az.list))/\Hid (Below w.heap.size w wr)) (fun iv _=>ns.length-(intOf iv).toNat)
 case atStart=>exact⟨0,QQ _,rfl,Ls.out,HB1.out⟩
 case round=>
  obtain⟨k,hk,rfl,HO,HB⟩:=hrel;by_cases hlt:k<ns.length
  ·obtain⟨g,cap,hv,hgb,hgl,hcell⟩:=H8 HO.out (i:=k) (by rw[HML.out]; exact hlt);simp only[Value.slice.injEq] at hv;obtain⟨rfl,-,rfl⟩:=hv;rw[HMG.out k hlt] at hcell;obtain⟨hk1,hk10⟩:=HKI.out k hlt;have M9:=Zh (HMS.out k hlt);have HGk:=Zh (HMG.out k hlt);obtain⟨n,hn⟩:∃ n,n=ns.getD k nz:=⟨_,rfl⟩
   rw[<- hn] at hcell hk1 hk10 M9 HGk;have c0:=hcell 0 _ (by omega) rfl;have c1:=hcell 1 _ (by omega) rfl;have c2:=hcell 2 _ (by omega) rfl;rw[ZU] at c0;have hf1:=Am HO.out (g:=g) rfl (k*7+1);obtain⟨kd,hkd⟩:=ZZ (show 0<=n.kind by omega);have hS:=(Z9 HB.out HS.out).get (k:=kd) (by omega);obtain⟨s0,-⟩:=hS;have hsi:=BM hk1;rw[hkd] at hsi c0;rw[hsi,QE] at s0;have hAR:gM a n=⟨n.kind,if 1<=arity (kd:Int) then wrap64 (n.l+a) else n.l,if 2<=arity (kd:Int) then wrap64 (n.r+a) else n.r,n.source,n.cl,n.key,n.co⟩:=by unfold gM; rw[hkd]
   have apg:arity (kd:Int)<=2:=by unfold arity; split <;> (try split) <;> omega
   generalize arity (kd:Int)=ar at *;have asc:kd<=10:=by omega
   obtain⟨nk,nl,nr,OI,OJ,OL,OM⟩:=n;simp only at *;clear hcell hsi hn hkd hk1 hk10
   match ar,apg with
   | 0,_ =>
    have HN:Hid (MV (k+1)=MV k):=by
     show _=_
     have e:gM a ⟨nk,nl,nr,OI,OJ,OL,OM⟩=⟨nk,nl,nr,OI,OJ,OL,OM⟩:=by rw[hAR]; simp
     rw[M9.out,e];have:=U7 (MV k) nz (k:=k) (by rw[HML.out]; exact hlt);rw[HGk.out] at this;exact this
    have HON:Hid _:=HO;rw[<- HN.out] at HON;clear hAR M9 HGk HO;go_wp2;go_roundw
    case rel=>exact⟨k+1,by omega,by go_num,HON.out,HB.out⟩
    case measure=>simp[intOf]; omega
   | 1,_ =>
    obtain⟨w4,hw4⟩:∃ x,wr.setCell (aD g (k*7+1)) (.int .i64 (wrap64 (nl+a)))=x:=⟨_,rfl⟩
    have HN:Hid (MV (k+1)=(MV k).set k ⟨nk,wrap64 (nl+a),nr,OI,OJ,OL,OM⟩):=by
     show _=_
     have e:gM a ⟨nk,nl,nr,OI,OJ,OL,OM⟩=⟨nk,wrap64 (nl+a),nr,OI,OJ,OL,OM⟩:=by rw[hAR]; simp
     rw[M9.out,e]
    have hset:=zk HO.out (g:=g) rfl (j:=k*7+1) (by omega) (.int .i64 (wrap64 (nl+a)));rw[rU (MV k) k 1 (.int .i64 (wrap64 (nl+a))) ⟨nk,wrap64 (nl+a),nr,OI,OJ,OL,OM⟩ (by rw[HML.out]; exact hlt) (by omega) (by rw[HGk.out]; rfl),<- HN.out,hw4] at hset;have HON:Hid _:=hset;have jE:Hid (Below w.heap.size w w4):=by
     show Below _ _ _
     rw[<- hw4];exact HB.out.trans ((XG (g:=g) _).below HB.out.size (fun b hb=>by omega))
    clear hAR M9 HGk HO hset HN;go_wp2;go_roundw
    case rel=>exact⟨k+1,by omega,by go_num,HON.out,jE.out⟩
    case measure=>simp[intOf]; omega
   | 2,_ =>
    obtain⟨w4,hw4⟩:∃ x,wr.setCell (aD g (k*7+1)) (.int .i64 (wrap64 (nl+a)))=x:=⟨_,rfl⟩
    obtain⟨w5,uL⟩:∃ x,w4.setCell (aD g (k*7+2)) (.int .i64 (wrap64 (nr+a)))=x:=⟨_,rfl⟩
    have HN:Hid (MV (k+1)=((MV k).set k ⟨nk,wrap64 (nl+a),nr,OI,OJ,OL,OM⟩).set k ⟨nk,wrap64 (nl+a),wrap64 (nr+a),OI,OJ,OL,OM⟩):=by
     show _=_
     have e:gM a ⟨nk,nl,nr,OI,OJ,OL,OM⟩=⟨nk,wrap64 (nl+a),wrap64 (nr+a),OI,OJ,OL,OM⟩:=by rw[hAR]; simp
     rw[M9.out,e,List.set_set]
    have hset:=zk HO.out (g:=g) rfl (j:=k*7+1) (by omega) (.int .i64 (wrap64 (nl+a)));have hle:k<(MV k).length:=by rw[HML.out]; exact hlt
    rw[rU (MV k) k 1 (.int .i64 (wrap64 (nl+a))) ⟨nk,wrap64 (nl+a),nr,OI,OJ,OL,OM⟩ hle (by omega) (by rw[HGk.out]; rfl),hw4] at hset;have hgs:((MV k).set k ⟨nk,wrap64 (nl+a),nr,OI,OJ,OL,OM⟩).getD k nz=⟨nk,wrap64 (nl+a),nr,OI,OJ,OL,OM⟩:=by
     rw[Xq,List.getElem?_set_self hle];rfl
    have WE:=zk hset (g:=g) rfl (j:=k*7+2) (by omega) (.int .i64 (wrap64 (nr+a)));rw[rU _ k 2 (.int .i64 (wrap64 (nr+a))) ⟨nk,wrap64 (nl+a),wrap64 (nr+a),OI,OJ,OL,OM⟩ (by rw[XF]; exact hle) (by omega) (by rw[hgs]; rfl),<- HN.out,uL] at WE;have c2':w4.cell? (aD g (k*7+2))=some (.int .i64 nr):=by
     rw[<- hw4];exact (World.cell?_setCell_other _ _ _ _ (by intro h; simp only[Addr.mk.injEq] at h; omega)).trans c2
    have f2':w4.frozen? (aD g (k*7+2))=false:=Am hset (g:=g) rfl _;have HON:Hid _:=WE;have jZ:Hid (Below w.heap.size w w5):=by
     show Below _ _ _
     have h4:Below w.heap.size w w4:=by
      rw[<- hw4];exact HB.out.trans ((XG (g:=g) _).below HB.out.size (fun b hb=>by omega))
     rw[<- uL];exact h4.trans ((XG (g:=g) _).below h4.size (fun b hb=>by omega))
    clear hAR M9 HGk HO hset WE HN hgs hle;go_wp2;go_roundw
    case rel=>exact⟨k+1,by omega,by go_num,HON.out,jZ.out⟩
    case measure=>simp[intOf]; omega
  ·have hkn:ns.length=k:=by omega
   have HF:Hid _:=HO;rw[<- hkn,HMA.out] at HF;go_wp2;go_ret;exact⟨_,rfl,HF.out,HB.out⟩

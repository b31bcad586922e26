import Derived.Test.YtlpbelhfpoilpaaGreatDoorRE24
set_option linter.all false
set_option maxRecDepth 100000
set_option maxHeartbeats 16000000
namespace Go.Proofs.Zz
open Go.RowKit Go.Shelf
variable {w:World} {base g k n sz:Nat} {e:TypeId} {v:Value} {xs:List Value} {ns:List ai}
def ai.list(n:ai):List Value:=[.int .i64 n.kind,.int .i64 n.l,.int .i64 n.r,.int .i64 n.source,n.cl.val,.int .i64 n.key,n.co.val]
theorem zo(n:ai):n.list.length=7:=rfl
theorem uk:∀ (l:List ai) (i j:Nat) (v:Value) (n:ai),i<l.length->j<7->n.list=(l.getD i nz).list.set j v->(l.flatMap ai.list).set (i*7+j) v=(l.set i n).flatMap ai.list
 | [],i,_,_,_,h,_,_ => absurd h (by simp)
 | a::l,0,j,v,n,_,hj,e => by
  rw[QM,Qf,QM,QP,QQ,List.set_append_left _ _ (by rw[zo]; exact hj),e];rfl
 | a::l,i+1,j,v,n,h,hj,e => by
  rw[QM,Qe,QM,Z0 _ _ (by rw[zo]; omega),zo,show (i+1)*7+j-7=i*7+j by omega,uk l i j v n (by simpa using h) hj e]
theorem Bf(h:w.ownsRow base e sz v n xs)(hg:v.ownBlock=some g){j:Nat}(hj:j<n*sz)(u:Value):(w.setCell (aD g j) u).ownsRow base e sz v n (xs.set j u):=by
 refine⟨by rw[XO]; exact h.1,?_⟩;rcases h.2 with⟨rfl,_⟩ | ⟨g',cap,cur,rfl,hb,hh,hn,hm,hs,ht⟩
 ·cases hg
 ·cases hg
  refine .inr ⟨g',cap,cur.setIfInBounds j u,rfl,hb,GB.set (show GB w g' e cur from hh) j u,hn,hm,by rw[Array.size_setIfInBounds]; exact hs,?_⟩;rw[Array.toList_setIfInBounds,List.take_set,ht]
theorem Cn(h:w.ownsRow base e sz v n xs)(hg:v.ownBlock=some g)(j:Nat):w.frozen? (aD g j)=false:=by
 rcases h.2 with⟨rfl,_⟩ | ⟨g',cap,cur,rfl,hb,hh,_⟩
 ·cases hg
 ·cases hg
  exact QU (show GB w g' e cur from hh) j
theorem GK{w:World}{g j:Nat}(u:Value):Kept (fun b=>b≠g) w (w.setCell (aD g j) u):=ZL _ _ _ (fun h=>h rfl)
theorem Kg{m:Nat}(h:w.ownsRow base e 7 v m (ns.flatMap ai.list)){i:Nat}(hi:i<ns.length) :
  ∃ g cap,v=.slice (some (aD g 0)) m cap/\base<=g/\g<w.heap.size/\∀ j u,j<7->(ns.getD i nz).list[j]? = some u->w.cell? (aD g (i*7+j))=some u:=by
 have hl:ns.length=m:=by have:=h.1; rw[ko ai.list 7 (fun _=>rfl)]at this; omega
 rcases Xd h with⟨_,h1⟩ | ⟨g,cap,hv,hb,hlt,hc⟩
 ·omega
 ·exact⟨g,cap,hv,hb,hlt,fun j u hj hu=>hc _ _ (by rw[Xc ai.list 7 (fun _=>rfl) nz ns i j hi hj]; exact hu)⟩
structure fI(Tn:TypeId)(F:Nat->Prop)(base:Nat)(w:World)(v:Value)(nv:List ai):Prop where
 own:w.ownsRow base Tn 7 v nv.length (nv.flatMap ai.list)
 blk:∀ g,v.ownBlock=some g->F g
 lists:∀ n∈nv,n.cl.At w/\oq F n.cl.ad n.cl.xs.length/\n.co.At w/\oq F n.co.ad n.co.xs.length/\n.co.xs.length<=n.co.cap
theorem fI.aX{Tn:TypeId}{F:Nat->Prop}{base:Nat}{w w':World}{v:Value}{nv:List ai}(h:fI Tn F base w v nv)(hk:Kept F w w'):fI Tn F base w' v nv:=
 ⟨ZN h.own hk h.blk,h.blk,fun n hn=>by
  obtain⟨h1,h2,h3,h4,h5⟩:=h.lists n hn;exact⟨Xe h1 hk h2,h2,Xe h3 hk h4,h4,h5⟩⟩
theorem fI.below{Tn:TypeId}{F:Nat->Prop}{base:Nat}{w w':World}{v:Value}{nv:List ai}(h:fI Tn F base w v nv)(hb:Bw w w'):fI Tn F base w' v nv:=h.aX (Zo hb fun _ h _=>h)
theorem fI.mono{Tn:TypeId}{F G:Nat->Prop}{base:Nat}{w:World}{v:Value}{nv:List ai}(h:fI Tn F base w v nv)(hs:∀ b,b<w.heap.size->F b->G b):fI Tn G base w v nv:=
 ⟨h.own,fun g hg=>hs g (ZO h.own hg).2 (h.blk g hg),fun n hn=>by
  obtain⟨h1,h2,h3,h4,h5⟩:=h.lists n hn;exact⟨h1,oq.mono h1.2 h2 hs,h3,oq.mono h3.2 h4 hs,h5⟩⟩
def jm(Tn:TypeId)(F:Nat->Prop)(w:World)(ns:List ai)(e:Ending)(w':World):Prop:=
 ∃ v nv,e=.returned v/\nv.map eQ=ns/\fI Tn F w.heap.size w' v nv/\Bw w w'
def je(a:Nat)(ns:List ai)(k:Nat):List ai:=(ns.take k).map (bJ a)++ns.drop k
theorem Kh(a:Nat)(ns:List ai)(k:Nat):(je a ns k).length=ns.length:=by
 unfold je;rw[Zb,Zc,<- Zb,List.take_append_drop]
theorem Ki(a:Nat)(hk:k<ns.length):(je a ns k).getD k nz=ns.getD k nz:=by
 unfold je;rw[XH,XH,QS (by rw[Zc,Zm]; omega),Zc,Zm,QK (by omega),Z4,XQ,Zf]
theorem GL(a:Nat)(hk:k<ns.length):je a ns (k+1)=(je a ns k).set k (bJ a (ns.getD k nz)):=by
 unfold je;have h1:((ns.take k).map (bJ a)).length=k:=by rw[Zc,Zm]; omega
 have h2:ns.drop k=ns.getD k nz::ns.drop (k+1):=by
  rw[XR hk,XH,ZX hk];rfl
 rw[Z0 _ _ (by rw[h1]; exact Qx _),h1,Z4,h2,Qf,XL ns nz hk,Qs,QO];rfl
theorem Yo{α:Type}(l:List α)(d:α)(hk:k<l.length):l.set k (l.getD k d)=l:=by
 rw[XH,ZX hk];exact List.set_getElem_self hk
theorem GM(a:Nat)(ns:List ai):je a ns 0=ns:=by unfold je; simp
theorem Kj(a:Nat)(ns:List ai):je a ns ns.length=ns.map (bJ a):=by unfold je; simp
def XP:=@GK
theorem O0(sb:Nat)(v0 v1 v2 v3 v4 v5 v6 v7 v8 v9 v10 v11 v12 gs bv pk:Value)(aa:Option Addr)(n ac:Nat)(ct:Bool)(st:Int)(w:World)(hg:GB w sb 174 #[v0,v1,v2,v3,v4,v5,v6,v7,v8,v9,v10,v11,v12,gs,.slice aa n ac,.bool ct,bv,pk,.int .i64 st]) :
  Calls Tryz.prog 169 #[.pointer (some (aD sb 0))] w fun e w'=>(∃ v,e=.returned v)/\Kept (fun b=>b≠sb) w w'/\GB w' sb 174 #[v0,v1,v2,v3,v4,v5,v6,v7,v8,v9,v10,v11,v12,gs,.slice aa n ac,.bool ct,bv,pk,.int .i64 (if 0<n then st else if ct=true then 3 else 2)]:=by
 have c14:=hg.at 14;have c15:=hg.at 15;have c18:=hg.at 18;have f18:=hg.frozen 18;have HS:Hid (∀ x:Int,GB (w.setCell (aD sb 18) (.int .i64 x)) sb 174 #[v0,v1,v2,v3,v4,v5,v6,v7,v8,v9,v10,v11,v12,gs,.slice aa n ac,.bool ct,bv,pk,.int .i64 x]):=fun x=>hg.set 18 (.int .i64 x)
 have HG:=Zh hg;obtain⟨R,hR⟩:∃ R,R=if 0<n then st else if ct=true then 3 else 2:=⟨_,rfl⟩
 rw[<- hR];have HR:=Zh hR;clear hg hR;by_cases h0:0<n
 ·have HV:=Zh (HR.o.trans (Qy h0));clear HR;go_enter Tryz.func169,Tryz.ntmps169;go_wp2;refine XE (results_none rfl _ _ _) rfl ?_;exact⟨⟨_,rfl⟩,Zn _ _,by rw[HV.o]; exact HG.o⟩
 ·obtain rfl:n=0:=by omega
  cases ct with
  | true =>
   have HV:Hid (R=3):=HR.o.trans (by simp);clear HR;go_enter Tryz.func169,Tryz.ntmps169;go_wp2;go_end0;exact⟨⟨_,rfl⟩,ZL _ _ _ (fun h=>h rfl),by rw[HV.o]; exact HS.o 3⟩
  | false =>
   have HV:Hid (R=2):=HR.o.trans (by simp);clear HR;go_enter Tryz.func169,Tryz.ntmps169;go_wp2;go_end0;exact⟨⟨_,rfl⟩,ZL _ _ _ (fun h=>h rfl),by rw[HV.o]; exact HS.o 2⟩
theorem O3(sb:Nat)(pa:Option Addr)(n pc:Nat)(w:World)(hc:w.cell? (aD sb 17)=some (.slice pa n pc)) :
  Ce 62 #[.pointer (some (aD sb 0))] w (.int .i64 (n:Int)):=by
 go_enter Tryz.func62,Tryz.ntmps62;go_wp2;go_ret;exact⟨rfl,rfl⟩
theorem Tryz.Dc:(Tryz.prog.info? 58).map (fun i=>(i.zero,i.size,i.bytes))=some (some (.agg #[.int .i64 0,.int .i64 0,.int .i64 0,.int .i64 0,.slice none 0 0,.int .i64 0,.slice none 0 0]),7,88):=by kernel_rfl
theorem FY:∀ u∈ns.flatMap ai.list,u.oneCell' = true:=by
 intro u hu;obtain⟨n,_,hn⟩:=XC.1 hu;unfold ai.list ah.val at hn;simp at hn;rcases hn with rfl | rfl | rfl | rfl | rfl | rfl | rfl <;> rfl
theorem De(v:Value)(base:Nat)(ns:List ai)(w:World)(hx:w.ownsRow base 58 7 v ns.length (ns.flatMap ai.list))(hl:ns.length<=1000) :
  Calls Tryz.prog 302 #[v] w fun e w'=>∃ v,e=.returned v/\w'.ownsRow w.heap.size 58 7 v ns.length (ns.flatMap ai.list)/\Bw w w':=by
 obtain⟨i0,hi,hz0,hz1,hz2⟩:=ZU Tryz.Dc;rcases Xd hx with⟨rfl,h1⟩ | ⟨g,cap,rfl,hb,hlt,hc⟩
 ·have h0:=Xw.1 h1;subst h0;have hnil:∀ W,(binOp .eql 27 (.slice none 0 0) (.slice none 0 0)).run Tryz.prog W=.ok (.bool true) W:=fun W=>XF W 27 _ none _ _ _ _ Tryz.underlying27
  clear hx;go_enter Tryz.func302,Tryz.ntmps302;go_wp2;go_ret;exact⟨_,rfl,ZV _ _ _ _,Qw _ _⟩
 ·obtain⟨v',w',hr,ho,hbw,⟨va,vm,vc,rfl⟩⟩:=nE (P:=Tryz.prog) w 27 27 58 i0 _ 7 88 Tryz.underlying27 hi hz0 hz1 hz2 rfl (by decide) (aD g 0) ns.length cap (ns.flatMap ai.list) (ko ai.list 7 (fun _=>rfl) ns)
   (fun j u hj=>⟨g,0,rfl,by rw[QQ]; exact hc j u hj⟩) FY (by omega) (by decide)
  have hnil:∀ W,(binOp .eql 27 (.slice (some (aD g 0)) ns.length cap) (.slice none 0 0)).run Tryz.prog W=.ok (.bool false) W:=fun W=>XF W 27 _ (some (aD g 0)) _ _ _ _ Tryz.underlying27
  have HO:Hid _:=ho;have HB:=Zh hbw;clear ho hbw hx hi hz0 hz1 hz2 hc;go_enter Tryz.func302,Tryz.ntmps302;go_wp2_with (first | (at_builtin; refine Z8 rfl (.tmp 5) (.tmp 6) 27 rfl (.slice (some (aD w.heap.size 0)) 0 0) (.slice (some (aD g 0)) ns.length cap) (.slice va vm vc) w' rfl rfl hr ?_));clear hr;go_wp2;go_ret;exact⟨_,rfl,HO.o,HB.o⟩
theorem PQ(v:Value)(base:Nat)(ns:List ai)(a:Nat)(w:World)(hx:w.ownsRow base 58 7 v ns.length (ns.flatMap ai.list))(hl:ns.length<=1000)(hs:bQ w 0)(hk:∀ m∈ns,1<=m.kind/\m.kind<=10) :
  Calls Tryz.prog 238 #[v,.int .i64 (a:Int)] w fun e w'=>∃ v,e=.returned v/\w'.ownsRow w.heap.size 58 7 v ns.length ((ns.map (bJ a)).flatMap ai.list)/\Bw w w':=by
 have OI:=De v base ns w hx hl;have HS:=Zh hs;have HKI:Hid (∀ i,i<ns.length->1<=(ns.getD i nz).kind/\(ns.getD i nz).kind<=10):=fun i hi=>hk _ (Z7 hi)
 have HM0:=Zh (GM a ns);have HMA:=Zh (Kj a ns);have HMG:Hid (∀ k,k<ns.length->(je a ns k).getD k nz=ns.getD k nz):=fun k hk=>Ki a hk
 have HMS:Hid (∀ k,k<ns.length->je a ns (k+1)=(je a ns k).set k (bJ a (ns.getD k nz))):=fun k hk=>GL a hk
 have HML:=Zh (Kh a ns);obtain⟨va,vn,vc,rfl⟩:=ZP hx;clear hx hs hk;obtain⟨MV,hMV⟩:∃ M,M=je a ns:=⟨_,rfl⟩
 rw[<- hMV]at HM0 HMA HMG HMS HML;clear hMV;generalize ns.map (bJ a)=R at *;go_enter Tryz.func238,Tryz.ntmps238;go_wp2_with fail;refine OI.mono ?_;rintro e w1 ⟨v1,rfl,ho1,hb1⟩;clear OI;have R9:Hid (w1.ownsRow w.heap.size 58 7 v1 ns.length ((MV 0).flatMap ai.list)):=by rw[HM0.o]; exact ho1
 have HB1:=Zh hb1;obtain⟨xa,xm,xc,rfl⟩:=ZP ho1;have hxm:xm=ns.length:=by
  rcases ho1.2 with⟨h,h1⟩ | ⟨g,c,cur,h,_⟩
  ·injection h with _ h _; omega
  ·injection h with _ h _
 subst hxm;clear ho1 hb1;go_wp2;go_loopw [12] (fun iv wr=>∃ k:Nat,k<=ns.length/\iv=.int .i64 (k:Int)/\Hid (wr.ownsRow w.heap.size 58 7 (.slice xa ns.length xc) ns.length ((MV k).flatMap ai.list))/\Hid (Bw w wr)) (fun iv _=>ns.length-(intOf iv).toNat)
 case atStart=>exact⟨0,Q8 _,rfl,R9.o,HB1.o⟩
 case round=>
  obtain⟨k,hk,rfl,HO,HB⟩:=hrel;by_cases hlt:k<ns.length
  ·obtain⟨g,cap,hv,hgb,hgl,hcell⟩:=Kg HO.o (i:=k) (by rw[HML.o]; exact hlt);simp only[Value.slice.injEq]at hv;obtain⟨rfl,-,rfl⟩:=hv;rw[HMG.o k hlt]at hcell;obtain⟨hk1,hk10⟩:=HKI.o k hlt;have PR:=Zh (HMS.o k hlt);have HGk:=Zh (HMG.o k hlt);obtain⟨n,hn⟩:=eY (ns.getD k nz)
   rw[<- hn]at hcell hk1 hk10 PR HGk;have c0:=hcell 0 _ (by omega) rfl;have c1:=hcell 1 _ (by omega) rfl;have c2:=hcell 2 _ (by omega) rfl;rw[Zf]at c0;have hf1:=Cn HO.o (g:=g) rfl (k*7+1);obtain⟨kd,hkd⟩:=Xo (show 0<=n.kind by omega);have hS:=(XJ HB.o HS.o).get (k:=kd) (by omega);obtain⟨s0,-⟩:=hS;have hsi:=pG hk1;rw[hkd]at hsi c0;rw[hsi,QQ]at s0;have hAR:bJ a n=⟨n.kind,if 1<=arity (kd:Int) then wrap64 (n.l+a) else n.l,if 2<=arity (kd:Int) then wrap64 (n.r+a) else n.r,n.source,n.cl,n.key,n.co⟩:=by unfold bJ; rw[hkd]
   have atA:arity (kd:Int)<=2:=by unfold arity; split <;> (try split) <;> omega
   generalize arity (kd:Int)=ar at *;have awS:kd<=10:=by omega
   obtain⟨nk,nl,nr,Sj,Og,Sk,Oh⟩:=n;simp only at *;clear hcell hsi hn hkd hk1 hk10
   match ar,atA with
   | 0,_ =>
    have HN:Hid (MV (k+1)=MV k):=by
     show _=_
     have e:bJ a ⟨nk,nl,nr,Sj,Og,Sk,Oh⟩=⟨nk,nl,nr,Sj,Og,Sk,Oh⟩:=by rw[hAR]; simp
     rw[PR.o,e];have:=Yo (MV k) nz (k:=k) (by rw[HML.o]; exact hlt);rw[HGk.o]at this;exact this
    have HON:Hid _:=HO;rw[<- HN.o]at HON;clear hAR PR HGk HO;go_wp2;go_roundw
    case rel=>exact⟨k+1,by omega,by go_num,HON.o,HB.o⟩
    case measure=>simp[intOf]; omega
   | 1,_ =>
    obtain⟨w4,hw4⟩:∃ x,wr.setCell (aD g (k*7+1)) (.int .i64 (wrap64 (nl+a)))=x:=⟨_,rfl⟩
    have HN:Hid (MV (k+1)=(MV k).set k ⟨nk,wrap64 (nl+a),nr,Sj,Og,Sk,Oh⟩):=by
     show _=_
     have e:bJ a ⟨nk,nl,nr,Sj,Og,Sk,Oh⟩=⟨nk,wrap64 (nl+a),nr,Sj,Og,Sk,Oh⟩:=by rw[hAR]; simp
     rw[PR.o,e]
    have hset:=Bf HO.o (g:=g) rfl (j:=k*7+1) (by omega) (.int .i64 (wrap64 (nl+a)));rw[uk (MV k) k 1 (.int .i64 (wrap64 (nl+a))) ⟨nk,wrap64 (nl+a),nr,Sj,Og,Sk,Oh⟩ (by rw[HML.o]; exact hlt) (by omega) (by rw[HGk.o]; rfl),<- HN.o,hw4]at hset;have HON:Hid _:=hset;have mH:Hid (Bw w w4):=by
     show Below _ _ _
     rw[<- hw4];exact HB.o.trans ((XP (g:=g) _).below HB.o.size (fun b hb=>by omega))
    clear hAR PR HGk HO hset HN;go_wp2;go_roundw
    case rel=>exact⟨k+1,by omega,by go_num,HON.o,mH.o⟩
    case measure=>simp[intOf]; omega
   | 2,_ =>
    obtain⟨w4,hw4⟩:∃ x,wr.setCell (aD g (k*7+1)) (.int .i64 (wrap64 (nl+a)))=x:=⟨_,rfl⟩
    obtain⟨w5,uT⟩:∃ x,w4.setCell (aD g (k*7+2)) (.int .i64 (wrap64 (nr+a)))=x:=⟨_,rfl⟩
    have HN:Hid (MV (k+1)=((MV k).set k ⟨nk,wrap64 (nl+a),nr,Sj,Og,Sk,Oh⟩).set k ⟨nk,wrap64 (nl+a),wrap64 (nr+a),Sj,Og,Sk,Oh⟩):=by
     show _=_
     have e:bJ a ⟨nk,nl,nr,Sj,Og,Sk,Oh⟩=⟨nk,wrap64 (nl+a),wrap64 (nr+a),Sj,Og,Sk,Oh⟩:=by rw[hAR]; simp
     rw[PR.o,e,List.set_set]
    have hset:=Bf HO.o (g:=g) rfl (j:=k*7+1) (by omega) (.int .i64 (wrap64 (nl+a)));have hle:k<(MV k).length:=by rw[HML.o]; exact hlt
    rw[uk (MV k) k 1 (.int .i64 (wrap64 (nl+a))) ⟨nk,wrap64 (nl+a),nr,Sj,Og,Sk,Oh⟩ hle (by omega) (by rw[HGk.o]; rfl),hw4]at hset;have hgs:((MV k).set k ⟨nk,wrap64 (nl+a),nr,Sj,Og,Sk,Oh⟩).getD k nz=⟨nk,wrap64 (nl+a),nr,Sj,Og,Sk,Oh⟩:=by
     rw[XH,List.getElem?_set_self hle];rfl
    have aaN:=Bf hset (g:=g) rfl (j:=k*7+2) (by omega) (.int .i64 (wrap64 (nr+a)));rw[uk _ k 2 (.int .i64 (wrap64 (nr+a))) ⟨nk,wrap64 (nl+a),wrap64 (nr+a),Sj,Og,Sk,Oh⟩ (by rw[XO]; exact hle) (by omega) (by rw[hgs]; rfl),<- HN.o,uT]at aaN;have c2':w4.cell? (aD g (k*7+2))=some (.int .i64 nr):=by
     rw[<- hw4];exact(World.cell?_setCell_other _ _ _ _ (by intro h; simp only[Addr.mk.injEq]at h; omega)).trans c2
    have f2':w4.frozen? (aD g (k*7+2))=false:=Cn hset (g:=g) rfl _;have HON:Hid _:=aaN;have kF:Hid (Bw w w5):=by
     show Below _ _ _
     have h4:Bw w w4:=by
      rw[<- hw4];exact HB.o.trans ((XP (g:=g) _).below HB.o.size (fun b hb=>by omega))
     rw[<- uT];exact h4.trans ((XP (g:=g) _).below h4.size (fun b hb=>by omega))
    clear hAR PR HGk HO hset aaN HN hgs hle;go_wp2;go_roundw
    case rel=>exact⟨k+1,by omega,by go_num,HON.o,kF.o⟩
    case measure=>simp[intOf]; omega
  ·have hkn:ns.length=k:=by omega
   have HF:Hid _:=HO;rw[<- hkn,HMA.o]at HF;go_wp2;go_ret;exact⟨_,rfl,HF.o,HB.o⟩

import Derived.Test.YtlpbelhfpoilpabGreatDoorC12
import Derived.Test.YtlpbelhfpoilpabGreatDoorC13
import Derived.Test.YtlpbelhfpoilpabGreatDoorC34
import Derived.Test.YtlpbelhfpoilpabGreatDoorC38
import Derived.Test.YtlpbelhfpoilpabGreatDoorC39
set_option linter.all false
set_option maxRecDepth 100000
set_option maxHeartbeats 16000000
namespace Go.Proofs.YtlpbelhfpoilpabGreatDoor
open Go.RowKit Go.Scout Go.Shelf
theorem keepBegin_any (co:Option Addr) (cc:Nat) (dv:Value) (ts:List TableD) (q:QueryV) (db:List RowsV) (room n:Nat) (N:Nat->Prop) (w:World) (hts:TablesAt w co ts) (hls:ListsIn n q w) (hok:CaseOk ts q db) (hs:ShapesAt w 0) (h1:1<=room) (h2:room<=1000) (hN:∀ b,N b->b<w.heap.size) (h0:¬ N 0) (hw0:0<w.heap.size) :
  Calls Tryz.prog 5 #[.agg (caseA (.slice co ts.length cc) q dv),.int .i64 (room:Int)] w fun e w'=>∃ P M,e=.returned (.tuple #[.pointer (some (aD P.pb 0)),.bool true])/\Began ts N q room w P M w':=by
 have hco:co=none->cc=0:=fun e=>by
  obtain⟨b,off,e2,_⟩:=hts.2 0 (by have:=hok.tabs.1; omega);rw[e] at e2
  cases e2
 have HST:Hid (∀ x,Below w.heap.size w x->Calls Tryz.prog 16 #[.slice co ts.length cc,.agg q.cells,.int .i64 (room:Int)] x fun e w'=>∃ P M,e=.returned (.tuple #[.pointer (some (aD P.pb 0)),.int .i64 0])/\Began ts N q room x P M w'):=fun x hb=>
  start_any co cc ts q room N x (hts.below hb) hco (hls.at'.below hb) hls.keys.2.2 hls.ord.2.2 (case_tidy hok hls) (ShapesAt.below hb hs) (case_check hok) h1 h2 (fun b h=>Nat.lt_of_lt_of_le (hN b h) hb.size) h0 (Nat.lt_of_lt_of_le hw0 hb.size)
 obtain⟨v0,v1,v2,v3,v4,v5,v6,hQC⟩:∃ v0 v1 v2 v3 v4 v5 v6,q.cells=#[v0,v1,v2,v3,v4,v5,v6]:=⟨_,_,_,_,_,_,_,rfl⟩
 have hCA:caseA (.slice co ts.length cc) q dv=#[.slice co ts.length cc,v0,v1,v2,v3,v4,v5,v6,dv]:=by
  have:caseA (.slice co ts.length cc) q dv=#[.slice co ts.length cc]++q.cells ++ #[dv]:=rfl;rw[this,hQC];rfl
 rw[hCA];rw[hQC] at HST;obtain⟨w1,hw1,hb1,hg1⟩:=newB w #[.slice co ts.length cc,v0,v1,v2,v3,v4,v5,v6,dv] 29;have a0:w1.cell? (aD w.heap.size 0)=some (.slice co ts.length cc):=hg1.cell 0;have a1:w1.cell? (aD w.heap.size 1)=some v0:=hg1.cell 1;have a2:w1.cell? (aD w.heap.size 2)=some v1:=hg1.cell 2;have a3:w1.cell? (aD w.heap.size 3)=some v2:=hg1.cell 3;have a4:w1.cell? (aD w.heap.size 4)=some v3:=hg1.cell 4;have a5:w1.cell? (aD w.heap.size 5)=some v4:=hg1.cell 5;have a6:w1.cell? (aD w.heap.size 6)=some v5:=hg1.cell 6;have a7:w1.cell? (aD w.heap.size 7)=some v6:=hg1.cell 7;have HB1:Hid (Below w.heap.size w w1):=hb1;have hST:=HST.out w1 hb1;clear hts hls hok hs h1 h2 hN h0 hw0 hco HST hQC hCA hb1 hg1;go_enter Tryz.func5,Tryz.ntmps5;go_wp2_with fail;refine hST.mono ?_;rintro e w2 ⟨P,M,rfl,hB⟩;have HEND:Hid (Began ts N q room w P M w2):=hB.elder HB1.out;clear hST hB a0 a1 a2 a3 a4 a5 a6 a7;go_wp2;go_ret2;exact⟨P,M,rfl,HEND.out⟩
theorem Tryz.infoNode:(Tryz.prog.info? 61).map (fun i=>(i.zero,i.size,i.bytes))=some (some (.agg #[.int .i64 0,.int .i64 0,.int .i64 0,.int .i64 0,.slice none 0 0,.int .i64 0,.slice none 0 0]),7,88):=by kernel_rfl
theorem nodes_one {ns:List NodeV}:∀ u∈ns.flatMap NodeV.list,u.oneCell' = true:=by
 intro u hu;obtain⟨n,_,hn⟩:=List.mem_flatMap.1 hu;unfold NodeV.list IntsV.val at hn;simp at hn;rcases hn with rfl | rfl | rfl | rfl | rfl | rfl | rfl <;> rfl
theorem cloneNodes_any (v:Value) (base:Nat) (ns:List NodeV) (w:World) (hx:w.ownsRow base 61 7 v ns.length (ns.flatMap NodeV.list)) (hl:ns.length<=1000) :
  Calls Tryz.prog 113 #[v] w fun e w'=>∃ v,e=.returned v/\w'.ownsRow w.heap.size 61 7 v ns.length (ns.flatMap NodeV.list)/\Below w.heap.size w w':=by
 obtain⟨i0,hi,hz0,hz1,hz2⟩:=info_parts Tryz.infoNode;rcases own_newsN hx with⟨rfl,h1⟩ | ⟨g,cap,rfl,hb,hlt,hc⟩
 ·have h0:ns=[]:=List.length_eq_zero_iff.1 h1;subst h0;have hnil:∀ W,(binOp .eql 36 (.slice none 0 0) (.slice none 0 0)).run Tryz.prog W=.ok (.bool true) W:=fun W=>Lib.run_eql_slice_nil W 36 _ none _ _ _ _ Tryz.underlying36
  clear hx;go_enter Tryz.func113,Tryz.ntmps113;go_wp2;go_ret;exact⟨_,rfl,World.ownsRow_nil _ _ _ _,Below.refl _ _⟩
 ·obtain⟨v',w',hr,ho,hbw,⟨va,vm,vc,rfl⟩⟩:=clone_run (P:=Tryz.prog) w 36 36 61 i0 _ 7 88 Tryz.underlying36 hi hz0 hz1 hz2 rfl (by decide) (aD g 0) ns.length cap (ns.flatMap NodeV.list) (flat_len NodeV.list 7 (fun _=>rfl) ns)
   (fun j u hj=>⟨g,0,rfl,by rw[Nat.zero_add]; exact hc j u hj⟩) nodes_one (by omega) (by decide)
  have hnil:∀ W,(binOp .eql 36 (.slice (some (aD g 0)) ns.length cap) (.slice none 0 0)).run Tryz.prog W=.ok (.bool false) W:=fun W=>Lib.run_eql_slice_nil W 36 _ (some (aD g 0)) _ _ _ _ Tryz.underlying36
  have HO:Hid _:=ho;have HB:Hid _:=hbw;clear ho hbw hx hi hz0 hz1 hz2 hc;go_enter Tryz.func113,Tryz.ntmps113;go_wp2_with (first | (at_builtin; refine wpList_append_run rfl (.tmp 5) (.tmp 6) 36 rfl (.slice (some (aD w.heap.size 0)) 0 0) (.slice (some (aD g 0)) ns.length cap) (.slice va vm vc) w' rfl rfl hr ?_));clear hr;go_wp2;go_ret;exact⟨_,rfl,HO.out,HB.out⟩
theorem movedP_any (v:Value) (base:Nat) (ns:List NodeV) (a:Nat) (w:World) (hx:w.ownsRow base 61 7 v ns.length (ns.flatMap NodeV.list)) (hl:ns.length<=1000) (hs:ShapesAt w 0) (hk:∀ m∈ns,1<=m.kind/\m.kind<=10) :
  Calls Tryz.prog 83 #[v,.int .i64 (a:Int)] w fun e w'=>∃ v,e=.returned v/\w'.ownsRow w.heap.size 61 7 v ns.length ((ns.map (moveN a)).flatMap NodeV.list)/\Below w.heap.size w w':=by
 have hCL:=cloneNodes_any v base ns w hx hl;have HS:Hid (ShapesAt w 0):=hs;have HKI:Hid (∀ i,i<ns.length->1<=(ns.getD i nz).kind/\(ns.getD i nz).kind<=10):=fun i hi=>hk _ (getD_memR hi)
 have HM0:Hid (movedTo a ns 0=ns):=movedTo_zero a ns;have HMA:Hid (movedTo a ns ns.length=ns.map (moveN a)):=movedTo_all a ns;have HMG:Hid (∀ k,k<ns.length->(movedTo a ns k).getD k nz=ns.getD k nz):=fun k hk=>movedTo_get a hk
 have HMS:Hid (∀ k,k<ns.length->movedTo a ns (k+1)=(movedTo a ns k).set k (moveN a (ns.getD k nz))):=fun k hk=>movedTo_succ a hk
 have HML:Hid (∀ k,(movedTo a ns k).length=ns.length):=movedTo_len a ns;obtain⟨va,vn,vc,rfl⟩:=ownsRow_slice hx;clear hx hs hk;obtain⟨MV,hMV⟩:∃ M,M=movedTo a ns:=⟨_,rfl⟩
 rw[<- hMV] at HM0 HMA HMG HMS HML;clear hMV;generalize ns.map (moveN a)=R at *;go_enter Tryz.func83,Tryz.ntmps83;go_wp2_with fail;refine hCL.mono ?_;rintro e w1 ⟨v1,rfl,ho1,hb1⟩;clear hCL;have HO1:Hid (w1.ownsRow w.heap.size 61 7 v1 ns.length ((MV 0).flatMap NodeV.list)):=by rw[HM0.out]; exact ho1
 have HB1:Hid (Below w.heap.size w w1):=hb1;obtain⟨xa,xm,xc,rfl⟩:=ownsRow_slice ho1;have hxm:xm=ns.length:=by
  rcases ho1.2 with⟨h,h1⟩ | ⟨g,c,cur,h,_⟩
  ·injection h with _ h _; omega
  ·injection h with _ h _
 subst hxm;clear ho1 hb1;go_wp2;go_loopw [12] (fun iv wr=>∃ k:Nat,k<=ns.length/\iv=.int .i64 (k:Int)/\Hid (wr.ownsRow w.heap.size 61 7 (.slice xa ns.length xc) ns.length ((MV k).flatMap NodeV.list))/\Hid (Below w.heap.size w wr)) (fun iv _=>ns.length-(intOf iv).toNat)
 case atStart=>exact⟨0,Nat.zero_le _,rfl,HO1.out,HB1.out⟩
 case round=>
  obtain⟨k,hk,rfl,HO,HB⟩:=hrel;by_cases hlt:k<ns.length
  ·obtain⟨g,cap,hv,hgb,hgl,hcell⟩:=own_node HO.out (i:=k) (by rw[HML.out]; exact hlt);simp only[Value.slice.injEq] at hv;obtain⟨rfl,-,rfl⟩:=hv;rw[HMG.out k hlt] at hcell;obtain⟨hk1,hk10⟩:=HKI.out k hlt;have HMSk:Hid _:=HMS.out k hlt;have HGk:Hid _:=HMG.out k hlt;obtain⟨n,hn⟩:∃ n,n=ns.getD k nz:=⟨_,rfl⟩
   rw[<- hn] at hcell hk1 hk10 HMSk HGk;have c0:=hcell 0 _ (by omega) rfl;have c1:=hcell 1 _ (by omega) rfl;have c2:=hcell 2 _ (by omega) rfl;rw[Nat.add_zero] at c0;have hf1:=own_frozen HO.out (g:=g) rfl (k*7+1);have hf2:=own_frozen HO.out (g:=g) rfl (k*7+2);obtain⟨kd,hkd⟩:=Int.eq_ofNat_of_zero_le (show 0<=n.kind by omega);have hS:=(ShapesAt.below HB.out HS.out).get (k:=kd) (by omega);obtain⟨s0,-⟩:=hS;have hsi:=shapeIn_arity hk1;rw[hkd] at hsi c0;rw[hsi,Nat.zero_add] at s0;have hAR:moveN a n=⟨n.kind,if 1<=arity (kd:Int) then wrap64 (n.l+a) else n.l,if 2<=arity (kd:Int) then wrap64 (n.r+a) else n.r,n.source,n.cl,n.key,n.co⟩:=by unfold moveN; rw[hkd]
   have har2:arity (kd:Int)<=2:=by unfold arity; split <;> (try split) <;> omega
   generalize arity (kd:Int)=ar at *;have hkd10:kd<=10:=by omega
   have hk11:¬ (11:Int)<=(kd:Int):=by omega
   obtain⟨nk,nl,nr,nsr,ncl,nke,nco⟩:=n;simp only at *;clear hcell hsi hn hkd hk1 hk10
   match ar,har2 with
   | 0,_ =>
    have HN:Hid (MV (k+1)=MV k):=by
     show _=_
     have e:moveN a ⟨nk,nl,nr,nsr,ncl,nke,nco⟩=⟨nk,nl,nr,nsr,ncl,nke,nco⟩:=by rw[hAR]; simp
     rw[HMSk.out,e];have:=set_same (MV k) nz (k:=k) (by rw[HML.out]; exact hlt);rw[HGk.out] at this;exact this
    have HON:Hid _:=HO;rw[<- HN.out] at HON;clear hAR HMSk HGk HO;go_wp2;go_roundw
    case rel=>exact⟨k+1,by omega,by go_num,HON.out,HB.out⟩
    case measure=>simp[intOf]; omega
   | 1,_ =>
    obtain⟨w4,hw4⟩:∃ x,wr.setCell (aD g (k*7+1)) (.int .i64 (wrap64 (nl+a)))=x:=⟨_,rfl⟩
    have HN:Hid (MV (k+1)=(MV k).set k ⟨nk,wrap64 (nl+a),nr,nsr,ncl,nke,nco⟩):=by
     show _=_
     have e:moveN a ⟨nk,nl,nr,nsr,ncl,nke,nco⟩=⟨nk,wrap64 (nl+a),nr,nsr,ncl,nke,nco⟩:=by rw[hAR]; simp
     rw[HMSk.out,e]
    have hset:=own_set HO.out (g:=g) rfl (j:=k*7+1) (by omega) (.int .i64 (wrap64 (nl+a)));rw[flatN_set (MV k) k 1 (.int .i64 (wrap64 (nl+a))) ⟨nk,wrap64 (nl+a),nr,nsr,ncl,nke,nco⟩ (by rw[HML.out]; exact hlt) (by omega) (by rw[HGk.out]; rfl),<- HN.out,hw4] at hset;have HON:Hid _:=hset;have HB4:Hid (Below w.heap.size w w4):=by
     show Below _ _ _
     rw[<- hw4];exact HB.out.trans ((own_kept_set (g:=g) _).below HB.out.size (fun b hb=>by omega))
    clear hAR HMSk HGk HO hset HN;go_wp2;go_roundw
    case rel=>exact⟨k+1,by omega,by go_num,HON.out,HB4.out⟩
    case measure=>simp[intOf]; omega
   | 2,_ =>
    obtain⟨w4,hw4⟩:∃ x,wr.setCell (aD g (k*7+1)) (.int .i64 (wrap64 (nl+a)))=x:=⟨_,rfl⟩
    obtain⟨w5,hw5⟩:∃ x,w4.setCell (aD g (k*7+2)) (.int .i64 (wrap64 (nr+a)))=x:=⟨_,rfl⟩
    have HN:Hid (MV (k+1)=((MV k).set k ⟨nk,wrap64 (nl+a),nr,nsr,ncl,nke,nco⟩).set k ⟨nk,wrap64 (nl+a),wrap64 (nr+a),nsr,ncl,nke,nco⟩):=by
     show _=_
     have e:moveN a ⟨nk,nl,nr,nsr,ncl,nke,nco⟩=⟨nk,wrap64 (nl+a),wrap64 (nr+a),nsr,ncl,nke,nco⟩:=by rw[hAR]; simp
     rw[HMSk.out,e,List.set_set]
    have hset:=own_set HO.out (g:=g) rfl (j:=k*7+1) (by omega) (.int .i64 (wrap64 (nl+a)));have hle:k<(MV k).length:=by rw[HML.out]; exact hlt
    rw[flatN_set (MV k) k 1 (.int .i64 (wrap64 (nl+a))) ⟨nk,wrap64 (nl+a),nr,nsr,ncl,nke,nco⟩ hle (by omega) (by rw[HGk.out]; rfl),hw4] at hset;have hgs:((MV k).set k ⟨nk,wrap64 (nl+a),nr,nsr,ncl,nke,nco⟩).getD k nz=⟨nk,wrap64 (nl+a),nr,nsr,ncl,nke,nco⟩:=by
     rw[List.getD_eq_getElem?_getD,List.getElem?_set_self hle];rfl
    have hset2:=own_set hset (g:=g) rfl (j:=k*7+2) (by omega) (.int .i64 (wrap64 (nr+a)));rw[flatN_set _ k 2 (.int .i64 (wrap64 (nr+a))) ⟨nk,wrap64 (nl+a),wrap64 (nr+a),nsr,ncl,nke,nco⟩ (by rw[List.length_set]; exact hle) (by omega) (by rw[hgs]; rfl),<- HN.out,hw5] at hset2;have c2':w4.cell? (aD g (k*7+2))=some (.int .i64 nr):=by
     rw[<- hw4];exact (World.cell?_setCell_other _ _ _ _ (by intro h; simp only[Addr.mk.injEq] at h; omega)).trans c2
    have f2':w4.frozen? (aD g (k*7+2))=false:=own_frozen hset (g:=g) rfl _;have HON:Hid _:=hset2;have HB5:Hid (Below w.heap.size w w5):=by
     show Below _ _ _
     have h4:Below w.heap.size w w4:=by
      rw[<- hw4];exact HB.out.trans ((own_kept_set (g:=g) _).below HB.out.size (fun b hb=>by omega))
     rw[<- hw5];exact h4.trans ((own_kept_set (g:=g) _).below h4.size (fun b hb=>by omega))
    clear hAR HMSk HGk HO hset hset2 HN hgs hle;go_wp2;go_roundw
    case rel=>exact⟨k+1,by omega,by go_num,HON.out,HB5.out⟩
    case measure=>simp[intOf]; omega
  ·have hkn:ns.length=k:=by omega
   have HF:Hid _:=HO;rw[<- hkn,HMA.out] at HF;go_wp2;go_ret;exact⟨_,rfl,HF.out,HB.out⟩
end Go.Proofs.YtlpbelhfpoilpabGreatDoor

import Derived.Deep.Cut
import Derived.Test.YtlpbelhfpoilpaaGreatDoorC08
import Derived.Test.YtlpbelhfpoilpaaGreatDoorC18
set_option linter.all false
set_option maxRecDepth 100000
set_option maxHeartbeats 16000000
namespace Go.Proofs.YtlpbelhfpoilpaaGreatDoor
open Go.RowKit Go.Scout
theorem Tryz.infoRows:(Tryz.prog.info? 47).map (fun i=>(i.zero,i.size,i.bytes))=some (some (.slice none 0 0),1,24):=by kernel_rfl
theorem Tryz.ne1:23≠47:=by decide
theorem Tryz.ne2:3≠47:=by decide
theorem makeDb (n:Nat) (h:n*24<=140737488351232) (w:World) :
  (Instr.makeSlice 32 (.int .i64 ((n:Int)+2)) (.int .i64 ((n:Int)+2))).run Tryz.prog w=.ok (.slice (some (aD w.heap.size 0)) (n+2) (n+2)) (w.alloc (.cells (fillA [] (n+2)) 47)):=by
 obtain⟨i,hi,hz0,hz1,hz2⟩:=info_parts Tryz.infoRows;have:=run_make (P:=Tryz.prog) w 32 47 i _ Tryz.underlying32 hi hz0 .i64 .i64 ((n:Int)+2) ((n:Int)+2) (by omega) (Int.le_refl _) (by rw[hz2]; omega) (by omega);rw[hz1,show ((n:Int)+2).toNat=n+2 by omega] at this;rw[<- fillA_made]
 simpa [Value.cells,nilV] using this
theorem makeTab (n:Nat) (h:n*24<=140737488351232) (w:World) :
  (Instr.makeSlice 47 (.int .i64 ((n:Int)+2)) (.int .i64 ((n:Int)+2))).run Tryz.prog w=.ok (.slice (some (aD w.heap.size 0)) (n+2) (n+2)) (w.alloc (.cells (fillA [] (n+2)) 23)):=by
 obtain⟨i,hi,hz0,hz1,hz2⟩:=info_parts Tryz.infoInts;have:=run_make (P:=Tryz.prog) w 47 23 i _ Tryz.underlying47 hi hz0 .i64 .i64 ((n:Int)+2) ((n:Int)+2) (by omega) (Int.le_refl _) (by rw[hz2]; omega) (by omega);rw[hz1,show ((n:Int)+2).toNat=n+2 by omega] at this;rw[<- fillA_made]
 simpa [Value.cells,nilV] using this
theorem push_tab (W:World) (base:Nat) (v:Value) (xs:List Value) (hown:W.ownsRow base 47 1 v xs.length xs) (hl:xs.length*24<=140737488351232) (hb:base<=W.heap.size) (a:Option Addr) (m c:Nat) (ty:TypeId) :
  ∃ v' w',(Builtin.append_ #[32,32] ty #[v,.slice (some (aD W.heap.size 0)) 1 1]).run Tryz.prog (W.alloc (.cells #[.slice a m c] 47))=.ok v' w'/\
   w'.ownsRow base 47 1 v' (xs.length+1) (xs++[.slice a m c])/\Kept (fun b=>v.ownBlock≠some b) W w'/\(∃ a m c,v' = .slice a m c)/\(v'.ownBlock=v.ownBlock∨v'.ownBlock=some (W.heap.size+1)):=by
 obtain⟨i0,hi,hz0,hz1,hz2⟩:=info_parts Tryz.infoRows;obtain⟨v',w',hr,ho,hg,_,hat⟩:=run_append_own_at (P:=Tryz.prog) (W.alloc (.cells #[.slice a m c] 47)) base 32 ty 47 i0 (.slice none 0 0) 1 24 Tryz.underlying32 hi hz0 hz1 hz2 rfl (by decide) v xs.length xs (hown.alloc _) (aD W.heap.size 0) 1 1 [.slice a m c] rfl
  (World.news_of_block (cs:=#[.slice a m c]) (t:=47) (fr:=(0,0)) (bQ3 W _)) (fun u hu=>by rw[List.mem_singleton] at hu; rw[hu]; rfl) (by unfold maxLen; omega) (by omega) (by rw[World.size_alloc]; omega)
 exact⟨v',w',hr,ho,(Kept.alloc _ _).trans (Kept.grown hg (fun r e hr=>hr e)),ownsRow_slice ho,by rw[World.size_alloc] at hat; exact hat⟩
theorem tables_any (w00 w:World) (G:Nat) (d:Option Addr) (dcap:Nat) (db:List RowsV) (c0 c1 c2 c3 c4 c5 c6 c7 c8 c9 c10 c11 c12 c13 c14:Value)
  (hx:DbAt w00 d db) (hsz:db.length*24<=140737488351232) (hszt:∀ i,i<db.length->(db.getD i rz).rs.length*24<=140737488351232) (hszr:∀ i,i<db.length->∀ j,j<(db.getD i rz).rs.length->((db.getD i rz).rs.getD j iz).xs.length*8<=140737488351232)
  (hb:Below w00.heap.size w00 w) (hG0:w00.heap.size<=G) (hG:GB w G 35 #[c0,c1,c2,c3,c4,c5,c6,c7,c8,c9,c10,c11,c12,c13,c14,.slice none 0 0]) :
  Calls Tryz.prog 40 #[.pointer (some (aD G 0)),.slice d db.length dcap] w fun e w'=>e=.returned (.tuple #[])/\∃ db' v u1 u2 s1 s2 x1 x2,DLent w00 w w' G 35 47 23 3 (fun x y z=>#[c0,c1,c2,c3,c4,c5,c6,c7,c8,x,c10,c11,c12,c13,y,z]) db db' v u1 u2 s1 s2 x1 x2:=by
 have hmk:=makeDb db.length hsz;have hl:=hx.1;have hGlt:=hG.lt;have g14:w.cell? (aD G 14)=some c14:=hG.cell 14;have f14:w.frozen? (aD G 14)=false:=hG.frozen 14;have HX:Hid _:=hx;have HST:Hid _:=hszt;have HSR:Hid _:=hszr;have HS0:Hid (TState w00 w ((w.setCell (aD G 14) (.slice (some (aD w.heap.size 0)) (db.length+2) (db.length+2))).alloc (.cells (fillA [] (db.length+2)) 47)) G 35 47 23 3 db.length (fun z=>#[c0,c1,c2,c3,c4,c5,c6,c7,c8,c9,c10,c11,c12,c13,.slice (some (aD w.heap.size 0)) (db.length+2) (db.length+2),z]) db [] (.slice none 0 0)):=by
  have hb1:=hb.setCell (p:=(aD G 14)) hG0 (.slice (some (aD w.heap.size 0)) (db.length+2) (db.length+2));refine⟨hb1.alloc hb1.size _,fun j hj hne=>?_,by simp,?_,?_,fun i hi=>absurd hi (by simp),World.ownsRow_nil _ _ _ _⟩
  ·rw[heap_alloc (by simpa using hj),heap_setCell hne]
  ·exact (hG.set 14 (.slice (some (aD w.heap.size 0)) (db.length+2) (db.length+2))).of (heap_alloc (by simpa using hGlt))
  ·have:=bQ3 (w.setCell (aD G 14) (.slice (some (aD w.heap.size 0)) (db.length+2) (db.length+2))) (.cells (fillA [] (db.length+2)) 47);rw[World.size_setCell] at this;exact this
 have HGLT:Hid _:=hGlt;clear hx hszt hszr hb hG;go_enter Tryz.func40,Tryz.ntmps40;go_wp2;clear hmk g14 f14;go_loopw [5] (fun iv wr=>∃ (i:Nat) (db':List RowsV) (v:Value),iv=.int .i64 i/\i<=db.length/\db'.length=i/\Hid (TState w00 w wr G 35 47 23 3 db.length (fun z=>#[c0,c1,c2,c3,c4,c5,c6,c7,c8,c9,c10,c11,c12,c13,.slice (some (aD w.heap.size 0)) (db.length+2) (db.length+2),z]) db db' v)) (fun iv _=>db.length-(intOf iv).toNat)
 case atStart=>exact⟨0,[],.slice none 0 0,rfl,Nat.zero_le _,rfl,HS0.out⟩
 case round=>
  clear HS0;obtain⟨i,db',v,rfl,hil,hdl,HT⟩:=hrel;by_cases hlt:i<db.length
  ·obtain⟨b,off,rfl,hcs⟩:=CellsAt.get HX.out.2.1 hlt;have HCI:Hid _:=hcs i hlt;have hta:=HX.out.2.2 i hlt;have hst:=HST.out i hlt;have HRS:Hid _:=HSR.out i hlt;have HDE:Hid ((db.getD db'.length rz).rs=(db.getD i rz).rs):=show _=_ by rw[hdl]
   clear hcs;generalize db.getD i rz=t at *;obtain⟨tad,tcap,rs⟩:=t;unfold RowsV.val at *;simp only at *;have HTA:Hid (RowsAt w00 tad rs):=hta;have hrl:rs.length<=1152921504606846976:=hta.1;have hmk:=makeTab rs.length hst;have hci:=cB HT.out.bel HCI.out;obtain⟨wk,hwk⟩:∃ wk,wk=wr:=⟨_,rfl⟩
   rw[<- hwk] at HT hci ⊢;clear hwk hta;go_wp2;clear hmk hci;go_loopw [8] (fun jv wr=>∃ (j:Nat) (rs':List IntsV),jv=.int .i64 j/\j<=rs.length/\rs'.length=j/\Hid (Below wk.heap.size wk wr)/\wk.heap.size<wr.heap.size/\Hid (GB wr wk.heap.size 23 (fillA (rs'.map IntsV.val) (rs.length+2-j)))/\Hid (∀ k,k<j->LentRow wk.heap.size wr 3 (rs'.getD k iz) (rs.getD k iz).xs)) (fun jv _=>rs.length-(intOf jv).toNat)
   case atStart=>exact⟨0,[],rfl,Nat.zero_le _,rfl,bQ2 _ _,by simp,bQ3 _ _,fun k hk=>absurd hk (by omega)⟩
   case round=>
    obtain⟨j,rs',rfl,hjl,hrl',HBR,hszr,HG5,HLR⟩:=hrel;have hb1:Below w00.heap.size w00 wr:=HT.out.bel.trans (HBR.out.mono HT.out.bel.size);by_cases hjt:j<rs.length
    ·obtain⟨rb,ro,rfl,hrc⟩:=CellsAt.get HTA.out.2.1 hjt;have hci:=cB hb1 HCI.out;have hcj:=cB hb1 (hrc j hjt);have hra:=IntsAt.below hb1 (HTA.out.2.2 j hjt);have hsz8:=HRS.out j hjt;clear hrc;obtain⟨x,hxx⟩:∃ x,x=rs.getD j iz:=⟨_,rfl⟩
     have HXX:Hid _:=hxx;rw[<- hxx] at hcj hra hsz8;clear hxx;obtain⟨xad,xcap,xs⟩:=x;unfold IntsV.val at hcj;simp only at hcj hra hsz8;have hle:=lend_any xad xcap xs wr hra hsz8;have hm0:rs.length+2-j=(rs.length+2-(j+1))+1:=by omega
     have hg5:=HG5.out;rw[hm0] at hg5;have hg6:GB (wr.alloc (.cells (lentCells xs) 3)) wk.heap.size 23 _:=hg5.of (heap_alloc hszr);have hold:(wr.alloc (.cells (lentCells xs) 3)).cell? (aD wk.heap.size j)=some (.slice none 0 0):=by
      rw[hg6.cell];have:=fillA_at (rs'.map IntsV.val) (rs.length+2-(j+1));rw[List.length_map,hrl'] at this;exact this
     have hfz:=hg6.frozen j;have hg7:=hg6.set j (.slice (some (aD wr.heap.size 0)) xs.length (xs.length+2));have hfs:=fillA_set (rs'.map IntsV.val) (rs.length+2-(j+1)) (.slice (some (aD wr.heap.size 0)) xs.length (xs.length+2));rw[List.length_map,hrl'] at hfs;rw[hfs] at hg7;have HG7:Hid _:=hg7;have HB7:Hid (Below wk.heap.size wk ((wr.alloc (.cells (lentCells xs) 3)).setCell (aD wk.heap.size j) (.slice (some (aD wr.heap.size 0)) xs.length (xs.length+2)))):=(HBR.out.alloc HBR.out.size _).setCell (p:=(aD wk.heap.size j)) (Nat.le_refl _) _;have HLN:Hid (∀ k,k<j+1->LentRow wk.heap.size ((wr.alloc (.cells (lentCells xs) 3)).setCell (aD wk.heap.size j) (.slice (some (aD wr.heap.size 0)) xs.length (xs.length+2))) 3 ((rs'++[IntsV.mk (some (aD wr.heap.size 0)) (xs.length+2) xs]).getD k iz) (rs.getD k iz).xs):=fun k hk=>by
      by_cases hkj:k<j
      ·have e:(rs'++[IntsV.mk (some (aD wr.heap.size 0)) (xs.length+2) xs]).getD k iz=rs'.getD k iz:=by simp only[List.getD]; rw[List.getElem?_append_left (by omega)]
       rw[e];exact (HLR.out k hkj).kept fun b hl hb=>(heap_setCell (by show b≠wk.heap.size; omega)).trans (heap_alloc hb)
      ·obtain rfl:k=j:=by omega
       have e:(rs'++[IntsV.mk (some (aD wr.heap.size 0)) (xs.length+2) xs]).getD k iz=IntsV.mk (some (aD wr.heap.size 0)) (xs.length+2) xs:=by
        simp only[List.getD];rw[List.getElem?_append_right (by omega),hrl',Nat.sub_self];rfl
       rw[e,<- HXX.out];exact⟨wr.heap.size,rfl,hszr,GB.of (w:=wr.alloc (.cells (lentCells xs) 3)) (bQ3 wr _) (heap_setCell (by show wr.heap.size≠wk.heap.size; omega))⟩
     have hjl2:j<rs.length+2:=by omega
     have HSW:Hid ((wr.alloc (.cells (lentCells xs) 3)).heap.size=wr.heap.size+1):=show _=_ by simp
     clear hg5 hg6 hg7 hfs hm0 HG5 HBR HLR hra;obtain⟨wl,hwl⟩:∃ wl,wl=wr.alloc (.cells (lentCells xs) 3):=⟨_,rfl⟩
     rw[<- hwl] at hle hold hfz HG7 HB7 HLN HSW;clear hwl;go_wp2_with fail;refine hle.mono ?_;rintro e w2 ⟨rfl,rfl⟩;clear hle;go_wp2;go_roundw
     case rel=>exact⟨j+1,rs'++[IntsV.mk (some (aD wr.heap.size 0)) (xs.length+2) xs],by go_num,by omega,by rw[List.length_append,hrl']; rfl,HB7.out,by have:=HSW.out; simp; omega,by rw[List.map_append]; exact HG7.out,HLN.out⟩
     case measure=>simp[intOf]; omega
    ·obtain rfl:j=rs.length:=by omega
     -- the two marks behind,then the lists
     have e2:rs.length+2-rs.length=1+1:=by omega
     have hg5:=HG5.out;rw[e2] at hg5;have hkT:wk.heap.size<wr.heap.size:=hszr
     -- first mark
     obtain⟨wa,hwa⟩:∃ wa,wa=(wr.setCell (aD wk.heap.size rs.length) (Value.slice (some (aD wr.heap.size 0)) 1 1)).alloc (.cells #[.int .i64 77777] 3):=⟨_,rfl⟩
     have o1:wr.cell? (aD wk.heap.size rs.length)=some (.slice none 0 0):=by
      rw[hg5.cell];have:=fillA_at (rs'.map IntsV.val) 1;rw[List.length_map,hrl'] at this;exact this
     have z1:=hg5.frozen rs.length;have hga:GB wa wk.heap.size 23 (fillA (rs'.map IntsV.val++[Value.slice (some (aD wr.heap.size 0)) 1 1]) 1):=by
      have h1:=hg5.set rs.length (Value.slice (some (aD wr.heap.size 0)) 1 1);have h2:=fillA_set (rs'.map IntsV.val) 1 (Value.slice (some (aD wr.heap.size 0)) 1 1);rw[List.length_map,hrl'] at h2;rw[h2] at h1;rw[hwa];exact h1.of (heap_alloc (by simpa using hkT))
     have hba:Below wk.heap.size wk wa:=by
      have h1:=HBR.out.setCell (p:=(aD wk.heap.size rs.length)) (Nat.le_refl _) (Value.slice (some (aD wr.heap.size 0)) 1 1);rw[hwa];exact h1.alloc h1.size _
     have hsa:wa.heap.size=wr.heap.size+1:=by rw[hwa]; simp
     have hia:InkAt wk.heap.size wa 3 (Value.slice (some (aD wr.heap.size 0)) 1 1):=⟨wr.heap.size,rfl,hkT,by
      have:=bQ3 (wr.setCell (aD wk.heap.size rs.length) (Value.slice (some (aD wr.heap.size 0)) 1 1)) (.cells #[.int .i64 77777] 3);rw[World.size_setCell] at this;rw[hwa];exact this⟩
     have hra:∀ k,k<rs.length->LentRow wk.heap.size wa 3 (rs'.getD k iz) (rs.getD k iz).xs:=fun k hk=>(HLR.out k hk).kept fun b hl hb=>by
      rw[hwa,heap_alloc (by simpa using hb),heap_setCell (by show b≠wk.heap.size; omega)]
     have HWA:Hid ((wr.setCell (aD wk.heap.size rs.length) (Value.slice (some (aD wr.heap.size 0)) 1 1)).alloc (.cells #[.int .i64 77777] 3)=wa):=hwa.symm;clear hwa;have hkA:wk.heap.size<wa.heap.size:=by omega
     -- second mark
     obtain⟨wb,hwb⟩:∃ wb,wb=(wa.setCell (aD wk.heap.size (rs.length+1)) (Value.slice (some (aD wa.heap.size 0)) 1 1)).alloc (.cells #[.int .i64 77777] 3):=⟨_,rfl⟩
     have o2:wa.cell? (aD wk.heap.size (rs.length+1))=some (.slice none 0 0):=by
      rw[hga.cell];have:=fillA_at (rs'.map IntsV.val++[Value.slice (some (aD wr.heap.size 0)) 1 1]) 0;rw[List.length_append,List.length_map,hrl'] at this;exact this
     have z2:=hga.frozen (rs.length+1);have hgb:GB wb wk.heap.size 23 (rs'.map IntsV.val++[Value.slice (some (aD wr.heap.size 0)) 1 1,Value.slice (some (aD wa.heap.size 0)) 1 1]).toArray:=by
      have h1:=hga.set (rs.length+1) (Value.slice (some (aD wa.heap.size 0)) 1 1);have h2:=fillA_set (rs'.map IntsV.val++[Value.slice (some (aD wr.heap.size 0)) 1 1]) 0 (Value.slice (some (aD wa.heap.size 0)) 1 1);rw[List.length_append,List.length_map,hrl'] at h2;have h3:(fillA (rs'.map IntsV.val++[Value.slice (some (aD wr.heap.size 0)) 1 1]) 1).setIfInBounds (rs.length+1) (Value.slice (some (aD wa.heap.size 0)) 1 1)=(rs'.map IntsV.val++[Value.slice (some (aD wr.heap.size 0)) 1 1,Value.slice (some (aD wa.heap.size 0)) 1 1]).toArray:=by
       refine h2.trans ?_;unfold fillA;simp
      rw[h3] at h1;rw[hwb];exact h1.of (heap_alloc (by simpa using hkA))
     have hbb:Below wk.heap.size wk wb:=by
      have h1:=hba.setCell (p:=(aD wk.heap.size (rs.length+1))) (Nat.le_refl _) (Value.slice (some (aD wa.heap.size 0)) 1 1);rw[hwb];exact h1.alloc h1.size _
     have hkb:∀ b,wk.heap.size<b->b<wa.heap.size->wb.heap[b]? = wa.heap[b]?:=fun b hl hb=>by rw[hwb,heap_alloc (by simpa using hb),heap_setCell (by show b≠wk.heap.size; omega)]
     have hib:InkAt wk.heap.size wb 3 (Value.slice (some (aD wa.heap.size 0)) 1 1):=⟨wa.heap.size,rfl,hkA,by
      have:=bQ3 (wa.setCell (aD wk.heap.size (rs.length+1)) (Value.slice (some (aD wa.heap.size 0)) 1 1)) (.cells #[.int .i64 77777] 3);rw[World.size_setCell] at this;rw[hwb];exact this⟩
     have HWB:Hid ((wa.setCell (aD wk.heap.size (rs.length+1)) (Value.slice (some (aD wa.heap.size 0)) 1 1)).alloc (.cells #[.int .i64 77777] 3)=wb):=hwb.symm;clear hwb;have hsk:=HT.out.siz;have HLT:Hid (LentTab w.heap.size wb 23 3 ⟨some (aD wk.heap.size 0),rs.length+2,rs'⟩ rs wk.heap.size (Value.slice (some (aD wr.heap.size 0)) 1 1) (Value.slice (some (aD wa.heap.size 0)) 1 1)):=
      ⟨rfl,rfl,hrl',hsk,fun k hk=>((hra k hk).kept hkb).up (by omega),hgb,(hia.kept hkb).up (by omega),hib.up (by omega)⟩
     -- the list of the longer lists
     have hownb:wb.ownsRow (w.heap.size+1) 47 1 v (db'.map RowsV.full).length (db'.map RowsV.full):=by
      rw[List.length_map];exact ownsRow_move HT.out.own (Nat.le_refl _) (fun j _ hj=>hbb.block j hj)
     have hbsz:=hbb.size;obtain⟨v',w5,hr5,ho5,hk5,⟨va,vm,vc,rfl⟩,hat5⟩:=push_tab wb (w.heap.size+1) v (db'.map RowsV.full) hownb (by rw[List.length_map]; omega) (by omega) (some (aD wk.heap.size 0)) (rs.length+2) (rs.length+2) 32;rw[List.length_map] at ho5;have hful:(RowsV.mk (some (aD wk.heap.size 0)) (rs.length+2) rs').full=Value.slice (some (aD wk.heap.size 0)) (rs.length+2) (rs.length+2):=by unfold RowsV.full; simp only; rw[hrl']
     rw[<- hful] at ho5;have hne15:∀ x y:Value,(#[c0,c1,c2,c3,c4,c5,c6,c7,c8,c9,c10,c11,c12,c13,Value.slice (some (aD w.heap.size 0)) (db.length+2) (db.length+2),x]:Array Value).setIfInBounds 15 y=#[c0,c1,c2,c3,c4,c5,c6,c7,c8,c9,c10,c11,c12,c13,Value.slice (some (aD w.heap.size 0)) (db.length+2) (db.length+2),y]:=fun _ _=>rfl
     have hlt':=HLT.out;rw[<- hdl] at hlt;have N:=HT.out.next HGLT.out hG0 hlt Tryz.ne1 Tryz.ne2 hne15 hbb (by rw[HDE.out]; exact hlt') ho5 hk5 hat5;have hval:(RowsV.mk (some (aD wk.heap.size 0)) (rs.length+2) rs').val=Value.slice (some (aD wk.heap.size 0)) rs.length (rs.length+2):=by unfold RowsV.val; simp only; rw[hrl']
     rw[hval] at N;have HN:Hid _:=N;have hv15:wb.cell? (aD G 15)=some v:=(hbb.cell (p:=(aD G 15)) HT.out.g.lt).trans (HT.out.g.cell 15);have hlow:∀ b,b<=w.heap.size->v.ownBlock≠some b:=fun b hb e=>by have:=(ownsRow_lt HT.out.own e).1; omega
     have hG5:GB w5 G 35 _:=HT.out.g.of ((hk5.block G (by have:=HT.out.g.lt; omega) (hlow G (by have:=HGLT.out; omega))).trans (hbb.block G HT.out.g.lt));have g14:w5.cell? (aD G 14)=some (Value.slice (some (aD w.heap.size 0)) (db.length+2) (db.length+2)):=hG5.cell 14;have g15:w5.cell? (aD G 15)=some v:=hG5.cell 15;have y15:=hG5.frozen 15;have hD5:GB w5 w.heap.size 47 _:=HT.out.row.of ((hk5.block w.heap.size (by omega) (hlow _ (Nat.le_refl _))).trans (hbb.block _ hsk));have e3:db.length+2-db'.length=(db.length+1-db'.length)+1:=by omega
     rw[e3] at hD5;have od:w5.cell? (aD w.heap.size i)=some (.slice none 0 0):=by
      rw[hD5.cell,<- hdl];have:=fillA_at (db'.map RowsV.val) (db.length+1-db'.length);rw[List.length_map] at this;exact this
     have yd:=hD5.frozen i;obtain⟨va0,vn0,vc0,rfl⟩:=ownsRow_slice HT.out.own;have hGw:¬ w.heap.size=G:=by have:=HGLT.out; omega
     have hGw':¬ G=w.heap.size:=by have:=HGLT.out; omega
     rw[hdl] at HN;have hdl0:=hdl;have HF:Hid _:=HN;clear N hlt' hful hval hne15 ho5 hk5 hat5 hownb hgb hbb hkb hib hga hba hia hra HLR HBR HG5 hg5 hG5 hD5 hlow HTA HRS e2 e3 hb1 HN hsa;have hgk:=HGLT.out;go_upto_region 12 with fail;rw[HWA.out];clear o1 z1 HWA;go_upto_region 13 with fail;rw[HWB.out];clear o2 z2 HWB;go_wp2_with (first | (at_builtin; refine wpList_append_run rfl (.tmp 59) (.tmp 61) 32 rfl (.slice va0 vn0 vc0) (.slice (some (aD wb.heap.size 0)) 1 1) (.slice va vm vc) w5 rfl rfl hr5 ?_));clear hr5 hv15;go_wp2;go_region;go_wp2;go_roundw
     case rel=>exact⟨i+1,db'++[RowsV.mk (some (aD wk.heap.size 0)) (rs.length+2) rs'],.slice va vm vc,by go_num,by omega,by rw[List.length_append,hdl0]; rfl,HF.out⟩
     case measure=>simp[intOf]; omega
  ·obtain rfl:i=db.length:=by omega
   have h:=HT.out;obtain⟨va0,vn0,vc0,rfl⟩:=ownsRow_slice h.own;have hgk:=HGLT.out;have hsk:=h.siz;have g14:wr.cell? (aD G 14)=some (.slice (some (aD w.heap.size 0)) (db.length+2) (db.length+2)):=h.g.cell 14;have g9:wr.cell? (aD G 9)=some c9:=h.g.cell 9;have y9:=h.g.frozen 9;have hrow:=h.row;rw[hdl,show db.length+2-db.length=1+1 by omega] at hrow;have o1:wr.cell? (aD w.heap.size db.length)=some (.slice none 0 0):=by
    rw[hrow.cell,<- hdl];have:=fillA_at (db'.map RowsV.val) 1;rw[List.length_map] at this;exact this
   have z1:=hrow.frozen db.length;have hGw:¬ w.heap.size=G:=by omega
   have hGw':¬ G=w.heap.size:=by omega
   -- the first pair behind
   obtain⟨wa,hwa⟩:∃ wa,wa=((wr.setCell (aD w.heap.size db.length) (.slice (some (aD (wr.heap.size+1) 0)) 1 1)).alloc (.cells #[.int .i64 77777] 3)).alloc (.cells #[.slice (some (aD wr.heap.size 0)) 1 1] 23):=⟨_,rfl⟩
   obtain⟨wb,hwb⟩:∃ wb,wb=((wa.setCell (aD w.heap.size (db.length+1)) (.slice (some (aD (wa.heap.size+1) 0)) 1 1)).alloc (.cells #[.int .i64 77777] 3)).alloc (.cells #[.slice (some (aD wa.heap.size 0)) 1 1] 23):=⟨_,rfl⟩
   obtain⟨hsa,pk1,pd1,pr1,pi1,pb1⟩:=TState.pair (x:=db.length) (tI:=3) (tR:=23) hsk hwa;obtain⟨hsb,pk2,pd2,pr2,pi2,pb2⟩:=TState.pair (x:=db.length+1) (tI:=3) (tR:=23) (bd:=w.heap.size) (by omega) hwb;have hrowa:GB wa w.heap.size 47 (fillA (db'.map RowsV.val++[Value.slice (some (aD (wr.heap.size+1) 0)) 1 1]) 1):=by
    have h1:=hrow.set db.length (.slice (some (aD (wr.heap.size+1) 0)) 1 1);have h2:=fillA_set (db'.map RowsV.val) 1 (.slice (some (aD (wr.heap.size+1) 0)) 1 1);rw[List.length_map,hdl] at h2;rw[h2] at h1;exact h1.of pd1
   have hrowb:GB wb w.heap.size 47 (db'.map RowsV.val++[Value.slice (some (aD (wr.heap.size+1) 0)) 1 1,Value.slice (some (aD (wa.heap.size+1) 0)) 1 1]).toArray:=by
    have h1:=hrowa.set (db.length+1) (.slice (some (aD (wa.heap.size+1) 0)) 1 1);have h2:=fillA_set (db'.map RowsV.val++[Value.slice (some (aD (wr.heap.size+1) 0)) 1 1]) 0 (.slice (some (aD (wa.heap.size+1) 0)) 1 1);rw[List.length_append,List.length_map,hdl] at h2;have h3:(fillA (db'.map RowsV.val++[Value.slice (some (aD (wr.heap.size+1) 0)) 1 1]) 1).setIfInBounds (db.length+1) (.slice (some (aD (wa.heap.size+1) 0)) 1 1)=(db'.map RowsV.val++[Value.slice (some (aD (wr.heap.size+1) 0)) 1 1,Value.slice (some (aD (wa.heap.size+1) 0)) 1 1]).toArray:=by
     refine h2.trans ?_;unfold fillA;simp
    rw[h3] at h1;exact h1.of pd2
   have hgG:GB wb G 35 _:=h.g.of ((pk2 G (by omega) (by omega)).trans (pk1 G (by omega) (by omega)));have hgGa:GB wa G 35 _:=h.g.of (pk1 G (by omega) (by omega));have a14:wa.cell? (aD G 14)=some (.slice (some (aD w.heap.size 0)) (db.length+2) (db.length+2)):=hgGa.cell 14;have o2:wa.cell? (aD w.heap.size (db.length+1))=some (.slice none 0 0):=by
    rw[hrowa.cell];have:=fillA_at (db'.map RowsV.val++[Value.slice (some (aD (wr.heap.size+1) 0)) 1 1]) 0;rw[List.length_append,List.length_map,hdl] at this;exact this
   have z2:=hrowa.frozen (db.length+1);have b14:wb.cell? (aD G 14)=some (.slice (some (aD w.heap.size 0)) (db.length+2) (db.length+2)):=hgG.cell 14;have b9:wb.cell? (aD G 9)=some c9:=hgG.cell 9;have yb9:=hgG.frozen 9;have hbel:Below w00.heap.size w00 wb:=pb2 _ _ (by omega) (pb1 _ _ (by omega) h.bel);obtain⟨wf,hwf⟩:∃ wf,wf=wb.setCell (aD G 9) (.slice (some (aD w.heap.size 0)) db.length (db.length+2)):=⟨_,rfl⟩
   have hkf:∀ b,b≠G->wf.heap[b]? = wb.heap[b]?:=fun b hb=>by rw[hwf,heap_setCell hb]
   have hup:∀ b,w.heap.size<b->b<wr.heap.size->wf.heap[b]? = wr.heap[b]?:=fun b hl hb=>by
    rw[hkf b (by omega),pk2 b (by omega) (by omega),pk1 b hb (by omega)]
   have hup2:∀ b,w.heap.size<b->b<wa.heap.size->wf.heap[b]? = wa.heap[b]?:=fun b hl hb=>by
    rw[hkf b (by omega),pk2 b hb (by omega)]
   have hup3:∀ b,w.heap.size<b->b<wb.heap.size->wf.heap[b]? = wb.heap[b]?:=fun b hl hb=>hkf b (by omega)
   have HF:Hid (DLent w00 w wf G 35 47 23 3 (fun x y z=>#[c0,c1,c2,c3,c4,c5,c6,c7,c8,x,c10,c11,c12,c13,y,z]) db db' (.slice va0 vn0 vc0) (.slice (some (aD (wr.heap.size+1) 0)) 1 1) (.slice (some (aD (wa.heap.size+1) 0)) 1 1) (wr.heap.size+1) (wa.heap.size+1) (.slice (some (aD wr.heap.size 0)) 1 1) (.slice (some (aD wa.heap.size 0)) 1 1)):=by
    refine⟨by rw[hwf]; exact hbel.setCell (p:=(aD G 9)) hG0 _,fun j hj hne=>?_,by rw[hwf]; simp; omega,hdl,?_,hrowb.of (hkf _ hGw),fun i hi=>?_,?_,rfl,rfl,by omega,by omega,pr1.of (hup2 _ (by omega) (by omega)),pr2.of (hup3 _ (by omega) (by omega)),pi1.kept hup2,pi2.kept hup3⟩
    ·rw[hkf j hne,pk2 j (by omega) (by omega),pk1 j (by omega) (by omega)];exact h.oth j hj hne
    ·have:=hgG.set 9 (.slice (some (aD w.heap.size 0)) db.length (db.length+2));rw[hwf];exact this
    ·obtain⟨T,v1,v2,ht⟩:=h.tab i hi;exact⟨T,v1,v2,ht.kept hup⟩
    ·exact ownsRow_move h.own (Nat.le_refl _) (fun j hj hl=>hup j (by omega) hl)
   have HWA:Hid (((wr.setCell (aD w.heap.size db.length) (.slice (some (aD (wr.heap.size+1) 0)) 1 1)).alloc (.cells #[.int .i64 77777] 3)).alloc (.cells #[.slice (some (aD wr.heap.size 0)) 1 1] 23)=wa):=hwa.symm;have HWB:Hid (((wa.setCell (aD w.heap.size (db.length+1)) (.slice (some (aD (wa.heap.size+1) 0)) 1 1)).alloc (.cells #[.int .i64 77777] 3)).alloc (.cells #[.slice (some (aD wa.heap.size 0)) 1 1] 23)=wb):=hwb.symm;have HWF:Hid (wb.setCell (aD G 9) (.slice (some (aD w.heap.size 0)) db.length (db.length+2))=wf):=hwf.symm;have hgw1:G<wr.heap.size:=by omega
   have hgw2:G<wa.heap.size:=by omega
   have hww2:w.heap.size<wa.heap.size:=by omega
   clear h HT hwa hwb hwf hrow hrowa hrowb hgG hgGa hbel hkf hup hup2 hup3 hsa hsb pk1 pd1 pr1 pi1 pb1 pk2 pd2 pr2 pi2 pb2 g9 y9 HX HST HSR;go_upto_region 16 with fail;rw[HWA.out];clear HWA o1 z1 g14;go_upto_region 17 with fail;rw[HWB.out];clear HWB o2 z2 a14;go_wp2;rw[HWF.out];go_end0;exact⟨rfl,_,_,_,_,_,_,_,_,HF.out⟩
theorem Tryz.info95:(Tryz.prog.info? 95).map (fun i=>(i.zero,i.size,i.bytes))=some (some (.agg zt.toArray),6,48):=by kernel_rfl
theorem Tryz.info58:(Tryz.prog.info? 58).map (fun i=>(i.zero,i.size,i.bytes))=some (some (.agg zn.toArray),7,88):=by kernel_rfl
theorem Tryz.size95:(Tryz.prog.info? 95).map (·.size)=some 6:=by kernel_rfl
theorem makeTabs (n:Nat) (h:n*48<=140737488351232) (w:World) :
  (Instr.makeSlice 22 (.int .i64 ((n:Int)+2)) (.int .i64 ((n:Int)+2))).run Tryz.prog w=.ok (.slice (some (aD w.heap.size 0)) (n+2) (n+2)) (w.alloc (.cells (madeCells zt.toArray ((n+2)*6)) 95)):=by
 obtain⟨i,hi,hz0,hz1,hz2⟩:=info_parts Tryz.info95;have:=run_make (P:=Tryz.prog) w 22 95 i _ Tryz.underlying22 hi hz0 .i64 .i64 ((n:Int)+2) ((n:Int)+2) (by omega) (Int.le_refl _) (by rw[hz2]; omega) (by omega);rw[hz1,show ((n:Int)+2).toNat=n+2 by omega] at this
 simpa [Value.cells,zt] using this
theorem copyTabs (w y:World) (N:Nat) (ao:Option Addr) (cap:Nat) (ts:List TableD) (h:TablesAt w ao ts) (hb:Below w.heap.size w y) (hN:N=y.heap.size) (ty:TypeId) :
  (Builtin.copy_ #[22,22] ty #[.slice (some (aD N 0)) (ts.length+2) (ts.length+2),.slice ao ts.length cap]).run Tryz.prog (y.alloc (.cells (madeCells zt.toArray ((ts.length+2)*6)) 95)) =
   .ok (goInt ts.length) (y.alloc (.cells (tabs1 ts) 95)):=by
 subst hN;exact run_copy_new (P:=Tryz.prog) y 22 95 6 zt.toArray ao ts.length cap (ts.flatMap tabVals) (by omega) rfl (length_flat _ 6 tvals_len ts) (tabs_src (h.below hb)) (tabs_one ts) Tryz.underlying22 Tryz.size95 ty
theorem setCell_tabs1 (y:World) (N:Nat) (ts:List TableD) (t:TypeId) (hN:N=y.heap.size):(y.alloc (.cells (tabs1 ts) t)).setCell (aD N (ts.length*6)) (.int .i64 77777)=y.alloc (.cells (tabs2 ts) t):=by
 subst hN;rw[setCell_alloc,tabs1_set]
theorem setCell_tabs2 (y:World) (N:Nat) (ts:List TableD) (t:TypeId) (hN:N=y.heap.size):(y.alloc (.cells (tabs2 ts) t)).setCell (aD N ((ts.length+1)*6)) (.int .i64 77777)=y.alloc (.cells (lentTabs ts) t):=by
 subst hN;rw[setCell_alloc,tabs2_set]
theorem cell_tabs1 (y:World) (N:Nat) (ts:List TableD) (t:TypeId) (hN:N=y.heap.size):(y.alloc (.cells (tabs1 ts) t)).cell? (aD N (ts.length*6))=some (.int .i64 0):=by
 subst hN;rw[World.cell?_alloc_new,tabs1_at]
theorem cell_tabs2 (y:World) (N:Nat) (ts:List TableD) (t:TypeId) (hN:N=y.heap.size):(y.alloc (.cells (tabs2 ts) t)).cell? (aD N ((ts.length+1)*6))=some (.int .i64 0):=by
 subst hN;rw[World.cell?_alloc_new,tabs2_at]
theorem lend_pre {w W:World} {G tG:Nat} {c:Array Value} {bs:List (Nat × Obj)} (hP:Pre w W G tG c bs) (ao:Option Addr) (cap:Nat) (xs:List Int) (hx:IntsAt w ao xs) (hsz:xs.length*8<=140737488351232) :
  Calls Tryz.prog 38 #[.slice ao xs.length cap] W fun e w'=>∃ b,e=.returned (.slice (some (aD b 0)) xs.length (xs.length+2))/\Pre w w' G tG c ((b,.cells (lentCells xs) 3)::bs):=
 (lend_any ao cap xs W (hx.below hP.bel) hsz).mono fun _ _ ⟨he,hw⟩=>⟨W.heap.size,he,by rw[hw]; exact hP.alloc _⟩
theorem sameInts_any (ao bo:Option Addr) (cap cap':Nat) (xs:List Int) (w:World) (hx:IntsAt w ao xs) (hy:IntsAt w bo xs) :
  Calls Tryz.prog 101 #[.slice ao xs.length cap,.slice bo xs.length cap'] w fun e w'=>e=.returned (.bool true)/\∃ n,w' = w.drewN n:=by
 have hl:=hx.1;have hne:((xs.length:Int) != xs.length)=false:=by simp
 go_enter Tryz.func101,Tryz.ntmps101;go_wp2;go_loopw [5] (fun i wr=>∃ k:Nat,k<=xs.length/\i=.int .i64 k/\∃ n,wr=w.drewN n) (fun i _=>xs.length-(intOf i).toNat)
 case atStart=>exact⟨0,Nat.zero_le _,rfl,0,rfl⟩
 case round=>
  obtain⟨k,hk,rfl,n,rfl⟩:=hrel;by_cases hlt:k<xs.length
  ·obtain⟨b,off,rfl,hc⟩:=hx.get hlt;obtain⟨b',off',rfl,hc'⟩:=hy.get hlt;have h1:=hc k hlt;have h2:=hc' k hlt;clear hc hc' hx hy;generalize xs.getD k 0=x at *;have hxx:(x != x)=false:=by simp
   go_wp2;go_quiet (fail);go_wp2;go_roundw
   case rel=>exact⟨k+1,by omega,by go_num,_,rfl⟩
   case measure=>simp[intOf]; omega
  ·go_wp2;go_ret;exact⟨rfl,_,rfl⟩
theorem lentAt {w:World} {b:Nat} {xs:List Int} {t:TypeId} (h:GB w b t (lentCells xs)) (hl:xs.length<=1152921504606846976):IntsAt w (some (aD b 0)) xs:=by
 refine⟨hl,fun i hi=>⟨b,0,rfl,?_⟩⟩;rw[Nat.zero_add,h.cell i];unfold lentCells;rw[List.getElem?_toArray,List.getElem?_append_left (by simpa using hi),List.getElem?_map];simp[List.getD,hi]
theorem lent_i0 (xs:List Int):(lentCells xs)[xs.length]? = some (.int .i64 77777):=by simp[lentCells]
theorem lent_i1 (xs:List Int):(lentCells xs)[xs.length+1]? = some (.int .i64 77777):=by simp[lentCells]
theorem lent_true (b:Nat) (bo:Option Addr) (cap':Nat) (xs:List Int) (w:World) (hG:GB w b 3 (lentCells xs)) (hy:IntsAt w bo xs) :
  Calls Tryz.prog 46 #[.slice (some (aD b 0)) xs.length (xs.length+2),.slice bo xs.length cap'] w fun e w'=>e=.returned (.bool true)/\Below w.heap.size w w':=by
 have hl:=hy.1;have hne:((xs.length:Int) != xs.length)=false:=by simp
 have h0:w.cell? (aD b xs.length)=some (.int .i64 77777):=by rw[hG.cell,lent_i0]
 have h1:w.cell? (aD b (xs.length+1))=some (.int .i64 77777):=by rw[hG.cell,lent_i1]
 have hC:=sameInts_any (some (aD b 0)) bo (xs.length+2) cap' xs w (lentAt hG hl) hy;go_enter Tryz.func46,Tryz.ntmps46;go_wp2_with fail;refine hC.mono ?_;clear hC;rintro e w2 ⟨rfl,n,rfl⟩;go_wp2;go_ret;exact⟨rfl,below_drewN (Below.refl _ _) _⟩
theorem inked_true (b:Nat) (w:World) (hG:GB w b 3 #[.int .i64 77777]) :
  Calls Tryz.prog 102 #[.slice (some (aD b 0)) 1 1] w fun e w'=>e=.returned (.bool true)/\w' = w:=by
 have h0:w.cell? (aD b 0)=some (.int .i64 77777):=hG.cell 0;go_enter Tryz.func102,Tryz.ntmps102;go_wp2;go_ret;exact⟨rfl,rfl⟩
end Go.Proofs.YtlpbelhfpoilpaaGreatDoor
namespace Go.Scout
open Go.RowKit
theorem tabsAt {w:World} {b t:Nat} {ts:List TableD} (h:GB w b t (lentTabs ts)) (hl:ts.length<=192153584101141162):TablesAt w (some (aD b 0)) ts:=by
 refine⟨hl,fun i hi=>⟨b,0,rfl,?_⟩⟩;have hc:∀ j,j<6->w.cell? (aD b (0+(i*6+j)))=(tabVals (ts.getD i tz))[j]?:=fun j hj=>by
  rw[Nat.zero_add,h.cell];unfold lentTabs;rw[List.getElem?_toArray];exact flat_at tabVals 6 tvals_len tz ts _ i j hi hj
 exact⟨hc 0 (by omega),hc 1 (by omega),hc 2 (by omega),hc 3 (by omega),hc 4 (by omega),hc 5 (by omega)⟩
theorem condsAt {w:World} {b t:Nat} {cs:List CondD} (h:GB w b t (lentConds cs)) (hl:cs.length<=230584300921369395):CondsAt w (some (aD b 0)) cs:=by
 refine⟨hl,fun i hi=>⟨b,0,rfl,?_⟩⟩;have hc:∀ j,j<5->w.cell? (aD b (0+(i*5+j)))=(CondD.vals (cs.getD i cz))[j]?:=fun j hj=>by
  rw[Nat.zero_add,h.cell];unfold lentConds;rw[List.getElem?_toArray];exact flat_at CondD.vals 5 cvals_len cz cs _ i j hi hj
 exact⟨hc 0 (by omega),hc 1 (by omega),hc 2 (by omega),hc 3 (by omega),hc 4 (by omega)⟩
def lentLs (ls:List ClauseV) (A:Nat->Nat):List ClauseV:=(List.range ls.length).map fun i=>⟨some (aD (A i) 0),(ls.getD i lz).cs.length+2,(ls.getD i lz).cs⟩
theorem lentLs_len (ls:List ClauseV) (A:Nat->Nat):(lentLs ls A).length=ls.length:=by simp[lentLs]
theorem lentLs_at (ls:List ClauseV) (A:Nat->Nat) {i:Nat} (hi:i<ls.length):(lentLs ls A).getD i lz=⟨some (aD (A i) 0),(ls.getD i lz).cs.length+2,(ls.getD i lz).cs⟩:=by
 unfold lentLs;simp[List.getD,hi]
theorem lentLs_cs (ls:List ClauseV) (A:Nat->Nat):(lentLs ls A).map ClauseV.cs=ls.map ClauseV.cs:=by
 apply List.ext_getElem?;intro i;by_cases hi:i<ls.length
 ·simp[lentLs,hi]
 ·simp[lentLs,hi]
def lentQ (q:QueryV) (bf bk bu be bo bw:Nat) (A:Nat->Nat):QueryV:=
 ⟨⟨some (aD bf 0),q.src.xs.length+2,q.src.xs⟩,some (aD bw 0),q.wh.length+2,lentLs q.wh A,q.group,⟨some (aD bk 0),q.keys.xs.length+2,q.keys.xs⟩,⟨some (aD bu 0),q.sums.xs.length+2,q.sums.xs⟩,⟨some (aD be 0),q.sel.xs.length+2,q.sel.xs⟩,⟨some (aD bo 0),q.ord.xs.length+2,q.ord.xs⟩⟩
theorem lentQ_check (q:QueryV) (bf bk bu be bo bw:Nat) (A:Nat->Nat) (ts:List TableD):(lentQ q bf bk bu be bo bw A).check ts=q.check ts:=by
 have:(lentQ q bf bk bu be bo bw A).whs=q.whs:=lentLs_cs q.wh A;unfold QueryV.check;rw[this];rfl
end Go.Scout
namespace Go.Proofs.YtlpbelhfpoilpaaGreatDoor
open Go.RowKit Go.Scout
theorem lentRow {w:World} {b n:Nat} {t tS:TypeId} {ls:List ClauseV} {A:Nat->Nat} {f:Nat->Value} (hn:n=ls.length) (h:w.rowIs b t (n+2) f) (hf:∀ i,i<n->f i=.slice (some (aD (A i) 0)) (ls.getD i lz).cs.length ((ls.getD i lz).cs.length+2))
  (hal:∀ i,i<n->GB w (A i) tS (lentConds (ls.getD i lz).cs)) (hl:ls.length<=1152921504606846976) (hcl:∀ i,i<ls.length->(ls.getD i lz).cs.length<=230584300921369395):ClausesAt w (some (aD b 0)) (lentLs ls A):=by
 subst hn;refine⟨by rw[lentLs_len]; exact hl,fun i hi=>⟨b,0,rfl,?_⟩,fun i hi=>?_⟩
 ·rw[lentLs_len] at hi;rw[Nat.zero_add,h.cell (by omega),hf i hi]
  show _=some ((lentLs ls A).getD i lz).val
  rw[lentLs_at _ _ hi];rfl
 ·rw[lentLs_len] at hi;rw[lentLs_at _ _ hi];exact condsAt (hal i hi) (hcl i hi)
end Go.Proofs.YtlpbelhfpoilpaaGreatDoor

import Derived.Test.YtlpbelhfpoilpaaGreatDoorC02
import Derived.Test.YtlpbelhfpoilpaaGreatDoorC06
import Derived.Test.YtlpbelhfpoilpaaGreatDoorC19
set_option linter.all false
set_option maxRecDepth 100000
set_option maxHeartbeats 16000000
namespace Go.Scout
open Go.RowKit
def DbHad (w:World) (d:Option Addr) (db:List RowsV):Prop:=DbAt w d db/\∀ i,i<db.length->RowsHad w (db.getD i rz).ad (db.getD i rz).rs
theorem DbHad.below {w w':World} (hb:Below w.heap.size w w') {d:Option Addr} {db:List RowsV} (h:DbHad w d db):DbHad w' d db:=⟨h.1.below hb,fun i hi=>(h.2 i hi).below hb⟩
structure GivD (w w':World) (G tG tC tA tS tI tT tN tL tR:Nat) (ts:List TableD) (q:QueryV) (db db':List RowsV) (bc bf bk bu be bo bw bp bd:Nat) (v vr u1 u2:Value) (A:Nat->Nat) (k1 k2 s1 s2:Nat) (x1 x2:Value):Prop where
 bel:Below w.heap.size w w'
 lo:w.heap.size<=G
 g:GB w' G tG #[.slice (some (aD bc 0)) ts.length (ts.length+2),.slice (some (aD bf 0)) q.src.xs.length (q.src.xs.length+2),.slice (some (aD bw 0)) q.wh.length (q.wh.length+2),.bool q.group,
  .slice (some (aD bk 0)) q.keys.xs.length (q.keys.xs.length+2),.slice (some (aD bu 0)) q.sums.xs.length (q.sums.xs.length+2),.slice (some (aD be 0)) q.sel.xs.length (q.sel.xs.length+2),.slice (some (aD bo 0)) q.ord.xs.length (q.ord.xs.length+2),
  .slice (some (aD bp 0)) 0 2,.slice (some (aD bd 0)) db.length (db.length+2),.slice (some (aD bc 0)) (ts.length+2) (ts.length+2),.slice (some (aD bw 0)) (q.wh.length+2) (q.wh.length+2),v,.slice (some (aD bp 0)) 2 2,.slice (some (aD bd 0)) (db.length+2) (db.length+2),vr]
 cat:GB w' bc tT (lentTabs ts)
 src:GB w' bf tI (lentCells q.src.xs)
 keys:GB w' bk tI (lentCells q.keys.xs)
 sums:GB w' bu tI (lentCells q.sums.xs)
 sel:GB w' be tI (lentCells q.sel.xs)
 ord:GB w' bo tI (lentCells q.ord.xs)
 row:w'.rowIs bw tC (q.wh.length+2) (fun i=>if i<q.wh.length then .slice (some (aD (A i) 0)) (q.wh.getD i lz).cs.length ((q.wh.getD i lz).cs.length+2) else if i=q.wh.length then .slice (some (aD k1 0)) 1 1 else .slice (some (aD k2 0)) 1 1)
 al:∀ i,i<q.wh.length->GB w' (A i) tS (lentConds (q.wh.getD i lz).cs)
 own:w'.ownsRow w.heap.size tA 1 v q.wh.length ((List.range q.wh.length).map fun i=>.slice (some (aD (A i) 0)) ((q.wh.getD i lz).cs.length+2) ((q.wh.getD i lz).cs.length+2))
 h1:GB w' k1 tS ic.toArray
 h2:GB w' k2 tS ic.toArray
 plan:GB w' bp tN (nk++nk).toArray
 len:db'.length=db.length
 dlo:w.heap.size<=bd
 drow:GB w' bd tL (db'.map RowsV.val++[u1,u2]).toArray
 tab:∀ i,i<db'.length->∃ T v1 v2,LentTab bd w' tR tI (db'.getD i rz) (db.getD i rz).rs T v1 v2
 down:w'.ownsRow w.heap.size tL 1 vr db'.length (db'.map RowsV.full)
 e1:u1=.slice (some (aD s1 0)) 1 1
 e2:u2=.slice (some (aD s2 0)) 1 1
 r1:GB w' s1 tR #[x1]
 r2:GB w' s2 tR #[x2]
 q1:InkAt bd w' tI x1
 q2:InkAt bd w' tI x2
 far:w.heap.size<=bc/\w.heap.size<=bf/\w.heap.size<=bk/\w.heap.size<=bu/\w.heap.size<=be/\w.heap.size<=bo/\w.heap.size<=bw/\w.heap.size<=bp/\w.heap.size<=k1/\w.heap.size<=k2/\w.heap.size<=s1/\w.heap.size<=s2
 farA:∀ i,i<q.wh.length->w.heap.size<=A i
theorem LentTab.had {lo:Nat} {W:World} {tR tI:TypeId} {t':RowsV} {rs:List IntsV} {T:Nat} {v1 v2:Value} (h:LentTab lo W tR tI t' rs T v1 v2) (hl:rs.length<=1152921504606846976) (hr:∀ j,j<rs.length->(rs.getD j iz).xs.length<=1152921504606846976):RowsHad W t'.ad t'.rs:=by
 have hlen:=h.len;have hrow:∀ j,j<t'.rs.length->rowEl.At (t'.rs.getD j iz) W:=fun j hj=>by
  obtain⟨B,e,_,hB⟩:=h.rows j (by omega);rw[e];refine⟨⟨hr j (by omega),fun i hi=>⟨B,0,rfl,?_⟩⟩,fun a ha=>?_,fun e=>(by cases e)⟩
  ·have hi':i<(rs.getD j iz).xs.length:=hi;rw[Nat.zero_add,hB.cell i];unfold lentCells;rw[List.getElem?_toArray,List.getElem?_append_left (by simpa using hi'),List.getElem?_map]
   show _=some (Value.int .i64 ((rs.getD j iz).xs.getD i 0))
   generalize (rs.getD j iz).xs=l at *;simp[List.getD,hi']
  ·cases ha
   exact hB.lt
 refine⟨⟨by omega,fun j hj=>⟨T,0,h.ad,?_⟩,fun j hj=>(hrow j hj).1⟩,fun a ha=>?_,hrow⟩
 ·rw[Nat.zero_add,h.blk.cell j,List.getElem?_toArray,List.getElem?_append_left (by simpa using hj),List.getElem?_map]
  show _=some (t'.rs.getD j iz).val
  simp[List.getD,hj]
 ·rw[h.ad] at ha
  cases ha
  exact h.blk.lt
variable {w w':World} {G tG tC tA tS tI tT tN tL tR:Nat} {ts:List TableD} {q:QueryV} {db db':List RowsV} {bc bf bk bu be bo bw bp bd:Nat} {v vr u1 u2:Value} {A:Nat->Nat} {k1 k2 s1 s2:Nat} {x1 x2:Value}
theorem GivD.below (h:GivD w w' G tG tC tA tS tI tT tN tL tR ts q db db' bc bf bk bu be bo bw bp bd v vr u1 u2 A k1 k2 s1 s2 x1 x2) {w'':World} (hb:Below w'.heap.size w' w''):GivD w w'' G tG tC tA tS tI tT tN tL tR ts q db db' bc bf bk bu be bo bw bp bd v vr u1 u2 A k1 k2 s1 s2 x1 x2:=by
 have m:∀ {b t:Nat} {c:Array Value},GB w' b t c->GB w'' b t c:=fun g=>g.of (hb.block _ g.lt)
 have hk:∀ b,bd<b->b<w'.heap.size->w''.heap[b]? = w'.heap[b]?:=fun b _ hl=>hb.block b hl
 exact⟨bQ1 h.bel hb,h.lo,m h.g,m h.cat,m h.src,m h.keys,m h.sums,m h.sel,m h.ord,h.row.of_block (hb.block _ h.row.lt),fun i hi=>m (h.al i hi),
  ownsRow_move h.own (Nat.le_refl _) (fun j _ hj=>hb.block j hj),m h.h1,m h.h2,m h.plan,h.len,h.dlo,m h.drow,fun i hi=>by
   obtain⟨T,a,b,ht⟩:=h.tab i hi;exact⟨T,a,b,ht.kept hk⟩,ownsRow_move h.down (Nat.le_refl _) (fun j _ hj=>hb.block j hj),h.e1,h.e2,m h.r1,m h.r2,h.q1.kept hk,h.q2.kept hk,h.far,h.farA⟩
theorem GivD.had (h:GivD w w' G tG tC tA tS tI tT tN tL tR ts q db db' bc bf bk bu be bo bw bp bd v vr u1 u2 A k1 k2 s1 s2 x1 x2) {d:Option Addr} {wd:World} (hd:DbAt wd d db):DbHad w' (some (aD bd 0)) db':=by
 have hl:=h.len;have hth:∀ i,i<db'.length->RowsHad w' (db'.getD i rz).ad (db'.getD i rz).rs:=fun i hi=>by
  obtain⟨T,a,b,ht⟩:=h.tab i hi;exact ht.had (hd.2.2 i (by omega)).1 (fun j hj=>((hd.2.2 i (by omega)).2.2 j hj).1)
 refine⟨⟨by have:=hd.1; omega,fun i hi=>⟨bd,0,rfl,?_⟩,fun i hi=>(hth i hi).1⟩,hth⟩;rw[Nat.zero_add,h.drow.cell i,List.getElem?_toArray,List.getElem?_append_left (by simpa using hi),List.getElem?_map]
 show _=some (db'.getD i rz).val
 simp[List.getD,hi]
def emptyW (w:World):World:={ w with heap:=#[] }
theorem GivD.later (h:GivD w w' G tG tC tA tS tI tT tN tL tR ts q db db' bc bf bk bu be bo bw bp bd v vr u1 u2 A k1 k2 s1 s2 x1 x2) {w'':World} (hs:w'.heap.size<=w''.heap.size) (hk:∀ b,w.heap.size<=b->b<w'.heap.size->w''.heap[b]? = w'.heap[b]?):GivD (emptyW w'') w'' G tG tC tA tS tI tT tN tL tR ts q db db' bc bf bk bu be bo bw bp bd v vr u1 u2 A k1 k2 s1 s2 x1 x2:=by
 have m:∀ {b t:Nat} {c:Array Value},GB w' b t c->w.heap.size<=b->GB w'' b t c:=fun g hl=>g.of (hk _ hl g.lt)
 have hd:=h.dlo;obtain⟨f1,f2,f3,f4,f5,f6,f7,f8,f9,f10,f11,f12⟩:=h.far;have hk2:∀ b,bd<b->b<w'.heap.size->w''.heap[b]? = w'.heap[b]?:=fun b hl hb=>hk b (by omega) hb
 exact⟨⟨rfl,rfl,rfl,Nat.zero_le _,fun k hk=>absurd hk (by simp[emptyW])⟩,Nat.zero_le _,m h.g h.lo,m h.cat f1,m h.src f2,m h.keys f3,m h.sums f4,m h.sel f5,m h.ord f6,h.row.of_block (hk _ f7 h.row.lt),fun i hi=>m (h.al i hi) (h.farA i hi),
  ownsRow_move h.own (Nat.zero_le _) (fun j hj hl=>hk j hj hl),m h.h1 f9,m h.h2 f10,m h.plan f8,h.len,Nat.zero_le _,m h.drow hd,fun i hi=>by
   obtain⟨T,a,b,ht⟩:=h.tab i hi;exact⟨T,a,b,ht.kept hk2⟩,ownsRow_move h.down (Nat.zero_le _) (fun j hj hl=>hk j hj hl),h.e1,h.e2,m h.r1 f11,m h.r2 f12,h.q1.kept hk2,h.q2.kept hk2,⟨Nat.zero_le _,Nat.zero_le _,Nat.zero_le _,Nat.zero_le _,Nat.zero_le _,Nat.zero_le _,Nat.zero_le _,Nat.zero_le _,Nat.zero_le _,Nat.zero_le _,Nat.zero_le _,Nat.zero_le _⟩,fun _ _=>Nat.zero_le _⟩
theorem GivD.same (h:GivD w w' G tG tC tA tS tI tT tN tL tR ts q db db' bc bf bk bu be bo bw bp bd v vr u1 u2 A k1 k2 s1 s2 x1 x2):∀ i,i<db.length->(db'.getD i rz).rs.length=(db.getD i rz).rs.length/\∀ j,j<(db.getD i rz).rs.length->((db'.getD i rz).rs.getD j iz).xs=((db.getD i rz).rs.getD j iz).xs:=fun i hi=>by
 obtain⟨T,a,b,ht⟩:=h.tab i (by have:=h.len; omega);refine⟨ht.len,fun j hj=>?_⟩;obtain⟨B,e,_⟩:=ht.rows j hj;rw[e]
end Go.Scout
namespace Go.Proofs.YtlpbelhfpoilpaaGreatDoor
open Go.RowKit Go.Scout
variable {w w':World} {G tG tC tA tS tI tT tN tL tR:Nat} {ts:List TableD} {q:QueryV} {db db':List RowsV} {bc bf bk bu be bo bw bp bd:Nat} {v vr u1 u2:Value} {A:Nat->Nat} {k1 k2 s1 s2:Nat} {x1 x2:Value}
theorem sameWhere_true (ao bo:Option Addr) (cap cap':Nat) (ls ms:List ClauseV) (w:World) (hx:ClausesAt w ao ls) (hy:ClausesAt w bo ms) (he:ls.length=ms.length) (hcs:∀ i,i<ls.length->(ls.getD i lz).cs=(ms.getD i lz).cs) :
  Calls Tryz.prog 45 #[.slice ao ls.length cap,.slice bo ms.length cap'] w fun e w'=>e=.returned (.bool true)/\Below w.heap.size w w':=by
 have hl:=hx.1;rw[<- he];have hne:((ls.length:Int) != ls.length)=false:=by simp
 go_enter Tryz.func45,Tryz.ntmps45;go_wp2;go_loopw [5] (fun i wr=>∃ k:Nat,k<=ls.length/\i=.int .i64 k/\∃ n,wr=w.drewN n) (fun i _=>ls.length-(intOf i).toNat)
 case atStart=>exact⟨0,Nat.zero_le _,rfl,0,rfl⟩
 case round=>
  obtain⟨k,hk,rfl,n,rfl⟩:=hrel;by_cases hlt:k<ls.length
  ·obtain⟨b,off,rfl,hc⟩:=hx.2.1.get hlt;obtain⟨b',off',rfl,hc'⟩:=hy.2.1.get (show k<ms.length by omega);have h1:=hc k hlt;have h2:=hc' k (by omega);have hd1:=hx.2.2 k hlt;have hd2:=hy.2.2 k (by omega);have hee:=hcs k hlt;clear hc hc' hx hy hcs;generalize ls.getD k lz=c1 at *;generalize ms.getD k lz=c2 at *;obtain⟨ad1,cp1,cs1⟩:=c1;obtain⟨ad2,cp2,cs2⟩:=c2;simp only at hee hd1 hd2;subst hee;unfold ClauseV.val at h1 h2;simp only at h1 h2;have hcl:=hd1.1;have hnn:((cs1.length:Int) != cs1.length)=false:=by simp
   go_wp2;go_quiet (fail);go_wp2;go_loopw [6] (fun i wr=>∃ m:Nat,m<=cs1.length/\i=.int .i64 m/\∃ n,wr=w.drewN n) (fun i _=>cs1.length-(intOf i).toNat)
   case atStart=>exact⟨0,Nat.zero_le _,rfl,_,World.drewN_drewN _ _ _⟩
   case round=>
    obtain⟨m,hm,rfl,n2,rfl⟩:=hrel;by_cases hml:m<cs1.length
    ·obtain⟨b3,off3,rfl,e0,e1,e2,e3,e4⟩:=hd1.2 m hml;obtain⟨b4,off4,rfl,i0,i1,i2,i3,i4⟩:=hd2.2 m hml;generalize cs1.getD m cz=cc at *;clear hd1 hd2;go_wp2;go_quiet (fail);go_wp2;go_roundw
     case rel=>exact⟨m+1,by omega,by go_num,_,rfl⟩
     case measure=>simp[intOf]; omega
    ·go_wp2;go_roundw
     case rel=>exact⟨k+1,by omega,by go_num,_,rfl⟩
     case measure=>simp[intOf]; omega
  ·go_wp2;go_ret;exact⟨rfl,below_drewN (Below.refl _ _) _⟩
theorem ints_drewN {w:World} {ao:Option Addr} {xs:List Int} (h:IntsAt w ao xs) (n:Nat):IntsAt (w.drewN n) ao xs:=h.below (below_drewN (Below.refl _ _) _)
theorem sameInts_drawn (ao bo:Option Addr) (cap cap':Nat) (xs:List Int) (w:World) (n m:Nat) (hx:IntsAt w ao xs) (hy:IntsAt w bo xs) :
  Calls Tryz.prog 101 #[.slice ao xs.length cap,.slice bo xs.length cap'] (w.drewN (n+m)) fun e w''=>e=.returned (.bool true)/\∃ m',w'' = w.drewN (n+m'):=
 (sameInts_any ao bo cap cap' xs (w.drewN (n+m)) (ints_drewN hx _) (ints_drewN hy _)).mono fun _ _ ⟨he,k',hk'⟩=>⟨he,m+k',by rw[hk',World.drewN_drewN,Nat.add_assoc]⟩
theorem samePlan_true (ao bo:Option Addr) (cap cap':Nat) (ns ms:List NodeV) (w:World) (hx:NodesAt w ao ns) (hy:NodesAt w bo ms) (he:ns.length=ms.length) (hs:∀ i,i<ns.length->(ns.getD i nz).same (ms.getD i nz)) :
  Calls Tryz.prog 47 #[.slice ao ns.length cap,.slice bo ms.length cap'] w fun e w'=>e=.returned (.bool true)/\Below w.heap.size w w':=by
 have hl:=hx.1;rw[<- he];have HE:Hid (ns.length=ms.length):=he;clear he;have hne:((ns.length:Int) != ns.length)=false:=by simp
 go_enter Tryz.func47,Tryz.ntmps47;go_wp2;go_loopw [5] (fun i wr=>∃ k:Nat,k<=ns.length/\i=.int .i64 k/\∃ n,wr=w.drewN n) (fun i _=>ns.length-(intOf i).toNat)
 case atStart=>exact⟨0,Nat.zero_le _,rfl,0,rfl⟩
 case round=>
  obtain⟨k,hk,rfl,n,rfl⟩:=hrel;by_cases hlt:k<ns.length
  ·obtain⟨b,off,rfl,c0,c1,c2,c3,c4,c5,c6,i1,i2⟩:=hx.2 k hlt;obtain⟨b',off',rfl,d0,d1,d2,d3,d4,d5,d6,j1,j2⟩:=hy.2 k (by have:=HE.out; omega);obtain⟨q0,q1,q2,q3,q4,q5,q6⟩:=hs k hlt;clear hx hy hs;generalize ns.getD k nz=x1 at *;generalize ms.getD k nz=x2 at *;obtain⟨ka,la,ra,sa,⟨ad1,cp1,xs1⟩,ya,⟨ad2,cp2,xs2⟩⟩:=x1;obtain⟨kb,lb,rb,sb,⟨ad3,cp3,xs3⟩,yb,⟨ad4,cp4,xs4⟩⟩:=x2;unfold IntsV.At at i1 i2 j1 j2;unfold IntsV.val at c4 c6 d4 d6;simp only at q0 q1 q2 q3 q4 q5 q6 i1 i2 j1 j2 c0 c1 c2 c3 c4 c5 c6 d0 d1 d2 d3 d4 d5 d6;subst q0 q1 q2 q3 q4 q5 q6;have t0:(ka != ka)=false:=by simp
   have t1:(la != la)=false:=by simp
   have t2:(ra != ra)=false:=by simp
   have t3:(sa != sa)=false:=by simp
   have t5:(ya != ya)=false:=by simp
   go_wp2;refine wp_region_quiet_lit (by kernel_rfl) (by kernel_rfl) ?_
   repeat (go_big_quiet_step (fail))
   go_big_quiet_want;refine⟨.bool true,fun x hx=>?_,?_⟩
   ·obtain⟨m,rfl⟩:=hx;have hC:=sameInts_drawn ad1 ad3 cp1 cp3 xs1 w n m i1 j1;go_simp
   simp only[pA,sB,sC];go_big_quiet_on
   repeat (go_big_quiet_step (fail))
   refine wpQuiet_nil ?_;intro x hx;obtain⟨m,rfl⟩:=hx;rw[World.drewN_drewN];generalize n+m=n';go_wp2;refine wp_region_quiet_lit (by kernel_rfl) (by kernel_rfl) ?_
   repeat (go_big_quiet_step (fail))
   go_big_quiet_want;refine⟨.bool true,fun x hx=>?_,?_⟩
   ·obtain⟨m,rfl⟩:=hx;have hC:=sameInts_drawn ad2 ad4 cp2 cp4 xs2 w n' m i2 j2;go_simp
   simp only[pA,sB,sC];go_big_quiet_on
   repeat (go_big_quiet_step (fail))
   refine wpQuiet_nil ?_;intro x hx;obtain⟨m,rfl⟩:=hx;rw[World.drewN_drewN];generalize n'+m=n2;go_wp2;go_quiet (fail);go_wp2;go_roundw
   case rel=>exact⟨k+1,by omega,by go_num,_,rfl⟩
   case measure=>simp[intOf]; omega
  ·go_wp2;go_ret;exact⟨rfl,below_drewN (Below.refl _ _) _⟩
theorem eqArr4 (d:Nat) (a b c e:Int) (w:World):(Op.equalIn (d+2) 93 (.agg #[.int .i64 a,.int .i64 b,.int .i64 c,.int .i64 e]) (.agg #[.int .i64 a,.int .i64 b,.int .i64 c,.int .i64 e])).run Tryz.prog w=.ok true w:=by
 have hu:=Tryz.underlying93;have hi:=fun (x:Int)=>run_equalIn_int (P:=Tryz.prog) w d 3 .i64 .i64 x x Tryz.underlying3
 rw[Op.equalIn];simp only[Sem.run_bind,run_underlying hu,Result.andThen_ok];simp[go_sem,Std.Legacy.Range.forIn_eq_forIn_range',Std.Legacy.Range.size,List.range',hi]
end Go.Proofs.YtlpbelhfpoilpaaGreatDoor

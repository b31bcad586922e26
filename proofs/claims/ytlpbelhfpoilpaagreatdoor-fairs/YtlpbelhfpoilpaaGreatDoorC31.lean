import Derived.Deep.CutRange
import Derived.Deep.RegionHeld
import Derived.Test.YtlpbelhfpoilpaaGreatDoorC15
import Derived.Test.YtlpbelhfpoilpaaGreatDoorC30
set_option linter.all false
set_option maxRecDepth 100000
set_option maxHeartbeats 16000000
namespace Go.Scout
open Go.RowKit
def fairN (ts:List TableD) (q:QueryV) (pl:List NodeV):Int:=if q.check ts=0 then (if (lookP ts q pl).isSome=true then 0 else 5) else q.check ts
def lastCost:Option (List PartD)->Nat
 | some ds => (ds.getD (ds.length-1) pz).cost
 | none => 0
def costOfN (ts:List TableD) (q:QueryV) (pl:List NodeV):Nat:=if q.check ts=0 then lastCost (lookP ts q pl) else 0
end Go.Scout
namespace Go.Proofs.YtlpbelhfpoilpaaGreatDoor
open Go.RowKit Go.Scout
theorem scoutFair_any (ao:Option Addr) (cap:Nat) (ts:List TableD) (q:QueryV) (po:Option Addr) (pc:Nat) (pl:List NodeV) (w:World) (hx:TablesAt w ao ts) (hq:q.At w) (hkc:q.keys.xs.length<=q.keys.cap) (hoc:q.ord.xs.length<=q.ord.cap) (hn:NodesAt w po pl) (hsh:ShapesAt w 0) (hcap:∀ i,i<pl.length->(pl.getD i nz).co.xs.length<=(pl.getD i nz).co.cap) :
  Calls Tryz.prog 12 #[.slice ao ts.length cap,.agg q.cells,.slice po pl.length pc] w fun e w'=>e=.returned (.int .i64 (fairN ts q pl))/\Below w.heap.size w w':=by
 obtain⟨w1,hw1⟩:∃ x,w.alloc (.cells q.cells 26)=x:=⟨_,rfl⟩
 have hk1:Below w.heap.size w w1:=by rw[<- hw1]; exact bQ2 _ _
 have hg1:GB w1 w.heap.size 26 q.cells:=by rw[<- hw1]; exact bQ3 _ _
 have hc0:Below w.heap.size w w1:=hk1;have gg1:=hg1;have g1_0:w1.cell? (aD w.heap.size 0)=some (q.src.val):=gg1.cell 0;have g1_1:w1.cell? (aD w.heap.size 1)=some (.slice q.wad q.wh.length q.wcap):=gg1.cell 1;have g1_2:w1.cell? (aD w.heap.size 2)=some (.bool q.group):=gg1.cell 2;have g1_3:w1.cell? (aD w.heap.size 3)=some (q.keys.val):=gg1.cell 3;have g1_4:w1.cell? (aD w.heap.size 4)=some (q.sums.val):=gg1.cell 4;have g1_5:w1.cell? (aD w.heap.size 5)=some (q.sel.val):=gg1.cell 5;have g1_6:w1.cell? (aD w.heap.size 6)=some (q.ord.val):=gg1.cell 6;have hLO:=scoutLook_any ao cap ts q po pc pl w1 (hx.below hc0) (hq.below hc0) hkc hoc (hn.below hc0) (ShapesAt.below hc0 hsh) hcap;obtain⟨CHK,hCHK⟩:∃ c,c=q.check ts:=⟨_,rfl⟩
 obtain⟨LK,hLK⟩:∃ c,c=lookP ts q pl:=⟨_,rfl⟩
 rw[<- hCHK,<- hLK] at hLO;have HC:Hid _:=hc0;have HCHK:Hid _:=hCHK;have HLK:Hid _:=hLK;obtain⟨FN0,hFN⟩:∃ c,c=fairN ts q pl:=⟨_,rfl⟩
 rw[<- hFN];have HFN:Hid (FN0=if CHK=0 then (if LK.isSome=true then 0 else 5) else CHK):=by show _=_; rw[hFN,hCHK,hLK]; rfl
 clear hFN;clear hCHK hLK hx hq hkc hoc hn hsh hcap hk1 hg1 gg1 hc0;obtain⟨⟨sa,sc,src⟩,wad,wcap,wh,group,⟨ka,kc,keys⟩,⟨ua,uc,sums⟩,⟨ea,ec,sel⟩,⟨da,dc,ord⟩⟩:=q;have hQC:QueryV.cells ⟨⟨sa,sc,src⟩,wad,wcap,wh,group,⟨ka,kc,keys⟩,⟨ua,uc,sums⟩,⟨ea,ec,sel⟩,⟨da,dc,ord⟩⟩=#[.slice sa src.length sc,.slice wad wh.length wcap,.bool group,.slice ka keys.length kc,.slice ua sums.length uc,.slice ea sel.length ec,.slice da ord.length dc]:=rfl;rw[hQC] at hw1 hLO ⊢;simp only[IntsV.val] at g1_0 g1_1 g1_2 g1_3 g1_4 g1_5 g1_6;clear hQC;go_enter Tryz.func12,Tryz.ntmps12;go_wp2_with fail;refine hLO.mono ?_;rintro e w2 ⟨hb2,hres⟩;have HB:Hid _:=bQ1 HC.out hb2;have HB2:Hid (∀ o,Below w.heap.size w (w2.alloc o)):=fun o=>HB.out.trans ((bQ2 _ _).mono HB.out.size)
 clear hb2 hLO hw1 g1_0 g1_1 g1_2 g1_3 g1_4 g1_5 g1_6;rcases hres with⟨hc,rfl⟩ | ⟨hc,hl,rfl⟩ | ⟨hc,ds,hl,f,a,c,ps,rfl,hf,hp,hd⟩
 ·have HV:Hid (FN0=CHK):=by show _=_; rw[HFN.out,if_neg hc]
  clear HFN hc;go_wp2;go_ret;exact⟨by rw[HV.out]; rfl,HB2.out _⟩
 ·have HV:Hid (FN0=5):=by show _=_; rw[HFN.out,if_pos hc,hl]; rfl
  clear HFN hc hl;go_wp2;go_ret;exact⟨by rw[HV.out]; rfl,HB2.out _⟩
 ·have HV:Hid (FN0=0):=by show _=_; rw[HFN.out,if_pos hc,hl]; rfl
  clear HFN hc hl hf hp hd;obtain⟨fca,fcl,fcc,S,C,fra,frl,frc,fna,fnl,fnc,fpa,fpl,fpc,hFC⟩:∃ (fca:Option Addr) (fcl fcc S C:Nat) (fra:Option Addr) (frl frc:Nat) (fna:Option Addr) (fnl fnc:Nat) (fpa:Option Addr) (fpl fpc:Nat),f.cells ts ⟨⟨sa,sc,src⟩,wad,wcap,wh,group,⟨ka,kc,keys⟩,⟨ua,uc,sums⟩,⟨ea,ec,sel⟩,⟨da,dc,ord⟩⟩=#[.slice sa src.length sc,.slice wad wh.length wcap,.bool group,.slice ka keys.length kc,.slice ua sums.length uc,.slice ea sel.length ec,.slice da ord.length dc,.slice fca fcl fcc,.int .u64 ((S:Nat):Int),.int .u64 ((C:Nat):Int),.slice fra frl frc,.slice fna fnl fnc,.slice fpa fpl fpc]:=⟨f.ca,_,f.cc,_,_,f.ra,_,f.rc,f.na,f.nl,f.nc,f.pa,f.pl,f.pc,rfl⟩
  rw[hFC];clear hFC;go_wp2;go_ret;exact⟨by rw[HV.out]; rfl,HB2.out _⟩
theorem scoutCost_any (ao:Option Addr) (cap:Nat) (ts:List TableD) (q:QueryV) (po:Option Addr) (pc:Nat) (pl:List NodeV) (w:World) (hx:TablesAt w ao ts) (hq:q.At w) (hkc:q.keys.xs.length<=q.keys.cap) (hoc:q.ord.xs.length<=q.ord.cap) (hn:NodesAt w po pl) (hsh:ShapesAt w 0) (hcap:∀ i,i<pl.length->(pl.getD i nz).co.xs.length<=(pl.getD i nz).co.cap) :
  Calls Tryz.prog 13 #[.slice ao ts.length cap,.agg q.cells,.slice po pl.length pc] w fun e w'=>e=.returned (.tuple #[.int .u64 ((costOfN ts q pl:Nat):Int),.int .i64 (fairN ts q pl)])/\Below w.heap.size w w':=by
 obtain⟨w1,hw1⟩:∃ x,w.alloc (.cells q.cells 26)=x:=⟨_,rfl⟩
 have hk1:Below w.heap.size w w1:=by rw[<- hw1]; exact bQ2 _ _
 have hg1:GB w1 w.heap.size 26 q.cells:=by rw[<- hw1]; exact bQ3 _ _
 have hc0:Below w.heap.size w w1:=hk1;have gg1:=hg1;have g1_0:w1.cell? (aD w.heap.size 0)=some (q.src.val):=gg1.cell 0;have g1_1:w1.cell? (aD w.heap.size 1)=some (.slice q.wad q.wh.length q.wcap):=gg1.cell 1;have g1_2:w1.cell? (aD w.heap.size 2)=some (.bool q.group):=gg1.cell 2;have g1_3:w1.cell? (aD w.heap.size 3)=some (q.keys.val):=gg1.cell 3;have g1_4:w1.cell? (aD w.heap.size 4)=some (q.sums.val):=gg1.cell 4;have g1_5:w1.cell? (aD w.heap.size 5)=some (q.sel.val):=gg1.cell 5;have g1_6:w1.cell? (aD w.heap.size 6)=some (q.ord.val):=gg1.cell 6;have hLO:=scoutLook_any ao cap ts q po pc pl w1 (hx.below hc0) (hq.below hc0) hkc hoc (hn.below hc0) (ShapesAt.below hc0 hsh) hcap;obtain⟨CHK,hCHK⟩:∃ c,c=q.check ts:=⟨_,rfl⟩
 obtain⟨LK,hLK⟩:∃ c,c=lookP ts q pl:=⟨_,rfl⟩
 rw[<- hCHK,<- hLK] at hLO;have HC:Hid _:=hc0;have HCHK:Hid _:=hCHK;have HLK:Hid _:=hLK;obtain⟨FN0,hFN⟩:∃ c,c=fairN ts q pl:=⟨_,rfl⟩
 obtain⟨CN0,hCN⟩:∃ c,c=costOfN ts q pl:=⟨_,rfl⟩
 rw[<- hFN,<- hCN];have HFN:Hid (FN0=if CHK=0 then (if LK.isSome=true then 0 else 5) else CHK):=by show _=_; rw[hFN,hCHK,hLK]; rfl
 have HCN:Hid (CN0=if CHK=0 then lastCost LK else 0):=by show _=_; rw[hCN,hCHK,hLK]; rfl
 have HLN:Hid (CHK=0->∀ ds,LK=some ds->1<=ds.length):=fun h0 ds hds=>by
  rcases look_same (chk_of (ts:=ts) (q:=q) (by rw[<- hCHK]; exact h0)).1.ok pl with⟨h1,_⟩ | ⟨ps,v,h1,_,h3,h4,_⟩
  ·rw[<- hLK,hds] at h1; cases h1
  ·rw[<- hLK,hds] at h1;injection h1 with h1;rw[h1]; omega
 clear hFN hCN;clear hCHK hLK hx hq hkc hoc hn hsh hcap hk1 hg1 gg1 hc0;obtain⟨⟨sa,sc,src⟩,wad,wcap,wh,group,⟨ka,kc,keys⟩,⟨ua,uc,sums⟩,⟨ea,ec,sel⟩,⟨da,dc,ord⟩⟩:=q;have hQC:QueryV.cells ⟨⟨sa,sc,src⟩,wad,wcap,wh,group,⟨ka,kc,keys⟩,⟨ua,uc,sums⟩,⟨ea,ec,sel⟩,⟨da,dc,ord⟩⟩=#[.slice sa src.length sc,.slice wad wh.length wcap,.bool group,.slice ka keys.length kc,.slice ua sums.length uc,.slice ea sel.length ec,.slice da ord.length dc]:=rfl;rw[hQC] at hw1 hLO ⊢;simp only[IntsV.val] at g1_0 g1_1 g1_2 g1_3 g1_4 g1_5 g1_6;clear hQC;go_enter Tryz.func13,Tryz.ntmps13;go_wp2_with fail;refine hLO.mono ?_;rintro e w2 ⟨hb2,hres⟩;have HB:Hid _:=bQ1 HC.out hb2;have HB2:Hid (∀ o,Below w.heap.size w (w2.alloc o)):=fun o=>HB.out.trans ((bQ2 _ _).mono HB.out.size)
 clear hb2 hLO hw1 g1_0 g1_1 g1_2 g1_3 g1_4 g1_5 g1_6;rcases hres with⟨hc,rfl⟩ | ⟨hc,hl,rfl⟩ | ⟨hc,ds,hl,f,a,c,ps,rfl,hf,hp,hd⟩
 ·have HV:Hid (FN0=CHK):=by show _=_; rw[HFN.out,if_neg hc]
  have HU:Hid (CN0=0):=by show _=_; rw[HCN.out,if_neg hc]
  have hzb:(CHK != 0)=true:=by rw[bne_iff_ne]; exact hc
  clear HFN hc HCN HLN;go_wp2;go_ret2;exact⟨by rw[HV.out,HU.out]; rfl,HB2.out _⟩
 ·have HV:Hid (FN0=5):=by show _=_; rw[HFN.out,if_pos hc,hl]; rfl
  have HU:Hid (CN0=0):=by show _=_; rw[HCN.out,if_pos hc,hl]; rfl
  clear HFN hc hl HCN HLN;go_wp2;go_ret2;exact⟨by rw[HV.out,HU.out]; rfl,HB2.out _⟩
 ·have HV:Hid (FN0=0):=by show _=_; rw[HFN.out,if_pos hc,hl]; rfl
  have HU:Hid (CN0=(ps.getD (ps.length-1) pvz).cost):=by
   show _=_
   rw[HCN.out,if_pos hc,hl,<- hd]
   show ((ps.map PartV.d).getD ((ps.map PartV.d).length-1) pz).cost=_
   rw[List.length_map];exact congrArg PartD.cost (map_getD PartV.d ps (ps.length-1) pvz)
  have hl1:1<=ps.length:=by have:=HLN.out hc ds hl; rw[<- hd,List.length_map] at this; exact this
  obtain⟨N1,hN1⟩:∃ N1,ps.length=N1+1:=⟨ps.length-1,by omega⟩
  rw[show ps.length-1=N1 by omega] at HU;obtain⟨⟨pb,pof,rfl,-,-,-,-,-,c5⟩,-⟩:=hp.2 N1 (by omega);have hpw:=hp.1;have c5':Hid _:=c5;generalize (ps.getD N1 pvz).cost=CT at *;rw[hN1] at hpw ⊢;clear HFN hc hl hf hp hd HCN HLN hl1 hN1;obtain⟨fca,fcl,fcc,S,C,fra,frl,frc,fna,fnl,fnc,fpa,fpl,fpc,hFC⟩:∃ (fca:Option Addr) (fcl fcc S C:Nat) (fra:Option Addr) (frl frc:Nat) (fna:Option Addr) (fnl fnc:Nat) (fpa:Option Addr) (fpl fpc:Nat),f.cells ts ⟨⟨sa,sc,src⟩,wad,wcap,wh,group,⟨ka,kc,keys⟩,⟨ua,uc,sums⟩,⟨ea,ec,sel⟩,⟨da,dc,ord⟩⟩=#[.slice sa src.length sc,.slice wad wh.length wcap,.bool group,.slice ka keys.length kc,.slice ua sums.length uc,.slice ea sel.length ec,.slice da ord.length dc,.slice fca fcl fcc,.int .u64 ((S:Nat):Int),.int .u64 ((C:Nat):Int),.slice fra frl frc,.slice fna fnl fnc,.slice fpa fpl fpc]:=⟨f.ca,_,f.cc,_,_,f.ra,_,f.rc,f.na,f.nl,f.nc,f.pa,f.pl,f.pc,rfl⟩
  rw[hFC];clear hFC;obtain⟨w3,hw3⟩:∃ x,w2.alloc (.cells #[.slice sa src.length sc,.slice wad wh.length wcap,.bool group,.slice ka keys.length kc,.slice ua sums.length uc,.slice ea sel.length ec,.slice da ord.length dc,.slice fca fcl fcc,.int .u64 ((S:Nat):Int),.int .u64 ((C:Nat):Int),.slice fra frl frc,.slice fna fnl fnc,.slice fpa fpl fpc] 105)=x:=⟨_,rfl⟩
  have c6:w3.cell? (aD pb (pof+N1*6+5))=some (.int .u64 (CT:Int)):=by rw[<- hw3]; exact cB (bQ2 _ _) c5
  have HB3:Hid (Below w.heap.size w w3):=by rw[<- hw3]; exact HB2.out _
  clear c5;go_wp2;go_ret2;exact⟨by rw[HV.out,HU.out]; rfl,HB3.out⟩
end Go.Proofs.YtlpbelhfpoilpaaGreatDoor
namespace Go.Scout
open Go.RowKit
theorem readF_bad {ts:List TableD} {q:QueryV} {pl:List NodeV} {f i:Nat} {seen:List Nat} {n:NodeV} (hn:pl.getD i nz=n) (h:plainB n=false∨n.kind<1∨10<n.kind):readF ts q pl (f+1) i seen=none:=by
 unfold readF;simp only[hn];rw[if_pos h]
theorem readF_scan {ts:List TableD} {q:QueryV} {pl:List NodeV} {f i:Nat} {seen:List Nat} {n:NodeV} (hn:pl.getD i nz=n) (hp:plainB n=true) (hk:n.kind=1):readF ts q pl (f+1) i seen =
  if n.source<0∨(q.src.xs.length:Int)<=n.source then none else some (⟨[n.source],[],[],false,sizeN ts q [n.source] [],costN 1 (sizeN ts q [n.source] []) vz vz⟩,seen++[i]):=by
 unfold readF;simp only[hn];rw[if_neg (by rw[hp]; simp; omega),if_pos hk]
def belowO (ts:List TableD) (q:QueryV) (pl:List NodeV) (f i:Nat) (k:Int) (seen:List Nat):Option (ViewD × List Nat):=if k<0∨(i:Int)<=k∨k.toNat∈seen then none else readF ts q pl f k.toNat seen
theorem readF_one {ts:List TableD} {q:QueryV} {pl:List NodeV} {f i:Nat} {seen:List Nat} {n:NodeV} (hn:pl.getD i nz=n) (hp:plainB n=true) (h2:2<=n.kind) (h10:n.kind<=10) (ha:¬ (3<=n.kind/\n.kind<=5)):readF ts q pl (f+1) i seen =
  (belowO ts q pl f i n.l (seen++[i])).bind fun x=>(nodeV ts q n x.1 vz).map fun v=>(v,x.2):=by
 rw[readF];simp only[hn];rw[if_neg (by rw[hp]; simp; omega),if_neg (by omega)];have ha':arity n.kind≠2:=fun e=>ha ((arity2 n.kind).1 (by omega))
 unfold belowO;split
 ·rfl
 ·cases readF ts q pl f n.l.toNat (seen++[i]) with
  | none => rfl
  | some x => simp only[if_neg ha',Option.bind_some]
theorem readF_two {ts:List TableD} {q:QueryV} {pl:List NodeV} {f i:Nat} {seen:List Nat} {n:NodeV} (hn:pl.getD i nz=n) (hp:plainB n=true) (ha:3<=n.kind/\n.kind<=5):readF ts q pl (f+1) i seen =
  (belowO ts q pl f i n.l (seen++[i])).bind fun x=>(belowO ts q pl f i n.r x.2).bind fun y=>(nodeV ts q n x.1 y.1).map fun v=>(v,y.2):=by
 rw[readF];simp only[hn];rw[if_neg (by rw[hp]; simp; omega),if_neg (by omega)];have ha':arity n.kind=2:=by
  unfold arity;rw[if_neg (by omega),if_pos ha]
 unfold belowO;split
 ·rfl
 ·cases readF ts q pl f n.l.toNat (seen++[i]) with
  | none => rfl
  | some x =>
   simp only[if_pos ha',Option.bind_some];split
   ·rfl
   ·cases readF ts q pl f n.r.toNat x.2 with
    | none => rfl
    | some y => rfl
theorem own_ne {W:World} {b base:Nat} {tT tI:TypeId} {ao po:Option Addr} {cap pcap:Nat} {ts:List TableD} {q:QueryV} {pl:List NodeV} {seen:List Nat} {sv:Value} (h:TreeSt W b base tT tI ao po cap pcap ts q pl seen sv) {R:Nat} {t:TypeId} {c:Array Value} (hg:GB W R t c) (ht:tI≠t):sv.ownBlock≠some R:=fun e=>by
 obtain⟨c',hc⟩:=own_cells h.own e;unfold GB at hg;rw[hc] at hg;injection hg with hg;injection hg with _ hg;exact ht hg
theorem VPost.fin {w0 W Y Z:World} {b:Nat} {tT tI:TypeId} {ao po:Option Addr} {cap pcap:Nat} {ts:List TableD} {q:QueryV} {pl:List NodeV} {seen seen1:List Nat} {sv sv1:Value} {o:Option (ViewD × List Nat)} {v:ViewV} {ok:Bool} (hw:w0.heap.size<=W.heap.size)
  (hT:TreeSt W b w0.heap.size tT tI ao po cap pcap ts q pl seen sv) (hk:Kept (Rest b sv) W Y) (hn:SvNext W sv sv1) (hTY:TreeSt Y b w0.heap.size tT tI ao po cap pcap ts q pl seen1 sv1) {R:Nat} (hR:W.heap.size<=R) (hRY:R<Y.heap.size) (hsR:sv1.ownBlock≠some R)
  (h:VPost w0 Y b tT tI ao po cap pcap ts q pl sv1 o (.returned (.tuple #[.agg v.cells,.bool ok])) Z) :
  VPost w0 W b tT tI ao po cap pcap ts q pl sv o (.returned (.tuple #[.agg v.cells,.bool ok])) (World.put6 Z R v):=by
 have h6:=World.put6_kept Z R v;have hks:=hk.size;have hbl:=hT.g.lt;have hk2:Kept (Rest b sv) W Z:=hk.trans' h.1 (fun x hx hr=>hr.next hn hx);have hk3:Kept (Rest b sv) W (World.put6 Z R v):=by
  refine⟨h6.os.trans hk2.os,h6.tape.trans hk2.tape,h6.output.trans hk2.output,Nat.le_trans hk2.size h6.size,fun x hx hr=>?_⟩;rw[h6.block x (by have:=hk2.size; omega) (by omega)];exact hk2.block x hx hr
 refine⟨hk3,?_⟩
 cases o with
 | none => exact h.2
 | some x =>
  obtain⟨vd,s'⟩:=x;obtain⟨v',e1,e2,sv',h1,h2,h3,h4,h5⟩:=h.2;have hne:∀ y:IntsV,New w0 Y y->∀ a,y.ad=some a->y.xs≠[]->a.block≠R:=fun y hy a ha hn=>by
   rcases hy a ha hn with h | h <;> omega
  have hsv:sv'.ownBlock≠some R:=fun e=>by
   rcases h2 R e with h | h
   ·exact hsR h
   ·omega
  exact⟨v',e1,e2,sv',h1.but (by omega) hsv h6,hn.trans h2 hks,⟨h3.1.but (hne _ h3.2) h6,h3.2.up hks⟩,⟨h4.1.but (hne _ h4.2) h6,h4.2.up hks⟩,⟨h5.1.but (hne _ h5.2) h6,h5.2.up hks⟩⟩
theorem own_safe {w0 W X:World} {b:Nat} {tT tI:TypeId} {ao po:Option Addr} {cap pcap:Nat} {ts:List TableD} {q:QueryV} {pl:List NodeV} {seen:List Nat} {sv:Value} (h:TreeSt X b w0.heap.size tT tI ao po cap pcap ts q pl seen sv) {base n:Nat} {v:Value} {xs:List Int} (ho:X.ownsRow base tI 1 v n (xs.map (Value.int .i64)))
  (hb:W.heap.size<=base) (hbb:b<base) (hsv:∀ g,sv.ownBlock=some g->g<base) (hl:xs.length<=1152921504606846976):∃ ad cap',v=.slice ad xs.length cap'/\Safe X b sv ⟨ad,cap',xs⟩/\New w0 W ⟨ad,cap',xs⟩:=by
 obtain⟨ad,cap',rfl,hI⟩:=ints_own ho hl;have hadr:∀ a,ad=some a->base<=a.block/\a.block<X.heap.size:=fun a ha=>by
  rcases ho.2 with⟨h1,_⟩ | ⟨g,c,cur,h1,h2,h3,_⟩
  ·injection h1 with h1; rw[ha] at h1; cases h1
  ·injection h1 with h1;rw[ha] at h1
   cases h1
   exact⟨h2,(Array.getElem?_eq_some_iff.1 h3).1⟩
 have hnil:ad=none->cap' = 0:=fun ha=>by
  rcases ho.2 with⟨h1,_⟩ | ⟨g,c,cur,h1,_⟩
  ·injection h1
  ·injection h1 with h1; rw[ha] at h1; cases h1
 refine⟨ad,cap',rfl,⟨hI,hnil,fun a ha _=>?_⟩,fun a ha _=>?_⟩
 ·obtain⟨h1,h2⟩:=hadr a ha;exact⟨h2,by omega,fun e=>by have:=hsv _ e; omega⟩
 ·exact .inr (by have:=(hadr a ha).1; omega)
def IntB (W:World) (tI:TypeId) (ad:Option Addr) (ys:List Int):Prop:=∀ a,ad=some a->ys≠[]->∃ cur,W.heap[a.block]? = some (.cells cur tI (0,0))
theorem intB_own {W:World} {base:Nat} {tI:TypeId} {ad:Option Addr} {n cap:Nat} {ys:List Int} (h:W.ownsRow base tI 1 (.slice ad n cap) ys.length (ys.map (Value.int .i64))):IntB W tI ad ys:=fun a ha _=>by
 rcases h.2 with⟨h1,_⟩ | ⟨g,c,cur,h1,_,h3,_⟩
 ·injection h1 with h1; rw[ha] at h1; cases h1
 ·injection h1 with h1;rw[ha] at h1
  cases h1
  exact⟨cur,h3⟩
theorem intB_below {W W':World} {tI:TypeId} {ad:Option Addr} {ys:List Int} (h:IntB W tI ad ys) (hb:Below W.heap.size W W'):IntB W' tI ad ys:=fun a ha hn=>by
 obtain⟨cur,hc⟩:=h a ha hn;exact⟨cur,by rw[hb.block _ (Array.getElem?_eq_some_iff.1 hc).1]; exact hc⟩
theorem World.put6_below {w W:World} {B lo:Nat} (h:Below lo w W) (hb:lo<=B) (v:ViewV):Below lo w (World.put6 W B v):=
 (((((h.setCell (p:=(aD B 0)) hb v.s.val).setCell (p:=(aD B 1)) hb v.c.val).setCell (p:=(aD B 2)) hb v.o.val).setCell (p:=(aD B 3)) hb (.bool v.out)).setCell (p:=(aD B 4)) hb (.int .u64 (v.size:Int))).setCell (p:=(aD B 5)) hb (.int .u64 (v.cost:Int))
theorem intB_ne {W:World} {tI tV:TypeId} {ad:Option Addr} {ys:List Int} (h:IntB W tI ad ys) {B:Nat} {c:Array Value} (hg:GB W B tV c) (ht:tI≠tV):∀ a,ad=some a->ys≠[]->a.block≠B:=fun a ha hn e=>by
 obtain⟨cur,hc⟩:=h a ha hn;unfold GB at hg;rw[e,hg] at hc;injection hc with hc;injection hc with _ hc;exact ht hc.symm
end Go.Scout
namespace Go.Proofs.YtlpbelhfpoilpaaGreatDoor
open Go.RowKit Go.Scout
variable (w0:World) (b:Nat) (ao po:Option Addr) (cap pcap:Nat) (ts:List TableD) (q:QueryV) (pl:List NodeV)
theorem view_bad (D:DataP w0 ao po ts q pl) (f i:Nat) (W:World) (seen:List Nat) (sv:Value) (hip:i<pl.length) (hT:TreeSt W b w0.heap.size 114 3 ao po cap pcap ts q pl seen sv) (hW:Below w0.heap.size w0 W) (hd:seen.Nodup) (hl:∀ x∈seen,x<pl.length)
  (n:NodeV) (hn:pl.getD i nz=n) (hbad:plainB n=false∨n.kind<1∨10<n.kind) :
  Calls Tryz.prog 43 #[.pointer (some (aD b 0)),.int .i64 i] W (VPost w0 W b 114 3 ao po cap pcap ts q pl sv (readF ts q pl (f+1) i seen)):=by
 rw[readF_bad hn hbad];obtain⟨pb,pof,hpo,c0,c1,c2,c3,c4,c5,c6,hcl,hco⟩:=D.plan.2 i hip;have hpll:=D.plan.1;have hp64:=D.len;have hws:=hW.size;rw[hn] at c0 c1 c2 c3 c4 c5 c6 hcl hco;have hsl:=seen_len hd hl;obtain⟨sa,sm,sc,rfl⟩:=ownsRow_slice hT.own;obtain⟨X,hX⟩:∃ X,X=(W.alloc (.cells vvz.cells 40)).alloc (.cells n.cells 58):=⟨_,rfl⟩
 have hXb:Below W.heap.size W X:=by rw[hX]; exact bQ1 (bQ2 _ _) (bQ2 _ _)
 have hXs:X.heap.size=W.heap.size+2:=by rw[hX]; simp
 have gRX:GB X W.heap.size 40 vvz.cells:=by
  rw[hX]
  show _=_
  rw[heap_alloc (by simp),bQ3]
 have gNX:GB X (W.heap.size+1) 58 n.cells:=by
  rw[hX]
  show _=_
  have:=bQ3 (W.alloc (.cells vvz.cells 40)) (.cells n.cells 58);rw[World.size_alloc] at this;exact this
 have hTX:=hT.below hXb;obtain⟨sv1,w5,hr5,ho5,hk5,⟨va,vm,vc,rfl⟩,hat⟩:=push_int X w0.heap.size (.slice sa sm sc) (seen.map fun (i:Nat)=>(i:Int)) (by rw[List.length_map]; exact hTX.own) (by rw[List.length_map]; omega) (by omega) (i:Int) 23;obtain⟨Y,hY⟩:∃ Y,Y=w5.setCell (aD b 9) (.slice va vm vc):=⟨_,rfl⟩
 obtain⟨TY,hnx,hkY,hnew⟩:=hT.push Tryz.ne_tree hXb hk5 ho5 hat hY;have gR:GB Y W.heap.size 40 vvz.cells:=gRX.of (hnew _ (Nat.le_refl _) (by omega));have gN:GB Y (W.heap.size+1) 58 n.cells:=gNX.of (hnew _ (by omega) (by omega));have BY:Below w0.heap.size w0 Y:=hW.trans (hkY.below hws (fun x hx=>hT.old x hx));have hYs:=hkY.size;have HFIN:Hid (∀ (o:Option (ViewD × List Nat)) (v:ViewV) (ok:Bool) (Z:World),VPost w0 Y b 114 3 ao po cap pcap ts q pl (.slice va vm vc) o (.returned (.tuple #[.agg v.cells,.bool ok])) Z->VPost w0 W b 114 3 ao po cap pcap ts q pl (.slice sa sm sc) o (.returned (.tuple #[.agg v.cells,.bool ok])) (World.put6 Z W.heap.size v)):=
  fun o v ok Z h=>VPost.fin hws hT hkY hnx TY (Nat.le_refl _) gR.lt (own_ne TY gR (by decide)) h
 have w9:w5.cell? (aD b 9)=some (.slice sa sm sc):=by
  have hg5:GB w5 b 114 _:=hTX.g.of (hk5.block b hTX.g.lt (hT.ne Tryz.ne_tree));exact hg5.cell 9
 have fz9:w5.frozen? (aD b 9)=false:=by
  have hg5:GB w5 b 114 _:=hTX.g.of (hk5.block b hTX.g.lt (hT.ne Tryz.ne_tree));exact hg5.frozen 9
 have t9:X.cell? (aD b 9)=some (.slice sa sm sc):=hTX.g.cell 9;have T8:=fun (o:Obj)=>cB (bQ2 W o) (show W.cell? (aD b 8)=some (.slice po pl.length pcap) from hT.g.cell 8)
 have d0:=fun (o:Obj)=>cB (bQ1 hW (bQ2 W o)) c0
 have d1:=fun (o:Obj)=>cB (bQ1 hW (bQ2 W o)) c1
 have d2:=fun (o:Obj)=>cB (bQ1 hW (bQ2 W o)) c2
 have d3:=fun (o:Obj)=>cB (bQ1 hW (bQ2 W o)) c3
 have d4:=fun (o:Obj)=>cB (bQ1 hW (bQ2 W o)) c4
 have d5:=fun (o:Obj)=>cB (bQ1 hW (bQ2 W o)) c5
 have d6:=fun (o:Obj)=>cB (bQ1 hW (bQ2 W o)) c6
 have hPL:=plain_any n Y;obtain⟨kind,nl,nr,source,⟨cla,clc,clx⟩,key,⟨coa,coc,cox⟩⟩:=n;have hXC:(W.alloc (.cells #[.slice none 0 0,.slice none 0 0,.slice none 0 0,.bool false,.int .u64 0,.int .u64 0] 40)).alloc (.cells #[.int .i64 kind,.int .i64 nl,.int .i64 nr,.int .i64 source,.slice cla clx.length clc,.int .i64 key,.slice coa cox.length coc] 58)=X:=hX.symm;have hYC:w5.setCell (aD b 9) (.slice va vm vc)=Y:=hY.symm;unfold NodeV.cells IntsV.val at *;simp only at *;have n0:Y.cell? (aD (W.heap.size+1) 0)=some (.int .i64 kind):=gN.cell 0;have n1:Y.cell? (aD (W.heap.size+1) 1)=some (.int .i64 nl):=gN.cell 1;have n2:Y.cell? (aD (W.heap.size+1) 2)=some (.int .i64 nr):=gN.cell 2;have n3:Y.cell? (aD (W.heap.size+1) 3)=some (.int .i64 source):=gN.cell 3;have n4:Y.cell? (aD (W.heap.size+1) 4)=some (.slice cla clx.length clc):=gN.cell 4;have n5:Y.cell? (aD (W.heap.size+1) 5)=some (.int .i64 key):=gN.cell 5;have n6:Y.cell? (aD (W.heap.size+1) 6)=some (.slice coa cox.length coc):=gN.cell 6;rw[hpo] at T8;have HRR:Hid _:=gR;have HTY:Hid _:=TY;have HBY:Hid _:=BY;have HCL:Hid _:=hcl;have HCO:Hid _:=hco;have hTb:b<W.heap.size:=hT.g.lt;rw[hXs] at hr5;clear hX hY c0 c1 c2 c3 c4 c5 c6 gRX gNX gN gR hTX hk5 ho5 hat hnx hkY hnew hT hW TY BY hcl hco;go_enter Tryz.func43,Tryz.ntmps43;go_upto_region 3 with (first | (at_builtin; refine wpList_append_run rfl (.tmp 25) (.tmp 27) 23 rfl (.slice sa sm sc) (.slice (some (aD (W.heap.size+2) 0)) 1 1) (.slice va vm vc) w5 rfl rfl hr5 ?_));clear hr5 w9 fz9 t9 T8 d0 d1 d2 d3 d4 d5 d6 hXC hYC hXb;go_wp2_with fail;refine hPL.mono ?_;clear hPL;rintro e Y1 ⟨rfl,hb1⟩;have n0':=cB hb1 n0;have HK1:Kept (Scout.Rest b (.slice va vm vc)) Y Y1:=Kept.of_below hb1 (fun _ hl _=>hl);have HEND:Hid _:=HFIN.out none vvz false Y1 ⟨HK1,vvz,rfl⟩;have hgv:GB Y1 W.heap.size 40 vvz.cells:=GB.of HRR.out (hb1.block _ (GB.lt HRR.out));have HLV:Hid _:=loadView (World.put6_gb hgv vvz);unfold World.put6 ViewV.cells at HEND HLV;simp only[vvz,IntsV.val,List.length_nil,Int.natCast_zero] at HEND HLV
 have v0:Y1.cell? (aD W.heap.size 0)=some (.slice none 0 0):=hgv.cell 0;have v1:Y1.cell? (aD W.heap.size 1)=some (.slice none 0 0):=hgv.cell 1;have v2:Y1.cell? (aD W.heap.size 2)=some (.slice none 0 0):=hgv.cell 2;have v3:Y1.cell? (aD W.heap.size 3)=some (.bool false):=hgv.cell 3;have v4:Y1.cell? (aD W.heap.size 4)=some (.int .u64 0):=hgv.cell 4;have v5:Y1.cell? (aD W.heap.size 5)=some (.int .u64 0):=hgv.cell 5;have f0:=hgv.frozen 0;have f1:=hgv.frozen 1;have f2:=hgv.frozen 2;have f3:=hgv.frozen 3;have f4:=hgv.frozen 4;have f5:=hgv.frozen 5;clear hgv HK1 HFIN HRR HTY HBY hb1
 cases hp:plainB ⟨kind,nl,nr,source,⟨cla,clc,clx⟩,key,⟨coa,coc,cox⟩⟩ with
 | false =>
  clear hbad hp;go_wp2;exact bodyPost_ret (ret_cell (p:=4) (u:=5) (x:=.bool false) rfl rfl rfl HLV.out) rfl HEND.out
 | true =>
  rw[hp] at hbad;by_cases k1:kind<1
  ·clear hbad hp;go_wp2;exact bodyPost_ret (ret_cell (p:=4) (u:=5) (x:=.bool false) rfl rfl rfl HLV.out) rfl HEND.out
  ·have k10:10<kind:=by
    rcases hbad with h | h | h
    ·cases h
    ·omega
    ·exact h
   clear hbad hp;go_wp2;exact bodyPost_ret (ret_cell (p:=4) (u:=5) (x:=.bool false) rfl rfl rfl HLV.out) rfl HEND.out
end Go.Proofs.YtlpbelhfpoilpaaGreatDoor
namespace Go.Scout
open Go.RowKit
theorem scan_post {w0 Y Z:World} {b:Nat} {tT tI:TypeId} {ao po:Option Addr} {cap pcap:Nat} {ts:List TableD} {q:QueryV} {pl:List NodeV} {seen:List Nat} {sv:Value} (hT:TreeSt Y b w0.heap.size tT tI ao po cap pcap ts q pl seen sv) (hb:Below Y.heap.size Y Z) {a:Nat} {source:Int} (hg:GB Z a tI #[.int .i64 source]) (ha:Y.heap.size<=a) (SZ CT:Nat) :
  VPost w0 Y b tT tI ao po cap pcap ts q pl sv (some (⟨[source],[],[],false,SZ,CT⟩,seen)) (.returned (.tuple #[.agg (ViewV.mk ⟨some (aD a 0),1,[source]⟩ ⟨none,0,[]⟩ ⟨none,0,[]⟩ false SZ CT).cells,.bool true])) Z:=by
 have hsv:∀ g,sv.ownBlock=some g->g<Y.heap.size:=fun g e=>(ownsRow_lt hT.own e).2
 have hbl:=hT.g.lt;refine⟨Kept.of_below hb (fun _ hl _=>hl),_,rfl,rfl,sv,hT.below hb,SvNext.refl _ _,⟨⟨⟨by simp,fun i hi=>⟨a,0,rfl,?_⟩⟩,(fun e=>by cases e),fun x hx _=>?_⟩,fun x hx _=>?_⟩,⟨Safe.zero _ _ _,New.zero _ _⟩,⟨Safe.zero _ _ _,New.zero _ _⟩⟩
 ·have h0:i=0:=by simpa using hi
  subst h0;exact hg.cell 0
 ·cases hx
  exact⟨hg.lt,by show a≠b; omega,fun e=>by have h:a<_:=hsv _ e; omega⟩
 ·cases hx
  exact .inr ha
end Go.Scout
namespace Go.Proofs.YtlpbelhfpoilpaaGreatDoor
open Go.RowKit Go.Scout
variable (w0:World) (b:Nat) (ao po:Option Addr) (cap pcap:Nat) (ts:List TableD) (q:QueryV) (pl:List NodeV)
theorem view_scan (D:DataP w0 ao po ts q pl) (f i:Nat) (W:World) (seen:List Nat) (sv:Value) (hip:i<pl.length) (hT:TreeSt W b w0.heap.size 114 3 ao po cap pcap ts q pl seen sv) (hW:Below w0.heap.size w0 W) (hd:seen.Nodup) (hl:∀ x∈seen,x<pl.length)
  (n:NodeV) (hn:pl.getD i nz=n) (hpl1:plainB n=true) (hk1:n.kind=1) :
  Calls Tryz.prog 43 #[.pointer (some (aD b 0)),.int .i64 i] W (VPost w0 W b 114 3 ao po cap pcap ts q pl sv (readF ts q pl (f+1) i seen)):=by
 obtain⟨O,hO⟩:∃ O,O=readF ts q pl (f+1) i seen:=⟨_,rfl⟩
 rw[<- hO];rw[readF_scan hn hpl1 hk1] at hO;have HO:Hid _:=hO;have HK1:Hid _:=hk1;clear hO hk1;have HSZ:Hid (0<=n.source->n.source<q.src.xs.length->∀ x,Below w0.heap.size w0 x->Calls Tryz.prog 94 #[.slice ao ts.length cap,.agg q.cells,.slice (some (aD x.heap.size 0)) 1 1,.slice none 0 0] (x.alloc (.cells #[.int .i64 n.source] 3)) fun e w'=>e=.returned (.int .u64 (sizeN ts q [n.source] []:Nat))/\Below x.heap.size x w'):=fun h0 h1 x hb=>by
  have hb2:=bQ1 hb (bQ2 x (.cells #[.int .i64 n.source] 3));exact (size_any ao (some (aD x.heap.size 0)) none cap 1 0 ts q [n.source] [] _ (D.cat.below hb2) D.chk.cat (D.query.below hb2) D.chk.five D.chk.src D.chk.eight D.chk.cols (ints_one x n.source _) (fun y hy=>by rw[List.mem_singleton] at hy; omega) ⟨by simp,fun i hi=>absurd hi (by simp)⟩).mono (fun _ _ h=>⟨h.1,bQ1 (bQ2 _ _) h.2⟩)
 have hs5:=D.chk.five;have HTR:Hid (∀ (Z:World) (s:List Nat) (v:Value),TreeSt Z b w0.heap.size 114 3 ao po cap pcap ts q pl s v->TreeC Z b ao cap ts q):=fun _ _ _ h=>h.tree
 obtain⟨pb,pof,hpo,c0,c1,c2,c3,c4,c5,c6,hcl,hco⟩:=D.plan.2 i hip;have hpll:=D.plan.1;have hp64:=D.len;have hws:=hW.size;rw[hn] at c0 c1 c2 c3 c4 c5 c6 hcl hco;have hsl:=seen_len hd hl;obtain⟨sa,sm,sc,rfl⟩:=ownsRow_slice hT.own;obtain⟨X,hX⟩:∃ X,X=(W.alloc (.cells vvz.cells 40)).alloc (.cells n.cells 58):=⟨_,rfl⟩
 have hXb:Below W.heap.size W X:=by rw[hX]; exact bQ1 (bQ2 _ _) (bQ2 _ _)
 have hXs:X.heap.size=W.heap.size+2:=by rw[hX]; simp
 have gRX:GB X W.heap.size 40 vvz.cells:=by
  rw[hX]
  show _=_
  rw[heap_alloc (by simp),bQ3]
 have gNX:GB X (W.heap.size+1) 58 n.cells:=by
  rw[hX]
  show _=_
  have:=bQ3 (W.alloc (.cells vvz.cells 40)) (.cells n.cells 58);rw[World.size_alloc] at this;exact this
 have hTX:=hT.below hXb;obtain⟨sv1,w5,hr5,ho5,hk5,⟨va,vm,vc,rfl⟩,hat⟩:=push_int X w0.heap.size (.slice sa sm sc) (seen.map fun (i:Nat)=>(i:Int)) (by rw[List.length_map]; exact hTX.own) (by rw[List.length_map]; omega) (by omega) (i:Int) 23;obtain⟨Y,hY⟩:∃ Y,Y=w5.setCell (aD b 9) (.slice va vm vc):=⟨_,rfl⟩
 obtain⟨TY,hnx,hkY,hnew⟩:=hT.push Tryz.ne_tree hXb hk5 ho5 hat hY;have gR:GB Y W.heap.size 40 vvz.cells:=gRX.of (hnew _ (Nat.le_refl _) (by omega));have gN:GB Y (W.heap.size+1) 58 n.cells:=gNX.of (hnew _ (by omega) (by omega));have BY:Below w0.heap.size w0 Y:=hW.trans (hkY.below hws (fun x hx=>hT.old x hx));have hYs:=hkY.size;have HFIN:Hid (∀ (o:Option (ViewD × List Nat)) (v:ViewV) (ok:Bool) (Z:World),VPost w0 Y b 114 3 ao po cap pcap ts q pl (.slice va vm vc) o (.returned (.tuple #[.agg v.cells,.bool ok])) Z->VPost w0 W b 114 3 ao po cap pcap ts q pl (.slice sa sm sc) o (.returned (.tuple #[.agg v.cells,.bool ok])) (World.put6 Z W.heap.size v)):=
  fun o v ok Z h=>VPost.fin hws hT hkY hnx TY (Nat.le_refl _) gR.lt (own_ne TY gR (by decide)) h
 have w9:w5.cell? (aD b 9)=some (.slice sa sm sc):=by
  have hg5:GB w5 b 114 _:=hTX.g.of (hk5.block b hTX.g.lt (hT.ne Tryz.ne_tree));exact hg5.cell 9
 have fz9:w5.frozen? (aD b 9)=false:=by
  have hg5:GB w5 b 114 _:=hTX.g.of (hk5.block b hTX.g.lt (hT.ne Tryz.ne_tree));exact hg5.frozen 9
 have t9:X.cell? (aD b 9)=some (.slice sa sm sc):=hTX.g.cell 9;have T8:=fun (o:Obj)=>cB (bQ2 W o) (show W.cell? (aD b 8)=some (.slice po pl.length pcap) from hT.g.cell 8)
 have d0:=fun (o:Obj)=>cB (bQ1 hW (bQ2 W o)) c0
 have d1:=fun (o:Obj)=>cB (bQ1 hW (bQ2 W o)) c1
 have d2:=fun (o:Obj)=>cB (bQ1 hW (bQ2 W o)) c2
 have d3:=fun (o:Obj)=>cB (bQ1 hW (bQ2 W o)) c3
 have d4:=fun (o:Obj)=>cB (bQ1 hW (bQ2 W o)) c4
 have d5:=fun (o:Obj)=>cB (bQ1 hW (bQ2 W o)) c5
 have d6:=fun (o:Obj)=>cB (bQ1 hW (bQ2 W o)) c6
 have hPL:=plain_any n Y;obtain⟨kind,nl,nr,source,⟨cla,clc,clx⟩,key,⟨coa,coc,cox⟩⟩:=n;have hXC:(W.alloc (.cells #[.slice none 0 0,.slice none 0 0,.slice none 0 0,.bool false,.int .u64 0,.int .u64 0] 40)).alloc (.cells #[.int .i64 kind,.int .i64 nl,.int .i64 nr,.int .i64 source,.slice cla clx.length clc,.int .i64 key,.slice coa cox.length coc] 58)=X:=hX.symm;have hYC:w5.setCell (aD b 9) (.slice va vm vc)=Y:=hY.symm;unfold NodeV.cells IntsV.val at *;simp only at *;have n0:Y.cell? (aD (W.heap.size+1) 0)=some (.int .i64 kind):=gN.cell 0;have n1:Y.cell? (aD (W.heap.size+1) 1)=some (.int .i64 nl):=gN.cell 1;have n2:Y.cell? (aD (W.heap.size+1) 2)=some (.int .i64 nr):=gN.cell 2;have n3:Y.cell? (aD (W.heap.size+1) 3)=some (.int .i64 source):=gN.cell 3;have n4:Y.cell? (aD (W.heap.size+1) 4)=some (.slice cla clx.length clc):=gN.cell 4;have n5:Y.cell? (aD (W.heap.size+1) 5)=some (.int .i64 key):=gN.cell 5;have n6:Y.cell? (aD (W.heap.size+1) 6)=some (.slice coa cox.length coc):=gN.cell 6;rw[hpo] at T8;have HRR:Hid _:=gR;have HTY:Hid _:=TY;have HBY:Hid _:=BY;have HCL:Hid _:=hcl;have HCO:Hid _:=hco;have hTb:b<W.heap.size:=hT.g.lt;rw[hXs] at hr5;clear hX hY c0 c1 c2 c3 c4 c5 c6 gRX gNX gN gR hTX hk5 ho5 hat hnx hkY hnew hT hW TY BY hcl hco;go_enter Tryz.func43,Tryz.ntmps43;go_upto_region 3 with (first | (at_builtin; refine wpList_append_run rfl (.tmp 25) (.tmp 27) 23 rfl (.slice sa sm sc) (.slice (some (aD (W.heap.size+2) 0)) 1 1) (.slice va vm vc) w5 rfl rfl hr5 ?_));clear hr5 w9 fz9 t9 T8 d0 d1 d2 d3 d4 d5 d6 hXC hYC hXb;go_wp2_with fail;refine hPL.mono ?_;clear hPL;rintro e Y1 ⟨rfl,hb1⟩;rw[hpl1];obtain rfl:kind=1:=HK1.out;clear hpl1 HK1;have n0':=cB hb1 n0;have n3':=cB hb1 n3;have hTC:=HTR.out Y _ _ HTY.out;have t0:=cB hb1 hTC.c0;have t1:=cB hb1 hTC.c1;have t2:=cB hb1 hTC.c2;have t3:=cB hb1 hTC.c3;have t4:=cB hb1 hTC.c4;have t5:=cB hb1 hTC.c5;have t6:=cB hb1 hTC.c6;have t7:=cB hb1 hTC.c7;clear hTC HTR;obtain⟨⟨sad,scap,xs⟩,wad,wcap,wh,group,⟨kad,kcap,kxs⟩,⟨uad,ucap,uxs⟩,⟨lad,lcap,lxs⟩,⟨oad,ocap,oxs⟩⟩:=q
 unfold QueryV.cells IntsV.val at *;simp only at *;by_cases s0:source<0
 ·obtain rfl:O=none:=by rw[HO.out,if_pos (.inl s0)]
  clear HO;go_wp2;refine wp_region_below (by kernel_rfl) (by kernel_rfl) ?_;go_big_quiet_want;refine⟨.pointer (some (aD (W.heap.size+1) 3)),fun x hx=>?_,?_⟩
  ·go_simp
  simp only[pA,sB,sC];go_big_quiet_on;go_big_quiet_want;refine⟨.int .i64 source,fun x hx=>?_,?_⟩
  ·have e0:=cB hx n3';go_simp
  simp only[pA,sB,sC];go_big_quiet_on;go_big_quiet_want;refine⟨.bool true,fun x hx=>?_,?_⟩
  ·go_simp
  simp only[pA,sB,sC];go_big_quiet_on;go_big_quiet_want;refine⟨.bool true,fun x hx=>?_,?_⟩
  ·go_simp
  simp only[pA,sB,sC];go_big_quiet_on;go_big_quiet_skip
  try simp only[pA,sB,sC]
  go_big_quiet_skip
  try simp only[pA,sB,sC]
  go_big_quiet_skip
  try simp only[pA,sB,sC]
  go_big_quiet_skip
  try simp only[pA,sB,sC]
  go_big_quiet_skip
  try simp only[pA,sB,sC]
  go_big_quiet_skip
  try simp only[pA,sB,sC]
  go_big_quiet_skip
  try simp only[pA,sB,sC]
  go_big_quiet_skip
  try simp only[pA,sB,sC]
  go_big_quiet_skip
  try simp only[pA,sB,sC]
  go_big_quiet_want;refine⟨.bool true,fun x hx=>?_,?_⟩
  ·go_simp
  simp only[pA,sB,sC];go_big_quiet_on;refine wpQuiet_nil ?_;intro Y2 hb2;have k2:=bQ1 hb1 hb2;have HK2:Kept (Scout.Rest b (.slice va vm vc)) Y Y2:=Kept.of_below k2 (fun _ hl _=>hl);have HEND:Hid _:=HFIN.out none vvz false Y2 ⟨HK2,vvz,rfl⟩;have hgv:GB Y2 W.heap.size 40 vvz.cells:=GB.of HRR.out (k2.block _ (GB.lt HRR.out));have HLV:Hid _:=loadView (World.put6_gb hgv vvz);unfold World.put6 ViewV.cells at HEND HLV;simp only[vvz,IntsV.val,List.length_nil,Int.natCast_zero] at HEND HLV;have v0:Y2.cell? (aD W.heap.size 0)=some (.slice none 0 0):=hgv.cell 0;have v1:Y2.cell? (aD W.heap.size 1)=some (.slice none 0 0):=hgv.cell 1;have v2:Y2.cell? (aD W.heap.size 2)=some (.slice none 0 0):=hgv.cell 2;have v3:Y2.cell? (aD W.heap.size 3)=some (.bool false):=hgv.cell 3;have v4:Y2.cell? (aD W.heap.size 4)=some (.int .u64 0):=hgv.cell 4;have v5:Y2.cell? (aD W.heap.size 5)=some (.int .u64 0):=hgv.cell 5;have f0:=hgv.frozen 0;have f1:=hgv.frozen 1;have f2:=hgv.frozen 2;have f3:=hgv.frozen 3;have f4:=hgv.frozen 4;have f5:=hgv.frozen 5;clear hgv HK2 HFIN HRR HTY HBY hb1 hb2 k2;go_wp2;exact bodyPost_ret (ret_cell (p:=4) (u:=5) (x:=.bool false) rfl rfl rfl HLV.out) rfl HEND.out
 by_cases s1:(xs.length:Int)<=source
 ·obtain rfl:O=none:=by rw[HO.out,if_pos (.inr s1)]
  clear HO;go_wp2;refine wp_region_below (by kernel_rfl) (by kernel_rfl) ?_;go_big_quiet_want;refine⟨.pointer (some (aD (W.heap.size+1) 3)),fun x hx=>?_,?_⟩
  ·go_simp
  simp only[pA,sB,sC];go_big_quiet_on;go_big_quiet_want;refine⟨.int .i64 source,fun x hx=>?_,?_⟩
  ·have e0:=cB hx n3';go_simp
  simp only[pA,sB,sC];go_big_quiet_on;go_big_quiet_want;refine⟨.bool false,fun x hx=>?_,?_⟩
  ·go_simp
  simp only[pA,sB,sC];go_big_quiet_on;go_big_quiet_want;refine⟨.bool false,fun x hx=>?_,?_⟩
  ·go_simp
  simp only[pA,sB,sC];go_big_quiet_on;go_big_quiet_want;refine⟨.pointer (some (aD (W.heap.size+1) 3)),fun x hx=>?_,?_⟩
  ·go_simp
  simp only[pA,sB,sC];go_big_quiet_on;go_big_quiet_want;refine⟨.int .i64 source,fun x hx=>?_,?_⟩
  ·have e0:=cB hx n3';go_simp
  simp only[pA,sB,sC];go_big_quiet_on;go_big_quiet_want;refine⟨.pointer (some (aD b 0)),fun x hx=>?_,?_⟩
  ·go_simp
  simp only[pA,sB,sC];go_big_quiet_on;go_big_quiet_want;refine⟨.pointer (some (aD b 0)),fun x hx=>?_,?_⟩
  ·go_simp
  simp only[pA,sB,sC];go_big_quiet_on;go_big_quiet_want;refine⟨.pointer (some (aD b 1)),fun x hx=>?_,?_⟩
  ·go_simp
  simp only[pA,sB,sC];go_big_quiet_on;go_big_quiet_want;refine⟨.pointer (some (aD b 1)),fun x hx=>?_,?_⟩
  ·go_simp
  simp only[pA,sB,sC];go_big_quiet_on;go_big_quiet_want;refine⟨.slice sad xs.length scap,fun x hx=>?_,?_⟩
  ·have e0:=cB hx t1;go_simp
  simp only[pA,sB,sC];go_big_quiet_on;go_big_quiet_want;refine⟨.int .i64 xs.length,fun x hx=>?_,?_⟩
  ·go_simp
  simp only[pA,sB,sC];go_big_quiet_on;go_big_quiet_want;refine⟨.bool true,fun x hx=>?_,?_⟩
  ·go_simp
  simp only[pA,sB,sC];go_big_quiet_on;go_big_quiet_want;refine⟨.bool true,fun x hx=>?_,?_⟩
  ·go_simp
  simp only[pA,sB,sC];go_big_quiet_on;refine wpQuiet_nil ?_;intro Y2 hb2;have k2:=bQ1 hb1 hb2;have HK2:Kept (Scout.Rest b (.slice va vm vc)) Y Y2:=Kept.of_below k2 (fun _ hl _=>hl);have HEND:Hid _:=HFIN.out none vvz false Y2 ⟨HK2,vvz,rfl⟩;have hgv:GB Y2 W.heap.size 40 vvz.cells:=GB.of HRR.out (k2.block _ (GB.lt HRR.out));have HLV:Hid _:=loadView (World.put6_gb hgv vvz);unfold World.put6 ViewV.cells at HEND HLV;simp only[vvz,IntsV.val,List.length_nil,Int.natCast_zero] at HEND HLV;have v0:Y2.cell? (aD W.heap.size 0)=some (.slice none 0 0):=hgv.cell 0;have v1:Y2.cell? (aD W.heap.size 1)=some (.slice none 0 0):=hgv.cell 1;have v2:Y2.cell? (aD W.heap.size 2)=some (.slice none 0 0):=hgv.cell 2;have v3:Y2.cell? (aD W.heap.size 3)=some (.bool false):=hgv.cell 3;have v4:Y2.cell? (aD W.heap.size 4)=some (.int .u64 0):=hgv.cell 4;have v5:Y2.cell? (aD W.heap.size 5)=some (.int .u64 0):=hgv.cell 5;have f0:=hgv.frozen 0;have f1:=hgv.frozen 1;have f2:=hgv.frozen 2;have f3:=hgv.frozen 3;have f4:=hgv.frozen 4;have f5:=hgv.frozen 5;clear hgv HK2 HFIN HRR HTY HBY hb1 hb2 k2;go_wp2;exact bodyPost_ret (ret_cell (p:=4) (u:=5) (x:=.bool false) rfl rfl rfl HLV.out) rfl HEND.out
 have hO:=HO.out;rw[if_neg (by omega)] at hO;have HS2:Hid _:=HSZ.out (by omega) (by omega);clear HSZ;go_wp2;refine wp_region_below (by kernel_rfl) (by kernel_rfl) ?_;go_big_quiet_want;refine⟨.pointer (some (aD (W.heap.size+1) 3)),fun x hx=>?_,?_⟩
 ·go_simp
 simp only[pA,sB,sC];go_big_quiet_on;go_big_quiet_want;refine⟨.int .i64 source,fun x hx=>?_,?_⟩
 ·have e0:=cB hx n3';go_simp
 simp only[pA,sB,sC];go_big_quiet_on;go_big_quiet_want;refine⟨.bool false,fun x hx=>?_,?_⟩
 ·go_simp
 simp only[pA,sB,sC];go_big_quiet_on;go_big_quiet_want;refine⟨.bool false,fun x hx=>?_,?_⟩
 ·go_simp
 simp only[pA,sB,sC];go_big_quiet_on;go_big_quiet_want;refine⟨.pointer (some (aD (W.heap.size+1) 3)),fun x hx=>?_,?_⟩
 ·go_simp
 simp only[pA,sB,sC];go_big_quiet_on;go_big_quiet_want;refine⟨.int .i64 source,fun x hx=>?_,?_⟩
 ·have e0:=cB hx n3';go_simp
 simp only[pA,sB,sC];go_big_quiet_on;go_big_quiet_want;refine⟨.pointer (some (aD b 0)),fun x hx=>?_,?_⟩
 ·go_simp
 simp only[pA,sB,sC];go_big_quiet_on;go_big_quiet_want;refine⟨.pointer (some (aD b 0)),fun x hx=>?_,?_⟩
 ·go_simp
 simp only[pA,sB,sC];go_big_quiet_on;go_big_quiet_want;refine⟨.pointer (some (aD b 1)),fun x hx=>?_,?_⟩
 ·go_simp
 simp only[pA,sB,sC];go_big_quiet_on;go_big_quiet_want;refine⟨.pointer (some (aD b 1)),fun x hx=>?_,?_⟩
 ·go_simp
 simp only[pA,sB,sC];go_big_quiet_on;go_big_quiet_want;refine⟨.slice sad xs.length scap,fun x hx=>?_,?_⟩
 ·have e0:=cB hx t1;go_simp
 simp only[pA,sB,sC];go_big_quiet_on;go_big_quiet_want;refine⟨.int .i64 xs.length,fun x hx=>?_,?_⟩
 ·go_simp
 simp only[pA,sB,sC];go_big_quiet_on;go_big_quiet_want;refine⟨.bool false,fun x hx=>?_,?_⟩
 ·go_simp
 simp only[pA,sB,sC];go_big_quiet_on;go_big_quiet_want;refine⟨.bool false,fun x hx=>?_,?_⟩
 ·go_simp
 simp only[pA,sB,sC];go_big_quiet_on;refine wpQuiet_nil ?_;intro Y2 hb2;have k2:=bQ1 hb1 hb2;have BY2:Below w0.heap.size w0 Y2:=bQ1 HBY.out k2;have m3:=cB hb2 n3';have u0:=cB hb2 t0;have u1:=cB hb2 t1;have u2:=cB hb2 t2;have u3:=cB hb2 t3;have u4:=cB hb2 t4;have u5:=cB hb2 t5;have u6:=cB hb2 t6;have u7:=cB hb2 t7;clear n3' t0 t1 t2 t3 t4 t5 t6 t7 hb1 hb2 n0';have hSC:=HS2.out Y2.drew BY2.drew;obtain⟨SZ,hSZe⟩:∃ SZ,SZ=sizeN ts ⟨⟨sad,scap,xs⟩,wad,wcap,wh,group,⟨kad,kcap,kxs⟩,⟨uad,ucap,uxs⟩,⟨lad,lcap,lxs⟩,⟨oad,ocap,oxs⟩⟩ [source] []:=⟨_,rfl⟩
 rw[<- hSZe] at hSC hO;have HO2:Hid _:=hO;clear hO HO;have HSL:Hid (SZ<=topN):=by
  show SZ<=topN
  rw[hSZe]; exact sizeN_le _ _ _ _
 clear hSZe HS2;go_wp2;refine wp_region_held_drew (S:=fun x=>Below Y2.heap.size Y2 x) (by kernel_rfl) ((Below.refl _ _).drew) (fun hS=>?_);refine wpAnyH_take (i:=0) (v:=.pointer (some (aD b 0))) rfl (by kernel_rfl) (by kernel_rfl) (by kernel_rfl) (fun _ _ _ h=>h) (.inl ⟨by rfl,fun x hx=>?_⟩) hS ?_
 ·go_simp
 refine wpAnyH_take (i:=1) (v:=.pointer (some (aD b 0))) rfl (by kernel_rfl) (by kernel_rfl) (by kernel_rfl) (fun _ _ _ h=>h) (.inl ⟨by rfl,fun x hx=>?_⟩) hS ?_
 ·go_simp
 refine wpAnyH_take (i:=2) (v:=.pointer (some (aD b 0))) rfl (by kernel_rfl) (by kernel_rfl) (by kernel_rfl) (fun _ _ _ h=>h) (.inl ⟨by rfl,fun x hx=>?_⟩) hS ?_
 ·go_simp
 refine wpAnyH_take (i:=3) (v:=.slice ao ts.length cap) rfl (by kernel_rfl) (by kernel_rfl) (by kernel_rfl) (fun _ _ _ h=>h) (.inl ⟨by rfl,fun x hx=>?_⟩) hS ?_
 ·have e0:=cB hx u0;go_simp
 refine wpAnyH_take (i:=4) (v:=.pointer (some (aD b 0))) rfl (by kernel_rfl) (by kernel_rfl) (by kernel_rfl) (fun _ _ _ h=>h) (.inl ⟨by rfl,fun x hx=>?_⟩) hS ?_
 ·go_simp
 refine wpAnyH_take (i:=5) (v:=.pointer (some (aD b 0))) rfl (by kernel_rfl) (by kernel_rfl) (by kernel_rfl) (fun _ _ _ h=>h) (.inl ⟨by rfl,fun x hx=>?_⟩) hS ?_
 ·go_simp
 refine wpAnyH_take (i:=6) (v:=.pointer (some (aD b 1))) rfl (by kernel_rfl) (by kernel_rfl) (by kernel_rfl) (fun _ _ _ h=>h) (.inl ⟨by rfl,fun x hx=>?_⟩) hS ?_
 ·go_simp
 refine wpAnyH_take (i:=7) (v:=.agg #[.slice sad xs.length scap,.slice wad wh.length wcap,.bool group,.slice kad kxs.length kcap,.slice uad uxs.length ucap,.slice lad lxs.length lcap,.slice oad oxs.length ocap]) rfl (by kernel_rfl) (by kernel_rfl) (by kernel_rfl) (fun _ _ _ h=>h) (.inl ⟨by rfl,fun x hx=>?_⟩) hS ?_
 ·have e1:=cB hx u1;have e2:=cB hx u2;have e3:=cB hx u3;have e4:=cB hx u4;have e5:=cB hx u5;have e6:=cB hx u6;have e7:=cB hx u7;go_simp
 refine wpAnyH_take (i:=8) (v:=.pointer (some (aD (W.heap.size+1) 3))) rfl (by kernel_rfl) (by kernel_rfl) (by kernel_rfl) (fun _ _ _ h=>h) (.inl ⟨by rfl,fun x hx=>?_⟩) hS ?_
 ·go_simp
 refine wpAnyH_take (i:=9) (v:=.int .i64 source) rfl (by kernel_rfl) (by kernel_rfl) (by kernel_rfl) (fun _ _ _ h=>h) (.inl ⟨by rfl,fun x hx=>?_⟩) hS ?_
 ·have e0:=cB hx m3;go_simp
 refine wpAnyH_ready (rs:=[10]) (by kernel_rfl) (by simp) ?_;refine AllReadyH.cons rfl (fun K hK=>?_) AllReadyH.nil;go_simp;refine hK.out _ _ (hS.trans (bQ2 _ _ |>.mono (by simp))) (fun hS=>?_);clear hK K;refine wpAnyH_ready (rs:=[11]) (by kernel_rfl) (by simp) ?_;refine AllReadyH.cons rfl (fun K hK=>?_) AllReadyH.nil;go_simp;refine Calls.mono hSC ?_;clear hSC;rintro e Y3 ⟨rfl,hb3⟩;have hb23:Below Y2.heap.size Y2 Y3:=((Below.refl _ _).drew).trans hb3;refine hK.out _ _ hb23 (fun hS=>?_);clear hK K hb3;refine wpAnyH_ready (rs:=[12]) (by kernel_rfl) (by simp) ?_;refine AllReadyH.cons rfl (fun K hK=>?_) AllReadyH.nil;go_simp;refine hK.out _ _ hS (fun hS=>?_);clear hK K;refine wpAnyH_done (by kernel_rfl) ?_ _
 try simp only[pA,sB,sC]
 clear hS u0 u1 u2 u3 u4 u5 u6 u7;have k3:=bQ1 k2 hb23;have m3':=cB hb23 m3;have hgv:GB Y3 W.heap.size 40 vvz.cells:=GB.of HRR.out (k3.block _ (GB.lt HRR.out));have hTy:TreeSt Y b w0.heap.size 114 3 _ _ _ _ _ _ _ _ _:=HTY.out;clear hb23 m3;obtain⟨CT,hCT⟩:∃ CT,CT=costN 1 SZ vz vz:=⟨_,rfl⟩
 rw[<- hCT] at HO2;have HCO:Hid (∀ x,Calls Tryz.prog 95 #[.int .i64 1,.int .u64 SZ,.agg #[.slice none 0 0,.slice none 0 0,.slice none 0 0,.bool false,.int .u64 0,.int .u64 0],.agg #[.slice none 0 0,.slice none 0 0,.slice none 0 0,.bool false,.int .u64 0,.int .u64 0]] x fun e w'=>e=.returned (.int .u64 (CT:Nat))/\Below x.heap.size x w'):=fun x=>by
  rw[hCT];exact cost_any 1 SZ vvz vvz x HSL.out (Nat.zero_le _) (Nat.zero_le _) (Nat.zero_le _) (Nat.zero_le _)
 clear hCT;have HPO:Hid (∀ (Z:World) (a:Nat),Below Y.heap.size Y Z->GB Z a 3 #[.int .i64 source]->Y.heap.size<=a->VPost w0 W b 114 3 ao po cap pcap ts ⟨⟨sad,scap,xs⟩,wad,wcap,wh,group,⟨kad,kcap,kxs⟩,⟨uad,ucap,uxs⟩,⟨lad,lcap,lxs⟩,⟨oad,ocap,oxs⟩⟩ pl (.slice sa sm sc) O (.returned (.tuple #[.agg (ViewV.mk ⟨some (aD a 0),1,[source]⟩ ⟨none,0,[]⟩ ⟨none,0,[]⟩ false SZ CT).cells,.bool true])) (World.put6 Z W.heap.size (ViewV.mk ⟨some (aD a 0),1,[source]⟩ ⟨none,0,[]⟩ ⟨none,0,[]⟩ false SZ CT))):=fun Z a hZ hg ha=>by
  rw[HO2.out];exact HFIN.out _ _ _ Z (scan_post HTY.out hZ hg ha SZ CT)
 have hys:=k3.size;clear HFIN HO2 HTY hTy HSL;go_wp2;refine wp_region_held_drew (S:=fun x=>Kept (fun y=>y≠W.heap.size) Y3 x) (by kernel_rfl) (Kept.of_below ((Below.refl Y3.heap.size Y3).drew) (fun _ hl _=>hl)) (fun hS=>?_);refine wpAnyH_take (i:=0) (v:=.pointer (some (aD (W.heap.size+1) 3))) rfl (by kernel_rfl) (by kernel_rfl) (by kernel_rfl) (fun _ _ _ h=>h) (.inl ⟨by rfl,fun x hx=>?_⟩) hS ?_
 ·go_simp
 refine wpAnyH_take (i:=1) (v:=.int .i64 source) rfl (by kernel_rfl) (by kernel_rfl) (by kernel_rfl) (fun _ _ _ h=>h) (.inl ⟨by rfl,fun x hx=>?_⟩) hS ?_
 ·have e0:=cell_keep m3' hx (by show W.heap.size+1≠W.heap.size; omega);go_simp
 refine wpAnyH_take (i:=3) (v:=.int .u64 SZ) rfl (by kernel_rfl) (by kernel_rfl) (by kernel_rfl) (fun _ _ _ h=>h) (.inl ⟨by rfl,fun x hx=>?_⟩) hS ?_
 ·go_simp
 refine wpAnyH_take (i:=4) (v:=.int .u64 SZ) rfl (by kernel_rfl) (by kernel_rfl) (by kernel_rfl) (fun _ _ _ h=>h) (.inl ⟨by rfl,fun x hx=>?_⟩) hS ?_
 ·go_simp
 refine wpAnyH_take (i:=5) (v:=.agg #[.slice none 0 0,.slice none 0 0,.slice none 0 0,.bool false,.int .u64 0,.int .u64 0]) rfl (by kernel_rfl) (by kernel_rfl) (by kernel_rfl) (fun _ _ _ h=>h) (.inl ⟨by rfl,fun x hx=>?_⟩) hS ?_
 ·go_simp
 refine wpAnyH_take (i:=6) (v:=.agg #[.slice none 0 0,.slice none 0 0,.slice none 0 0,.bool false,.int .u64 0,.int .u64 0]) rfl (by kernel_rfl) (by kernel_rfl) (by kernel_rfl) (fun _ _ _ h=>h) (.inl ⟨by rfl,fun x hx=>?_⟩) hS ?_
 ·go_simp
 refine wpAnyH_ready (rs:=[2,7]) (by kernel_rfl) (by simp) ?_;refine AllReadyH.cons rfl (fun K hK=>?_) (AllReadyH.cons rfl (fun K hK=>?_) AllReadyH.nil)
 ·go_simp;refine hK.out _ _ (hS.trans (Kept.alloc _ _)) (fun hS=>?_);clear hK K;refine wpAnyH_ready (rs:=[7]) (by kernel_rfl) (by simp) ?_;refine AllReadyH.cons rfl (fun K hK=>?_) AllReadyH.nil;go_simp;refine Calls.mono (HCO.out _) ?_;rintro e Y4 ⟨rfl,hb4⟩;refine hK.out _ _ (hS.trans (Kept.of_below hb4 (fun _ hl _=>hl))) (fun hS=>?_);clear hK K;have hbZ:Below Y3.heap.size Y3 Y4:=bQ1 (show Below Y3.heap.size Y3 ((Y3.alloc (.cells #[.int .i64 source] 3)).drew) from (bQ2 _ _).drew) hb4;have hga:GB Y4 Y3.heap.size 3 #[.int .i64 source]:=GB.of (w:=(Y3.alloc (.cells #[.int .i64 source] 3)).drew) (bQ3 Y3 _) (hb4.block _ (by simp));clear hb4;have HEND:Hid _:=HPO.out Y4 Y3.heap.size (bQ1 k3 hbZ) hga (by omega);have hgZ:GB Y4 W.heap.size 40 vvz.cells:=hgv.of (hbZ.block _ hgv.lt);have HLV:Hid _:=loadView (World.put6_gb hgZ (ViewV.mk ⟨some (aD Y3.heap.size 0),1,[source]⟩ ⟨none,0,[]⟩ ⟨none,0,[]⟩ false SZ CT));unfold World.put6 ViewV.cells at HEND HLV;simp only[IntsV.val,List.length_nil,List.length_cons,Nat.zero_add] at HEND HLV;have v0:Y4.cell? (aD W.heap.size 0)=some (.slice none 0 0):=hgZ.cell 0;have v1:Y4.cell? (aD W.heap.size 1)=some (.slice none 0 0):=hgZ.cell 1;have v2:Y4.cell? (aD W.heap.size 2)=some (.slice none 0 0):=hgZ.cell 2;have v3:Y4.cell? (aD W.heap.size 3)=some (.bool false):=hgZ.cell 3;have v4:Y4.cell? (aD W.heap.size 4)=some (.int .u64 0):=hgZ.cell 4;have v5:Y4.cell? (aD W.heap.size 5)=some (.int .u64 0):=hgZ.cell 5;have f0:=hgZ.frozen 0;have f1:=hgZ.frozen 1;have f2:=hgZ.frozen 2;have f3:=hgZ.frozen 3;have f4:=hgZ.frozen 4;have f5:=hgZ.frozen 5;clear hgZ hga hbZ;refine wpAnyH_ready (rs:=[8]) (by kernel_rfl) (by simp) ?_;refine AllReadyH.cons rfl (fun K hK=>?_) AllReadyH.nil;go_simp;refine hK.out _ _ hS (fun hS=>?_);clear hK K;refine wpAnyH_ready (rs:=[9]) (by kernel_rfl) (by simp) ?_;refine AllReadyH.cons rfl (fun K hK=>?_) AllReadyH.nil;go_simp;refine hK.out _ _ (hS.trans (World.put6_kept _ _ (ViewV.mk ⟨some (aD Y3.heap.size 0),1,[source]⟩ ⟨none,0,[]⟩ ⟨none,0,[]⟩ false SZ CT))) (fun hS=>?_)
  clear hK K;refine wpAnyH_ready (rs:=[10]) (by kernel_rfl) (by simp) ?_;refine AllReadyH.cons rfl (fun K hK=>?_) AllReadyH.nil;go_simp;refine hK.out _ _ hS (fun hS=>?_);clear hK K;refine wpAnyH_done (by kernel_rfl) ?_ _
  try simp only[pA,sB,sC]
  go_wp2;exact bodyPost_ret (ret_cell (p:=4) (u:=5) (x:=.bool true) rfl rfl rfl HLV.out) rfl HEND.out
 ·go_simp;refine Calls.mono (HCO.out _) ?_;rintro e Y4 ⟨rfl,hb4⟩;refine hK.out _ _ (hS.trans (Kept.of_below hb4 (fun _ hl _=>hl))) (fun hS=>?_);clear hK K;have hb34:Below Y3.heap.size Y3 Y4:=bQ1 (show Below Y3.heap.size Y3 Y3.drew from (Below.refl _ _).drew) hb4;clear hb4;refine wpAnyH_ready (rs:=[2]) (by kernel_rfl) (by simp) ?_;refine AllReadyH.cons rfl (fun K hK=>?_) AllReadyH.nil;go_simp;refine hK.out _ _ (hS.trans (Kept.alloc _ _)) (fun hS=>?_);clear hK K;have hs34:=hb34.size;have hbZ:Below Y3.heap.size Y3 (Y4.alloc (.cells #[.int .i64 source] 3)):=bQ1 hb34 (bQ2 _ _);have hga:GB (Y4.alloc (.cells #[.int .i64 source] 3)) Y4.heap.size 3 #[.int .i64 source]:=bQ3 Y4 _;obtain⟨Z,hZ⟩:∃ Z,Z=Y4.alloc (.cells #[.int .i64 source] 3):=⟨_,rfl⟩
  rw[<- hZ] at hbZ hga hS ⊢;clear hZ hb34;have HEND:Hid _:=HPO.out Z Y4.heap.size (bQ1 k3 hbZ) hga (by omega);have hgZ:GB Z W.heap.size 40 vvz.cells:=hgv.of (hbZ.block _ hgv.lt);have HLV:Hid _:=loadView (World.put6_gb hgZ (ViewV.mk ⟨some (aD Y4.heap.size 0),1,[source]⟩ ⟨none,0,[]⟩ ⟨none,0,[]⟩ false SZ CT));unfold World.put6 ViewV.cells at HEND HLV;simp only[IntsV.val,List.length_nil,List.length_cons,Nat.zero_add] at HEND HLV;have v0:Z.cell? (aD W.heap.size 0)=some (.slice none 0 0):=hgZ.cell 0;have v1:Z.cell? (aD W.heap.size 1)=some (.slice none 0 0):=hgZ.cell 1;have v2:Z.cell? (aD W.heap.size 2)=some (.slice none 0 0):=hgZ.cell 2;have v3:Z.cell? (aD W.heap.size 3)=some (.bool false):=hgZ.cell 3;have v4:Z.cell? (aD W.heap.size 4)=some (.int .u64 0):=hgZ.cell 4;have v5:Z.cell? (aD W.heap.size 5)=some (.int .u64 0):=hgZ.cell 5;have f0:=hgZ.frozen 0;have f1:=hgZ.frozen 1;have f2:=hgZ.frozen 2;have f3:=hgZ.frozen 3;have f4:=hgZ.frozen 4;have f5:=hgZ.frozen 5;clear hgZ hga hbZ;refine wpAnyH_ready (rs:=[8]) (by kernel_rfl) (by simp) ?_;refine AllReadyH.cons rfl (fun K hK=>?_) AllReadyH.nil;go_simp;refine hK.out _ _ hS (fun hS=>?_);clear hK K;refine wpAnyH_ready (rs:=[9]) (by kernel_rfl) (by simp) ?_;refine AllReadyH.cons rfl (fun K hK=>?_) AllReadyH.nil;go_simp;refine hK.out _ _ (hS.trans (World.put6_kept _ _ (ViewV.mk ⟨some (aD Y4.heap.size 0),1,[source]⟩ ⟨none,0,[]⟩ ⟨none,0,[]⟩ false SZ CT))) (fun hS=>?_);clear hK K;refine wpAnyH_ready (rs:=[10]) (by kernel_rfl) (by simp) ?_;refine AllReadyH.cons rfl (fun K hK=>?_) AllReadyH.nil;go_simp;refine hK.out _ _ hS (fun hS=>?_);clear hK K;refine wpAnyH_done (by kernel_rfl) ?_ _
  try simp only[pA,sB,sC]
  go_wp2;exact bodyPost_ret (ret_cell (p:=4) (u:=5) (x:=.bool true) rfl rfl rfl HLV.out) rfl HEND.out
end Go.Proofs.YtlpbelhfpoilpaaGreatDoor
namespace Go.Scout
open Go.RowKit
theorem listed_len {ts:List TableD} {q:QueryV} {l s:List Int} (h:listedB ts q l s=true):l.length<=q.wh.length:=by
 have hs:=listed_small h;unfold listedB at h;rw[List.all_eq_true] at h;have hge:∀ i,i<l.length->(i:Int)<=l.getD i 0:=by
  intro i
  induction i with
  | zero => intro hi; exact (hs _ (getD_mem hi)).1
  | succ i ih =>
   intro hi;have h1:=h (i+1) (List.mem_range.2 hi);simp only[Bool.and_eq_true,Bool.or_eq_true,decide_eq_true_eq] at h1;have h2:=ih (by omega);rcases h1.1.2 with h3 | h3
   ·omega
   ·rw[Nat.add_sub_cancel] at h3;omega
 by_cases h0:l.length=0
 ·omega
 ·have h1:=hge (l.length-1) (by omega);have h2:=(hs _ (getD_mem (show l.length-1<l.length by omega))).2;omega
theorem lay17b {Y5 Z:World} {b:Nat} {sv:Value} {B:Nat} {tI tV:TypeId} {sad cad:Option Addr} {scp ccp:Nat} {ss cs:List Int} {a0 a1 a2 a3 a4 a5:Value} (hS:Below Y5.heap.size Y5 Z) (hB:Y5.heap.size<=B) (gB:GB Z B tV #[a0,a1,a2,a3,a4,a5]) (sS:Safe Z b sv ⟨sad,scp,ss⟩) (sT:IntB Z tI sad ss) (cS:Safe Z b sv ⟨cad,ccp,cs⟩) (cT:IntB Z tI cad cs) (ht:tI≠tV) (o:IntsV) :
  Below Y5.heap.size Y5 (World.put6 Z B (ViewV.mk ⟨sad,scp,ss⟩ ⟨cad,ccp,cs⟩ o false 0 0))/\GB (World.put6 Z B (ViewV.mk ⟨sad,scp,ss⟩ ⟨cad,ccp,cs⟩ o false 0 0)) B tV (ViewV.mk ⟨sad,scp,ss⟩ ⟨cad,ccp,cs⟩ o false 0 0).cells/\
   Safe (World.put6 Z B (ViewV.mk ⟨sad,scp,ss⟩ ⟨cad,ccp,cs⟩ o false 0 0)) b sv ⟨sad,scp,ss⟩/\Safe (World.put6 Z B (ViewV.mk ⟨sad,scp,ss⟩ ⟨cad,ccp,cs⟩ o false 0 0)) b sv ⟨cad,ccp,cs⟩/\(∀ a,sad=some a->ss≠[]->a.block≠B):=
 ⟨World.put6_below hS hB _,World.put6_gb gB _,sS.but (intB_ne sT gB ht) (World.put6_kept _ _ _),cS.but (intB_ne cT gB ht) (World.put6_kept _ _ _),intB_ne sT gB ht⟩
theorem order_safe {w0 Y Y5:World} {b:Nat} {tT tI:TypeId} {ao po:Option Addr} {cap pcap:Nat} {ts:List TableD} {q:QueryV} {pl:List NodeV} {s2:List Nat} {sv2:Value} (hT:TreeSt Y5 b w0.heap.size tT tI ao po cap pcap ts q pl s2 sv2) (hb:Below w0.heap.size w0 Y5) {coa:Option Addr} {coc:Nat} {cox:List Int} (hc:IntsAt w0 coa cox) (hne:cox≠[]) :
  (∀ Z,Below Y5.heap.size Y5 Z->Safe Z b sv2 ⟨coa,coc,cox⟩)/\New w0 Y ⟨coa,coc,cox⟩:=by
 have h0:0<cox.length:=by
  cases cox with
  | nil => exact absurd rfl hne
  | cons x xs => simp
 obtain⟨g,off,e,hcell⟩:=hc.2 0 h0;have hlt:g<w0.heap.size:=cell_lt hcell;refine⟨fun Z hZ=>⟨IntsAt.below (bQ1 hb hZ) hc,fun e'=>?_,fun a ha _=>?_⟩,fun a ha _=>?_⟩
 ·have:coa=none:=e';rw[e] at this; cases this
 ·have h1:coa=some a:=ha;rw[e] at h1
  cases h1
  have h2:=hb.size;have h3:=hZ.size;exact⟨by show g<_; omega,hT.old g hlt⟩
 ·have h1:coa=some a:=ha;rw[e] at h1
  cases h1
  exact .inl hlt
theorem o6 {O:Option (ViewD × List Nat)} {s2:List Nat} {kb:Bool} {v1 v2:ViewD} (h:O=Option.map (fun v=>(v,s2)) (if (!false&&true&&true&&kb)=true then some v1 else none)) (e:v1=v2):O=if kb=true then some (v2,s2) else none:=by
 subst e
 cases kb with
 | true => exact h
 | false => exact h
theorem set_kept (Z:World) (B i:Nat) (v:Value):Kept (fun y=>y≠B) Z (Z.setCell (aD B i) v):=Kept.setCell _ (aD B i) _ (fun h=>h rfl)
theorem node_post {w0 Y Y5 Z:World} {b:Nat} {tT tI:TypeId} {ao po:Option Addr} {cap pcap:Nat} {ts:List TableD} {q:QueryV} {pl:List NodeV} {s2:List Nat} {sv1 sv2:Value} (hk:Kept (Rest b sv1) Y Y5) (hn:SvNext Y sv1 sv2) (hT:TreeSt Y5 b w0.heap.size tT tI ao po cap pcap ts q pl s2 sv2) (hb:Below Y5.heap.size Y5 Z)
  {v:ViewV} (hs:Safe Z b sv2 v.s/\New w0 Y v.s) (hc:Safe Z b sv2 v.c/\New w0 Y v.c) (ho:Safe Z b sv2 v.o/\New w0 Y v.o) {kb:Bool} {O:Option (ViewD × List Nat)} (hO:O=if kb=true then some (v.d,s2) else none) :
  VPost w0 Y b tT tI ao po cap pcap ts q pl sv1 O (.returned (.tuple #[.agg v.cells,.bool kb])) Z:=by
 refine⟨hk.trans (Kept.of_below hb (fun _ hl _=>hl)),?_⟩;rw[hO]
 cases kb with
 | false => exact⟨v,rfl⟩
 | true => exact⟨v,rfl,rfl,sv2,hT.below hb,hn,hs,hc,ho⟩
end Go.Scout

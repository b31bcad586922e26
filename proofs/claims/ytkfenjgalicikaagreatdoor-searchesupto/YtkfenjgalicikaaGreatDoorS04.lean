import Derived.Test.YtkfenjgalicikaaGreatDoorS02
set_option linter.all false
set_option maxRecDepth 100000
set_option maxHeartbeats 0
namespace Go.Proofs.Zz
open Go.RowKit Go.Shelf Go.Proofs.Tryz
open List renaming length->N,getD->E
open Go.Value renaming slice->Z,int->I,pointer->Y,bool->Qq
open Go.Proofs.Tryz renaming prog->V
open Option renaming some->O,none->Qr
open Go.IntKind renaming i64->J
open Bool renaming false->F,true->T
open Go renaming World->U,Value->Ql
open Go.World renaming heap->H,setCell->Qn,cell?->Qo
open _root_.Array renaming size->M
open Go.RowKit renaming Hid->Qm
open Go.Obj renaming cells->Qs
open Go.Ending renaming returned->Qu
variable {W w:U} {a b:Int} {G tG:Nat} {c:Array Ql}
def Tryz.aAK:(V.info? 3).map (λi=>(i.zero,i.size,i.bytes))=O (O (I J 0),1,8):=Qd
def Tryz.aAL:(V.info? 3).map (·.size)=O 1:=Qd
def ank(ao:LM)(cap:Nat)(xs:IC)(w:U)(hx:aP w ao xs)(ni:N xs*8<=140737488351232) :
  Calls V 44 #[.slice ao (N xs) cap] w λe j=>e=Qu (.slice (O (aD (M (H w)) 0)) (N xs) (N xs+2))/\j = w.alloc (Qs (gF xs) 3):=by have b:=run_make_row' (P:=V) 26 3 (.int J 0) 8 underlying26 Tryz.aAK rfl J J (N xs+2) X X;have a:((N xs+2:Nat):Int)=(N xs:Int)+2:=X;rw[a]at b;have d:=λk=>Pg (P:=V) w 26 3 ao cap xs hx underlying26 Tryz.aAL k;have l:=Db w xs 3;have f:=Dc w xs 3;have g:=akg xs;have i:=akh xs;clear a hx;go_enter func44,ntmps44;go_wp2;go_ret;exact⟨rfl,rfl⟩
def rZ(c n:Int):Int:=Int.tmod (if c<0 then -(c+1) else c) n
def aV.CO(c:aV):Array Value:=#[Qq c.not,I J c.op,I J c.left,Qq c.const,I J c.right]
theorem aeo{b:Nat}{cs:Array Ql}{t:TypeId}(h:W.heap[b]? = O (Qs cs t)){i:Nat}{v:Ql}(hv:cs[i]? = O v):Qo W (aD b i)=O v:=by simp[World.cell?,h,hv]
def Tryz.Ka:Go.Shelf.Ren:=⟨fun|156=>108|165=>156|166=>157|169=>158|240=>197|241=>198|276=>232|277=>233|n=>n,fun|31=>182|9=>9|3=>3|4=>4|0=>0|20=>20|72=>234|76=>221|70=>231|37=>232|75=>220|127=>262|164=>295|5=>5|80=>91|n=>n,fun|n=>n⟩
def Tryz.aoN:Go.Proofs.Lays.n156 V Tryz.Ka:={
 mixed:=Qd
 f156:=func108.trans (congrArg O Qd)
 f165:=func156.trans (congrArg O Qd)
 f166:=func157.trans (congrArg O Qd)
 f169:=func158.trans (congrArg O Qd)
 f240:=func197.trans (congrArg O Qd)
 f241:=func198.trans (congrArg O Qd)
 f276:=func232.trans (congrArg O Qd)
 f277:=func233.trans (congrArg O Qd)
 t0:=underlying0
 a0:=isAgg0
 z0:=sizeOf0
 v0:=zeroValue0
 t3:=underlying3
 a3:=isAgg3
 z3:=sizeOf3
 v3:=zeroValue3
 t4:=underlying4
 a4:=isAgg4
 z4:=sizeOf4
 v4:=zeroValue4
 t9:=underlying9
 a9:=isAgg9
 z9:=sizeOf9
 v9:=zeroValue9
 t20:=underlying20
 a20:=isAgg20
 z20:=sizeOf20
 v20:=zeroValue20
 t31:=underlying182
 a31:=isAgg182
 z31:=sizeOf182
 v31:=zeroValue182
 t37:=underlying232
 a37:=isAgg232
 z37:=sizeOf232
 v37:=zeroValue232
 t70:=underlying231
 a70:=isAgg231
 z70:=sizeOf231
 v70:=zeroValue231
 t72:=underlying234
 a72:=isAgg234
 z72:=sizeOf234
 v72:=zeroValue234
 t75:=underlying220
 a75:=isAgg220
 z75:=sizeOf220
 v75:=zeroValue220
 t76:=underlying221
 a76:=isAgg221
 z76:=sizeOf221
 v76:=zeroValue221
 t127:=underlying262
 a127:=isAgg262
 z127:=sizeOf262
 v127:=zeroValue262
 t164:=underlying295
 a164:=isAgg295
 z164:=sizeOf295
 v164:=zeroValue295 }
def Tryz.FP:Builder.Extra V Tryz.Ka:={
 sizeBuilder:=Qd
 liesBuilder:=Qd
 t5:=underlying5
 a5:=isAgg5
 z5:=sizeOf5
 v5:=zeroValue5
 infoByte:=Qd
 cellsByte:=Qd
 sizeByte:=Qd
 neB5:=Qc}
def Tryz.strings_Join(bk o c:Nat)(xs:JK ByteArray)(sep:ByteArray)(w:U)(Uv:∀(j:Nat) x,xs[j]? = O x->Qo w (aD bk (o+j))=O (.string x))(hbk:bk<M (H w))(hN:N xs<=140737488355328)(nu:N xs<=c)(dY:N (Lib.join (xs.map (·.data.toList)) sep.data.toList)<=140737488355328) :
  Cb 108 #[Z (O (aD bk o)) (N xs) c,.string sep] w (.string ⟨(Lib.join (xs.map (·.data.toList)) sep.data.toList).toArray⟩):=Any.strings_Join Tryz.aoN Tryz.FP bk o c xs sep w Uv hbk hN nu dY
def Tryz.Kb:Go.Shelf.Ren:=⟨fun|172=>145|244=>185|245=>186|247=>213|279=>214|280=>215|281=>216|282=>217|287=>246|316=>247|171=>107|205=>248|321=>270|322=>271|243=>155|246=>196|283=>228|284=>229|285=>230|286=>231|129=>261|317=>260|318=>262|319=>263|320=>264|337=>275|338=>276|n=>n,fun|9=>9|3=>3|75=>220|76=>221|4=>4|5=>5|167=>274|37=>232|0=>0|85=>275|2=>2|168=>277|53=>45|175=>305|46=>113|210=>309|127=>262|145=>332|143=>330|21=>21|171=>290|173=>293|212=>320|51=>321|20=>20|213=>322|232=>336|233=>337|80=>91|n=>n,fun|15=>2|16=>3|17=>4|18=>5|19=>6|n=>n⟩
def Tryz.aoO:Go.Proofs.Lays.n172 V Tryz.Kb:={
 mixed:=Qd
 f129:=func261.trans (congrArg O Qd)
 f171:=func107.trans (congrArg O Qd)
 f172:=func145.trans (congrArg O Qd)
 f205:=func248.trans (congrArg O Qd)
 f243:=func155.trans (congrArg O Qd)
 f244:=func185.trans (congrArg O Qd)
 f245:=func186.trans (congrArg O Qd)
 f246:=func196.trans (congrArg O Qd)
 f247:=func213.trans (congrArg O Qd)
 f279:=func214.trans (congrArg O Qd)
 f280:=func215.trans (congrArg O Qd)
 f281:=func216.trans (congrArg O Qd)
 f282:=func217.trans (congrArg O Qd)
 f283:=func228.trans (congrArg O Qd)
 f284:=func229.trans (congrArg O Qd)
 f285:=func230.trans (congrArg O Qd)
 f286:=func231.trans (congrArg O Qd)
 f287:=func246.trans (congrArg O Qd)
 f316:=func247.trans (congrArg O Qd)
 f317:=func260.trans (congrArg O Qd)
 f318:=func262.trans (congrArg O Qd)
 f319:=func263.trans (congrArg O Qd)
 f320:=func264.trans (congrArg O Qd)
 f321:=func270.trans (congrArg O Qd)
 f322:=func271.trans (congrArg O Qd)
 f337:=func275.trans (congrArg O Qd)
 f338:=func276.trans (congrArg O Qd)
 t0:=underlying0
 a0:=isAgg0
 z0:=sizeOf0
 v0:=zeroValue0
 t2:=underlying2
 a2:=isAgg2
 z2:=sizeOf2
 v2:=zeroValue2
 t3:=underlying3
 a3:=isAgg3
 z3:=sizeOf3
 v3:=zeroValue3
 t4:=underlying4
 a4:=isAgg4
 z4:=sizeOf4
 v4:=zeroValue4
 t5:=underlying5
 a5:=isAgg5
 z5:=sizeOf5
 v5:=zeroValue5
 t9:=underlying9
 a9:=isAgg9
 z9:=sizeOf9
 v9:=zeroValue9
 t20:=underlying20
 a20:=isAgg20
 z20:=sizeOf20
 v20:=zeroValue20
 t21:=underlying21
 a21:=isAgg21
 z21:=sizeOf21
 v21:=zeroValue21
 t37:=underlying232
 a37:=isAgg232
 z37:=sizeOf232
 v37:=zeroValue232
 t46:=underlying113
 a46:=isAgg113
 z46:=sizeOf113
 v46:=zeroValue113
 t51:=underlying321
 a51:=isAgg321
 z51:=sizeOf321
 v51:=zeroValue321
 t53:=underlying45
 a53:=isAgg45
 z53:=sizeOf45
 v53:=zeroValue45
 t75:=underlying220
 a75:=isAgg220
 z75:=sizeOf220
 v75:=zeroValue220
 t76:=underlying221
 a76:=isAgg221
 z76:=sizeOf221
 v76:=zeroValue221
 t85:=underlying275
 a85:=isAgg275
 z85:=sizeOf275
 v85:=zeroValue275
 t127:=underlying262
 a127:=isAgg262
 z127:=sizeOf262
 v127:=zeroValue262
 t143:=underlying330
 a143:=isAgg330
 z143:=sizeOf330
 v143:=zeroValue330
 t145:=underlying332
 a145:=isAgg332
 z145:=sizeOf332
 v145:=zeroValue332
 t167:=underlying274
 a167:=isAgg274
 z167:=sizeOf274
 v167:=zeroValue274
 t168:=underlying277
 a168:=isAgg277
 z168:=sizeOf277
 v168:=zeroValue277
 t171:=underlying290
 a171:=isAgg290
 z171:=sizeOf290
 v171:=zeroValue290
 t173:=underlying293
 a173:=isAgg293
 z173:=sizeOf293
 v173:=zeroValue293
 t175:=underlying305
 a175:=isAgg305
 z175:=sizeOf305
 v175:=zeroValue305
 t210:=underlying309
 a210:=isAgg309
 z210:=sizeOf309
 v210:=zeroValue309
 t212:=underlying320
 a212:=isAgg320
 z212:=sizeOf320
 v212:=zeroValue320
 t213:=underlying322
 a213:=isAgg322
 z213:=sizeOf322
 t232:=underlying336
 a232:=isAgg336
 z232:=sizeOf336
 v232:=zeroValue336
 t233:=underlying337
 a233:=isAgg337
 z233:=sizeOf337
 v233:=zeroValue337
 g15:=Qd
 g16:=Qd
 g17:=Qd
 g18:=Qd
 g19:=Qd}
def Tryz.Uw:Go.Shelf.Ren:=⟨fun|171=>107|243=>155|246=>196|283=>228|284=>229|285=>230|286=>231|129=>261|317=>260|318=>262|319=>263|320=>264|337=>275|338=>276|n=>n,fun|3=>3|9=>9|2=>2|4=>4|171=>290|0=>0|53=>45|37=>232|5=>5|173=>293|212=>320|51=>321|20=>20|213=>322|46=>113|232=>336|233=>337|n=>n,fun|17=>4|18=>5|19=>6|n=>n⟩
def Tryz.akI:Go.Proofs.LaysM.n171 V Tryz.Uw:={
 mixed:=Qd
 f129:=func261.trans (congrArg O Qd)
 f171:=func107.trans (congrArg O Qd)
 f243:=func155.trans (congrArg O Qd)
 f246:=func196.trans (congrArg O Qd)
 f283:=func228.trans (congrArg O Qd)
 f284:=func229.trans (congrArg O Qd)
 f285:=func230.trans (congrArg O Qd)
 f286:=func231.trans (congrArg O Qd)
 f317:=func260.trans (congrArg O Qd)
 f318:=func262.trans (congrArg O Qd)
 f319:=func263.trans (congrArg O Qd)
 f320:=func264.trans (congrArg O Qd)
 f337:=func275.trans (congrArg O Qd)
 f338:=func276.trans (congrArg O Qd)
 t0:=underlying0
 a0:=isAgg0
 z0:=sizeOf0
 v0:=zeroValue0
 t2:=underlying2
 a2:=isAgg2
 z2:=sizeOf2
 v2:=zeroValue2
 t3:=underlying3
 a3:=isAgg3
 z3:=sizeOf3
 v3:=zeroValue3
 t4:=underlying4
 a4:=isAgg4
 z4:=sizeOf4
 v4:=zeroValue4
 t5:=underlying5
 a5:=isAgg5
 z5:=sizeOf5
 v5:=zeroValue5
 t9:=underlying9
 a9:=isAgg9
 z9:=sizeOf9
 v9:=zeroValue9
 t20:=underlying20
 a20:=isAgg20
 z20:=sizeOf20
 v20:=zeroValue20
 t37:=underlying232
 a37:=isAgg232
 z37:=sizeOf232
 v37:=zeroValue232
 t46:=underlying113
 a46:=isAgg113
 z46:=sizeOf113
 v46:=zeroValue113
 t51:=underlying321
 a51:=isAgg321
 z51:=sizeOf321
 v51:=zeroValue321
 t53:=underlying45
 a53:=isAgg45
 z53:=sizeOf45
 v53:=zeroValue45
 t171:=underlying290
 a171:=isAgg290
 z171:=sizeOf290
 v171:=zeroValue290
 t173:=underlying293
 a173:=isAgg293
 z173:=sizeOf293
 v173:=zeroValue293
 t212:=underlying320
 a212:=isAgg320
 z212:=sizeOf320
 v212:=zeroValue320
 t213:=underlying322
 a213:=isAgg322
 z213:=sizeOf322
 t232:=underlying336
 a232:=isAgg336
 z232:=sizeOf336
 v232:=zeroValue336
 t233:=underlying337
 a233:=isAgg337
 z233:=sizeOf337
 v233:=zeroValue337
 g17:=Qd
 g18:=Qd
 g19:=Qd
 i0:=Qd
 i2:=Qd
 i3:=Qd
 i4:=Qd
 i5:=Qd
 i9:=Qd
 i20:=Qd
 i37:=Qd
 i46:=Qd
 i51:=Qd
 i53:=Qd
 i171:=Qd
 i173:=Qd
 i212:=Qd
 i232:=Qd
 i233:=Qd
 m17:=Qd
 m18:=Qd
 m19:=Qd}
open Go.RowKit Go.Sort Go.Lib in
def Tryz.Ye:Go.Shelf.Ren:=⟨fun|145=>141|220=>182|219=>212|217=>242|225=>243|224=>244|267=>245|266=>268|314=>269|n=>n,fun|9=>9|4=>4|59=>215|3=>3|5=>5|46=>113|146=>326|51=>321|n=>n,fun|1=>1|n=>n⟩
def Tryz.aoP:Go.Proofs.Lays.n145 V Tryz.Ye:={
 mixed:=Qd
 f145:=func141.trans (congrArg O Qd)
 f217:=func242.trans (congrArg O Qd)
 f219:=func212.trans (congrArg O Qd)
 f220:=func182.trans (congrArg O Qd)
 f224:=func244.trans (congrArg O Qd)
 f225:=func243.trans (congrArg O Qd)
 f266:=func268.trans (congrArg O Qd)
 f267:=func245.trans (congrArg O Qd)
 f314:=func269.trans (congrArg O Qd)
 t3:=underlying3
 a3:=isAgg3
 z3:=sizeOf3
 v3:=zeroValue3
 t4:=underlying4
 a4:=isAgg4
 z4:=sizeOf4
 v4:=zeroValue4
 t5:=underlying5
 a5:=isAgg5
 z5:=sizeOf5
 v5:=zeroValue5
 t9:=underlying9
 a9:=isAgg9
 z9:=sizeOf9
 v9:=zeroValue9
 t46:=underlying113
 a46:=isAgg113
 z46:=sizeOf113
 v46:=zeroValue113
 t51:=underlying321
 a51:=isAgg321
 z51:=sizeOf321
 v51:=zeroValue321
 t59:=underlying215
 a59:=isAgg215
 z59:=sizeOf215
 v59:=zeroValue215
 t146:=underlying326
 a146:=isAgg326
 z146:=sizeOf326
 v146:=zeroValue326
 g1:=Qd}
open Go.RowKit Go.Lib in
def Tryz.strings_Cut(s sep:ByteArray)(m:Int)(w:U)(hs:s.size<4294967281)(hm:Qo w (aD 1 0)=O (I J m)) :
  Calls V 141 #[.string s,.string sep] w λe a=>e=Qu (.tuple #[.string ⟨(Lib.cut s.data.toList sep.data.toList).1.toArray⟩,.string ⟨(Lib.cut s.data.toList sep.data.toList).2.1.toArray⟩,Qq (Lib.cut s.data.toList sep.data.toList).2.2])/\∃n,a = w.drewN n:=Any.strings_Cut Tryz.aoP s sep m w hs hm
def Tryz.avd:(V.info? 59).map (λi=>(i.zero,i.size,i.bytes))=O (O (.agg #[Z Qr 0 0]),1,24):=Qd
def Tryz.ave:(V.info? 56).map (λi=>(i.zero,i.size,i.bytes))=O (O (.agg #[Qq F,I J 0,I J 0,Qq F,I J 0]),5,40):=Qd
def Tryz.avf:(V.info? 56).map (·.size)=O 5:=Qd
def Tryz.avg:(V.info? 57).map (λi=>(i.zero,i.size,i.bytes))=O (O (Z Qr 0 0),1,24):=Qd
def abB(n:Nat)(h:n*24<=140737488351232)(w:U) :
  (Instr.makeSlice 33 (.int J ((n:Int)+2)) (.int J ((n:Int)+2))).run V w=.ok (.slice (O (aD (M (H w)) 0)) (n+2) (n+2)) (w.alloc (Qs (madeCells #[.slice Qr 0 0] (n+2)) 59)):=by obtain⟨i,e,a,b,d⟩:=XB Tryz.avd;have:=run_make (P:=V) w 33 59 i _ underlying33 e a J J ((n:Int)+2) ((n:Int)+2) X (Int.le_refl _) (by rw[d];omega) X;rw[b,show ((n:Int)+2).toNat=n+2 by omega]at this;simpa [Value.cells] using this
def aja(n:Nat)(h:n*40<=140737488351232)(w:U) :
  (Instr.makeSlice 57 (.int J ((n:Int)+2)) (.int J ((n:Int)+2))).run V w=.ok (.slice (O (aD (M (H w)) 0)) (n+2) (n+2)) (w.alloc (Qs (madeCells zc.toArray ((n+2)*5)) 56)):=by obtain⟨i,e,a,b,d⟩:=XB Tryz.ave;have:=run_make (P:=V) w 57 56 i _ underlying57 e a J J ((n:Int)+2) ((n:Int)+2) X (Int.le_refl _) (by rw[d];omega) X;rw[b,show ((n:Int)+2).toNat=n+2 by omega]at this;simpa [Value.cells,zc] using this
def ajb(w:U)(ao:LM)(cap:Nat)(cs:JK aV)(h:bZ w ao cs)(ty:TypeId) :
  (Builtin.copy_ #[57,57] ty #[Z (O (aD (M (H w)) 0)) (N cs+2) (N cs+2),Z ao (N cs) cap]).run V (w.alloc (Qs (madeCells zc.toArray ((N cs+2)*5)) 56)) =
   .ok (goInt (N cs)) (w.alloc (Qs (GY cs) 56)):=
 Fp (P:=V) w 57 56 5 zc.toArray ao (N cs) cap (cs.flatMap aV.jQ) X rfl (tQ _ 5 mJ cs) (agk h) (agl cs) underlying57 Tryz.avf ty
theorem abC(wV w:U)(G:Nat)(ad:LM)(cap:Nat)(ls:JK aQ)(c0 c1 c2 c3 c4 c5 c6 c7 c8 c9 O7 c11 LY Y8 c15:Ql)
  (hx:fD wV ad ls) (ni:N ls*24<=140737488351232) (aAM:∀i,i<N ls->(E ls i lz).cs.length*40<=140737488351232)
  (hb:Bw wV w) (hG0:M (H wV)<=G) (hG:GB w G 81 #[c0,c1,c2,c3,c4,c5,c6,c7,c8,c9,O7,c11,Z Qr 0 0,LY,Y8,c15]) :
  Calls V 45 #[Y (O (aD G 0)),Z ad (N ls) cap] w λe w'=>e=Qu (.tuple #[])/\∃v A b1 b2,akv wV w w' G 81 59 57 56 (N ls) (λx y z=>#[c0,c1,x,c3,c4,c5,c6,c7,c8,c9,O7,y,z,LY,Y8,c15]) ls v A b1 b2:=by
 have m:=abB (N ls) ni;have hl:=hx.1;have B:=hG.lt;have l:=hG.at 11;have C:=hG.frozen 11;go_enter func45,ntmps45;go_wp2;obtain⟨i0,hi,af,ag,ah⟩:=XB Tryz.avg;go_loopw [5] (λi wr=>∃(k:Nat) (v:Ql) (A:Nat->Nat),k<=N ls/\i=I J k/\yG wV w wr G 81 59 57 56 (N ls) (λx y=>#[c0,c1,c2,c3,c4,c5,c6,c7,c8,c9,O7,x,y,LY,Y8,c15]) ls k v A) (λi _=>N ls-(intOf i).toNat)
 case atStart=>exact⟨0,_,_,ZR _,rfl,yG.start hb hG0 hG rfl⟩
 case round=>
  obtain⟨k,v,A,hk,rfl,h⟩:=hrel;by_cases t:k<N ls
  .obtain⟨b,off,rfl,hc⟩:=hx.2.1.get t;have d:=cB h.Dq (hc k t);have n:=(hx.2.2 k t).aj h.Dq;have p:=aAM k t;generalize q:E ls k lz=cl at*;have Av:=Zh q;clear q hc;obtain⟨ai,ak,cs⟩:=cl;unfold aQ.val at d;simp only at d n p;have D:=aja (N cs) p;have K:=λty=>ajb wr ai ak cs n ty
   have tq:=Mi wr cs 56;have L:=Mj wr cs 56;have P:=agf cs;have Q:=agh cs;have R:=h.g.lt;have av:=lW d;have l:=h.g.at 11;have S:=h.g.at 12;clear C m;go_wp2_with (first|(at_builtin;refine wpList_append_own _ rfl (.tmp 50) (.tmp 52) 79 rfl (M (H w)) 57 i0 (.slice Qr 0 0) 1 24 underlying79 hi af ag ah rfl Qc _ _ _ rfl ((h.own.alloc _).alloc _) (aD (M (H wr)+1) 0) 1 1 [.slice (O (aD (M (H wr)) 0)) (N cs+2) (N cs+2)] rfl rfl ?q1 ?q2 ?q3 ?q4 ?q5 ?_))
   case q1=>
    intro j u r
    match j,r with
    |0,r=>simp at r;subst r;simp[Addr.add]
   case q2=>intro u hu;simp at hu;subst hu;rfl
   case q3=>unfold maxLen;omega
   case q4=>omega
   case q5=>have:=h.siz;simp;omega
   intro v' w1 a f _;have Mq:=h.mid Qc Qc B hG0 a Qa f;obtain⟨g,pQ,au⟩:=Mq.sh;have ax:=Mq.g.at 11;have ay:=Mq.g.at 12;have az:=Mq.g.frozen 12;have mk:Qo w1 (aD (M (H w)) k)=O (Z Qr 0 0):=by rw[Mq.row.cell X,Zk X]
   have nk:=Mq.row.frozen k;have W:¬M (H w)=G:=X;have aa:¬G=M (H w):=X;rw[au];clear D K tq L P Q l S d;go_wp2;go_region;go_wp2;go_roundw
   case rel=>
    have Nq:=Mq.next (tA:=57) (λ_ _ _=>rfl) B hG0 (by rw[Av.o]) Qc Qc Qc a;grind
   case measure=>exact XK
  .have ae:k=N ls:=X
   have R:=h.g.lt;have aA:=h.siz;have l:=h.g.at 11;have g2:=h.g.at 2;have e2:=h.g.frozen 2;have mk:Qo wr (aD (M (H w)) (N ls))=O (Z Qr 0 0):=by rw[h.row.cell X,Zk X]
   have nk:wr.frozen? (aD (M (H w)) (N ls))=false:=h.row.frozen _;have aB:Qo wr (aD (M (H w)) (N ls+1))=O (Z Qr 0 0):=by rw[h.row.cell X,Zk X]
   have aC:wr.frozen? (aD (M (H w)) (N ls+1))=false:=h.row.frozen _;have W:¬M (H w)=G:=X;have aa:¬G=M (H w):=X;clear hx ni aAM m;go_wp2;go_end0;subst ae;exact⟨rfl,_,_,_,_,h.fin (λ_ _ _=>rfl) B hG0 Qc⟩
def Tryz.avh:(V.info? 25).map (λi=>(i.zero,i.size,i.bytes))=O (O (Z Qr 0 0),1,24):=Qd
structure T0(wV w0 w':U)(G tG tR tI tS:Nat)(c:Array Ql)(s1 i1 s2 i2:Nat):Prop where
 Dq:Bw wV w'
 oth:∀j,j<M (H w0)->j≠G->w'.heap[j]? = w0.heap[j]?
 siz:M (H w0)<M (H w')
 g:GB w' G tG c
 row:GB w' (M (H w0)) tR #[Z (O (aD s1 0)) 1 1,Z (O (aD s2 0)) 1 1]
 r1:GB w' s1 tI #[Z (O (aD i1 0)) 1 1]
 r2:GB w' s2 tI #[Z (O (aD i2 0)) 1 1]
 q1:GB w' i1 tS #[I J 77777]
 q2:GB w' i2 tS #[I J 77777]
def aAO(y:U)(o1 o2 o3 o4:Obj)(b i:Nat)(h:b<M (H y)):Qo ((((y.alloc o1).alloc o2).alloc o3).alloc o4) (aD b i)=Qo y (aD b i):=by have a:=fo y o1;have d:=aO a (fo _ o2);have e:=aO d (fo _ o3);have f:=aO e (fo _ o4);exact f.cell (p:=(aD b i)) h
def aqN(y:U)(o1 o2 o3 o4:Obj)(b i:Nat)(h:b<M (H y)):((((y.alloc o1).alloc o2).alloc o3).alloc o4).frozen? (aD b i)=y.frozen? (aD b i):=by have a:=fo y o1;have d:=aO a (fo _ o2);have e:=aO d (fo _ o3);have f:=aO e (fo _ o4);exact f.frozen (p:=(aD b i)) h
def aAP(y:U)(o1 o2 o3 o4:Obj)(b:Nat)(h:b<M (H y)):((((y.alloc o1).alloc o2).alloc o3).alloc o4).heap[b]? = y.heap[b]?:=by have a:=fo y o1;have d:=aO a (fo _ o2);have e:=aO d (fo _ o3);have f:=aO e (fo _ o4);exact f.block b h
def ajc(y:U)(o1 o2 o3 o4:Obj)(n:Nat)(h:n=M (H y)):((((y.alloc o1).alloc o2).alloc o3).alloc o4).heap[n]? = O o1/\((((y.alloc o1).alloc o2).alloc o3).alloc o4).heap[n+1]? = O o2/\
  ((((y.alloc o1).alloc o2).alloc o3).alloc o4).heap[n+2]? = O o3/\((((y.alloc o1).alloc o2).alloc o3).alloc o4).heap[n+3]? = O o4:=by
 subst h;refine⟨?_,?_,?_,?_⟩
 .rw[ZF (by simp only[XM];omega),ZF (by simp only[XM];omega),ZF Qf,qj]
 .rw[ZF Qf,ZF Qf,show (M (H y))+1=M (H (y.alloc o1)) by simp,qj]
 .rw[ZF Qf,show (M (H y))+2=M (H ((y.alloc o1).alloc o2)) by simp,qj]
 .rw[show M (H y)+3=M (H (((y.alloc o1).alloc o2).alloc o3)) by simp,qj]
theorem T0.mk'{wV w0 wr:U}{tR tI tS:Nat}(hG0:M (H wV)<=G)(VN:G<M (H w0))(eD:Bw wV wr)(anl:∀j,j<M (H w0)->j≠G->wr.heap[j]? = w0.heap[j]?)
  (ni:M (H w0)<M (H wr)) (hg:GB wr G tG c) (hrow:GB wr (M (H w0)) tR #[Z Qr 0 0,Z Qr 0 0]) :
  T0 wV w0 (((((((Qn wr (aD (M (H w0)) 0) (Z (O (aD (M (H wr)+1) 0)) 1 1)).alloc (Qs #[I J 77777] tS)).alloc (Qs #[Z (O (aD (M (H wr)) 0)) 1 1] tI)).alloc (Qs #[I J 77777] tS)).alloc
   (Qs #[Z (O (aD (M (H wr)+1+1) 0)) 1 1] tI)).setCell (aD (M (H w0)) 1) (Z (O (aD (M (H wr)+1+1+1) 0)) 1 1)).setCell (aD G 9) (Z (O (aD (M (H w0)) 0)) 0 2))
   G tG tR tI tS (c.setIfInBounds 9 (Z (O (aD (M (H w0)) 0)) 0 2)) (M (H wr)+1) (M (H wr)) (M (H wr)+3) (M (H wr)+2):=by
 have t:=eD.size
 let d:=Qn wr (aD (M (H w0)) 0) (Z (O (aD (M (H wr)+1) 0)) 1 1)
 have g:M (H d)=M (H wr):=by simp[d]
 let a:=(((d.alloc (Qs #[I J 77777] tS)).alloc (Qs #[Z (O (aD (M (H wr)) 0)) 1 1] tI)).alloc (Qs #[I J 77777] tS)).alloc (Qs #[Z (O (aD (M (H wr)+1+1) 0)) 1 1] tI)
 have l:M (H a)=M (H wr)+4:=by simp[a,g]
 show T0 wV w0 (Qn (Qn a (aD (M (H w0)) 1) (Z (O (aD (M (H wr)+1+1+1) 0)) 1 1)) (aD G 9) (Z (O (aD (M (H w0)) 0)) 0 2)) G tG tR tI tS _ _ _ _ _;have b:∀j,j<M (H wr)->a.heap[j]? = d.heap[j]?:=λj n=>aAP d _ _ _ _ j X;have k:=ajc d (Qs #[I J 77777] tS) (Qs #[Z (O (aD (M (H wr)) 0)) 1 1] tI) (Qs #[I J 77777] tS) (Qs #[Z (O (aD (M (H wr)+1+1) 0)) 1 1] tI) (M (H wr)) g.symm;have i:∀j,j≠G->j≠M (H w0)->(Qn (Qn a (aD (M (H w0)) 1) (Z (O (aD (M (H wr)+1+1+1) 0)) 1 1)) (aD G 9) (Z (O (aD (M (H w0)) 0)) 0 2)).heap[j]? = a.heap[j]?:=λj f e=>by rw[ZE f,ZE e]
 have v:∀j,j<M (H wr)->j≠G->j≠M (H w0)->(Qn (Qn a (aD (M (H w0)) 1) (Z (O (aD (M (H wr)+1+1+1) 0)) 1 1)) (aD G 9) (Z (O (aD (M (H w0)) 0)) 0 2)).heap[j]? = wr.heap[j]?:=λj n f e=>by rw[i j f e,b j n];exact ZE e
 have q:Bw wV d:=eD.setCell (p:=(aD (M (H w0)) 0)) Qb _;have m:Bw wV a:=by have r:=q.alloc q.size (Qs #[I J 77777] tS);have a2:=r.alloc r.size (Qs #[Z (O (aD (M (H wr)) 0)) 1 1] tI);have a3:=a2.alloc a2.size (Qs #[I J 77777] tS);exact a3.alloc a3.size _
 refine⟨(m.setCell (p:=(aD (M (H w0)) 1)) Qb _).setCell (p:=(aD G 9)) hG0 _,λj n y=>?_,?_,?_,?_,?_,?_,?_,?_⟩
 .grind
 .simp[l];omega
 .have f:GB a G tG c:=hg.of ((b G X).trans (ZE Qb));have e:GB (Qn a (aD (M (H w0)) 1) (Z (O (aD (M (H wr)+1+1+1) 0)) 1 1)) G tG c:=f.of (ZE Qb);exact e.set 9 _
 .have f:GB d (M (H w0)) tR _:=hrow.set 0 (Z (O (aD (M (H wr)+1) 0)) 1 1);have e:GB a (M (H w0)) tR _:=f.of (b _ ni);have u:=e.set 1 (Z (O (aD (M (H wr)+1+1+1) 0)) 1 1);exact u.of (ZE Qb)
 .exact GB.of (w:=a) k.2.1 (i _ X X)
 .exact GB.of (w:=a) k.2.2.2 (i _ X X)
 .exact GB.of (w:=a) k.1 (i _ X X)
 .exact GB.of (w:=a) k.2.2.1 (i _ X X)
def abD(wV w:U)(G:Nat)(c0 c1 c2 c3 c4 c5 c6 c7 c8 c9 O7 c11 c12 LY Y8 c15:Ql)(hb:Bw wV w)(hG0:M (H wV)<=G)
  (hG:GB w G 81 #[c0,c1,c2,c3,c4,c5,c6,c7,c8,c9,O7,c11,c12,LY,Y8,c15]) :
  Calls V 46 #[Y (O (aD G 0)),Z Qr 0 0] w λe B=>e=Qu (.tuple #[])/\∃K L Q i2,T0 wV w B G 81 25 26 3
   #[c0,c1,c2,c3,c4,c5,c6,c7,c8,Z (O (aD (M (H w)) 0)) 0 2,O7,c11,c12,LY,Z (O (aD (M (H w)) 0)) 2 2,c15] K L Q i2:=by
 have b:=run_make_row' (P:=V) 78 25 (.slice Qr 0 0) 24 underlying78 Tryz.avh rfl J J 2 X X;have m:=hG.lt;have f:=hG.at 14;have g:w.frozen? (aD G 14)=false:=hG.frozen 14;have k:madeCells #[Value.slice Qr 0 0] 2=#[Value.slice Qr 0 0,Value.slice Qr 0 0]:=by rw[Dp];rfl
 rw[k]at b;simp only[Int.cast_ofNat_Int]at b;go_enter func46,ntmps46;go_wp2;go_loopw [5] (λi wr=>i=I J 0/\Bw wV wr/\(∀j,j<M (H w)->j≠G->wr.heap[j]? = w.heap[j]?)/\M (H w)<M (H wr)/\
  GB wr G 81 #[c0,c1,c2,c3,c4,c5,c6,c7,c8,c9,O7,c11,c12,LY,Z (O (aD (M (H w)) 0)) 2 2,c15]/\GB wr (M (H w)) 25 #[Z Qr 0 0,Z Qr 0 0]) (λ_ _=>0)
 case atStart=>
  have n:=hb.setCell (p:=(aD G 14)) hG0 (Z (O (aD (M (H w)) 0)) 2 2);refine⟨rfl,n.alloc n.size _,λj C D=>?_,Qa,?_,?_⟩
  .rw[ZF (by simpa using C),ZE D]
  .exact(hG.set 14 (Z (O (aD (M (H w)) 0)) 2 2)).of (ZF (by simpa using m))
  .have:=qj (Qn w (aD G 14) (Z (O (aD (M (H w)) 0)) 2 2)) (Qs #[Z Qr 0 0,Z Qr 0 0] 25);rw[World.size_setCell]at this;exact this
 case round=>
  obtain⟨rfl,z,l,A,d,a⟩:=hrel;have q:=d.at 14;have R:=d.at 9;have S:wr.frozen? (aD G 9)=false:=d.frozen 9;obtain⟨r0,r1⟩:=a.k2;have W:wr.frozen? (aD (M (H w)) 0)=false:=a.frozen 0;have e1:wr.frozen? (aD (M (H w)) 1)=false:=a.frozen 1;have r:¬M (H w)=G:=X;have t:¬G=M (H w):=X;have u:G<M (H wr):=X;clear f g;have v:=aAO;have y:=aqN;go_wp2;go_end0;refine⟨rfl,M (H wr)+1,M (H wr),M (H wr)+3,M (H wr)+2,?_⟩;exact T0.mk' hG0 m z l A d a
def Tryz.avi:(V.info? 54).map (λi=>(i.zero,i.size,i.bytes))=O (O (.agg zt.toArray),6,48):=Qd
def Tryz.avj:(V.info? 43).map (λi=>(i.zero,i.size,i.bytes))=O (O (.agg zn.toArray),7,88):=Qd
def aeV(w:U) :
  (Instr.makeSlice 39 (I J 2) (I J 2)).run V w=.ok (Z (O (aD (M (H w)) 0)) 2 2) (w.alloc (Qs (zn++zn).toArray 43)):=by
 obtain⟨i,g,a,b,d⟩:=XB Tryz.avj;have:=run_make (P:=V) w 39 43 i _ underlying39 g a J J 2 2 X (Int.le_refl _) (by rw[d];omega) X;rw[b]at this;have e:madeCells (Value.cells (.agg zn.toArray)) ((2:Int).toNat*7)=(zn++zn).toArray:=by
  have h:=Ru zn.toArray 7 0 rfl X;have f:(madeCells zn.toArray ((0+2)*7)).toList=zn++zn:=by simpa using h
  apply Array.toList_inj.1;exact f
 rw[e]at this;exact this
def Tryz.avl:(V.info? 54).map (·.size)=O 6:=Qd
def anm(n:Nat)(h:n*48<=140737488351232)(w:U) :
  (Instr.makeSlice 32 (.int J ((n:Int)+2)) (.int J ((n:Int)+2))).run V w=.ok (.slice (O (aD (M (H w)) 0)) (n+2) (n+2)) (w.alloc (Qs (madeCells zt.toArray ((n+2)*6)) 54)):=by obtain⟨i,e,a,b,d⟩:=XB Tryz.avi;have:=run_make (P:=V) w 32 54 i _ underlying32 e a J J ((n:Int)+2) ((n:Int)+2) X (Int.le_refl _) (by rw[d];omega) X;rw[b,show ((n:Int)+2).toNat=n+2 by omega]at this;simpa [Value.cells,zt] using this
def ann(w y:U)(Nq:Nat)(ao:LM)(cap:Nat)(ts:JK af)(h:aZ w ao ts)(hb:Bw w y)(hN:Nq=M (H y))(ty:TypeId) :
  (Builtin.copy_ #[32,32] ty #[Z (O (aD Nq 0)) (N ts+2) (N ts+2),Z ao (N ts) cap]).run V (y.alloc (Qs (madeCells zt.toArray ((N ts+2)*6)) 54)) =
   .ok (goInt (N ts)) (y.alloc (Qs (Mk ts) 54)):=by subst hN;exact Fp (P:=V) y 32 54 6 zt.toArray ao (N ts) cap (ts.flatMap pX) X rfl (tQ _ 6 mK ts) (akk (h.aj hb)) (akl ts) underlying32 Tryz.avl ty
def Rn(y:U)(Nq:Nat)(ts:JK af)(t:TypeId)(hN:Nq=M (H y)):Qn (y.alloc (Qs (Mk ts) t)) (aD Nq (N ts*6)) (I J 77777)=y.alloc (Qs (Fj ts) t):=by subst hN;rw[mI,agi]
def Ro(y:U)(Nq:Nat)(ts:JK af)(t:TypeId)(hN:Nq=M (H y)):Qn (y.alloc (Qs (Fj ts) t)) (aD Nq ((N ts+1)*6)) (I J 77777)=y.alloc (Qs (pF ts) t):=by subst hN;rw[mI,agj]
def aeW(y:U)(Nq:Nat)(ts:JK af)(t:TypeId)(hN:Nq=M (H y)):Qo (y.alloc (Qs (Mk ts) t)) (aD Nq (N ts*6))=O (I J 0):=by subst hN;rw[World.cell?_alloc_new,aki]
def aeX(y:U)(Nq:Nat)(ts:JK af)(t:TypeId)(hN:Nq=M (H y)):Qo (y.alloc (Qs (Fj ts) t)) (aD Nq ((N ts+1)*6))=O (I J 0):=by subst hN;rw[World.cell?_alloc_new,akj]
def BX{bs:JK (Nat × Obj)}(hP:VY w W G tG c bs)(ao:LM)(cap:Nat)(xs:IC)(hx:aP w ao xs)(ni:N xs*8<=140737488351232) :
  Calls V 44 #[Z ao (N xs) cap] W λe a=>∃b,e=Qu (Z (O (aD b 0)) (N xs) (N xs+2))/\VY w a G tG c ((b,Qs (gF xs) 3)::bs):=
 (ank ao cap xs W (hx.aj hP.Dq) ni).mono λ_ _ ⟨he,hw⟩=>⟨M (H W),he,by rw[hw];exact hP.alloc _⟩
def ajd(ao:LM)(cap:Nat)(ts:JK af)(q:ae)(w:U)(hx:aZ w ao ts)(hq:q.At w)(ni:N ts*48<=140737488351232)
  (z1:N q.au.xs*8<=140737488351232) (z2:N q.aC.xs*8<=140737488351232) (z3:N q.aM.xs*8<=140737488351232) (z4:N q.bA.xs*8<=140737488351232) (z5:N q.ord.xs*8<=140737488351232)
  (z6:N q.wh*24<=140737488351232) (z7:∀i,i<N q.wh->(E q.wh i lz).cs.length*40<=140737488351232) :
  Calls V 21 #[Z ao (N ts) cap,.agg q.cells,Z Qr 0 0,Z Qr 0 0] w λe w'=>∃G bc bf bk bu be bo bw bp bd v A k1 k2 s1 i1 s2 i2,e=Qu (Y (O (aD G 0)))/\
   Giv w w' G 81 59 57 56 3 54 43 25 26 ts q bc bf bk bu be bo bw bp bd v A k1 k2 s1 i1 s2 i2:=by
 have D:=anm (N ts) ni;have hl:=hx.1;obtain⟨au,iF,cZ,wh,aF,aC,aM,bA,ord⟩:=q;have aa:aP w au.ad au.xs:=hq.au;have K:aP w aC.ad aC.xs:=hq.aC;have aj:aP w aM.ad aM.xs:=hq.aM;have ag:aP w bA.ad bA.xs:=hq.bA;have uP:aP w ord.ad ord.xs:=hq.ord;have ak:fD w iF wh:=hq.wh;clear hq;simp only at z1 z2 z3 z4 z5 z6 z7;unfold ae.cells aA.val;simp only;have av:=λ(z B:Obj) (ty:TypeId)=>ann w ((w.alloc z).alloc B) (M (H w)+1+1) ao cap ts hx (aO (fo _ _) (fo _ _)) Qa ty;have tq:=λ(z B:Obj)=>Rn ((w.alloc z).alloc B) (M (H w)+1+1) ts 54 Qa;have ax:=λ(z B:Obj)=>Ro ((w.alloc z).alloc B) (M (H w)+1+1) ts 54 Qa;have ay:=λ(z B:Obj)=>aeW ((w.alloc z).alloc B) (M (H w)+1+1) ts 54 Qa;have az:=λ(z B:Obj)=>aeX ((w.alloc z).alloc B) (M (H w)+1+1) ts 54 Qa;go_enter func21,ntmps21;go_wp2_with fail;refine(BX (VY.start w _ _ _ _) au.ad au.cap au.xs aa z1).mono ?_;clear D av tq ax ay az hx;have aL:¬M (H w)=M (H w)+1:=X;have aN:¬M (H w)+1=M (H w):=X;rintro e w1 ⟨b1,rfl,P1⟩;have l:=P1.g.cell 1;have d:=P1.g.frozen 1;have n:=(P1.at (b:=M (H w)) (J4 _ (J4 _ (J5 _)))).cell 3;simp at l n;go_wp2_with fail;refine(BX (P1.store 1 _) aC.ad aC.cap aC.xs K z2).mono ?_;clear P1 l d n;rintro e w2 ⟨b2,rfl,R⟩;simp only[Zp,QX,QY]at R;have l:=R.g.cell 4;have d:=R.g.frozen 4;have n:=(R.at (b:=M (H w)) (J4 _ (J4 _ (J4 _ (J5 _))))).cell 4;simp at l n;go_wp2_with fail;refine(BX (R.store 4 _) aM.ad aM.cap aM.xs aj z3).mono ?_;clear R l d n;rintro e w3 ⟨b3,rfl,S⟩;simp only[Zp,QX,QY]at S;have l:=S.g.cell 5;have d:=S.g.frozen 5;have n:=(S.at (b:=M (H w)) (J4 _ (J4 _ (J4 _ (J4 _ (J5 _)))))).cell 5;simp at l n;go_wp2_with fail;refine(BX (S.store 5 _) bA.ad bA.cap bA.xs ag z4).mono ?_;clear S l d n;rintro e w4 ⟨b4,rfl,W⟩;simp only[Zp,QX,QY]at W;have l:=W.g.cell 6;have d:=W.g.frozen 6;have n:=(W.at (b:=M (H w)) (J4 _ (J4 _ (J4 _ (J4 _ (J4 _ (J5 _))))))).cell 6;simp at l n;go_wp2_with fail;refine(BX (W.store 6 _) ord.ad ord.cap ord.xs uP z5).mono ?_;clear W l d n;rintro e w5 ⟨b5,rfl,P5⟩;simp only[Zp,QX,QY]at P5;have l:=P5.g.cell 7;have d:=P5.g.frozen 7;have n:=(P5.at (b:=M (H w)) (J4 _ (J4 _ (J4 _ (J4 _ (J4 _ (J4 _ (J5 _)))))))).cell 1;simp at l n;go_wp2_with fail;have L:=P5.store 7 (Z (O (aD b5 0)) (N ord.xs) (N ord.xs+2));simp only[Zp,QX,QY]at L
 clear P5 l d n;generalize Qn w5 (aD (M (H w)+1) 7) (Z (O (aD b5 0)) (N ord.xs) (N ord.xs+2))=w6 at*;refine(abC w w6 (M (H w)+1) iF cZ wh _ _ _ _ _ _ _ _ _ _ _ _ _ _ _ ak z6 z7 L.Dq L.lo L.g).mono ?_;rintro e a ⟨rfl,v,A,k1,k2,C⟩;have aB:=L.g.lt;obtain⟨c7,t,y⟩:∃c,c=_/\VY w a (M (H w)+1) 81 c _:=⟨_,rfl,L.move C.Dq C.oth C.g⟩;have D:=aeV;have VN:=y.g.lt;have Aw:=y.lo;have l:Qo a (aD (M (H w)+1) 13)=O (Z Qr 0 0):=by rw[y.g.cell 13,t];rfl
 have d:=y.g.frozen 13;have lH:(c7.setIfInBounds 13 (Z (O (aD (M (H a)) 0)) 2 2))[13]? = O (Z (O (aD (M (H a)) 0)) 2 2):=by rw[t];rfl
 have ah:(c7.setIfInBounds 13 (Z (O (aD (M (H a)) 0)) 2 2))[8]? = O (Z Qr 0 0):=by rw[t];rfl
 have aG:Qm _:=t;clear L t;go_wp2;go_loopw [10] (λi wr=>i=I J 0/\Bw w wr/\(∀j,j<M (H a)->j≠M (H w)+1->wr.heap[j]? = a.heap[j]?)/\M (H a)<M (H wr)/\
  GB wr (M (H w)+1) 81 (c7.setIfInBounds 13 (Z (O (aD (M (H a)) 0)) 2 2))/\GB wr (M (H a)) 43 (zn++zn).toArray) (λ_ _=>0)
 case atStart=>
  have bL:=y.Dq.setCell (p:=(aD (M (H w)+1) 13)) y.lo (Z (O (aD (M (H a)) 0)) 2 2);refine⟨rfl,bL.alloc bL.size _,λj hj Q=>?_,Qa,?_,?_⟩
  .rw[ZF (by simpa using hj),ZE Q]
  .exact(y.g.set 13 (Z (O (aD (M (H a)) 0)) 2 2)).of (ZF (by simpa using VN))
  .have:=qj (Qn a (aD (M (H w)+1) 13) (Z (O (aD (M (H a)) 0)) 2 2)) (Qs (zn++zn).toArray 43);rw[World.size_setCell]at this;exact this
 case round=>
  obtain⟨rfl,eD,ai,aK,hg,f⟩:=hrel;have aH:Qo wr (aD (M (H w)+1) 13)=O (Z (O (aD (M (H a)) 0)) 2 2):=by rw[hg.cell 13,lH]
  have h8:Qo wr (aD (M (H w)+1) 8)=O (Z Qr 0 0):=by rw[hg.cell 8,ah]
  have f8:=hg.frozen 8;have r0:Qo wr (aD (M (H a)) 0)=O (I J 0):=by rw[f.cell 0];rfl
  have r7:Qo wr (aD (M (H a)) 7)=O (I J 0):=by rw[f.cell 7];rfl
  have e0:=f.frozen 0;have e7:=f.frozen 7;have aI:¬M (H a)=M (H w)+1:=X;have aJ:¬M (H w)+1=M (H a):=X;clear l d lH ah D;go_wp2_with fail;have EZ:Bw w (Qn (Qn (Qn wr (aD (M (H a)) 0) (I J 77777)) (aD (M (H a)) 7) (I J 77777)) (aD (M (H w)+1) 8) (Z (O (aD (M (H a)) 0)) 0 2)):=
   ((eD.setCell (p:=(aD (M (H a)) 0)) (by show M (H w)<=M (H a);omega) _).setCell (p:=(aD (M (H a)) 7)) (by show M (H w)<=M (H a);omega) _).setCell (p:=(aD (M (H w)+1) 8)) Aw _
  have P:∀j,j<M (H a)->j≠M (H w)+1->(Qn (Qn (Qn wr (aD (M (H a)) 0) (I J 77777)) (aD (M (H a)) 7) (I J 77777)) (aD (M (H w)+1) 8) (Z (O (aD (M (H a)) 0)) 0 2)).heap[j]? = a.heap[j]?:=λj hj Q=>by rw[ZE Q,ZE (by show j≠M (H a);omega),ZE (by show j≠M (H a);omega)];exact ai j hj Q
  have Dk:GB (Qn (Qn (Qn wr (aD (M (H a)) 0) (I J 77777)) (aD (M (H a)) 7) (I J 77777)) (aD (M (H w)+1) 8) (Z (O (aD (M (H a)) 0)) 0 2)) (M (H w)+1) 81 _:=
   GB.set (hg.of (by rw[ZE (by show M (H w)+1≠M (H a);omega),ZE (by show M (H w)+1≠M (H a);omega)])) 8 (Z (O (aD (M (H a)) 0)) 0 2)
  have r:GB (Qn (Qn (Qn wr (aD (M (H a)) 0) (I J 77777)) (aD (M (H a)) 7) (I J 77777)) (aD (M (H w)+1) 8) (Z (O (aD (M (H a)) 0)) 0 2)) (M (H a)) 43 (nk++nk).toArray:=
   ((f.set 0 (I J 77777)).set 7 (I J 77777)).of (ZE (by show M (H a)≠M (H w)+1;omega))
  generalize (Qn (Qn (Qn wr (aD (M (H a)) 0) (I J 77777)) (aD (M (H a)) 7) (I J 77777)) (aD (M (H w)+1) 8) (Z (O (aD (M (H a)) 0)) 0 2))=w8 at*;rw[aG.o]at Dk;simp only[Zp,QX,QY]at Dk;have P8:=y.move EZ P Dk;refine(abD w w8 (M (H w)+1) _ _ _ _ _ _ _ _ _ _ _ _ _ _ _ _ EZ Aw Dk).mono ?_;rintro e w9 ⟨rfl,s1,i1,s2,i2,u⟩;have m:=P8.move u.Dq u.oth u.g;clear aH h8 f8 r0 r7 e0 e7 aI aJ Dk P8 hg f ai eD;have k:∀j,j<M (H a)->j≠M (H w)+1->w9.heap[j]? = a.heap[j]?:=λj hj Q=>(u.oth j (Qj r.lt) Q).trans (P j hj Q);have HO:Qm _:=k;have HP:Qm _:=r;clear P k r;go_wp2;go_ret;have k:=HO.o;refine⟨M (H w)+1,M (H w)+2,b1,b2,b3,b4,b5,M (H w6),M (H a),M (H w8),v,A,k1,k2,s1,i1,s2,i2,rfl,⟨m.Dq,m.lo,m.g,m.at (J4 _ (J4 _ (J4 _ (J4 _ (J4 _ (J5 _)))))),m.at (J4 _ (J4 _ (J4 _ (J4 _ (J5 _))))),m.at (J4 _ (J4 _ (J4 _ (J5 _)))),m.at (J4 _ (J4 _ (J5 _))),m.at (J4 _ (J5 _)),m.at (J5 _),?_,λi hi=>?_,?_,?_,?_,?_,u.row,u.r1,u.r2,u.q1,u.q2,⟨(m.bs _ (J4 _ (J4 _ (J4 _ (J4 _ (J4 _ (J5 _))))))).2.1,(m.bs _ (J4 _ (J4 _ (J4 _ (J4 _ (J5 _)))))).2.1,(m.bs _ (J4 _ (J4 _ (J4 _ (J5 _))))).2.1,(m.bs _ (J4 _ (J4 _ (J5 _)))).2.1,(m.bs _ (J4 _ (J5 _))).2.1,(m.bs _ (J5 _)).2.1⟩,λi hi=>Qj ((C.al i hi).1)⟩⟩
  .exact C.row.of_block (k _ C.siz X)
  .have hA:=C.al i hi;exact hA.2.of (k _ hA.2.lt X)
  .exact qX C.own (Qk y.Dq.size aB) (λj h1 h2=>k j h2 X)
  .exact C.k1.2.of (k _ C.k1.2.lt (Qj C.k1.1))
  .exact C.k2.2.of (k _ C.k2.2.lt (Qj C.k2.1))
  .have r:GB w8 (M (H a)) 43 (nk++nk).toArray:=HP.o;exact r.of (u.oth _ r.lt X)
def adj(ao:LM)(cap:Nat)(ts:JK af)(w:U)(hx:aZ w ao ts) :
  Calls V 161 #[Z ao (N ts) cap,.func (.func 118) #[] #[]] w λe A=>∃r,e=Qu (I J r)/\LJ r (ts.any λt=>!fI t)/\Bw w A:=by
 have B:=hx.1;go_enter func161,ntmps161;go_wp2;go_loopw [8] (λi wr=>∃k:Nat,k<=N ts/\i=I J k/\Qm (∀j,j<k->(!fI (E ts j tz))=F)/\Bw w wr) (λi _=>N ts-(intOf i).toNat)
 case atStart=>exact⟨0,ZR _,rfl,λj g=>absurd g X,Za _ _⟩
 case round=>
  obtain⟨k,C,rfl,p,f⟩:=hrel;by_cases q:k<N ts
  .obtain⟨b,off,rfl,c0,y,c2,c3,c4,c5⟩:=hx.2 k q;obtain⟨D,G,K,L,P,Q⟩:=aj3 f c0 y c2 c3 c4 c5;have d:Qm ((!fI (E ts k tz))=T->(ts.any λt=>!fI t)=T):=λh=>Uf (z:=tz) q h
   have n:=adi (E ts k tz) wr;unfold af.jQ at n;generalize m:E ts k tz=t at*;have u:=Zh m;go_wp2_with fail;refine mR n λR a=>?_;cases hB:fI t
   .rw[hB]at d;go_wp2;go_ret;exact⟨_,Q0 rfl,⟨X,by rw[d.o rfl];simp⟩,aO f a⟩
   .have v:=Zh hB;go_wp2;go_roundw
    case rel=>
     refine⟨k+1,X,Qe,λj g=>?_,aO f a⟩;by_cases l:j=k
     .subst l;rw[u.o,v.o];rfl
     .exact p.o j X
    case measure=>exact XK
  .have d:Qm ((ts.any λt=>!fI t)=F):=Ff (z:=tz) (λj g=>p.o j X);go_wp2;go_ret;exact⟨_,Q0 rfl,⟨X,by rw[d.o];rfl⟩,f⟩
def PH(ao:LM)(cap:Nat)(ts:JK af)(w:U)(hx:aZ w ao ts) :
  Cb 117 #[Z ao (N ts) cap,.func (.func 118) #[] #[]] w (Qq (ts.any λt=>!fI t)):=by have b:=adj ao cap ts w hx;go_enter func117,ntmps117;go_wp2_with fail;refine b.mono ?_;rintro e g ⟨r,rfl,f,a⟩;have d:=Zh f.2;go_wp2;go_ret;exact⟨QZ d.o,a⟩
def Na(ao:LM)(cap:Nat)(ts:JK af)(w:U)(hx:aZ w ao ts) :
  Cb 81 #[Z ao (N ts) cap] w (Qq (gV ts)):=by
 have g:=hx.1;by_cases b:N ts<1
 .go_enter func81,ntmps81;go_wp2;go_ret;exact⟨QZ (Mf b),Za _ _⟩
 by_cases d:8<N ts
 .go_enter func81,ntmps81;go_wp2;go_ret;exact⟨QZ (Rs d),Za _ _⟩
 have e:=PH ao cap ts w hx;have f:=Zh (akc b d);generalize (ts.any λt=>!fI t)=Yq at*;go_enter func81,ntmps81;go_wp2_with fail;refine mR e λi a=>?_;go_wp2;go_ret;exact⟨QZ f.o,a⟩
def Bi(n b:Int)(w:U) :
  Ce 165 #[I J n,I J b] w (Qq (GU n b)):=by
 by_cases a:0<=n
 .go_enter func165,ntmps165;go_wp2;go_ret;exact⟨QZ (by simp[GU];omega),rfl⟩
 .go_enter func165,ntmps165;go_wp2;go_ret;exact⟨QZ (by simp[GU];omega),rfl⟩
def UL(n:Int)(w:U) :
  Ce 201 #[I J n] w (Qq (decide (-1000<=n)&&decide (n<=1000))):=by
 by_cases a:-1000<=n
 .go_enter func201,ntmps201;go_wp2;go_ret;exact⟨QZ Qi,rfl⟩
 .go_enter func201,ntmps201;go_wp2;go_ret;exact⟨QZ Qi,rfl⟩
def PI(n b:Int)(p o:Nat)(w:U)(hp:Qo w (aD p o)=O (I J b)) :
  Ce 164 #[I J n,Y (O (aD p o))] w (Qq (!GU n b)):=by have a:=Bi n b w;generalize GU n b=Yq at*;go_enter func164,ntmps164;go_wp2_with fail;refine a.mono ?_;clear a;rintro e d ⟨rfl,rfl⟩;go_wp2;go_ret;exact⟨QZ rfl,rfl⟩
def adl(ao:LM)(cap:Nat)(xs:IC)(bd:Int)(p o:Nat)(w:U)(hx:aP w ao xs)(hp:Qo w (aD p o)=O (I J bd)) :
  Calls V 200 #[Z ao (N xs) cap,.func (.func 164) #[] #[Y (O (aD p o))]] w λe y=>∃r,e=Qu (I J r)/\LJ r (xs.any λx=>!GU x bd)/\y = w:=by
 have A:=hx.1;go_enter func200,ntmps200;go_wp2;go_loop [8] (λi=>∃k:Nat,k<=N xs/\i=I J k/\Qm (∀j,j<k->(!GU (E xs j 0) bd)=F)) (λi=>N xs-(intOf i).toNat)
 case atStart=>exact⟨0,ZR _,rfl,λj f=>absurd f X⟩
 case round=>
  obtain⟨k,B,rfl,q⟩:=hrel;by_cases g:k<N xs
  .obtain⟨b,off,rfl,t⟩:=hx.get g;have u:=t k g;have d:Qm ((!GU (E xs k 0) bd)=T->(xs.any λx=>!GU x bd)=T):=λh=>Uf (z:=0) g h
   have m:=PI (E xs k 0) bd p o w hp;have n:Qm (E xs k 0=E xs k 0):=rfl;generalize a:E xs k 0=x at*;have n:=Zh a;clear a t hx hp;go_wp2_with fail;refine m.mono ?_;clear m;rintro e C ⟨rfl,rfl⟩;cases hB:GU x bd
   .rw[hB]at d;go_wp2;go_ret;exact⟨_,Q0 rfl,⟨X,by rw[d.o rfl];simp⟩,rfl⟩
   .have v:=Zh hB;clear hB;go_wp2;go_round
    case rel=>
     refine⟨k+1,X,Qe,λj f=>?_⟩;by_cases l:j=k
     .subst l;rw[n.o,v.o];rfl
     .exact q.o j X
    case measure=>exact XK
  .have d:Qm ((xs.any λx=>!GU x bd)=F):=Ff (z:=0) (λj f=>q.o j X);go_wp2;go_ret;exact⟨_,Q0 rfl,⟨X,by rw[d.o];rfl⟩,rfl⟩
def PK(ao:LM)(cap:Nat)(xs:IC)(bd:Int)(p o:Nat)(w:U)(hx:aP w ao xs)(hp:Qo w (aD p o)=O (I J bd)) :
  Ce 163 #[Z ao (N xs) cap,.func (.func 164) #[] #[Y (O (aD p o))]] w (Qq (xs.any λx=>!GU x bd)):=by have a:=adl ao cap xs bd p o w hx hp;go_enter func163,ntmps163;go_wp2_with fail;refine a.mono ?_;clear a;rintro e f ⟨r,rfl,b,rfl⟩;have d:=Zh b.2;clear b;go_wp2;go_ret;exact⟨QZ d.o,rfl⟩
def rD(ao:LM)(cap:Nat)(xs:IC)(bd:Int)(w:U)(hx:aP w ao xs) :
  Cb 122 #[Z ao (N xs) cap,I J bd] w (Qq (dm xs bd)):=by have a:=PK ao cap xs bd (M (H w)) 0 (w.alloc (Qs #[I J bd] 3)) (hx.aj (fo _ _)) Qa;have b:=Zh (akd xs bd);generalize (xs.any λx=>!GU x bd)=Yq at*;go_enter func122,ntmps122;go_wp2_with fail;refine a.mono ?_;clear a;rintro e d ⟨rfl,rfl⟩;go_wp2;go_ret;exact⟨QZ b.o,fo _ _⟩
def eqB(h:a=b):(a==b)=true:=by simpa using h
def neB(h:¬a=b):(a==b)=false:=by simpa using h
def adm(ao:LM)(cap:Nat)(xs:IC)(v:Int)(w:U)(hx:aP w ao xs) :
  Calls V 202 #[Z ao (N xs) cap,I J v] w λe A=>∃r,e=Qu (I J r)/\LJ r (xs.any λx=>decide (v=x))/\A = w:=by
 have B:=hx.1;go_enter func202,ntmps202;go_wp2;go_loop [8] (λi=>∃k:Nat,k<=N xs/\i=I J k/\Qm (∀j,j<k->decide (v=E xs j 0)=F)) (λi=>N xs-(intOf i).toNat)
 case atStart=>exact⟨0,ZR _,rfl,λj l=>absurd l X⟩
 case round=>
  obtain⟨k,C,rfl,p⟩:=hrel;by_cases m:k<N xs
  .obtain⟨b,off,rfl,q⟩:=hx.get m;have t:=q k m;have f:Qm (decide (v=E xs k 0)=T->(xs.any λx=>decide (v=x))=T):=λh=>Uf (z:=0) m h
   generalize d:E xs k 0=x at*;have u:=Zh d;clear d q hx;by_cases a:v=x
   .have y:=eqB a;have g:=Zh a;clear a;go_wp2;go_ret;exact⟨_,Q0 rfl,⟨X,by rw[f.o (Zl g.o)];simp⟩,rfl⟩
   .have y:=neB a;have g:=Zh a;clear a;go_wp2;go_round
    case rel=>
     refine⟨k+1,X,Qe,λj l=>?_⟩;by_cases n:j=k
     .subst n;rw[u.o];exact ZK g.o
     .exact p.o j X
    case measure=>exact XK
  .have f:Qm ((xs.any λx=>decide (v=x))=F):=Ff (z:=0) (λj l=>p.o j X);go_wp2;go_ret;exact⟨_,Q0 rfl,⟨X,by rw[f.o];rfl⟩,rfl⟩
def PM(ao:LM)(cap:Nat)(xs:IC)(v:Int)(w:U)(hx:aP w ao xs) :
  Ce 167 #[Z ao (N xs) cap,I J v] w (Qq (xs.any λx=>decide (v=x))):=by have a:=adm ao cap xs v w hx;go_enter func167,ntmps167;go_wp2_with fail;refine a.mono ?_;clear a;rintro e f ⟨r,rfl,b,rfl⟩;have d:=Zh b.2;clear b;go_wp2;go_ret;exact⟨QZ d.o,rfl⟩
theorem aP.axF{ao:LM}{xs:IC}(h:aP w ao xs){k:Nat}(hk:k<=N xs):aP w ao (xs.take k):=by
 have a:N (xs.take k)=k:=by rw[Jb];omega
 refine⟨Qj h.1,λi f=>?_⟩;obtain⟨b,off,e,d⟩:=h.2 i X;grind
theorem allDifferent_any(ao:LM)(cap:Nat)(xs:IC)(w:U)(hx:aP w ao xs)(nu:N xs<=cap) :
  Ce 127 #[Z ao (N xs) cap] w (Qq (dK xs)):=by
 have L:=hx.1;go_enter func127,ntmps127;go_wp2;go_loop [7] (λi=>∃k:Nat,k<=N xs/\i=I J k/\Qm (∀i,i<k->∀j,j<i->E xs i 0≠E xs j 0)) (λi=>N xs-(intOf i).toNat)
 case atStart=>exact⟨0,ZR _,rfl,λi z=>absurd z X⟩
 case round=>
  obtain⟨k,G,rfl,v⟩:=hrel;by_cases p:k<N xs
  .have r:=aP.axF hx G;obtain⟨b,off,rfl,y⟩:=hx.get p;have A:=y k p;have f:=PM (O (aD b off)) cap (xs.take k) (E xs k 0) w r;have t:N (xs.take k)=k:=by rw[Jb];omega
   rw[t]at f;have B:Qm (((xs.take k).any λx=>decide (E xs k 0=x))=T->∃j,j<k/\E xs k 0=E xs j 0):=λh=>by rw[List.any_eq_true]at h;obtain⟨x,hx,hd⟩:=h;obtain⟨j,n,rfl⟩:=Ze hx;have g:j<k:=X;have:=Xf hd;refine⟨j,g,this.trans ?_⟩;grind
   have C:Qm (((xs.take k).any λx=>decide (E xs k 0=x))=F->∀j,j<k->E xs k 0≠E xs j 0):=λh j n d=>by rw[List.any_eq_false]at h;have l:j<N xs:=X;refine h ((xs.take k)[j]'(X)) (Q6 _) (Zl ?_);rw[d];simp[List.getD,l]
   generalize K:((xs.take k).any λx=>decide (E xs k 0=x))=Yq at*;clear K t r y hx;generalize a:E xs k 0=x at*;have u:=Zh a;clear a;go_wp2_with fail;refine f.mono ?_;clear f;rintro e P ⟨rfl,rfl⟩;cases Yq
   .go_wp2;go_round
    case rel=>
     refine⟨k+1,X,Qe,λi z=>?_⟩;by_cases q:i=k
     .subst q;rw[u.o];exact C.o (by trivial)
     .exact v.o i X
    case measure=>exact XK
   .obtain⟨j,n,d⟩:=B.o rfl;have D:=Zh (Md p n (by rw[u.o];exact d));clear d;go_wp2;go_ret;exact⟨QZ D.o,rfl⟩
  .go_wp2;go_ret;have m:k=N xs:=X
   subst m;exact⟨QZ (Az v.o),rfl⟩
def UM(c:aV)(n:Int)(w:U) :
  Cb 166 #[c.val,I J n] w (Qq (jW c n)):=by
 have q:=@akf c n;have b:=@DT c n;have d:=@GV c n;have f:=@Wp c n;have g:=@Ws c n;obtain⟨z,r,left,a,right⟩:=c;unfold aV.val;simp only at q b d f g;generalize jW ⟨z,r,left,a,right⟩ n=B at*;have p:=λx=>Bi left n x;have k:=λx=>Bi right n x;have l:=λx=>UL right x;generalize GU right n=Yq,(decide (-1000<=right)&&decide (right<=1000))=Zq at*;cases hL:GU left n
 .have i:=Zh (q hL);rw[hL]at p;clear q b d f g k l hL;go_enter func166,ntmps166;go_wp2_with fail;refine(p _).mono ?_;clear p;rintro e t ⟨rfl,rfl⟩;go_wp2;go_ret;exact⟨QZ i.o,fo _ _⟩
 .rw[hL]at p;by_cases j:r=0∨r=1
  .cases a
   .have i:=Zh (d hL j rfl);clear q b d f g l hL;rcases j with j|j
    all_goals
     subst j;go_enter func166,ntmps166;go_wp2_with fail;refine(p _).mono ?_;rintro e t ⟨rfl,rfl⟩;go_wp2_with fail;refine(k _).mono ?_;rintro e A ⟨rfl,rfl⟩;go_wp2;go_ret;exact⟨QZ i.o,fo _ _⟩
   .have i:=Zh (b hL j rfl);clear q b d f g k hL;rcases j with j|j
    all_goals
     subst j;go_enter func166,ntmps166;go_wp2_with fail;refine(p _).mono ?_;rintro e t ⟨rfl,rfl⟩;go_wp2_with fail;refine(l _).mono ?_;rintro e A ⟨rfl,rfl⟩;go_wp2;go_ret;exact⟨QZ i.o,fo _ _⟩
  .by_cases v:r=2
   .have i:Qm ((!a&&decide (right=0))=B):=f hL v;clear q b d f g k l hL j;subst v
    cases a
    .by_cases u:right=0
     .have m:=Zh (show T=B by have:=i.o;simpa [u] using this);have y:=eqB u;clear i u;go_enter func166,ntmps166;go_wp2_with fail;refine(p _).mono ?_;rintro e t ⟨rfl,rfl⟩;go_wp2;go_ret;exact⟨QZ m.o,fo _ _⟩
     .have m:=Zh (show F=B by have:=i.o;simpa [u] using this);have y:=neB u;clear i u;go_enter func166,ntmps166;go_wp2_with fail;refine(p _).mono ?_;rintro e t ⟨rfl,rfl⟩;go_wp2;go_ret;exact⟨QZ m.o,fo _ _⟩
    .have m:=Zh (show F=B by have:=i.o;simpa using this);go_enter func166,ntmps166;go_wp2_with fail;refine(p _).mono ?_;rintro e t ⟨rfl,rfl⟩;go_wp2;go_ret;exact⟨QZ m.o,fo _ _⟩
   .have i:=Zh (g X X v);have C:(r==0)=false:=neB X;have D:(r==1)=false:=neB X;have G:=neB v;clear q b d f g k l hL j v;go_enter func166,ntmps166;go_wp2_with fail;refine(p _).mono ?_;rintro e t ⟨rfl,rfl⟩;go_wp2;go_ret;exact⟨QZ i.o,fo _ _⟩

import Derived.Test.YtbcgekghfgcakaaGreatDoorF39
import Derived.Test.YtbcgekghfgcakaaGreatDoorF40
set_option linter.all false
set_option maxRecDepth 100000
set_option maxHeartbeats 16000000
namespace Go.Proofs.Zz
open Go.RowKit Go.Shelf
def Tryz.yC:Go.Shelf.Ren:=⟨fun | 156=>51 | 165=>90 | 166=>91 | 169=>92 | 240=>142 | 241=>143 | 276=>200 | 277=>201 | n=>n,fun | 31=>112 | 9=>9 | 3=>3 | 4=>4 | 0=>0 | 20=>20 | 72=>169 | 76=>159 | 70=>166 | 37=>167 | 75=>158 | 127=>216 | 164=>265 | 5=>5 | 80=>40 | n=>n,fun | n=>n⟩
theorem Tryz.aaL:Go.Proofs.Lays.n156 Tryz.prog Tryz.yC:={
 mixed:=by kernel_rfl
 f156:=Tryz.func51.trans (congrArg some (by kernel_rfl))
 f165:=Tryz.func90.trans (congrArg some (by kernel_rfl))
 f166:=Tryz.func91.trans (congrArg some (by kernel_rfl))
 f169:=Tryz.func92.trans (congrArg some (by kernel_rfl))
 f240:=Tryz.func142.trans (congrArg some (by kernel_rfl))
 f241:=Tryz.func143.trans (congrArg some (by kernel_rfl))
 f276:=Tryz.func200.trans (congrArg some (by kernel_rfl))
 f277:=Tryz.func201.trans (congrArg some (by kernel_rfl))
 t0:=Tryz.underlying0
 a0:=Tryz.isAgg0
 z0:=Tryz.sizeOf0
 v0:=Tryz.zeroValue0
 t3:=Tryz.underlying3
 a3:=Tryz.isAgg3
 z3:=Tryz.sizeOf3
 v3:=Tryz.zeroValue3
 t4:=Tryz.underlying4
 a4:=Tryz.isAgg4
 z4:=Tryz.sizeOf4
 v4:=Tryz.zeroValue4
 t9:=Tryz.underlying9
 a9:=Tryz.isAgg9
 z9:=Tryz.sizeOf9
 v9:=Tryz.zeroValue9
 t20:=Tryz.underlying20
 a20:=Tryz.isAgg20
 z20:=Tryz.sizeOf20
 v20:=Tryz.zeroValue20
 t31:=Tryz.underlying112
 a31:=Tryz.isAgg112
 z31:=Tryz.sizeOf112
 v31:=Tryz.zeroValue112
 t37:=Tryz.underlying167
 a37:=Tryz.isAgg167
 z37:=Tryz.sizeOf167
 v37:=Tryz.zeroValue167
 t70:=Tryz.underlying166
 a70:=Tryz.isAgg166
 z70:=Tryz.sizeOf166
 v70:=Tryz.zeroValue166
 t72:=Tryz.underlying169
 a72:=Tryz.isAgg169
 z72:=Tryz.sizeOf169
 v72:=Tryz.zeroValue169
 t75:=Tryz.underlying158
 a75:=Tryz.isAgg158
 z75:=Tryz.sizeOf158
 v75:=Tryz.zeroValue158
 t76:=Tryz.underlying159
 a76:=Tryz.isAgg159
 z76:=Tryz.sizeOf159
 v76:=Tryz.zeroValue159
 t127:=Tryz.underlying216
 a127:=Tryz.isAgg216
 z127:=Tryz.sizeOf216
 v127:=Tryz.zeroValue216
 t164:=Tryz.underlying265
 a164:=Tryz.isAgg265
 z164:=Tryz.sizeOf265
 v164:=Tryz.zeroValue265 }
theorem Tryz.vI:Builder.Extra Tryz.prog Tryz.yC:={
 sizeBuilder:=by kernel_rfl
 liesBuilder:=by kernel_rfl
 t5:=Tryz.underlying5
 a5:=Tryz.isAgg5
 z5:=Tryz.sizeOf5
 v5:=Tryz.zeroValue5
 infoByte:=by kernel_rfl
 cellsByte:=by kernel_rfl
 sizeByte:=by kernel_rfl
 neB5:=by decide }
theorem Tryz.strings_Join (bk o c:Nat) (xs:List ByteArray) (sep:ByteArray) (w:World) (hcells:∀ (j:Nat) x,xs[j]? = some x->w.cell? (aD bk (o+j))=some (.string x)) (hbk:bk<w.heap.size) (hN:xs.length<=140737488355328) (hcap:xs.length<=c) (hlen:(Lib.join (xs.map (·.data.toList)) sep.data.toList).length<=140737488355328) :
  Calls Tryz.prog 51 #[.slice (some (aD bk o)) xs.length c,.string sep] w fun e w'=>e=.returned (.string ⟨(Lib.join (xs.map (·.data.toList)) sep.data.toList).toArray⟩)/\Below w.heap.size w w':=Any.strings_Join Tryz.aaL Tryz.vI bk o c xs sep w hcells hbk hN hcap hlen
def Tryz.Iz:Go.Shelf.Ren:=⟨fun | 172=>83 | 244=>135 | 245=>136 | 247=>189 | 279=>190 | 280=>191 | 281=>192 | 282=>193 | 287=>235 | 316=>236 | 171=>50 | 205=>237 | 321=>260 | 322=>261 | 243=>89 | 246=>141 | 283=>196 | 284=>197 | 285=>198 | 286=>199 | 129=>239 | 317=>238 | 318=>240 | 319=>241 | 320=>242 | 337=>262 | 338=>263 | n=>n,fun | 9=>9 | 3=>3 | 75=>158 | 76=>159 | 4=>4 | 5=>5 | 167=>253 | 37=>167 | 0=>0 | 85=>254 | 2=>2 | 168=>256 | 53=>42 | 175=>297 | 46=>89 | 210=>301 | 127=>216 | 145=>324 | 143=>322 | 21=>21 | 171=>260 | 173=>263 | 212=>303 | 51=>304 | 20=>20 | 213=>305 | 232=>330 | 233=>331 | 80=>40 | n=>n,fun | 15=>2 | 16=>3 | 17=>4 | 18=>5 | 19=>6 | n=>n⟩
theorem Tryz.aaM:Go.Proofs.Lays.n172 Tryz.prog Tryz.Iz:={
 mixed:=by kernel_rfl
 f129:=Tryz.func239.trans (congrArg some (by kernel_rfl))
 f171:=Tryz.func50.trans (congrArg some (by kernel_rfl))
 f172:=Tryz.func83.trans (congrArg some (by kernel_rfl))
 f205:=Tryz.func237.trans (congrArg some (by kernel_rfl))
 f243:=Tryz.func89.trans (congrArg some (by kernel_rfl))
 f244:=Tryz.func135.trans (congrArg some (by kernel_rfl))
 f245:=Tryz.func136.trans (congrArg some (by kernel_rfl))
 f246:=Tryz.func141.trans (congrArg some (by kernel_rfl))
 f247:=Tryz.func189.trans (congrArg some (by kernel_rfl))
 f279:=Tryz.func190.trans (congrArg some (by kernel_rfl))
 f280:=Tryz.func191.trans (congrArg some (by kernel_rfl))
 f281:=Tryz.func192.trans (congrArg some (by kernel_rfl))
 f282:=Tryz.func193.trans (congrArg some (by kernel_rfl))
 f283:=Tryz.func196.trans (congrArg some (by kernel_rfl))
 f284:=Tryz.func197.trans (congrArg some (by kernel_rfl))
 f285:=Tryz.func198.trans (congrArg some (by kernel_rfl))
 f286:=Tryz.func199.trans (congrArg some (by kernel_rfl))
 f287:=Tryz.func235.trans (congrArg some (by kernel_rfl))
 f316:=Tryz.func236.trans (congrArg some (by kernel_rfl))
 f317:=Tryz.func238.trans (congrArg some (by kernel_rfl))
 f318:=Tryz.func240.trans (congrArg some (by kernel_rfl))
 f319:=Tryz.func241.trans (congrArg some (by kernel_rfl))
 f320:=Tryz.func242.trans (congrArg some (by kernel_rfl))
 f321:=Tryz.func260.trans (congrArg some (by kernel_rfl))
 f322:=Tryz.func261.trans (congrArg some (by kernel_rfl))
 f337:=Tryz.func262.trans (congrArg some (by kernel_rfl))
 f338:=Tryz.func263.trans (congrArg some (by kernel_rfl))
 t0:=Tryz.underlying0
 a0:=Tryz.isAgg0
 z0:=Tryz.sizeOf0
 v0:=Tryz.zeroValue0
 t2:=Tryz.underlying2
 a2:=Tryz.isAgg2
 z2:=Tryz.sizeOf2
 v2:=Tryz.zeroValue2
 t3:=Tryz.underlying3
 a3:=Tryz.isAgg3
 z3:=Tryz.sizeOf3
 v3:=Tryz.zeroValue3
 t4:=Tryz.underlying4
 a4:=Tryz.isAgg4
 z4:=Tryz.sizeOf4
 v4:=Tryz.zeroValue4
 t5:=Tryz.underlying5
 a5:=Tryz.isAgg5
 z5:=Tryz.sizeOf5
 v5:=Tryz.zeroValue5
 t9:=Tryz.underlying9
 a9:=Tryz.isAgg9
 z9:=Tryz.sizeOf9
 v9:=Tryz.zeroValue9
 t20:=Tryz.underlying20
 a20:=Tryz.isAgg20
 z20:=Tryz.sizeOf20
 v20:=Tryz.zeroValue20
 t21:=Tryz.underlying21
 a21:=Tryz.isAgg21
 z21:=Tryz.sizeOf21
 v21:=Tryz.zeroValue21
 t37:=Tryz.underlying167
 a37:=Tryz.isAgg167
 z37:=Tryz.sizeOf167
 v37:=Tryz.zeroValue167
 t46:=Tryz.underlying89
 a46:=Tryz.isAgg89
 z46:=Tryz.sizeOf89
 v46:=Tryz.zeroValue89
 t51:=Tryz.underlying304
 a51:=Tryz.isAgg304
 z51:=Tryz.sizeOf304
 v51:=Tryz.zeroValue304
 t53:=Tryz.underlying42
 a53:=Tryz.isAgg42
 z53:=Tryz.sizeOf42
 v53:=Tryz.zeroValue42
 t75:=Tryz.underlying158
 a75:=Tryz.isAgg158
 z75:=Tryz.sizeOf158
 v75:=Tryz.zeroValue158
 t76:=Tryz.underlying159
 a76:=Tryz.isAgg159
 z76:=Tryz.sizeOf159
 v76:=Tryz.zeroValue159
 t85:=Tryz.underlying254
 a85:=Tryz.isAgg254
 z85:=Tryz.sizeOf254
 v85:=Tryz.zeroValue254
 t127:=Tryz.underlying216
 a127:=Tryz.isAgg216
 z127:=Tryz.sizeOf216
 v127:=Tryz.zeroValue216
 t143:=Tryz.underlying322
 a143:=Tryz.isAgg322
 z143:=Tryz.sizeOf322
 v143:=Tryz.zeroValue322
 t145:=Tryz.underlying324
 a145:=Tryz.isAgg324
 z145:=Tryz.sizeOf324
 v145:=Tryz.zeroValue324
 t167:=Tryz.underlying253
 a167:=Tryz.isAgg253
 z167:=Tryz.sizeOf253
 v167:=Tryz.zeroValue253
 t168:=Tryz.underlying256
 a168:=Tryz.isAgg256
 z168:=Tryz.sizeOf256
 v168:=Tryz.zeroValue256
 t171:=Tryz.underlying260
 a171:=Tryz.isAgg260
 z171:=Tryz.sizeOf260
 v171:=Tryz.zeroValue260
 t173:=Tryz.underlying263
 a173:=Tryz.isAgg263
 z173:=Tryz.sizeOf263
 v173:=Tryz.zeroValue263
 t175:=Tryz.underlying297
 a175:=Tryz.isAgg297
 z175:=Tryz.sizeOf297
 v175:=Tryz.zeroValue297
 t210:=Tryz.underlying301
 a210:=Tryz.isAgg301
 z210:=Tryz.sizeOf301
 v210:=Tryz.zeroValue301
 t212:=Tryz.underlying303
 a212:=Tryz.isAgg303
 z212:=Tryz.sizeOf303
 v212:=Tryz.zeroValue303
 t213:=Tryz.underlying305
 a213:=Tryz.isAgg305
 z213:=Tryz.sizeOf305
 t232:=Tryz.underlying330
 a232:=Tryz.isAgg330
 z232:=Tryz.sizeOf330
 v232:=Tryz.zeroValue330
 t233:=Tryz.underlying331
 a233:=Tryz.isAgg331
 z233:=Tryz.sizeOf331
 v233:=Tryz.zeroValue331
 g15:=by kernel_rfl
 g16:=by kernel_rfl
 g17:=by kernel_rfl
 g18:=by kernel_rfl
 g19:=by kernel_rfl }
theorem Tryz.strconv_Atoi (s:ByteArray) (n:Int) (hl:s.size<=18) (h:Lib.atoi s.data.toList=some n) (w:World) :
  Calls Tryz.prog 83 #[.string s] w fun e w'=>e=.returned (.tuple #[.int .i64 n,.nilIface])/\∃ t,w' = Lib.bytesWorld w 5 t:=Any.strconv_Atoi Tryz.aaM s n hl h w
def Tryz.EU:Go.Shelf.Ren:=⟨fun | 171=>50 | 243=>89 | 246=>141 | 283=>196 | 284=>197 | 285=>198 | 286=>199 | 129=>239 | 317=>238 | 318=>240 | 319=>241 | 320=>242 | 337=>262 | 338=>263 | n=>n,fun | 3=>3 | 9=>9 | 2=>2 | 4=>4 | 171=>260 | 0=>0 | 53=>42 | 37=>167 | 5=>5 | 173=>263 | 212=>303 | 51=>304 | 20=>20 | 213=>305 | 46=>89 | 232=>330 | 233=>331 | n=>n,fun | 17=>4 | 18=>5 | 19=>6 | n=>n⟩
theorem Tryz.Vo:Go.Proofs.LaysM.n171 Tryz.prog Tryz.EU:={
 mixed:=by kernel_rfl
 f129:=Tryz.func239.trans (congrArg some (by kernel_rfl))
 f171:=Tryz.func50.trans (congrArg some (by kernel_rfl))
 f243:=Tryz.func89.trans (congrArg some (by kernel_rfl))
 f246:=Tryz.func141.trans (congrArg some (by kernel_rfl))
 f283:=Tryz.func196.trans (congrArg some (by kernel_rfl))
 f284:=Tryz.func197.trans (congrArg some (by kernel_rfl))
 f285:=Tryz.func198.trans (congrArg some (by kernel_rfl))
 f286:=Tryz.func199.trans (congrArg some (by kernel_rfl))
 f317:=Tryz.func238.trans (congrArg some (by kernel_rfl))
 f318:=Tryz.func240.trans (congrArg some (by kernel_rfl))
 f319:=Tryz.func241.trans (congrArg some (by kernel_rfl))
 f320:=Tryz.func242.trans (congrArg some (by kernel_rfl))
 f337:=Tryz.func262.trans (congrArg some (by kernel_rfl))
 f338:=Tryz.func263.trans (congrArg some (by kernel_rfl))
 t0:=Tryz.underlying0
 a0:=Tryz.isAgg0
 z0:=Tryz.sizeOf0
 v0:=Tryz.zeroValue0
 t2:=Tryz.underlying2
 a2:=Tryz.isAgg2
 z2:=Tryz.sizeOf2
 v2:=Tryz.zeroValue2
 t3:=Tryz.underlying3
 a3:=Tryz.isAgg3
 z3:=Tryz.sizeOf3
 v3:=Tryz.zeroValue3
 t4:=Tryz.underlying4
 a4:=Tryz.isAgg4
 z4:=Tryz.sizeOf4
 v4:=Tryz.zeroValue4
 t5:=Tryz.underlying5
 a5:=Tryz.isAgg5
 z5:=Tryz.sizeOf5
 v5:=Tryz.zeroValue5
 t9:=Tryz.underlying9
 a9:=Tryz.isAgg9
 z9:=Tryz.sizeOf9
 v9:=Tryz.zeroValue9
 t20:=Tryz.underlying20
 a20:=Tryz.isAgg20
 z20:=Tryz.sizeOf20
 v20:=Tryz.zeroValue20
 t37:=Tryz.underlying167
 a37:=Tryz.isAgg167
 z37:=Tryz.sizeOf167
 v37:=Tryz.zeroValue167
 t46:=Tryz.underlying89
 a46:=Tryz.isAgg89
 z46:=Tryz.sizeOf89
 v46:=Tryz.zeroValue89
 t51:=Tryz.underlying304
 a51:=Tryz.isAgg304
 z51:=Tryz.sizeOf304
 v51:=Tryz.zeroValue304
 t53:=Tryz.underlying42
 a53:=Tryz.isAgg42
 z53:=Tryz.sizeOf42
 v53:=Tryz.zeroValue42
 t171:=Tryz.underlying260
 a171:=Tryz.isAgg260
 z171:=Tryz.sizeOf260
 v171:=Tryz.zeroValue260
 t173:=Tryz.underlying263
 a173:=Tryz.isAgg263
 z173:=Tryz.sizeOf263
 v173:=Tryz.zeroValue263
 t212:=Tryz.underlying303
 a212:=Tryz.isAgg303
 z212:=Tryz.sizeOf303
 v212:=Tryz.zeroValue303
 t213:=Tryz.underlying305
 a213:=Tryz.isAgg305
 z213:=Tryz.sizeOf305
 t232:=Tryz.underlying330
 a232:=Tryz.isAgg330
 z232:=Tryz.sizeOf330
 v232:=Tryz.zeroValue330
 t233:=Tryz.underlying331
 a233:=Tryz.isAgg331
 z233:=Tryz.sizeOf331
 v233:=Tryz.zeroValue331
 g17:=by kernel_rfl
 g18:=by kernel_rfl
 g19:=by kernel_rfl
 i0:=by kernel_rfl
 i2:=by kernel_rfl
 i3:=by kernel_rfl
 i4:=by kernel_rfl
 i5:=by kernel_rfl
 i9:=by kernel_rfl
 i20:=by kernel_rfl
 i37:=by kernel_rfl
 i46:=by kernel_rfl
 i51:=by kernel_rfl
 i53:=by kernel_rfl
 i171:=by kernel_rfl
 i173:=by kernel_rfl
 i212:=by kernel_rfl
 i232:=by kernel_rfl
 i233:=by kernel_rfl
 m17:=by kernel_rfl
 m18:=by kernel_rfl
 m19:=by kernel_rfl }
open Go.RowKit Go.Sort Go.Lib in
def Tryz.IA:Go.Shelf.Ren:=⟨fun | 145=>79 | 220=>132 | 219=>188 | 217=>231 | 225=>232 | 224=>233 | 267=>234 | 266=>258 | 314=>259 | n=>n,fun | 9=>9 | 4=>4 | 59=>153 | 3=>3 | 5=>5 | 46=>89 | 146=>318 | 51=>304 | n=>n,fun | 1=>1 | n=>n⟩
theorem Tryz.aaN:Go.Proofs.Lays.n145 Tryz.prog Tryz.IA:={
 mixed:=by kernel_rfl
 f145:=Tryz.func79.trans (congrArg some (by kernel_rfl))
 f217:=Tryz.func231.trans (congrArg some (by kernel_rfl))
 f219:=Tryz.func188.trans (congrArg some (by kernel_rfl))
 f220:=Tryz.func132.trans (congrArg some (by kernel_rfl))
 f224:=Tryz.func233.trans (congrArg some (by kernel_rfl))
 f225:=Tryz.func232.trans (congrArg some (by kernel_rfl))
 f266:=Tryz.func258.trans (congrArg some (by kernel_rfl))
 f267:=Tryz.func234.trans (congrArg some (by kernel_rfl))
 f314:=Tryz.func259.trans (congrArg some (by kernel_rfl))
 t3:=Tryz.underlying3
 a3:=Tryz.isAgg3
 z3:=Tryz.sizeOf3
 v3:=Tryz.zeroValue3
 t4:=Tryz.underlying4
 a4:=Tryz.isAgg4
 z4:=Tryz.sizeOf4
 v4:=Tryz.zeroValue4
 t5:=Tryz.underlying5
 a5:=Tryz.isAgg5
 z5:=Tryz.sizeOf5
 v5:=Tryz.zeroValue5
 t9:=Tryz.underlying9
 a9:=Tryz.isAgg9
 z9:=Tryz.sizeOf9
 v9:=Tryz.zeroValue9
 t46:=Tryz.underlying89
 a46:=Tryz.isAgg89
 z46:=Tryz.sizeOf89
 v46:=Tryz.zeroValue89
 t51:=Tryz.underlying304
 a51:=Tryz.isAgg304
 z51:=Tryz.sizeOf304
 v51:=Tryz.zeroValue304
 t59:=Tryz.underlying153
 a59:=Tryz.isAgg153
 z59:=Tryz.sizeOf153
 v59:=Tryz.zeroValue153
 t146:=Tryz.underlying318
 a146:=Tryz.isAgg318
 z146:=Tryz.sizeOf318
 v146:=Tryz.zeroValue318
 g1:=by kernel_rfl }
open Go.RowKit Go.Lib in
theorem Tryz.strings_Cut (s sep:ByteArray) (m:Int) (w:World) (hs:s.size<4294967281) (hm:w.cell? (aD 1 0)=some (.int .i64 m)) :
  Calls Tryz.prog 79 #[.string s,.string sep] w fun e w'=>e=.returned (.tuple #[.string ⟨(Lib.cut s.data.toList sep.data.toList).1.toArray⟩,.string ⟨(Lib.cut s.data.toList sep.data.toList).2.1.toArray⟩,.bool (Lib.cut s.data.toList sep.data.toList).2.2])/\∃ n,w' = w.drewN n:=Any.strings_Cut Tryz.aaN s sep m w hs hm
section
open Go.Lib
def jY (n:Int):ByteArray:=⟨(itoa n).toArray⟩
def kV:ByteArray:=⟨#[115,99,111,117,116]⟩
theorem xJ {ns:List Int} (h:∀ n∈ns,n.natAbs<100000000000000000):(fH ns).length<=5+19*ns.length:=by
 have key:∀ ns:List Int,(∀ n∈ns,n.natAbs<100000000000000000)->(ns.flatMap fun m=>32::itoa m).length<=19*ns.length:=fun ns=>by
  induction ns with
  | nil => intro _; simp
  | cons n ns ih =>
   intro h;have h1:=ih fun m hm=>h m (by simp[hm])
   have h2:=zN (h n (by simp));rw[QA,QT,Q5,Q5];omega
 have:=key ns h;unfold fH;rw[QT];simp only[Q5,Zk];omega
theorem AP (ns:List Int):join ((kV::ns.map jY).map (·.data.toList)) [32]=fH ns:=by
 rw[<- PS,List.map_cons,List.map_map];rfl
def qZ (W:World):Prop:=∀ x,Below W.heap.size W x->∀ n:Int,n.natAbs<100000000000000000->Calls Tryz.prog 50 #[.int .i64 n] x fun e w'=>e=.returned (.string (jY n))/\Below x.heap.size x w'
theorem qZ.below {W w:World} (h:qZ W) (hb:Below W.heap.size W w):qZ w:=fun x hx=>h x (aG hb hx)
theorem Tryz.aa1:(Tryz.prog.info? 9).map (fun i=>(i.zero,i.size,i.bytes))=some (some (.string ⟨#[]⟩),1,16):=by kernel_rfl
theorem VA (W:World) (base:Nat) (v:Value) (xs:List ByteArray) (hown:W.ownsRow base 9 1 v xs.length (xs.map Value.string)) (hl:xs.length<=1000) (hb:base<=W.heap.size) (a:ByteArray) (ty:TypeId) :
  ∃ v' w',(Builtin.append_ #[112,112] ty #[v,.slice (some (aD W.heap.size 0)) 1 1]).run Tryz.prog (W.alloc (.cells #[.string a] 9))=.ok v' w'/\
   w'.ownsRow base 9 1 v' (xs++[a]).length ((xs++[a]).map Value.string)/\Kept (fun b=>v.ownBlock≠some b) W w'/\(∃ a m c,v' = .slice a m c):=by
 obtain⟨i0,hi,hz0,hz1,hz2⟩:=ZC Tryz.aa1;obtain⟨v',w',hr,ho,hk,hs,_⟩:=ZV (P:=Tryz.prog) W base 112 ty 9 i0 _ 1 16 Tryz.underlying112 hi hz0 hz1 hz2 rfl (by decide) v xs.length _ hown hb [.string a] rfl (fun u hu=>by
  rw[QY] at hu;rw[hu];rfl) hl (by decide)
 exact⟨v',w',hr,by rw[QT,Ql]; exact ho,hk,hs⟩
theorem VB (v0 v1 v2 v3 v4 v5 v6 v7 v8 v9 v10:Value) (ns:List Int) (w:World) (hI:qZ w)
  (hN:∀ x,Below w.heap.size w x->Calls Tryz.prog 49 #[.agg #[v0,v1,v2,v3,v4,v5,v6,v7,v8,v9,v10]] x (dH x ns))
  (hl:ns.length<=900) (hs:∀ n∈ns,n.natAbs<100000000000000000) :
  Calls Tryz.prog 25 #[.agg #[v0,v1,v2,v3,v4,v5,v6,v7,v8,v9,v10]] w fun e w'=>e=.returned (.string ⟨(fH ns).toArray⟩)/\Below w.heap.size w w':=by
 obtain⟨w1,hw1,hb1,hg1⟩:=bu w #[v0,v1,v2,v3,v4,v5,v6,v7,v8,v9,v10] 66;obtain⟨w2,hw2,hb2,hg2⟩:=bu w1 #[.string kV] 9;have sD:=hg1.keep (Q9 (s:=fun b=>b<w1.heap.size) hb2 (fun _ h _=>h)) hg1.lt;have c0:=sD.at 0;have c1:=sD.at 1;have c2:=sD.at 2;have c3:=sD.at 3;have c4:=sD.at 4;have c5:=sD.at 5;have c6:=sD.at 6;have c7:=sD.at 7;have c8:=sD.at 8;have c9:=sD.at 9;have c10:=sD.at 10;have HB2:=Zh (aG hb1 hb2);have hcall:=hN w2 HB2.out;have HOW:Hid (w2.ownsRow w.heap.size 9 1 (.slice (some (aD w1.heap.size 0)) 1 1) 1 ([kV].map Value.string)):=by
  refine⟨by simp,.inr ⟨w1.heap.size,1,_,rfl,hb1.size,hg2,Qq _,by unfold maxLen; omega,by simp,by simp⟩⟩
 have HIT:=Zh hI;have YP:=Zh hs;have HTL:=Zh (xJ hs);have HTT:Hid (∀ W:World,(Value.string kV)=.string ⟨#[115,99,111,117,116]⟩):=fun _=>rfl
 unfold kV at hw2;clear hI hN hs hg1 hg2 sD hb1 hb2;go_enter Tryz.func25,Tryz.ntmps25;go_wp2_with fail;refine hcall.mono ?_;rintro e w3 ⟨v,rfl,ho,hb3⟩;obtain⟨na,nn,nc,rfl⟩:=ZA ho;obtain⟨iv,e1,e2,hv,_,_,_⟩:=fO ho (by omega);have HW3:=Zh (Z0 HOW.out hb3);have HB3:=Zh (aG HB2.out hb3);obtain⟨ia,ic,ix⟩:=iv;simp only[ah.val] at e1 e2 hv;subst e2;injection e1 with e1 e3 e4;subst e1;subst e3;subst e4;have HIX:Hid (w3.ownsRow w.heap.size 3 1 (.slice na ix.length nc) ix.length (ix.map (Value.int .i64))):=Z5 ho HB2.out.size;clear hcall ho hb3 hv HOW hw1 hw2 c0 c1 c2 c3 c4 c5 c6 c7 c8 c9 c10;go_wp2;go_loopw [3,10] (fun v i wr=>∃ k:Nat,k<=ix.length/\i=.int .i64 k/\Hid (wr.ownsRow w.heap.size 9 1 v (kV::(ix.take k).map jY).length ((kV::(ix.take k).map jY).map Value.string))/\Hid (Below w.heap.size w wr/\wr.ownsRow w.heap.size 3 1 (.slice na ix.length nc) ix.length (ix.map (Value.int .i64)))) (fun _ i _=>ix.length-(RowKit.intOf i).toNat)
 case atStart=>exact⟨0,QQ _,rfl,HW3.out,HB3.out,HIX.out⟩
 case round=>
  obtain⟨k,hk,rfl,HO,HB⟩:=hrel;obtain⟨va,vm,vc,rfl⟩:=ZA HO.out;by_cases hlt:k<ix.length
  ·obtain⟨b,off,rfl,f0⟩:∃ b off,na=some (aD b off)/\wr.cell? (aD b (off+k))=some (.int .i64 (ix.getD k 0)):=by
    obtain⟨iv,e1,e2,hv,_⟩:=fO HB.out.2 (by omega);obtain⟨b,off,e3,hc⟩:=au.get hv (i:=k) (by rw[e2]; exact hlt);have hck:=hc k (by rw[e2]; exact hlt);rw[e2] at hck;refine⟨b,off,?_,hck⟩;rw[<- e3];injection e1
   have yl:Hid ((ix.take (k+1)).map jY=(ix.take k).map jY++[jY (ix.getD k 0)]):=by show _=_; rw[Qk hlt,Ql]; simp[List.getD,hlt]
   have hit:=HIT.out wr HB.out.1 (ix.getD k 0) (YP.out _ (by simp[List.getD,hlt]));have HLK:Hid ((kV::(ix.take k).map jY).length<=1000):=by show _<=_; simp; omega
   generalize ix.getD k 0=n at *;go_wp2_with fail;refine hit.mono ?_;rintro e w4 ⟨rfl,hb4⟩;have jE:Hid (Below w.heap.size w w4/\w4.ownsRow w.heap.size 3 1 (.slice (some (aD b off)) ix.length nc) ix.length (ix.map (Value.int .i64))):=⟨aG HB.out.1 hb4,Z0 HB.out.2 hb4⟩
   obtain⟨v5,w5,pO,lD,hk5,YQ,YR,YS,rfl⟩:=VA w4 w.heap.size (.slice va vm vc) _ (Z0 HO.out hb4) HLK.out jE.out.1.size (jY n) 112;have qw:=Zh lD;have HK5:Hid (Below w.heap.size w w5/\w5.ownsRow w.heap.size 3 1 (.slice (some (aD b off)) ix.length nc) ix.length (ix.map (Value.int .i64))):=by
    refine⟨jE.out.1.trans (hk5.below jE.out.1.size fun c hc e=>by have:=(Zy HO.out e).1; omega),Zx jE.out.2 hk5 fun g eg=>?_⟩;obtain⟨cur,aaG⟩:=iJ jE.out.2 eg;exact XR (Z0 HO.out hb4) (show GB w4 g _ cur from aaG) (by decide)
   clear hit hb4 lD hk5 f0;go_wp2_with (first | (at_builtin; refine ZN rfl (.tmp 14) (.tmp 17) 112 rfl (.slice va vm vc) (.slice (some (aD w4.heap.size 0)) 1 1) (.slice YQ YR YS) w5 rfl rfl pO ?_));go_roundw
   case rel=>exact⟨k+1,by omega,by go_num,by show World.ownsRow _ _ _ _ _ _ _; rw[yl.out]; exact qw.out,HK5.out⟩
   case measure=>simp[RowKit.intOf]; omega
  ·obtain rfl:k=ix.length:=by omega
   rw[Qt] at HO;have HJ:Hid (Calls Tryz.prog 51 #[.slice va vm vc,.string ⟨#[32]⟩] wr fun e w'=>e=.returned (.string ⟨(fH ix).toArray⟩)/\Below wr.heap.size wr w'):=by
    rcases HO.out.2 with⟨_,h0⟩ | ⟨g,cap,cur,e,hb,hh,hc,_,_,ht⟩
    ·simp at h0
    ·injection e with e1 e2 e3;subst e1;subst e2;subst e3;have hj:=Tryz.strings_Join g 0 vc (kV::ix.map jY) ⟨#[32]⟩ wr (fun j x hj=>?_) (Zy HO.out rfl).2 (by simp; omega) hc (by
      have e:(Lib.join ((kV::ix.map jY).map (·.data.toList)) [32]).length=(fH ix).length:=congrArg List.length (AP ix)
      show (Lib.join ((kV::ix.map jY).map (·.data.toList)) [32]).length<=_
      rw[e];have:=HTL.out;omega)
     ·refine hj.mono ?_;rintro e w' ⟨rfl,hb'⟩;refine⟨?_,hb'⟩;rw[<- AP]
     ·have hj2:((kV::ix.map jY).map Value.string)[j]? = some (.string x):=by rw[QW,hj]; rfl
      rw[<- ht,ZH] at hj2;split at hj2
      ·rw[QE,QG (show GB wr g _ cur from hh)]
       simpa using hj2
      ·cases hj2
   have hj:=HJ.out;go_wp2_with fail;refine hj.mono ?_;rintro e w6 ⟨rfl,hb6⟩;have yE:=Zh (aG HB.out.1 hb6);clear hj hb6;go_wp2;go_ret;exact⟨rfl,yE.out⟩
end
theorem IQ {n:Nat} {p:Int} (h0:0<=p) (h1:p<n):ek n p=p:=by
 unfold ek;rw[Xg h0,Int.emod_eq_of_lt h0 h1,Xg (by omega),Int.add_emod_right,Int.emod_eq_of_lt h0 h1]
theorem Dt {n:Nat} (h:0<n) (pick:Int):0<=ek n pick/\ek n pick<n:=by
 unfold ek;have hn:(0:Int)<n:=by omega
 have h1:-(n:Int)<pick.tmod n:=by
  have:=Int.tmod_lt_of_pos (-pick) hn;rw[Int.neg_tmod] at this;omega
 have h2:pick.tmod n<n:=Int.tmod_lt_of_pos pick hn;rw[Xg (by omega)];exact⟨Int.emod_nonneg _ (by omega),Int.emod_lt_of_pos _ hn⟩
theorem IU (rk:Nat->Int) (ts:List af) (q:ae) (s:Nat) (l:List aW) (σ:fe):(eH rk ts q s l σ).picks=σ.picks:=by
 unfold eH;split <;> rfl
theorem q9 (rk:Nat->Int) (ts:List af) (q:ae) (conc:List Nat) (pick:Int) (σ:fe):(fP rk ts q conc pick σ).picks=σ.picks++[ek σ.ak.length pick]:=by
 have hs:∀ τ:fe,(lG τ).picks=τ.picks:=fun τ=>by unfold lG; split <;> rfl
 have hd:∀ (t:bg) (τ:fe),(sW rk ts q conc t τ).picks=τ.picks:=fun t τ=>by unfold sW; split <;> exact IU ..
 unfold fP;simp only[hs,hd]
theorem IV {rk:Nat->Int} {ts:List af} {q:ae} {conc:List Nat} {pick:Int} {σ:fe} (h:0<σ.ak.length):fP rk ts q conc (ek σ.ak.length pick) σ=fP rk ts q conc pick σ:=by
 obtain⟨h0,h1⟩:=Dt h pick;unfold fP;rw[IQ h0 h1]
theorem replay {rk:Nat->Int} {ts:List af} {q:ae} {conc:List Nat} (hcn:conc.length=q.wh.length) (h5:q.src.xs.length<=5) (picks:List Int) {σ:fe} (hok:E5 q σ) (hp:σ.picks=[]) :
  ∀ (d:Nat) (L:List Int),(runN rk ts q conc picks d 0 σ).picks <+: L->runN rk ts q conc L (runN rk ts q conc picks d 0 σ).picks.length 0 σ=runN rk ts q conc picks d 0 σ
 | 0,L,_ => by
  show runN rk ts q conc L σ.picks.length 0 σ=σ
  rw[hp];rfl
 | d+1,L,hL => by
  rw[jD] at hL ⊢;by_cases hs:(runN rk ts q conc picks d 0 σ).status=1
  ·rw[Qr hs] at hL ⊢;have hO:=(mW (rk:=rk) (ts:=ts) hcn h5 picks hok d).1;have ha:=hO.stat hs;generalize fG picks (0+d)=pk at hL ⊢;rw[q9] at hL;have hL':=(List.prefix_append _ _).trans hL;have ih:=replay hcn h5 picks hok hp d L hL';rw[q9,QT,XU,jD,ih,Qr hs];have hk:(runN rk ts q conc picks d 0 σ).picks.length<L.length:=by
    have:=hL.length_le;rw[QT,XU] at this;omega
   have hg:fG L (0+(runN rk ts q conc picks d 0 σ).picks.length)=ek (runN rk ts q conc picks d 0 σ).ak.length pk:=by
    unfold fG;rw[Qs (by omega),QE,Nat.mod_eq_of_lt hk];obtain⟨r,hr⟩:=hL;rw[<- hr];simp[List.getD]
   rw[hg,IV ha]
  ·rw[Qs hs] at hL ⊢;exact replay hcn h5 picks hok hp d L hL
def SmL (xs:List Int):Prop:=xs.length<=4/\∀ x∈xs,x.natAbs<=1000000
structure Dx (ts:List af) (q:ae):Prop where
 tabs:ts.length<=3/\∀ t∈ts,qy t t.aH.toNat
 src:SmL q.src.xs
 wh:q.wh.length<=4
 cl:∀ i,i<q.wh.length->(q.wh.getD i lz).cs.length<=3/\∀ c∈(q.wh.getD i lz).cs,c.op.natAbs<=1000000/\c.left.natAbs<=1000000/\c.right.natAbs<=1000000
 keys:SmL q.keys.xs
 sums:SmL q.sums.xs
 aQ:SmL q.aQ.xs
 ord:SmL q.ord.xs
theorem jl {xs:List Int} {n:Int} (h:bG xs n=true) (hn:n<=1000) (hl:xs.length<=4):SmL xs:=⟨hl,fun x hx=>by
 have:=Qn.1 h x hx;simp only[Qm,Qx] at this;omega⟩
theorem xO {xs:List Int} (h:xs=[]):SmL xs:=by
 subst h;exact⟨by simp,fun x h=>by cases h⟩
theorem VU {ts:List af} {q:ae} {db:List cO} (h:CaseOk ts q db):Dx ts q:=by
 have jM:=ry h.tabs.1 h.tabs.2.1 h.tabs.2.2;have hs:=h.VL.src;have hw:=h.VL.wh;have hwd:=(AU jM hs.1 hs.2.1 (by omega)).2;have ht:=h.tabs.2.1;have hcl:∀ i,i<q.wh.length->(q.wh.getD i lz).cs.length<=3/\∀ c∈(q.wh.getD i lz).cs,c.op.natAbs<=1000000/\c.left.natAbs<=1000000/\c.right.natAbs<=1000000:=fun i hi=>by
  have hm:q.wh.getD i lz∈q.wh:=by simp[List.getD,hi]
  have hc:=hw.2 _ hm;refine⟨hc.2.1,fun c hcm=>?_⟩;have hb:=hc.2.2 c hcm;unfold dO at hb;simp only[Qm,Qx] at hb;obtain⟨⟨⟨⟨a1,a2⟩,a3⟩,a4⟩,a5⟩:=hb;refine⟨by omega,by omega,?_⟩;split at a5
  ·simp only[Qm,Qx] at a5;omega
  ·split at a5 <;> (simp only[Qm,Qx] at a5; omega)
 rcases h.VL.out with⟨g,l0,k1,k2,k3,s1,s2,o1,o2,o3⟩ | ⟨g,k0,s0,l1,l2,l3,o1,o2,o3⟩
 ·exact⟨h.tabs.2,jl hs.1 (by omega) hs.2.2,hw.1,hcl,jl k2 (by omega) (by omega),jl s2 (by omega) (by omega),xO l0,jl o2 (by omega) (by omega)⟩
 ·exact⟨h.tabs.2,jl hs.1 (by omega) hs.2.2,hw.1,hcl,xO k0,xO s0,jl l3 (by omega) (by omega),jl o2 (by omega) (by omega)⟩
theorem Dx.same {ts:List af} {q p:ae} (h:Dx ts q) (hs:aL q p):Dx ts p:=by
 refine⟨h.tabs,by rw[hs.src]; exact h.src,by rw[hs.len]; exact h.wh,fun i hi=>?_,by rw[hs.keys]; exact h.keys,by rw[hs.sums]; exact h.sums,by rw[hs.aQ]; exact h.aQ,by rw[hs.ord]; exact h.ord⟩;rw[hs.cs i hi];exact h.cl i (by rw[<- hs.len]; exact hi)
theorem aL.whN {q p:ae} (h:aL q p):aM dD p.wh=aM dD q.wh:=by
 have e:p.wh.map dD=q.wh.map dD:=by
  refine List.ext_getElem (by simp[h.len]) fun i h1 h2=>?_
  have hi:i<p.wh.length:=by simpa using h1
  have hj:i<q.wh.length:=by simpa using h2
  have:=h.cs i hi;simp only[List.getD,ZG hi,ZG hj,Option.getD_some] at this;rw[List.getElem_map,List.getElem_map];unfold dD;rw[this]
 unfold aM;rw[h.len,List.flatMap_def,e,<- List.flatMap_def]
theorem aL.num {q p:ae} (h:aL q p):df p=df q:=by
 unfold df;rw[h.whN,h.src,h.group,h.keys,h.sums,h.aQ,h.ord]
theorem aL.VV {q p:ae} (h:aL q p) (ts:List af) (cap:Int) (picks:List Int) (st:Int):bS ts p cap picks st=bS ts q cap picks st:=by
 unfold bS;rw[h.num]
theorem aL.trans {q p r:ae} (h:aL q p) (k:aL p r):aL q r:=
 ⟨k.src.trans h.src,k.len.trans h.len,fun i hi=>(k.cs i hi).trans (h.cs i (by rw[<- k.len]; exact hi)),k.group.trans h.group,k.keys.trans h.keys,k.sums.trans h.sums,k.aQ.trans h.aQ,k.ord.trans h.ord⟩
theorem aL.symm {q p:ae} (h:aL q p):aL p q:=
 ⟨h.src.symm,h.len.symm,fun i hi=>(h.cs i (by rw[h.len]; exact hi)).symm,h.group.symm,h.keys.symm,h.sums.symm,h.aQ.symm,h.ord.symm⟩
def iK (k:Nat) (ns:List Int):Prop:=ns.length<=k/\∀ n∈ns,n.natAbs<=1000000
theorem iK.app {j k:Nat} {a b:List Int} (ha:iK j a) (hb:iK k b):iK (j+k) (a++b):=⟨by have:=ha.1; have:=hb.1; rw[QT]; omega,fun n hn=>(QX.1 hn).elim (ha.2 n) (hb.2 n)⟩
theorem iK.cons {k:Nat} {a:Int} {b:List Int} (ha:a.natAbs<=1000000) (hb:iK k b):iK (k+1) (a::b):=⟨by have:=hb.1; rw[Q5]; omega,fun n hn=>(QP.1 hn).elim (fun e=>e ▸ ha) (hb.2 n)⟩
theorem iK.nil:iK 0 []:=⟨by simp,fun n h=>by cases h⟩
theorem iK.flat {α:Type} {k:Nat} {f:α->List Int}:∀ {l:List α},(∀ x∈l,iK k (f x))->iK (l.length*k) (l.flatMap f)
 | [],_ => ⟨by simp,fun n h => by simp at h⟩
 | x::l,h => by
  have:=iK.app (h x (by simp)) (iK.flat (l:=l) fun y hy=>h y (Xm _ hy));rw[QA,Q5,Nat.succ_mul,Nat.add_comm];exact this
theorem iK.mono {j k:Nat} {a:List Int} (h:iK j a) (hk:j<=k):iK k a:=⟨by have:=h.1; omega,h.2⟩
theorem iK.count {xs:List Int} (h:SmL xs):iK 5 (aU xs):=iK.cons (k:=4) (by have:=h.1; omega) h
theorem Dx.adn {ts:List af} {q:ae} (h:Dx ts q):iK 19 (aM bI ts):=by
 have h3:=h.tabs.1;unfold aM;refine iK.cons (k:=18) (by omega) ((iK.flat (k:=6) fun t ht=>?_).mono (by omega));have hk:=h.tabs.2 t ht;refine iK.cons (k:=5) (by have:=hk.r0; have:=hk.r1; omega) (iK.count ⟨by unfold bA; simp; omega,fun x hx=>?_⟩);unfold bA at hx;have h1:=hk.c1;have h4:=hk.c3;have kd:=hk.kd;have key:∀ m,m<t.aH.toNat->(t.kd m).natAbs<=1000000:=fun m hm=>by have:=kd m hm; omega
 obtain⟨i,hi,rfl⟩:=List.mem_iff_getElem.1 hx;simp at hi;rw[List.getElem_take];have:=key i (by omega);have h5:i=0∨i=1∨i=2∨i=3:=by omega
 rcases h5 with rfl | rfl | rfl | rfl <;> exact this
theorem Dx.whN {ts:List af} {q:ae} (h:Dx ts q):iK 65 (aM dD q.wh):=by
 have h4:=h.wh;unfold aM;refine iK.cons (k:=64) (by omega) ((iK.flat (k:=16) fun c hc=>?_).mono (by omega));obtain⟨i,hi,rfl⟩:=List.mem_iff_getElem.1 hc;have hk:=h.cl i hi;simp only[List.getD,ZG hi,Option.getD_some] at hk;unfold dD aM;refine iK.cons (k:=15) (by have:=hk.1; omega) ((iK.flat (k:=5) fun d hd=>?_).mono (by have:=hk.1; omega));have hf:∀ b,(jJ b).natAbs<=1000000:=fun b=>by cases b <;> decide
 exact iK.cons (hf _) (iK.cons (hk.2 d hd).1 (iK.cons (hk.2 d hd).2.1 (iK.cons (hf _) (iK.cons (hk.2 d hd).2.2 iK.nil))))
theorem Dx.ajd {ts:List af} {q:ae} (h:Dx ts q):iK 91 (df q):=by
 have hf:∀ b,(jJ b).natAbs<=1000000:=fun b=>by cases b <;> decide
 unfold df;exact (iK.app (iK.count h.src) (iK.app h.whN (iK.cons (hf _) (iK.app (iK.count h.keys) (iK.app (iK.count h.sums) (iK.app (iK.count h.aQ) (iK.count h.ord))))))).mono (by omega)
theorem Dx.VV {ts:List af} {q:ae} (h:Dx ts q) {cap:Int} {picks:List Int} {st:Int} (hc:cap.natAbs<=1000000) (hp:iK 400 picks) (hs:st.natAbs<=1000000):iK 513 (bS ts q cap picks st):=by
 unfold bS;exact (iK.app h.adn (iK.app h.ajd (iK.cons hc (iK.app (iK.cons (k:=400) (by have:=hp.1; omega) hp) (iK.cons hs iK.nil))))).mono (by omega)
theorem uF {rk:Nat->Int} {ts:List af} {q:ae} {conc:List Nat} (hcn:conc.length=q.wh.length) (h5:q.src.xs.length<=5) (picks:List Int) {σ:fe} (hok:E5 q σ) (hp:iK σ.picks.length σ.picks) :
  ∀ d,σ.picks.length+d<=900->(∀ n∈(runN rk ts q conc picks d 0 σ).picks,n.natAbs<=1000000)
 | 0,_ => hp.2
 | d+1,hd => by
  have ih:=uF hcn h5 picks hok hp (rk:=rk) (ts:=ts) d (by omega);rw[jD];split
  ·rename_i hs
   obtain⟨hO,hl⟩:=mW (rk:=rk) (ts:=ts) hcn h5 picks hok d;have ha:=hO.aaU;obtain⟨h0,h1⟩:=Dt (hO.stat hs) (fG picks (0+d));rw[q9];intro n hn;rcases QX.1 hn with hn | hn
   ·exact ih n hn
   ·rw[QY] at hn;subst hn;omega
  ·exact ih
theorem ND (sb:Nat) (pa:Option Addr) (pc:Nat) (xs:List Int) (w:World) (hc:w.cell? (aD sb 17)=some (.slice pa xs.length pc)) (hv:au w pa xs) (hn:pa=none->pc=0) (hl:xs.length<=1000000) :
  Calls Tryz.prog 23 #[.pointer (some (aD sb 0))] w (dH w xs):=by
 have hcl:Calls Tryz.prog 48 #[.slice pa xs.length pc] w (dH w xs):=kI ⟨pa,pc,xs⟩ w hv hn hl;clear hv hn hl;go_enter Tryz.func23,Tryz.ntmps23;go_wp2_with fail;refine hcl.mono ?_;rintro e w2 ⟨v,rfl,ho,hb⟩;obtain⟨va,vm,vc,rfl⟩:=ZA ho;have HO:=Zh ho;have HB:=Zh hb;clear hcl ho hb hc;go_wp2;go_ret;exact⟨_,rfl,HO.out,HB.out⟩
theorem JH (sb:Nat) (st:Int) (w:World) (hc:w.cell? (aD sb 18)=some (.int .i64 st)) :
  Calls Tryz.prog 24 #[.pointer (some (aD sb 0))] w fun e w'=>e=.returned (.int .i64 st)/\w' = w:=by
 go_enter Tryz.func24,Tryz.ntmps24;go_wp2;go_ret;exact⟨rfl,rfl⟩
theorem Tv (pb sb n cc:Nat) (ca:Option Addr) (p0 p1 p2 p3 p4 p5 p6:Value) (room st:Int) (pk:List Int) (T:ByteArray) (w:World)
  (hg:GB w pb 63 #[.slice ca n cc,p0,p1,p2,p3,p4,p5,p6,.int .i64 room,.pointer (some (aD sb 0))])
  (hP:∀ x,Below w.heap.size w x->Calls Tryz.prog 23 #[.pointer (some (aD sb 0))] x (dH x pk))
  (hSt:∀ x,Below w.heap.size w x->Calls Tryz.prog 24 #[.pointer (some (aD sb 0))] x fun e w'=>e=.returned (.int .i64 st)/\w' = x)
  (hT:∀ x a m c,Below w.heap.size w x->fu pk (.slice a m c) x->Calls Tryz.prog 25 #[.agg #[.slice ca n cc,p0,p1,p2,p3,p4,p5,p6,.int .i64 room,.slice a m c,.int .i64 st]] x fun e w'=>e=.returned (.string T)/\Below x.heap.size x w')
  (hl:pk.length<=1000000) :
  Calls Tryz.prog 10 #[.pointer (some (aD pb 0))] w fun e w'=>e=.returned (.string T)/\Below w.heap.size w w':=by
 have c0:=hg.at 0;have c1:=hg.at 1;have c2:=hg.at 2;have c3:=hg.at 3;have c4:=hg.at 4;have c5:=hg.at 5;have c6:=hg.at 6;have c7:=hg.at 7;have c8:=hg.at 8;have c9:=hg.at 9;have HP:=Zh hP;have HS:=Zh hSt;have HT:=Zh hT;clear hg hP hSt hT;go_enter Tryz.func10,Tryz.ntmps10;go_wp2_with fail;refine wH w fun hS=>?_
 refine wt 0 (.pointer (some (aD pb 0))) hS ?_;refine wt 1 (.pointer (some (aD pb 0))) hS ?_;refine wt 2 (.pointer (some (aD pb 0))) hS ?_;refine iB 3 (.slice ca n cc) hS c0 ?_;refine wt 4 (.pointer (some (aD pb 0))) hS ?_;refine wt 5 (.pointer (some (aD pb 0))) hS ?_;refine wt 6 (.pointer (some (aD pb 1))) hS ?_;refine wT 7 (.agg #[p0,p1,p2,p3,p4,p5,p6]) hS (fun x hx=>?_) ?_
 ·have e0:=TP hx c1 c2 c3 c4 c5 c6 c7;go_simp
 refine wt 8 (.pointer (some (aD pb 0))) hS ?_;refine wt 9 (.pointer (some (aD pb 0))) hS ?_;refine wt 10 (.pointer (some (aD pb 8))) hS ?_;refine iB 11 (.int .i64 room) hS c8 ?_;refine wt 12 (.pointer (some (aD pb 0))) hS ?_;refine wt 13 (.pointer (some (aD pb 0))) hS ?_;refine wt 14 (.pointer (some (aD pb 9))) hS ?_;refine iB 15 (.pointer (some (aD sb 0))) hS c9 ?_;refine wt 17 (.pointer (some (aD pb 0))) hS ?_;refine wt 18 (.pointer (some (aD pb 0))) hS ?_;refine wt 19 (.pointer (some (aD pb 9))) hS ?_;refine iB 20 (.pointer (some (aD sb 0))) hS c9 ?_;refine wR 16 fun K hK=>?_
 go_simp;refine Z7 (HP.out _ hS) ?_;rintro e x1 ⟨v,rfl,ho,hb⟩;have HF:=Zh (fu.own ho hl);obtain⟨va,vm,vc,rfl⟩:=ZA ho;clear ho;refine oT hK hS hb fun hS=>?_
 clear hK K hb;refine wR 21 fun K hK=>?_
 go_simp;refine Z7 (HS.out _ hS) ?_;rintro e x2 ⟨rfl,rfl⟩;refine hK.out _ _ hS fun hS=>?_
 clear hK K;refine wt 22 (.agg #[.slice ca n cc,p0,p1,p2,p3,p4,p5,p6,.int .i64 room,.slice va vm vc,.int .i64 st]) hS ?_;refine wR 23 fun K hK=>?_
 go_simp;refine Z7 (HT.out _ va vm vc hS HF.out) ?_;rintro e x3 ⟨rfl,hb⟩;refine oT hK hS hb fun hS=>?_
 clear hK K hb;refine wR 24 fun K hK=>?_
 go_simp;refine hK.out _ _ hS fun hS=>?_
 clear hK K;refine wD ?_
 try simp only[pV]
 have HE:=Zh hS;clear hS c0 c1 c2 c3 c4 c5 c6 c7 c8 c9;go_wp2;go_ret;exact⟨rfl,HE.out⟩
theorem au.under {W w:World} (h:Under W w) {ao:Option Addr} {xs:List Int} (hx:au W ao xs):au w ao xs:=⟨hx.1,fun i hi=>by
 obtain⟨b,off,e,hc⟩:=hx.2 i hi;exact⟨b,off,e,h.cell _ _ _ hc⟩⟩
theorem aR.under {W w:World} (h:Under W w) {ao:Option Addr} {cs:List aj} (hx:aR W ao cs):aR w ao cs:=⟨hx.1,fun i hi=>by
 obtain⟨b,off,e,c0,c1,c2,c3,c4⟩:=hx.2 i hi;exact⟨b,off,e,h.cell _ _ _ c0,h.cell _ _ _ c1,h.cell _ _ _ c2,h.cell _ _ _ c3,h.cell _ _ _ c4⟩⟩
theorem ae.At.under {W w:World} (h:Under W w) {q:ae} (hq:q.At W):q.At w:=
 ⟨au.under h hq.src,⟨hq.wh.1,fun i hi=>by
  obtain⟨b,off,e,hc⟩:=hq.wh.2.1 i hi;exact⟨b,off,e,h.cell _ _ _ hc⟩,fun i hi=>aR.under h (hq.wh.2.2 i hi)⟩,au.under h hq.keys,au.under h hq.sums,au.under h hq.aQ,au.under h hq.ord⟩
theorem aJ.under {W w:World} (h:Under W w) {ao:Option Addr} {ts:List af} (hx:aJ W ao ts):aJ w ao ts:=⟨hx.1,fun i hi=>by
 obtain⟨b,off,e,c0,c1,c2,c3,c4,c5⟩:=hx.2 i hi;exact⟨b,off,e,h.cell _ _ _ c0,h.cell _ _ _ c1,h.cell _ _ _ c2,h.cell _ _ _ c3,h.cell _ _ _ c4,h.cell _ _ _ c5⟩⟩
theorem JI {ts:List af} {room:Nat} {P:Bl} {X M:Nat->Prop} {w:World} {L:qj} {σ:fe} (hk:mE ts room P w) (s:dn P.W P.f ts P.q X M w P.sb L σ) (hj:Dx ts P.q) (hI:qZ w) (hr:room<=1000) (hp:iK 400 σ.picks) (hst:σ.status.natAbs<=1000000) :
  Calls Tryz.prog 10 #[.pointer (some (aD P.pb 0))] w fun e w'=>e=.returned (.string ⟨(fH (bS ts P.q room σ.picks σ.status)).toArray⟩)/\Below w.heap.size w w':=by
 have hU:=s.hz.below;have hq:=ae.At.under hU hk.qat;have ht:=aJ.under hU hk.tabs;obtain⟨v0,v1,v2,v3,v4,v5,v6,v7,v8,v9,v10,v11,v12,dw,-⟩:=Z8 P.f ts P.q;have hgb:=s.cells dw;have c17:=hgb.at 17;have c18:=hgb.at 18;obtain⟨iv,e1,e2,hv,_,hnil,_⟩:=fO s.pk (by have:=hp.1; omega);obtain⟨pa,pc,px⟩:=iv;simp only at e2 hnil;subst e2;rw[e1] at c17;have hblk:=hk.blk;obtain⟨p0,p1,p2,p3,p4,p5,p6,sV⟩:∃ v0 v1 v2 v3 v4 v5 v6,P.q.cells=#[v0,v1,v2,v3,v4,v5,v6]:=⟨_,_,_,_,_,_,_,rfl⟩
 have hJ:=hj.VV (cap:=(room:Int)) (by omega) hp hst;have hF:=hj.adn;have hG:=hj.ajd;have hW:=hj.whN;rw[sV] at hblk;refine Tv P.pb P.sb ts.length P.cc P.ca p0 p1 p2 p3 p4 p5 p6 room σ.status σ.picks _ w hblk (fun x hx=>ND P.sb pa pc σ.picks x (cB hx c17) (Qo hx hv) hnil (by have:=hp.1; omega)) (fun x hx=>JH P.sb σ.status x (cB hx c18)) (fun x a m c hx hnf=>?_) (by have:=hp.1; omega);obtain⟨jv,f1,f2,f3,f4⟩:=hnf;obtain⟨ja,jc,jx⟩:=jv;simp only at f3 f4;subst f4;injection f1 with f1 g1 h1;subst f1;subst g1;subst h1;refine VB _ p0 p1 p2 p3 p4 p5 p6 _ _ _ _ x (hI.below hx) (fun y hy=>?_) (by have:=hJ.1; omega) (fun n hn=>by have:=hJ.2 n hn; omega);have hb:=aG hx hy;have:=Iy P.ca P.cc ts P.q room σ.status ⟨a,c,σ.picks⟩ y (fun z hz=>H6 P.ca P.cc ts z (ht.below (aG hb hz)) (by have:=hj.tabs.1; omega) (fun i hi=>by
  have hk:=hj.tabs.2 (ts.getD i tz) (by simp[List.getD,hi]);have:=hk.c1;have:=hk.c3;omega)) (fun z hz=>xH P.q z (hq.below (aG hb hz)) hk.nil ⟨by have:=hj.src.1; omega,by have:=hj.wh; omega,by have:=hj.keys.1; omega,by have:=hj.sums.1; omega,by have:=hj.aQ.1; omega,by have:=hj.ord.1; omega⟩ (fun i hi=>by have:=(hj.cl i hi).1; omega) (by have:=hW.1; omega)) (Qo hy f2) f3 ⟨by have:=hF.1; omega,by have:=hG.1; omega,by show σ.picks.length<=1000; have:=hp.1; omega⟩
 rw[sV] at this;exact this
section
open Go.Lib
def ng (ns:List Int):ByteArray:=⟨(jr ns).toArray⟩
theorem Tw {k:Nat} {ns:List Int} (h:iK k ns):(jr ns).length<=19*k:=by
 have h1:=xJ (ns:=ns) fun n hn=>by have:=h.2 n hn; omega
 have h2:(jr ns).length+5<=(fH ns).length:=by
  cases ns with
  | nil => simp[jr,fH]
  | cons n ns => simp[jr,fH]
 have:=h.1;omega
theorem iK.tail {k:Nat} {n:Int} {ns:List Int} (h:iK k (n::ns)):iK k ns:=⟨by have:=h.1; rw[Q5] at this; omega,fun m hm=>h.2 m (Xm _ hm)⟩
def FR (W:World):Prop:=∀ x,Below W.heap.size W x->∀ s:ByteArray,s.size<=1000000->Calls Tryz.prog 79 #[.string s,.string ⟨#[32]⟩] x fun e w'=>e=.returned (.tuple #[.string ⟨(Lib.cut s.data.toList [32]).1.toArray⟩,.string ⟨(Lib.cut s.data.toList [32]).2.1.toArray⟩,.bool (Lib.cut s.data.toList [32]).2.2])/\Below x.heap.size x w'
structure mF (W:World) (rb:Nat) (ns:List Int) (w:World):Prop where
 cut:FR W
 lo:W.heap.size<=rb
 below:Below W.heap.size W w
 blk:GB w rb 107 #[.string (ng ns)]
 few:iK 1000 ns
theorem mF.step {W:World} {rb:Nat} {ns:List Int} {w w':World} (h:mF W rb ns w) (hb:Below w.heap.size w w'):mF W rb ns w':=
 ⟨h.cut,h.lo,aG h.below hb,h.blk.of (hb.block _ h.blk.lt),h.few⟩
theorem mF.kept {W:World} {rb:Nat} {ns:List Int} {w w':World} (h:mF W rb ns w) {s:Nat->Prop} (hk:Kept s w w') (hs:s rb) (hW:∀ b,b<W.heap.size->s b):mF W rb ns w':=
 ⟨h.cut,h.lo,h.below.trans (hk.below h.below.size fun b hb=>hW b hb),h.blk.keep hk hs,h.few⟩
theorem DR (rb:Nat) (s:ByteArray) (u v:ByteArray) (f:Bool) (w:World) (hg:GB w rb 107 #[.string s]) (hc:Calls Tryz.prog 79 #[.string s,.string ⟨#[32]⟩] w fun e w'=>e=.returned (.tuple #[.string u,.string v,.bool f])/\Below w.heap.size w w') :
  Calls Tryz.prog 42 #[.pointer (some (aD rb 0))] w fun e w'=>e=.returned (.string u)/\GB w' rb 107 #[.string v]/\Kept (fun b=>b≠rb) w w':=by
 have c0:=hg.at 0;have HG:Hid (GB w rb 107 #[.string s]):=hg;clear hg;go_enter Tryz.func42,Tryz.ntmps42;go_wp2_with fail;refine hc.mono ?_;rintro e w2 ⟨rfl,hb⟩;have hg2:GB w2 rb 107 #[.string s]:=HG.out.of (hb.block _ HG.out.lt);have d0:=hg2.at 0;have f0:=hg2.frozen 0;have HE:Hid (GB (w2.setCell (aD rb 0) (.string v)) rb 107 #[.string v]):=hg2.set 0 (.string v);have HK:Hid (Kept (fun b=>b≠rb) w (w2.setCell (aD rb 0) (.string v))):=(Q9 hb (fun _ h _=>h)).trans (Zv _ _ _ (fun h=>h rfl));clear hc c0 hb hg2;go_wp2;go_ret;exact⟨rfl,HE.out,HK.out⟩
theorem Yh {W:World} {rb:Nat} {n:Int} {ns:List Int} {w:World} (h:mF W rb (n::ns) w) :
  Calls Tryz.prog 42 #[.pointer (some (aD rb 0))] w fun e w'=>e=.returned (.string (jY n))/\mF W rb ns w'/\Kept (fun b=>b≠rb) w w':=by
 have hl:=Tw h.few;have hc:=h.cut w h.below (ng (n::ns)) (by show (jr (n::ns)).toArray.size<=_; simp only[Zj]; omega);have e:Lib.cut (ng (n::ns)).data.toList [32]=(Lib.itoa n,jr ns,!ns.isEmpty):=UB n ns;rw[e] at hc;refine (DR rb _ (jY n) (ng ns) _ w h.blk hc).mono ?_;rintro e w' ⟨rfl,h2,h3⟩;exact⟨rfl,⟨h.cut,h.lo,h.below.trans (h3.below h.below.size fun b hb=>by have:=h.lo; omega),h2,h.few.tail⟩,h3⟩
theorem Bn {W:World} {rb:Nat} {n:Int} {ns:List Int} {w:World} (h:mF W rb (n::ns) w) :
  Calls Tryz.prog 46 #[.pointer (some (aD rb 0))] w fun e w'=>e=.returned (.int .i64 n)/\mF W rb ns w'/\Kept (fun b=>b≠rb) w w':=by
 have hw:=Yh h;have hs:=zN (n:=n) (by have:=h.few.2 n (by simp); omega);have HA:Hid (∀ x,Calls Tryz.prog 83 #[.string (jY n)] x fun e w'=>e=.returned (.tuple #[.int .i64 n,.nilIface])/\Below x.heap.size x w'):=fun x=>by
  refine (Tryz.strconv_Atoi (jY n) n (by show (Lib.itoa n).toArray.size<=18; simpa using hs) (PR n) x).mono ?_;rintro e w' ⟨rfl,t,rfl⟩;exact⟨rfl,rfl,rfl,rfl,by rw[Lib.bytesWorld_size]; omega,fun k hk=>Lib.bytesWorld_at_old _ _ _ _ hk⟩
 clear h hs;generalize jY n=B at *;go_enter Tryz.func46,Tryz.ntmps46;go_wp2_with fail;refine hw.mono ?_;rintro e w2 ⟨rfl,h2,hk⟩;clear hw;have H2:=Zh h2;have HK:=Zh hk;have ha:=HA.out w2;clear h2 hk;go_wp2_with fail;refine ha.mono ?_;rintro e w3 ⟨rfl,hb⟩;have H3:=Zh (mF.step H2.out hb);have pK:=Zh (HK.out.trans (Q9 (s:=fun b=>b≠rb) hb (fun _ h _=>h)));clear ha hb HA;go_wp2;go_ret;exact⟨rfl,H3.out,pK.out⟩
theorem xV {W:World} {rb:Nat} {b:Bool} {ns:List Int} {w:World} (h:mF W rb (jJ b::ns) w) :
  Calls Tryz.prog 82 #[.pointer (some (aD rb 0))] w fun e w'=>e=.returned (.bool b)/\mF W rb ns w'/\Kept (fun b=>b≠rb) w w':=by
 have hn:=Bn h;clear h
 cases b
 ·change Calls _ _ _ _ (fun e w'=>e=.returned (.int .i64 0)/\_) at hn;go_enter Tryz.func82,Tryz.ntmps82;go_wp2_with fail;refine hn.mono ?_;rintro e w2 ⟨rfl,h2⟩;have H2:=Zh h2;clear hn h2;go_wp2;go_ret;exact⟨rfl,H2.out⟩
 ·change Calls _ _ _ _ (fun e w'=>e=.returned (.int .i64 1)/\_) at hn;go_enter Tryz.func82,Tryz.ntmps82;go_wp2_with fail;refine hn.mono ?_;rintro e w2 ⟨rfl,h2⟩;have H2:=Zh h2;clear hn h2;go_wp2;go_ret;exact⟨rfl,H2.out⟩
end
def XZ:=@Bn
theorem wC (n:Int) (ns:List Int):(ng (n::ns)).toList.isEmpty=false:=by
 rw[ByteArray.toList_eq]
 cases hl:(ng (n::ns)).data.toList with
 | nil => exact absurd hl UA
 | cons _ _ => rfl
theorem kF {W:World} {rb:Nat} {ns:List Int} {w:World} (xs:List Int) (most:Nat) (hx:xs.length<=most) (hm:most<=1000000) (h:mF W rb (aU xs++ns) w) :
  Calls Tryz.prog 47 #[.pointer (some (aD rb 0)),.int .i64 (most:Int),.func (.func 46) #[.pointer (some (aD rb 0))] #[]] w fun e w'=>∃ v,e=.returned v/\w'.ownsRow w.heap.size 3 1 v xs.length (xs.map (Value.int .i64))/\mF W rb ns w'/\Kept (fun b=>b≠rb) w w':=by
 have hl:xs.length<=1000:=by have:=h.few.1; rw[QT] at this; unfold aU at this; rw[Q5] at this; omega
 have hn:=XZ (n:=(xs.length:Int)) (ns:=xs++ns) h;have J6:=Zh h.blk.lt;clear h;go_enter Tryz.func47,Tryz.ntmps47;go_wp2_with fail;refine hn.mono ?_;rintro e w2 ⟨rfl,h2,hk2⟩;have H2:=Zh h2;have nK:=Zh hk2;have m1:(if (most:Int)<(xs.length:Int) then (most:Int) else (xs.length:Int))=(xs.length:Int):=Qs (by omega);have m2:min (xs.length:Int) (most:Int)=(xs.length:Int):=by omega
 have HM:Hid (xs.length<=most/\most<=1000000):=⟨hx,hm⟩
 clear hn h2 hk2 hx hm;go_wp2;go_loopw [7,12] (fun v i wr=>∃ k:Nat,k<=xs.length/\i=.int .i64 k/\Hid (wr.ownsRow w.heap.size 3 1 v (xs.take k).length ((xs.take k).map (Value.int .i64)))/\Hid (mF W rb (xs.drop k++ns) wr/\Kept (fun b=>b≠rb) w wr)) (fun _ i _=>xs.length-(intOf i).toNat)
 case atStart=>exact⟨0,QQ _,rfl,ZE _ _ _ _,H2.out,nK.out⟩
 case round=>
  obtain⟨k,hk,rfl,HO,HR⟩:=hrel;obtain⟨va,vm,vc,rfl⟩:=ZA HO.out;by_cases hlt:k<xs.length
  ·have hd:xs.drop k++ns=xs.getD k 0::(xs.drop (k+1)++ns):=by rw[Xc hlt,Zq]; simp[List.getD,hlt]
   have yl:Hid (xs.take (k+1)=xs.take k++[xs.getD k 0]):=by show _=_; rw[Qk hlt]; simp[List.getD,hlt]
   rw[hd] at HR;have c0:=HR.out.1.blk.at 0;have hne:=wC (xs.getD k 0) (xs.drop (k+1)++ns);have hcall:=XZ HR.out.1;generalize ng (xs.getD k 0::(xs.drop (k+1)++ns))=S at *;generalize xs.getD k 0=x0 at *;clear hd;go_wp2_with fail;refine hcall.mono ?_;rintro e w4 ⟨rfl,h4,hk4⟩;have yR:Hid (w4.ownsRow w.heap.size 3 1 (.slice va vm vc) (xs.take k).length ((xs.take k).map (Value.int .i64))):=Zx HO.out hk4 fun g eg e=>XR HO.out HR.out.1.blk (by decide) (e ▸ eg)
   obtain⟨v5,w5,pO,lD,hk5,⟨YQ,YR,YS,rfl⟩,_⟩:=DK w4 w.heap.size (.slice va vm vc) _ yR.out (by rw[Q6]; omega) (Q4 HR.out.2.size hk4.size) x0 22;have qw:=Zh lD;have Jd:Hid (mF W rb (xs.drop (k+1)++ns) w5/\Kept (fun b=>b≠rb) w w5):=by
    have hne:∀ b,b<w.heap.size->(Value.slice va vm vc).ownBlock≠some b:=fun b hb e=>by have:=(Zy HO.out e).1; omega
    have hWw:W.heap.size<=w.heap.size:=Q4 h4.lo (Nat.le_of_lt J6.out);refine⟨h4.kept hk5 (XR yR.out h4.blk (by decide)) fun b hb=>hne b (by omega),(HR.out.2.trans hk4).trans' hk5 fun b hb _=>hne b hb⟩
   clear h4 hk4 hk5 lD hcall c0 hne;go_wp2_with (first | (at_builtin; refine ZN rfl (.tmp 19) (.tmp 22) 22 rfl (.slice va vm vc) (.slice (some (aD w4.heap.size 0)) 1 1) (.slice YQ YR YS) w5 rfl rfl pO ?_));go_roundw
   case rel=>exact⟨k+1,by omega,by go_num,by show World.ownsRow _ _ _ _ _ _ _; rw[yl.out]; exact qw.out,Jd.out⟩
   case measure=>simp[intOf]; omega
  ·obtain rfl:k=xs.length:=by omega
   rw[Qt] at HO;rw[List.drop_length] at HR;go_wp2;go_ret;exact⟨_,rfl,HO.out,HR.out⟩
def nX (B:Nat):Nat->List Value->World->World
 | _,[],W => W
 | i,v::vs,W => nX B (i+1) vs (W.setCell (aD B i) v)
theorem OV {B:Nat} {t:TypeId}:∀ (vs pre old:List Value) (W:World),old.length=vs.length->GB W B t (pre++old).toArray->GB (nX B pre.length vs W) B t (pre++vs).toArray
 | [],pre,old,W,hl,h => by
  have:old=[]:=Qz hl;subst this;exact h
 | v::vs,pre,[],W,hl,h => by simp at hl
 | v::vs,pre,o::old,W,hl,h => by
  have h1:=h.set pre.length v;rw[QK,ZI _ _ (Qq _),ZJ,Qc] at h1;have h2:=OV (B:=B) (t:=t) vs (pre++[v]) old (W.setCell (aD B pre.length) v) (by simpa using hl) (by rw[QC]; exact h1);rw[QT,XU,QC] at h2;exact h2
theorem xW {B:Nat} {t:TypeId} {W:World} {a:Array Value} (vs:List Value) (h:GB W B t a) (hl:a.size=vs.length:=by rfl):GB (nX B 0 vs W) B t vs.toArray:=OV vs [] a.toList W (by simpa using hl) (by simpa using h)
theorem lQ {B:Nat}:∀ (vs:List Value) (i:Nat) (W:World),Kept (fun b=>b≠B) W (nX B i vs W)
 | [],_,W => Q7 _ _
 | v::vs,i,W => (Zv _ (aD B i) _ (fun h => h rfl)).trans (lQ vs (i+1) _)
theorem mF.put {W:World} {rb:Nat} {ns:List Int} {w x:World} (h:mF W rb ns x) (hk:Kept (fun b=>b≠rb) w x) (hr:rb<w.heap.size) {B:Nat} (hB:w.heap.size<=B) (vs:List Value):mF W rb ns (nX B 0 vs x)/\Kept (fun b=>b≠rb) w (nX B 0 vs x):=by
 have h1:=lQ (B:=B) vs 0 x;have:=h.lo;exact⟨h.kept h1 (by omega) fun b hb=>by omega,hk.trans' h1 fun b hb _=>by omega⟩
theorem Tx {W:World} {rb:Nat} {ns:List Int} {w:World} (c:aj) (h:mF W rb (aS c++ns) w) :
  Calls Tryz.prog 134 #[.pointer (some (aD rb 0))] w fun e w'=>e=.returned (.agg c.arr)/\mF W rb ns w'/\Kept (fun b=>b≠rb) w w':=by
 obtain⟨nt,op,lf,cn,rt⟩:=c;obtain⟨w1,hw1,hb1,hg1⟩:=bu w #[.bool false,.int .i64 0,.int .i64 0,.bool false,.int .i64 0] 73;have H1:Hid (mF W rb (jJ nt::op::lf::jJ cn::rt::ns) w1):=h.step hb1;have HR:=Zh h.blk.lt;have HG:=Zh hg1;have lK:Hid (Kept (fun b=>b≠rb) w w1):=Q9 hb1 (fun _ h _=>h);have hc1:=xV H1.out;clear h hb1 hg1;go_enter Tryz.func134,Tryz.ntmps134;go_wp2_with fail;refine hc1.mono ?_;rintro e w2 ⟨rfl,h2,k2⟩;have hc2:=XZ h2;clear hc1 h2 hw1;go_wp2_with fail;refine hc2.mono ?_;rintro e w3 ⟨rfl,h3,k3⟩;have hc3:=XZ h3;clear hc2 h3;go_wp2_with fail;refine hc3.mono ?_;rintro e w4 ⟨rfl,h4,k4⟩;have hc4:=xV h4;clear hc3 h4;go_wp2_with fail;refine hc4.mono ?_;rintro e w5 ⟨rfl,h5,k5⟩;have hc5:=XZ h5;clear hc4 h5;go_wp2_with fail;refine hc5.mono ?_;rintro e w6 ⟨rfl,h6,k6⟩;have k16:=k2.trans (k3.trans (k4.trans (k5.trans k6)));have BA:=HG.out.keep k16 (by have:=HR.out; omega);have hE:=h6.put (lK.out.trans k16) HR.out (Qq w.heap.size) [.bool nt,.int .i64 op,.int .i64 lf,.bool cn,.int .i64 rt];have FT:=xW [.bool nt,.int .i64 op,.int .i64 lf,.bool cn,.int .i64 rt] BA;have d0:=BA.at 0;have d1:=BA.at 1;have d2:=BA.at 2;have d3:=BA.at 3;have d4:=BA.at 4;have f0:=BA.frozen 0;have f1:=BA.frozen 1;have f2:=BA.frozen 2;have f3:=BA.frozen 3;have f4:=BA.frozen 4;simp only[nX,Zk,Nat.reduceAdd,QE] at hE FT;have HE:=Zh hE;have pW:=Zh FT;clear hE FT BA k2 k3 k4 k5 k6 k16 h6 hc5;go_wp2;exact Xi (Xj rfl _ _ w.heap.size 73 #[.bool nt,.int .i64 op,.int .i64 lf,.bool cn,.int .i64 rt] (0,0) _ rfl pW.out Tryz.underlying73 rfl (by kernel_rfl)) rfl ⟨rfl,HE.out⟩
theorem FU {α:Type} (f:α->List Int) (h:∀ x,1<=(f x).length):∀ l:List α,l.length<=(l.flatMap f).length
 | [] => by simp
 | x::l => by
  have:=FU f h l;have:=h x;rw[QA,QT,Q5];omega
theorem NF (W:World) (base:Nat) (v:Value) (cs:List aj) (hown:W.ownsRow base 73 5 v cs.length (cs.flatMap aj.vals)) (hl:cs.length<=1000) (hb:base<=W.heap.size) (c:aj) (ty:TypeId) :
  ∃ v' w',(Builtin.append_ #[75,75] ty #[v,.slice (some (aD W.heap.size 0)) 1 1]).run Tryz.prog (W.alloc (.cells #[.bool c.not,.int .i64 c.op,.int .i64 c.left,.bool c.const,.int .i64 c.right] 73))=.ok v' w'/\
   w'.ownsRow base 73 5 v' (cs++[c]).length ((cs++[c]).flatMap aj.vals)/\Kept (fun b=>v.ownBlock≠some b) W w'/\(∃ a m c,v' = .slice a m c):=by
 obtain⟨i0,hi,hz0,hz1,hz2⟩:=ZC Tryz.Ai;obtain⟨v',w',hr,ho,hk,hs,_⟩:=ZV (P:=Tryz.prog) W base 75 ty 73 i0 _ 5 40 Tryz.underlying75 hi hz0 hz1 hz2 rfl (by decide) v cs.length _ hown hb (aj.vals c) rfl (fun u hu=>by
  unfold aj.vals at hu;simp only[QP,XD,or_false] at hu;rcases hu with rfl | rfl | rfl | rfl | rfl <;> rfl) hl (by decide)
 exact⟨v',w',hr,by rw[QT,QS]; simpa using ho,hk,hs⟩
theorem Ty {W:World} {rb:Nat} {ns:List Int} {w:World} (xs:List aj) (most:Nat) (hx:xs.length<=most) (hm:most<=1000000) (h:mF W rb (aM aS xs++ns) w) :
  Calls Tryz.prog 133 #[.pointer (some (aD rb 0)),.int .i64 (most:Int),.func (.func 134) #[.pointer (some (aD rb 0))] #[]] w fun e w'=>∃ v,e=.returned v/\w'.ownsRow w.heap.size 73 5 v xs.length (xs.flatMap aj.vals)/\mF W rb ns w'/\Kept (fun b=>b≠rb) w w':=by
 have hl:xs.length<=1000:=by have:=h.few.2 _ (List.mem_append_left _ Xo); have:=h.few.1; rw[QT] at this; unfold aM at this; rw[Q5] at this; have:=FU aS (fun _=>by simp[aS]) xs; omega
 have hn:=XZ (n:=(xs.length:Int)) (ns:=xs.flatMap aS++ns) h;have J6:=Zh h.blk.lt;clear h;go_enter Tryz.func133,Tryz.ntmps133;go_wp2_with fail;refine hn.mono ?_;rintro e w2 ⟨rfl,h2,hk2⟩;have H2:=Zh h2;have nK:=Zh hk2;have m1:(if (most:Int)<(xs.length:Int) then (most:Int) else (xs.length:Int))=(xs.length:Int):=Qs (by omega);have m2:min (xs.length:Int) (most:Int)=(xs.length:Int):=by omega
 clear hn h2 hk2 hx hm;go_wp2;go_loopw [7,12] (fun v i wr=>∃ k:Nat,k<=xs.length/\i=.int .i64 k/\Hid (wr.ownsRow w.heap.size 73 5 v (xs.take k).length ((xs.take k).flatMap aj.vals))/\Hid (mF W rb ((xs.drop k).flatMap aS++ns) wr/\Kept (fun b=>b≠rb) w wr)) (fun _ i _=>xs.length-(intOf i).toNat)
 case atStart=>exact⟨0,QQ _,rfl,ZE _ _ _ _,H2.out,nK.out⟩
 case round=>
  obtain⟨k,hk,rfl,HO,HR⟩:=hrel;obtain⟨va,vm,vc,rfl⟩:=ZA HO.out;by_cases hlt:k<xs.length
  ·have hd:(xs.drop k).flatMap aS++ns=aS (xs.getD k cz)++((xs.drop (k+1)).flatMap aS++ns):=by
    rw[qx aS xs hlt];simp[List.getD,hlt]
   have yl:Hid (xs.take (k+1)=xs.take k++[xs.getD k cz]):=by show _=_; rw[Qk hlt]; simp[List.getD,hlt]
   have HM:Hid (xs.getD k cz∈xs):=by show _∈_; simp[List.getD,hlt]
   rw[hd] at HR;have c0:=HR.out.1.blk.at 0;have hcall:=Tx (xs.getD k cz) HR.out.1;generalize xs.getD k cz=x0 at *;have hne:(ng (aS x0++((xs.drop (k+1)).flatMap aS++ns))).toList.isEmpty=false:=wC _ _;generalize ng (aS x0++((xs.drop (k+1)).flatMap aS++ns))=S at *;clear hd;have zt:=Zh fun w4 ho hb=>NF w4 w.heap.size (.slice va vm vc) (xs.take k) ho (by rw[Q6]; omega) hb x0 75
   obtain⟨nt,op,lf,cn,rt⟩:=x0;simp only[aj.arr,af.vals] at hcall zt;go_wp2_with fail;refine hcall.mono ?_;rintro e w4 ⟨rfl,h4,hk4⟩;have yR:Hid (w4.ownsRow w.heap.size 73 5 (.slice va vm vc) (xs.take k).length ((xs.take k).flatMap aj.vals)):=Zx HO.out hk4 fun g eg e=>XR HO.out HR.out.1.blk (by decide) (e ▸ eg)
   obtain⟨v5,w5,pO,lD,hk5,⟨YQ,YR,YS,rfl⟩⟩:=zt.out w4 yR.out (Q4 HR.out.2.size hk4.size);have qw:=Zh lD;have Jd:Hid (mF W rb ((xs.drop (k+1)).flatMap aS++ns) w5/\Kept (fun b=>b≠rb) w w5):=by
    have hne:∀ b,b<w.heap.size->(Value.slice va vm vc).ownBlock≠some b:=fun b hb e=>by have:=(Zy HO.out e).1; omega
    have hWw:W.heap.size<=w.heap.size:=Q4 h4.lo (Nat.le_of_lt J6.out);exact⟨h4.kept hk5 (XR yR.out h4.blk (by decide)) fun b hb=>hne b (by omega),(HR.out.2.trans hk4).trans' hk5 fun b hb _=>hne b hb⟩
   clear h4 hk4 hk5 lD hcall c0 hne zt;go_wp2_with (first | (at_builtin; refine ZN rfl (.tmp 19) (.tmp 22) 75 rfl (.slice va vm vc) (.slice (some (aD w4.heap.size 0)) 1 1) (.slice YQ YR YS) w5 rfl rfl pO ?_));go_roundw
   case rel=>exact⟨k+1,by omega,by go_num,by show World.ownsRow _ _ _ _ _ _ _; rw[yl.out]; exact qw.out,Jd.out⟩
   case measure=>simp[intOf]; omega
  ·obtain rfl:k=xs.length:=by omega
   rw[Qt] at HO;rw[List.drop_length] at HR;go_wp2;go_ret;exact⟨_,rfl,HO.out,HR.out⟩

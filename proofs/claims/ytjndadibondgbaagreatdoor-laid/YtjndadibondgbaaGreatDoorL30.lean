import Derived.Test.YtjndadibondgbaaGreatDoorL24
set_option linter.all false
set_option maxRecDepth 100000
set_option maxHeartbeats 16000000
namespace Go.Proofs.Zz
open Go.RowKit Go.Shelf
variable {cs:List ak} {B Bm k:Nat} {C is:List Int} {A W w2:World} {u v:Value} {ls ms:List az}
theorem BB:∀ {xs:List Int} {k:Nat} {v:Int},k<xs.length->v ∉ xs.take k->xs.getD k 0=v->xs.idxOf v=k
 | [],k,v,h,_,_ => by simp at h
 | x::xs,0,v,_,_,e => by
  have e':x=v:=by simpa using e
  simp[e']
 | x::xs,k+1,v,h,hn,e => by
  rw[List.take_succ_cons]at hn;have hne:¬ x=v:=fun e'=>hn (by simp[e'])
  have:=BB (xs:=xs) (k:=k) (v:=v) (by simpa using h) (fun h'=>hn (by simp[h'])) (by simpa using e);rw[List.idxOf_cons,this];have:(x==v)=false:=by simpa using hne
  rw[this];rfl
theorem Tz(ao:Option Addr)(cap:Nat)(xs:List Int)(v:Int)(w:World)(hx:aI w ao xs)(hin:v∈xs) :
  Ce 143 #[.slice ao xs.length cap,.int .i64 v] w (.int .i64 (aQ xs v)):=by
 have t:=hx.1;have r:Hid (v∈xs):=hin;clear hin;go_enter Tryz.func143,Tryz.ntmps143;go_wp2;go_loop [8] (fun i=>∃ k:Nat,k<=xs.length/\i=.int .i64 k/\v ∉ xs.take k) (fun i=>xs.length-(intOf i).toNat)
 case atStart=>exact⟨0,Zf _,rfl,by simp⟩
 case round=>
  obtain⟨k,u,rfl,g⟩:=hrel;by_cases a:k<xs.length
  ·obtain⟨b,off,rfl,q⟩:=hx.get a;have s:=q k a;have n:Hid _:=wX (v:=v) a;have p:Hid _:=g;have j:Hid (xs.getD k 0=v->aQ xs v=(k:Int)):=fun e=>by unfold aQ; rw[BB a p.o e]
   clear q hx g;obtain⟨x,d⟩:=eY (xs.getD k 0)
   rw[<- d]at s n j;clear d;by_cases f:v=x
   ·have l:(v==x)=true:=by simp[f]
    have m:Hid (aQ xs v=(k:Int)):=j.o f.symm;clear j f;go_wp2;go_ret;exact⟨Qc m.o.symm,rfl⟩
   ·have l:(v==x)=false:=by simp[f]
    go_wp2;go_round
    case rel=>exact⟨k+1,by omega,by go_num,fun e=>by
     rcases n.o.1 e with e | e
     ·exact p.o e
     ·exact f e.symm⟩
    case measure=>simp[intOf]; omega
  ·have e:k=xs.length:=by omega
   rw[e,Qw]at g;exact absurd r.o g
theorem vJ(v:Value)(c:aa)(dA:Int)(w:World)(hv:∃ g lb,v=.func (.func g) #[] lb)(hc:c.At w)(hin:dA∈c.xs) :
  Cb 128 #[.agg #[v,c.val],.int .i64 dA] w (.int .i64 (aQ c.xs dA)):=by
 obtain⟨g,lb,rfl⟩:=hv;obtain⟨i,j,b⟩:=c;unfold aa.val at *;simp only at *;have a:=bV w (.cells #[.func (.func g) #[] lb,.slice i b.length j] 139);have d:=Tz i j b dA _ (Qt a hc) hin;have l:Hid _:=a;have f:Hid (∃ r,r=aQ b dA):=⟨_,rfl⟩
 obtain⟨r,k⟩:=f.o;rw[<- k]at d ⊢;clear a hc hin k f;go_enter Tryz.func128,Tryz.ntmps128;go_wp2_with fail;refine d.mono ?_;rintro e m ⟨rfl,rfl⟩;go_wp2;go_ret;exact⟨rfl,l.o⟩
theorem BC(v:Value)(c cs:aa)(w:World)(hv:∃ g lb,v=.func (.func g) #[] lb)(hc:c.At w)(hs:cs.At w)(hin:∀ x∈cs.xs,x∈c.xs)(hl:cs.xs.length<=1000) :
  Calls Tryz.prog 84 #[.agg #[v,c.val],cs.val] w fun e w'=>∃ iv:aa,e=.returned iv.val/\iv.xs=aO c.xs cs.xs/\ag.At iv w'/\Bw w w'/\∀ b,ag.blk iv=some b->w.heap.size<=b:=by
 have HV:Hid _:=hv;obtain⟨g,lb,rfl⟩:=hv;obtain⟨E,F,f⟩:=c;obtain⟨lQ,fA,a⟩:=cs;have Y:Hid _:=hc;unfold aa.val;simp only at *;obtain⟨i,n⟩:∃ x,w.alloc (.cells #[.func (.func g) #[] lb,.slice E f.length F] 139)=x:=⟨_,rfl⟩
 have m:Bw w i:=by rw[<- n]; exact bV _ _
 have Z:i.cell? (aD w.heap.size 0)=some (.func (.func g) #[] lb):=by rw[<- n]; simp
 have q1:i.cell? (aD w.heap.size 1)=some (.slice E f.length F):=by rw[<- n]; simp
 have p:aI i lQ a:=Qt m hs;have yF:Hid (∀ X B,Bw i X->B∈f->Calls Tryz.prog 128 #[.agg #[.func (.func g) #[] lb,.slice E f.length F],.int .i64 B] X fun e w'=>e=.returned (.int .i64 (aQ f B))/\Bw X w'):=fun X B hX iV=>
  vJ (.func (.func g) #[] lb) ⟨E,F,f⟩ B X ⟨g,lb,rfl⟩ (Qt (m.trans (hX.mono m.size)) Y.o) iV
 have Cz:Hid _:=hin;have ae:=p.1;have Mm:Hid _:=p;have R:Hid _:=hl;clear hc hs hin p hl;go_enter Tryz.func84,Tryz.ntmps84;go_wp2;clear n;go_loopw [5,10] (fun v iv wr=>∃ k:Nat,k<=a.length/\iv=.int .i64 k/\Hid (wr.ownsRow i.heap.size 3 1 v (aO f (a.take k)).length ((aO f (a.take k)).map (Value.int .i64)))/\Bw i wr) (fun _ iv _=>a.length-(intOf iv).toNat)
 case atStart=>exact⟨0,Zf _,rfl,ZA _ _ _ _,Qr _ _⟩
 case round=>
  obtain⟨k,hk,rfl,G,d⟩:=hrel;obtain⟨J,K,rc,rfl⟩:=Zr G.o;by_cases l:k<a.length
  ·obtain⟨b,off,rfl,z⟩:=Qe Mm.o l;have d1:=cB d (z k l);have e0:=cB d Z;have e1:=cB d q1;have t:aO f (a.take (k+1))=aO f (a.take k)++[aQ f (a.getD k 0)]:=by
    unfold aO;rw[Qm l,Qn];simp[List.getD,l]
   have u:(aO f (a.take k)).length<=1000:=by unfold aO; rw[ZB,XF]; have:=R.o; omega
   have j:=yF.o wr (a.getD k 0) d (Cz.o _ (by simp[List.getD,l]));have S:Hid (Bw i wr):=d;have MV:Hid _:=t;have H:Hid _:=u;clear z d t u;generalize aQ f (a.getD k 0)=P at *;generalize a.getD k 0=C at *;go_wp2_with fail;refine j.mono ?_;rintro e L ⟨rfl,r⟩;have q:=Zp G.o (QU (s:=fun b=>b<wr.heap.size) r (fun b _ h=>h)) (fun g hg=>(Zq G.o hg).2);have D:Bw i L:=S.o.trans (r.mono S.o.size);obtain⟨v',U,V,M,A,⟨va,vm,vc,rfl⟩,-⟩:=uu L i.heap.size (.slice J K rc) (aO f (a.take k)) q (by have:=H.o; omega) D.size P 22;have y:Bw i U:=D.trans (A.below D.size (fun b W e=>by have:=(Zq q e).1; omega));rw[<- MV.o]at M;have Iy:Hid _:=M;have lD:Hid _:=y;clear M A y q D r j e0 e1 d1;go_wp2_with (first | (at_builtin; refine X5 rfl (.tmp 14) (.tmp 18) 22 rfl (.slice J K rc) (.slice (some (aD L.heap.size 0)) 1 1) (.slice va vm vc) U rfl rfl V ?_));clear V;go_wp2;go_roundw
   case rel=>exact⟨k+1,by omega,by go_num,Iy.o,lD.o⟩
   case measure=>simp[intOf]; omega
  ·obtain rfl:k=a.length:=by omega
   have HF:Hid (aO f (a.take a.length)=aO f a):=by show _=_; rw[Qw]
   have HB:Hid (Bw i wr):=d;have I:Hid (Bw w i):=m;clear d;go_wp2;go_ret;have T:=G.o;rw[HF.o]at T;obtain⟨iv,FP,N,O,Q⟩:=ZV T (by unfold aO; rw[ZB]; have:=R.o; omega);exact⟨iv,by show Ending.returned (.slice J K rc)=.returned iv.val; rw[FP],N,O,I.o.trans (HB.o.mono I.o.size),fun b W=>QS I.o.size (Q b W)⟩
def qh(ts:List af)(src:List Int)(s:Int)(k:Nat):List Int:=((List.range k).filter fun (c:Nat)=>decide (((aj ts src (c:Int):Nat):Int)=s)).map fun (c:Nat)=>(c:Int)
theorem TA(ts:List af)(src:List Int)(s:Int)(k:Nat):qh ts src s (k+1)=if ((aj ts src (k:Int):Nat):Int)=s then qh ts src s k++[(k:Int)] else qh ts src s k:=by
 unfold qh;rw[Xa,Zi,Qn];by_cases h:((aj ts src (k:Int):Nat):Int)=s
 ·rw[Qu h]; simp[h]
 ·rw[Qv h]; simp[h]
theorem I5(ts:List af)(src:List Int)(s:Int)(k:Nat):(qh ts src s k).length<=k:=by
 unfold qh;rw[ZB];exact QS (XQ _ _) (by simp)
theorem F8(f:aS)(ts:List af)(q:ae)(s:Int)(w:World)(hf:f.At ts q w) :
  Calls Tryz.prog 124 #[.agg (f.cells ts q),.int .i64 s] w fun e w'=>∃ iv:aa,e=.returned iv.val/\iv.xs=eD ts q.src.xs s/\ag.At iv w'/\Bw w w'/\∀ b,ag.blk iv=some b->w.heap.size<=b:=by
 obtain⟨i,K,n,C⟩:=aR w ((f.cells ts q)) 70;have q7:i.cell? (aD w.heap.size 7)=some (.slice f.ca (fZ ts q).length f.cc):=C.cell 7;have l:iQ i f.ca (fZ ts q):=hf.cols.below n;have Y:=l.1;have Z:Hid _:=l;have Cj:Hid (qh ts q.src.xs s (fZ ts q).length=eD ts q.src.xs s):=rfl;have E:Hid (∀ k:Nat,((fZ ts q).getD k (0,0)).1=aj ts q.src.xs (k:Int)):=fun k=>by unfold aj fZ; rw[ZY]
 have F:Hid (Bw w i):=n;clear C l hf n;obtain⟨Rh,Ri,Rj,Rk,Rl,Rm,Rn,Ro,Rp,Rq⟩:=f;simp only at *;generalize aS.cells ⟨Rh,Ri,Rj,Rk,Rl,Rm,Rn,Ro,Rp,Rq⟩ ts q=FC at *;generalize fZ ts q=CN at *;go_enter Tryz.func124,Tryz.ntmps124;go_wp2;clear K;go_loopw [5,11] (fun v iv wr=>∃ k:Nat,k<=CN.length/\iv=.int .i64 k/\Hid (wr.ownsRow i.heap.size 3 1 v (qh ts q.src.xs s k).length ((qh ts q.src.xs s k).map (Value.int .i64)))/\Bw i wr) (fun _ iv _=>CN.length-(intOf iv).toNat)
 case atStart=>exact⟨0,Zf _,rfl,ZA _ _ _ _,Qr _ _⟩
 case round=>
  obtain⟨k,hk,rfl,D,a⟩:=hrel;obtain⟨L,M,rc,rfl⟩:=Zr D.o;by_cases R:k<CN.length
  ·obtain⟨b,off,rfl,T,U⟩:=Z.o.2 k R;have d0:=cB a T;have d1:=cB a U;rw[E.o k]at d0;have B:Hid _:=TA ts q.src.xs s k;have G:Hid _:=I5 ts q.src.xs s k;have gX:Hid (Bw i wr):=a;obtain⟨KD,z⟩:∃ x,x=(CN.getD k (0,0)).2:=⟨_,rfl⟩
   rw[<- z]at d1;clear z;obtain⟨t,p⟩:∃ x,wr.alloc (.cells #[.int .i64 ((aj ts q.src.xs (k:Int):Nat):Int),.int .u64 KD] 117)=x:=⟨_,rfl⟩
   have j:Bw wr t:=by rw[<- p]; exact bV _ _
   have S:t.cell? (aD wr.heap.size 0)=some (.int .i64 ((aj ts q.src.xs (k:Int):Nat):Int)):=by rw[<- p]; simp
   have d:=Zp D.o (QU (s:=fun b=>b<wr.heap.size) j (fun b _ h=>h)) (fun g C=>(Zq D.o C).2);have r:Bw i t:=a.trans (j.mono a.size);clear T U a S;have S:=cB (Qr _ _) (show t.cell? (aD wr.heap.size 0)=some (.int .i64 ((aj ts q.src.xs (k:Int):Nat):Int)) by rw[<- p]; simp);by_cases u:((aj ts q.src.xs (k:Int):Nat):Int)=s
   ·have H:(((aj ts q.src.xs (k:Int):Nat):Int)==s)=true:=by simpa using u
    have m:Hid (qh ts q.src.xs s (k+1)=qh ts q.src.xs s k++[(k:Int)]):=B.o.trans (Qu u);obtain⟨v',V,W,N,A,⟨va,vm,vc,rfl⟩,-⟩:=uu t i.heap.size (.slice L M rc) (qh ts q.src.xs s k) d (by have:=G.o; omega) r.size (k:Int) 22;have y:Bw i V:=r.trans (A.below r.size (fun b X e=>by have:=(Zq d e).1; omega));rw[<- m.o]at N;have I:Hid _:=N;have J:Hid _:=y;clear N A y d r j u B;generalize ((aj ts q.src.xs (k:Int):Nat):Int)=SRC at *;go_wp2_with (first | (at_builtin; refine X5 rfl (.tmp 20) (.tmp 22) 22 rfl (.slice L M rc) (.slice (some (aD t.heap.size 0)) 1 1) (.slice va vm vc) V rfl rfl W ?_));clear W;go_wp2;go_roundw
    case rel=>exact⟨k+1,by omega,by go_num,I.o,J.o⟩
    case measure=>simp[intOf]; omega
   ·have H:(((aj ts q.src.xs (k:Int):Nat):Int)==s)=false:=by simpa using u
    have m:Hid (qh ts q.src.xs s (k+1)=qh ts q.src.xs s k):=B.o.trans (Qv u);rw[<- m.o]at d;have I:Hid _:=d;have J:Hid _:=r;clear d r j u B;generalize ((aj ts q.src.xs (k:Int):Nat):Int)=SRC at *;go_wp2;go_roundw
    case rel=>exact⟨k+1,by omega,by go_num,I.o,J.o⟩
    case measure=>simp[intOf]; omega
  ·obtain rfl:k=CN.length:=by omega
   have HB:Hid (Bw i wr):=a;clear a;go_wp2;go_ret;have ho:=D.o;obtain⟨iv,FP,O,P,Q⟩:=ZV ho (by have:=I5 ts q.src.xs s CN.length; omega);exact⟨iv,by show Ending.returned (.slice L M rc)=.returned iv.val; rw[FP],O.trans Cj.o,P,F.o.trans (HB.o.mono F.o.size),fun b X=>QS F.o.size (Q b X)⟩
theorem Lc(hk:k<cs.length):∀ x∈aA (cs.getD k cz),x∈aG cs:=fun x a=>by
 unfold aG;rw[Xr];exact⟨cs.getD k cz,by simp[List.getD,hk],a⟩
structure Cm(tC tD:TypeId)(C:List Int)(cs:List ak)(w2:World)(Bm:Nat)(k:Nat)(v:Value)(W:World):Prop where
 below:Bw w2 W
 box:GB W Bm tC #[v]
 own:W.ownsRow w2.heap.size tD 5 v k (((cs.take k).map (dB C)).flatMap ak.vals)
 off:v.ownBlock≠some Bm
theorem Cm.keep{tC tD:TypeId}{C:List Int}{cs:List ak}{w2:World}{Bm k:Nat}{v:Value}{A B:World}(h:Cm tC tD C cs w2 Bm k v A)(hb:Bw A B):Cm tC tD C cs w2 Bm k v B:=
 ⟨h.below.trans (hb.mono h.below.size),h.box.of (hb.block _ h.box.lt),Zp h.own (QU (s:=fun b=>b<A.heap.size) hb (fun b _ h=>h)) (fun g a=>(Zq h.own a).2),h.off⟩
theorem Cm.set{tC tD:TypeId}(h:Cm tC tD C cs w2 Bm k v A){G i:Nat}(hG:w2.heap.size<=G)(h1:G≠Bm)(h2:v.ownBlock≠some G):Cm tC tD C cs w2 Bm k v (A.setCell (aD G i) u):=by
 have a:Kept (fun b=>b≠G) A (A.setCell (aD G i) u):=Zn _ _ _ (fun h=>h rfl);exact⟨h.below.trans (a.below h.below.size (fun b f=>by omega)),h.box.keep a (fun e=>h1 e.symm),Zp h.own a (fun g d e=>h2 (e ▸ d)),h.off⟩
theorem TD(h:GB W B 81 #[v]):(loadVar 81 (aD B 0)).run Tryz.prog W=.ok (.agg #[v]) W:=by
 have a:W.cell? (aD B 0)=some v:=h.cell 0;simp[go_sem,a]
theorem Ou(h:Cm 81 77 C cs w2 Bm k v W)(hk:k<=100)(hB:w2.heap.size<=Bm)(d:ak)(hd:(cs.take (k+1)).map (dB C)=(cs.take k).map (dB C)++[d]) :
  ∃ a m c w',(Builtin.append_ #[79,79] 79 #[v,.slice (some (aD W.heap.size 0)) 1 1]).run Tryz.prog (W.alloc (.cells #[.bool d.not,.int .i64 d.op,.int .i64 d.left,.bool d.const,.int .i64 d.right] 77))=.ok (.slice a m c) w'/\
   w'.cell? (aD Bm 0)=some v/\w'.frozen? (aD Bm 0)=false/\Cm 81 77 C cs w2 Bm (k+1) (.slice a m c) (w'.setCell (aD Bm 0) (.slice a m c)):=by
 obtain⟨y,z,q,r,s⟩:=Zy Tryz.Es;obtain⟨E,w',A,B,n,⟨a,m,c,rfl⟩,t⟩:=qN (P:=Tryz.prog) W w2.heap.size 79 79 77 y _ 5 40 Tryz.underlying79 z q r s rfl (by decide) v k _ h.own h.below.size d.vals rfl (by unfold ak.vals; simp[Value.oneCell']) (by omega) (by omega);have w:=h.box.lt;have o:GB w' Bm 81 #[v]:=h.box.keep n h.off;have f:(Value.slice a m c).ownBlock≠some Bm:=fun e=>by
  rcases t with p | p
  ·exact h.off (p.symm.trans e)
  ·rw[p]at e; injection e with e; omega
 have i:Kept (fun b=>b≠Bm) w' (w'.setCell (aD Bm 0) (.slice a m c)):=Zn _ _ _ (fun h=>h rfl);have j:∀ b,v.ownBlock=some b->w2.heap.size<=b:=fun b u=>(Zq h.own u).1
 have l:Bw w2 w':=h.below.trans (n.below h.below.size (fun b u e=>by have:=j b e; omega));refine⟨a,m,c,w',A,o.cell 0,o.frozen 0,l.trans (i.below l.size (fun b u=>by omega)),o.set 0 _,?_,f⟩;rw[hd,Xb,QG,List.flatMap_nil,XB];exact Zp B i (fun g D e=>f (e ▸ D))
theorem YG(ca:Option Addr)(cc:Nat)(cs:List ak)(v:Value)(c:aa)(w:World)(hx:bH w ca cs)(hl:cs.length<=100)(hv:∃ g lb,v=.func (.func g) #[] lb)(hc:c.At w)(hin:∀ x∈aG cs,x∈c.xs) :
  Calls Tryz.prog 148 #[.agg #[.slice ca cs.length cc],.func (.func 128) #[.agg #[v,c.val]] #[]] w fun e w'=>∃ mv:az,e=.returned (.agg #[mv.val])/\mv.cs=cs.map (dB c.xs)/\bH w' mv.ad mv.cs/\(∀ a,mv.ad=some a->w.heap.size<=a.block/\a.block<w'.heap.size)/\Bw w w':=by
 obtain⟨i0,hi,aU,aV,aW⟩:=Zy Tryz.Es;have yF:Hid (∀ X dA,Bw w X->dA∈c.xs->Cb 128 #[.agg #[v,c.val],.int .i64 dA] X (.int .i64 (aQ c.xs dA))):=fun X dA hX iV=>vJ v c dA X hv (Qt hX hc) iV
 have uz:Hid _:=hl;have Cz:Hid _:=hin;have HX:Hid _:=hx;have bG:=hx.1;obtain⟨m,E⟩:∃ x,w.alloc (.cells #[.slice ca cs.length cc] 81)=x:=⟨_,rfl⟩
 have V:Bw w m:=by rw[<- E]; exact bV _ _
 have s1:m.heap.size=w.heap.size+1:=by rw[<- E]; simp
 have q0:m.cell? (aD w.heap.size 0)=some (.slice ca cs.length cc):=by rw[<- E]; simp
 obtain⟨j,F⟩:∃ x,m.alloc (.cells #[.slice none 0 0] 81)=x:=⟨_,rfl⟩
 have W:Bw m j:=by rw[<- F]; exact bV _ _
 have s2:j.heap.size=w.heap.size+2:=by rw[<- F]; simp[s1]
 have g2:GB j m.heap.size 81 #[.slice none 0 0]:=by rw[<- F]; exact lZ _ _
 have q2:=cB W q0;obtain⟨B,bD,N,aX⟩:=run_make_own (P:=Tryz.prog) j j.heap.size 79 77 i0 _ 5 Tryz.underlying79 hi aU aV .i64 .i64 cs.length (by rw[aW]; omega) (by unfold maxLen; omega) (Qs _);have H:Bw j B:=(Zo (s:=fun _=>True) aX (fun r e=>by cases e)).below (Qs _) (fun _ _=>trivial);have aF:j.heap.size<B.heap.size:=by
  have:=(Zq N (g:=j.heap.size) rfl).2;exact this
 obtain⟨w4,aY,ay,g4⟩:=aR B #[.slice (some (aD j.heap.size 0)) 0 cs.length] 81;have Ov:Bw j w4:=H.trans (ay.mono H.size);have q3:=cB H q2;have q4:=cB Ov q2;have bq:Hid (Cm 81 77 c.xs cs j B.heap.size 0 (.slice (some (aD j.heap.size 0)) 0 cs.length) w4):=
  ⟨Ov,g4,Zp N (QU (s:=fun b=>b<B.heap.size) ay (fun b _ h=>h)) (fun g hg=>(Zq N hg).2),fun e=>absurd (Option.some.inj (show some j.heap.size=some B.heap.size from e)) (by omega)⟩
 have U:Bw w j:=V.trans (W.mono V.size);have I:Hid (Bw w j):=U;have aH:Hid (GB j m.heap.size 81 #[.slice none 0 0]):=g2;have HS:Hid (j.heap.size=w.heap.size+2/\j.heap.size<B.heap.size):=⟨s2,aF⟩
 have Mm:Hid (m.heap.size=w.heap.size+1):=s1;have bI:Hid _:=F;have bJ:Hid _:=E;have bK:Hid _:=aY;have bL:w4.cell? (aD B.heap.size 0)=some (.slice (some (aD j.heap.size 0)) 0 cs.length):=g4.cell 0;obtain⟨g,lb,rfl⟩:=hv;obtain⟨iZ,di,l⟩:=c;unfold aa.val at *;simp only at *;clear hx hc hin hi aU aV aW hl V W s1 q0 s2 g2 N aX H aF ay g4 Ov U;go_enter Tryz.func148,Tryz.ntmps148;go_wp2;clear bD E F aY;go_loopw [16] (fun iv wr=>∃ k:Nat,k<=cs.length/\iv=.int .i64 k/\∃ v,Cm 81 77 l cs j B.heap.size k v wr) (fun iv _=>cs.length-(intOf iv).toNat)
 case atStart=>exact⟨0,Zf _,rfl,_,bq.o⟩
 case round=>
  obtain⟨k,hk,rfl,v,O⟩:=hrel;obtain⟨t,y,rc,rfl⟩:=Zr O.own;have HM:Hid _:=O;have bu:=O.box.cell 0;have bz:=O.box.frozen 0;have bA:=cB O.below q2;have xS:=O.below.size;have J:Hid (j.heap.size<=wr.heap.size/\B.heap.size<wr.heap.size):=⟨xS,O.box.lt⟩
  have K:Hid (Bw w wr):=I.o.trans (O.below.mono I.o.size);clear O xS;by_cases S:k<cs.length
  ·obtain⟨b,off,rfl,c0,c1,c2,c3,c4⟩:=HX.o.2 k S;have d0:=cB K.o c0;have d1:=cB K.o c1;have d2:=cB K.o c2;have d3:=cB K.o c3;have d4:=cB K.o c4;have aI:Hid _:=Lc S;have aJ:Hid ((cs.take (k+1)).map (dB l)=(cs.take k).map (dB l)++[dB l (cs.getD k cz)]):=by
    show _=_
    rw[Qm S,Qn];simp[List.getD,S]
   clear c0 c1 c2 c3 c4;generalize cs.getD k cz=cd at *;obtain⟨f,op,left,d,right⟩:=cd;simp only at *;obtain⟨w5,NL,aB,g5⟩:=aR wr #[.bool f,.int .i64 op,.int .i64 left,.bool d,.int .i64 right] 77;have M5:=HM.o.keep aB;have Ch:Hid (Bw w w5):=K.o.trans (aB.mono K.o.size);have e2:w5.cell? (aD wr.heap.size 2)=some (.int .i64 left):=g5.cell 2;have Y:left∈l:=Cz.o _ (aI.o _ (by unfold aA; split <;> simp));have aK:=yF.o w5 left Ch.o Y;have RI:Hid _:=M5;have aL:Hid _:=g5;clear M5 g5 aB bu bz bA;generalize bn:aQ l left=P1 at *;go_wp2_with fail;refine aK.mono ?_;rintro e w6 ⟨rfl,Q⟩;have g6:GB w6 wr.heap.size 77 #[.bool f,.int .i64 op,.int .i64 left,.bool d,.int .i64 right]:=GB.of aL.o (Q.block _ (GB.lt aL.o));have M6:=RI.o.keep Q;have qx:Hid (Bw w w6):=Ch.o.trans (Q.mono Ch.o.size);have f2:w6.cell? (aD wr.heap.size 2)=some (.int .i64 left):=g6.cell 2;have t2:w6.frozen? (aD wr.heap.size 2)=false:=g6.frozen 2;have g7:GB (w6.setCell (aD wr.heap.size 2) (.int .i64 P1)) wr.heap.size 77 #[.bool f,.int .i64 op,.int .i64 P1,.bool d,.int .i64 right]:=g6.set 2 _;have Z:(Value.slice t y rc).ownBlock≠some wr.heap.size:=fun e=>by have:=(Zq HM.o.own e).2; omega
   have M7:=M6.set (i:=2) (u:=.int .i64 P1) (G:=wr.heap.size) J.o.1 (by have:=J.o.2; omega) Z;have B7:Bw w (w6.setCell (aD wr.heap.size 2) (.int .i64 P1)):=I.o.trans (M7.below.mono I.o.size);have n:Hid _:=g7;have aM:Hid _:=M7;have Ms:Hid _:=B7;have bB:Hid _:=Z;clear g6 M6 g7 M7 B7 Z aK e2 Q;go_upto_region 6 with fail;obtain⟨w7,aZ⟩:∃ x,w6.setCell (aD wr.heap.size 2) (.int .i64 P1)=x:=⟨_,rfl⟩
   rw[aZ]at n aM Ms ⊢;clear aZ f2 t2;have h0:=QM n.o 0;have h1:=QM n.o 1;have h2:=QM n.o 2;have h3:=QM n.o 3;have h4:=QM n.o 4;have L:=uH ⟨f,op,P1,d,right⟩ w7;unfold ak.val at L;simp only at L h0 h1 h2 h3 h4;go_wp2_with fail;refine L.mono ?_;rintro e w8 ⟨rfl,Ew⟩;have g8:GB w8 wr.heap.size 77 #[.bool f,.int .i64 op,.int .i64 P1,.bool d,.int .i64 right]:=GB.of n.o (Ew.block _ (GB.lt n.o));have M8:=aM.o.keep Ew;have Yi:Hid (Bw w w8):=Ms.o.trans (Ew.mono Ms.o.size);clear L h0 h1 h2 h3 h4 Ew;by_cases T:op≠2/\d=false
   ·obtain⟨o2,rfl⟩:=T;have aN:decide (op≠2)=true:=Qy o2;have C:(!false&&decide (op≠2))=true:=by rw[aN]; rfl
    have M:right∈l:=Cz.o _ (aI.o _ (by unfold aA; rw[Qu ⟨o2,rfl⟩]; simp));have aO:=yF.o w8 right Yi.o M;have bM:Hid (aQ l right=aQ l right):=rfl;have k4:w8.cell? (aD wr.heap.size 4)=some (.int .i64 right):=g8.cell 4;have ae:Hid (dB l ⟨f,op,left,false,right⟩=⟨f,op,P1,false,aQ l right⟩):=by
     show _=_
     unfold dB;simp only;rw[Qu ⟨o2,trivial⟩,bn]
    have aP:Hid _:=g8;have bC:Hid _:=M8;clear g8 M8 o2;generalize aQ l right=P2 at *;rw[C];clear C aN;go_wp2_with fail;refine aO.mono ?_;rintro e w9 ⟨rfl,qR⟩;have g9:GB w9 wr.heap.size 77 #[.bool f,.int .i64 op,.int .i64 P1,.bool false,.int .i64 right]:=GB.of aP.o (qR.block _ (GB.lt aP.o));have M9:=bC.o.keep qR;have f4:w9.cell? (aD wr.heap.size 4)=some (.int .i64 right):=g9.cell 4;have t4:w9.frozen? (aD wr.heap.size 4)=false:=g9.frozen 4;have A:Hid (GB (w9.setCell (aD wr.heap.size 4) (.int .i64 P2)) wr.heap.size 77 #[.bool f,.int .i64 op,.int .i64 P1,.bool false,.int .i64 P2]):=g9.set 4 _;have z:Hid (Cm 81 77 l cs j B.heap.size k (.slice t y rc) (w9.setCell (aD wr.heap.size 4) (.int .i64 P2))):=M9.set (i:=4) (u:=.int .i64 P2) (G:=wr.heap.size) J.o.1 (by have:=J.o.2; omega) bB.o;have af:Hid ((cs.take (k+1)).map (dB l)=(cs.take k).map (dB l)++[⟨f,op,P1,false,P2⟩]):=by
     show _=_
     rw[aJ.o,ae.o]
    clear g9 M9 aO qR k4;go_upto_region 8 with fail;obtain⟨wz,bf⟩:∃ x,w9.setCell (aD wr.heap.size 4) (.int .i64 P2)=x:=⟨_,rfl⟩
    rw[bf]at A z ⊢;clear bf f4 t4;have ag:=QM A.o 0;have ah:=QM A.o 1;have ai:=QM A.o 2;have aj:=QM A.o 3;have au:=QM A.o 4;have av:=z.o.box.cell 0
    try simp only at ag ah ai aj au av
    obtain⟨pa,pm,pc,wp,Ld,bE,bF,Rs⟩:=Ou z.o (by have:=uz.o; omega) (by have:=HS.o; omega) ⟨f,op,P1,false,P2⟩ af.o
    try simp only at Ld
    have ax:Hid _:=Rs;clear Rs;go_wp2_with (first | (at_builtin; refine X5 rfl (.tmp 33) (.tmp 35) 79 rfl (.slice t y rc) (.slice (some (aD wz.heap.size 0)) 1 1) (.slice pa pm pc) wp rfl rfl Ld ?_));clear Ld;go_wp2;go_roundw
    case rel=>exact⟨k+1,by omega,by go_num,_,ax.o⟩
    case measure=>simp[intOf]; omega
   ·have C:(!d&&decide (op≠2))=false:=by
     cases d with
     | true => rfl
     | false => simp only[Bool.not_false,Qz]; exact Qg (fun h => T ⟨h,rfl⟩)
    have ae:Hid (dB l ⟨f,op,left,d,right⟩=⟨f,op,P1,d,right⟩):=by
     show _=_
     unfold dB;simp only;rw[Qv T,bn]
    have af:Hid ((cs.take (k+1)).map (dB l)=(cs.take k).map (dB l)++[⟨f,op,P1,d,right⟩]):=by
     show _=_
     rw[aJ.o,ae.o]
    have A:Hid (GB w8 wr.heap.size 77 #[.bool f,.int .i64 op,.int .i64 P1,.bool d,.int .i64 right]):=g8;have z:Hid (Cm 81 77 l cs j B.heap.size k (.slice t y rc) w8):=M8;clear g8 M8 T;rw[C];clear C;have ag:=QM A.o 0;have ah:=QM A.o 1;have ai:=QM A.o 2;have aj:=QM A.o 3;have au:=QM A.o 4;have av:=z.o.box.cell 0
    try simp only at ag ah ai aj au av
    obtain⟨pa,pm,pc,wp,Ld,bE,bF,Rs⟩:=Ou z.o (by have:=uz.o; omega) (by have:=HS.o; omega) ⟨f,op,P1,d,right⟩ af.o
    try simp only at Ld
    have ax:Hid _:=Rs;clear Rs;go_wp2_with (first | (at_builtin; refine X5 rfl (.tmp 33) (.tmp 35) 79 rfl (.slice t y rc) (.slice (some (aD w8.heap.size 0)) 1 1) (.slice pa pm pc) wp rfl rfl Ld ?_));clear Ld;go_wp2;go_roundw
    case rel=>exact⟨k+1,by omega,by go_num,_,ax.o⟩
    case measure=>simp[intOf]; omega
  ·obtain rfl:k=cs.length:=by omega
   obtain⟨Mt,zI,bg,aC,R⟩:=zH (cs:=cs.map (dB l)) (by have h:=HM.o.own; rw[Qw]at h; rw[ZB]; exact h) (by rw[ZB]; exact uz.o);have aS:Value.slice t y rc=.slice Mt (cs.map (dB l)).length zI:=bg;have tY:Hid (GB wr (m.heap.size) 81 #[.slice none 0 0]):=aH.o.of (HM.o.below.block _ aH.o.lt);have bN:wr.cell? (aD m.heap.size 0)=some (.slice none 0 0):=QM tY.o 0;have bO:wr.frozen? (aD m.heap.size 0)=false:=QN tY.o 0;have qQ:Hid (GB (wr.setCell (aD m.heap.size 0) (.slice t y rc)) (m.heap.size) 81 #[.slice t y rc]):=GB.set tY.o 0 _;have q:Kept (fun b=>b≠m.heap.size) wr (wr.setCell (aD m.heap.size 0) (.slice t y rc)):=Zn _ _ _ (fun h=>h rfl);have aT:bH (wr.setCell (aD m.heap.size 0) (.slice t y rc)) Mt (cs.map (dB l)):=⟨aC.1,fun i hi=>by
    obtain⟨b,off,e,c0,c1,c2,c3,c4⟩:=aC.2 i hi;have hb:=(R (aD b off) e).1;have D:b≠m.heap.size:=by have:=HS.o.1; have:=Mm.o; have h':j.heap.size<=b:=hb; omega
    exact⟨b,off,e,Zj c0 q D,Zj c1 q D,Zj c2 q D,Zj c3 q D,Zj c4 q D⟩⟩
   have jH:Hid (∃ mv:az,Ending.returned (.agg #[.slice t y rc])=.returned (.agg #[mv.val])/\mv.cs=cs.map (dB l)/\bH (wr.setCell (aD m.heap.size 0) (.slice t y rc)) mv.ad mv.cs/\(∀ a,mv.ad=some a->w.heap.size<=a.block/\a.block<(wr.setCell (aD m.heap.size 0) (.slice t y rc)).heap.size)/\Bw w (wr.setCell (aD m.heap.size 0) (.slice t y rc))):=
    ⟨⟨Mt,zI,cs.map (dB l)⟩,by rw[aS]; rfl,rfl,aT,fun a ha=>by
     have h1:j.heap.size<=a.block:=(R a ha).1;have h2:=(R a ha).2.1;have h3:(wr.setCell (aD m.heap.size 0) (.slice t y rc)).heap.size=wr.heap.size:=by simp[World.setCell]
     have:=HS.o.1;omega,K.o.trans (q.below K.o.size (fun b hb=>by have:=Mm.o; show b≠_; omega))⟩
   have qV:Hid _:=TD qQ.o;clear aC R bg aS q aT;go_wp2;refine ZN (Jk (p:=4) rfl rfl qV.o) rfl ?_;exact jH.o
theorem Oy{c:ak}{n:Int}(h:df c n=true)(hin:∀ x∈aA c,x∈C):df (dB C c) C.length=true:=by
 have a:∀ x∈C,0<=aQ C x/\aQ C x<C.length:=fun x l=>by
  have:=XT.2 l;unfold aQ;omega
 unfold df at h ⊢;unfold dB;simp only[Qo,QE]at h ⊢;obtain⟨⟨⟨⟨o,p⟩,i⟩,j⟩,b⟩:=h;unfold aA at hin;by_cases d:c.op≠2/\c.const=false
 ·rw[Qu d]at hin ⊢;have f:=a _ (hin c.left (by simp));have m:=a _ (hin c.right (by simp));refine⟨⟨⟨f,i⟩,j⟩,?_⟩;rw[Qv d.1,Qv (by rw[d.2]; simp)];simp only[Qo,QE];omega
 ·rw[Qv d]at hin ⊢;have f:=a _ (hin c.left (by simp));refine⟨⟨⟨f,i⟩,j⟩,?_⟩;by_cases g:c.op=2
  ·rw[Qu g]at b ⊢; exact b
  ·rw[Qv g]at b ⊢;have k:c.const=true:=by
    cases e:c.const with
    | true => rfl
    | false => exact absurd ⟨g,e⟩ d
   rw[Qu k]at b ⊢;exact b
def Le(ls:List az)(C is:List Int)(ms:List az):Prop:=ms.map az.cs=is.map fun i=>(ls.getD i.toNat lz).cs.map (dB C)
theorem Le.holds(h:Le ls C is ms)(r:List Int):dK ms r=iC ls C is r:=by
 unfold dK iC;have a:(ms.all fun c=>jK c.cs r)=(ms.map az.cs).all fun cs=>jK cs r:=by rw[List.all_map]; rfl
 have b:(is.all fun i=>jK ((ls.getD i.toNat lz).cs.map (dB C)) r)=(is.map fun i=>(ls.getD i.toNat lz).cs.map (dB C)).all fun cs=>jK cs r:=by rw[List.all_map]; rfl
 rw[a,b,h]
theorem Oz(bx:Nat)(Mt:Option Addr)(zI:Nat)(ms:List az)(x:aa)(w:World)(hb:w.cell? (aD bx 0)=some (.slice Mt ms.length zI))(hx:x.At w)(hq:bX w Mt ms)(hcs:∀ i,i<ms.length->∀ k,k<(ms.getD i lz).cs.length->df ((ms.getD i lz).cs.getD k cz) x.xs.length=true) :
  Calls Tryz.prog 149 (#[x.val] ++ #[.pointer (some (aD bx 0))]) w fun e w'=>e=.returned (.bool (dK ms x.xs))/\Bw w w':=by
 have b:=I7 Mt zI ms x.ad x.cap x.xs w hx hq hcs;obtain⟨d,f,xs⟩:=x;unfold aa.val;simp only at *
 show Calls Tryz.prog 149 #[.slice d xs.length f,.pointer (some (aD bx 0))] w _
 clear hx hq hcs;generalize dK ms xs=B at *;go_enter Tryz.func149,Tryz.ntmps149;go_wp2_with fail;refine b.mono ?_;rintro e g ⟨rfl,a⟩;go_wp2;go_ret;exact⟨rfl,a⟩
structure OA(tL tC:TypeId)(ls:List az)(C is:List Int)(w4:World)(Bx:Nat)(k:Nat)(v:Value)(ms:List az)(W:World):Prop where
 kept:Kept (fun b=>b≠Bx) w4 W
 box:GB W Bx tL #[v]
 own:W.ownsRow w4.heap.size tC 1 v ms.length (ms.map az.val)
 moved:Le ls C (is.take k) ms
 at':∀ m∈ms,bH W m.ad m.cs/\∀ a,m.ad=some a->w4.heap.size<=a.block/\a.block<W.heap.size/\v.ownBlock≠some a.block
theorem bH.kept{B:World}{ao:Option Addr}{s:Nat->Prop}(h:bH A ao cs)(hk:Kept s A B)(hs:∀ a,ao=some a->s a.block):bH B ao cs:=⟨h.1,fun i m=>by
 obtain⟨b,off,e,f,g,j,k,l⟩:=h.2 i m;have d:=hs _ e;exact⟨b,off,e,Zj f hk d,Zj g hk d,Zj j hk d,Zj k hk d,Zj l hk d⟩⟩
theorem bX.kept{A B:World}{ao:Option Addr}{ls:List az}{s:Nat->Prop}(h:bX A ao ls)(hk:Kept s A B)(h1:∀ a,ao=some a->s a.block)(h2:∀ m∈ls,∀ a,m.ad=some a->s a.block):bX B ao ls:=
 ⟨h.1,h.2.1.keep (fun a b e=>hk.block _ e (h1 a b)),fun i d=>(h.2.2 i d).kept hk (fun a b=>h2 _ (by simp[List.getD,d]) a b)⟩
theorem OA.keep{tL tC:TypeId}{ls:List az}{C is:List Int}{w4:World}{Bx k:Nat}{v:Value}{ms:List az}{A B:World}(h:OA tL tC ls C is w4 Bx k v ms A)(hb:Bw A B):OA tL tC ls C is w4 Bx k v ms B:=
 ⟨h.kept.trans (QU hb (fun b hb _=>hb)),h.box.of (hb.block _ h.box.lt),Zp h.own (QU (s:=fun b=>b<A.heap.size) hb (fun b _ h=>h)) (fun g i=>(Zq h.own i).2),h.moved,fun m d=>
  ⟨(h.at' m d).1.kept (QU (s:=fun b=>b<A.heap.size) hb (fun b _ h=>h)) (fun a e=>((h.at' m d).2 a e).2.1),fun a e=>by
   have f:=(h.at' m d).2 a e;exact⟨f.1,by have:=hb.size; omega,f.2.2⟩⟩⟩
theorem acA{w4:World}{Bx:Nat}(h:OA 24 81 ls C is w4 Bx k v ms W)(hk:ms.length<=100)(hB:Bx<w4.heap.size)(hlt:k<is.length)(m:az)(hmc:m.cs=(ls.getD (is.getD k 0).toNat lz).cs.map (dB C))(hma:bH W m.ad m.cs)
  (hmb:∀ a,m.ad=some a->w4.heap.size<=a.block/\a.block<W.heap.size/\v.ownBlock≠some a.block) :
  ∃ a l c w',(Builtin.append_ #[24,24] 24 #[v,.slice (some (aD W.heap.size 0)) 1 1]).run Tryz.prog (W.alloc (.cells #[m.val] 81))=.ok (.slice a l c) w'/\
   w'.cell? (aD Bx 0)=some v/\w'.frozen? (aD Bx 0)=false/\OA 24 81 ls C is w4 Bx (k+1) (.slice a l c) (ms++[m]) (w'.setCell (aD Bx 0) (.slice a l c))/\
   Kept (fun b=>b≠Bx/\v.ownBlock≠some b) (W.alloc (.cells #[m.val] 81)) w'/\Kept (fun b=>b≠Bx/\v.ownBlock≠some b) w' (w'.setCell (aD Bx 0) (.slice a l c)):=by
 obtain⟨N,O,y,z,A⟩:=Zy Tryz.Et;have J:=h.kept.size;have K:(W.alloc (.cells #[m.val] 81)).heap.size=W.heap.size+1:=by simp
 obtain⟨S,w',Q,I,B,_,D⟩:=X6 (P:=Tryz.prog) (W.alloc (.cells #[m.val] 81)) w4.heap.size 24 24 81 N _ 1 24 Tryz.underlying24 O y z A rfl (by decide) v ms.length (ms.map az.val) (h.own.alloc _)
  (aD W.heap.size 0) 1 1 [m.val] rfl (cell_one_new W m.val 81) (by simp[az.val,Value.oneCell']) (by unfold maxLen; omega) (by omega) (by omega)
 obtain⟨a,l,c,rfl⟩:=Zr I;have q:Kept (fun b=>v.ownBlock≠some b) (W.alloc (.cells #[m.val] 81)) w':=Zo B (fun r e h=>h e);have i:Kept (fun b=>v.ownBlock≠some b) W w':=(QX _ _).trans q;have n:∀ b,v.ownBlock=some b->w4.heap.size<=b/\b<W.heap.size:=fun b p=>Zq h.own p
 have s:v.ownBlock≠some Bx:=fun e=>by have:=(n _ e).1; omega
 have u:GB w' Bx 24 #[v]:=h.box.keep i s;have o:∀ b,(Value.slice a l c).ownBlock=some b->v.ownBlock=some b∨b=W.heap.size+1:=fun b p=>by
  rcases D with e | e
  ·exact .inl (e.symm.trans p)
  ·rw[e,K]at p;exact .inr (Option.some.inj p).symm
 have w:(Value.slice a l c).ownBlock≠some Bx:=fun e=>by
  rcases o _ e with t | t
  ·exact s t
  ·omega
 have d:Kept (fun b=>b≠Bx) w' (w'.setCell (aD Bx 0) (.slice a l c)):=Zn _ _ _ (fun h=>h rfl);have L:=i.size;have M:=d.size;have j:∀ x∈ms++[m],bH W x.ad x.cs/\∀ a,x.ad=some a->w4.heap.size<=a.block/\a.block<W.heap.size/\v.ownBlock≠some a.block:=fun x f=>by
  rcases Zx.1 f with f | f
  ·exact h.at' x f
  ·rw[Zw]at f;subst f;exact⟨hma,hmb⟩
 refine⟨a,l,c,w',Q,u.cell 0,u.frozen 0,⟨((h.kept.trans' i (fun b p _ e=>by have:=(n b e).1; omega))).trans d,u.set 0 _,?_,?_,fun x f=>⟨?_,fun R E=>?_⟩⟩,q.mono (fun _ _ h=>h.2),d.mono (fun _ _ h=>h.1)⟩
 ·rw[ZC,Qn];exact Zp I d (fun g B e=>w (e ▸ B))
 ·have e:is[k]=is.getD k 0:=by simp[List.getD,hlt]
  have G:=h.moved;unfold Le at G ⊢;rw[Qn,G,Qm hlt,Qn,e];simp only[XH,List.map_nil,hmc]
 ·exact((j x f).1.kept i (fun a F=>((j x f).2 a F).2.2)).kept d (fun a F=>by have:=((j x f).2 a F).1; show a.block≠Bx; omega)
 ·have t:=(j x f).2 R E;exact⟨t.1,by omega,fun e=>by
   rcases o _ e with H | H
   ·exact t.2.2 H
   ·omega⟩
theorem OC(gi gk:Nat)(jB VK:Array Value)(w:World):Calls Tryz.prog 46 #[.func (.func gi) #[] jB,.func (.func gk) #[] VK] w fun e w'=>e=.returned (.func (.func 76) #[] #[.pointer (some (aD w.heap.size 0)),.pointer (some (aD (w.heap.size+1) 0))])/\
  w' = (w.alloc (.cells #[.func (.func gi) #[] jB] 87)).alloc (.cells #[.func (.func gk) #[] VK] 108):=by
 go_enter Tryz.func46,Tryz.ntmps46;go_wp2;go_ret;exact⟨rfl,rfl⟩
theorem uI(h:GB W B 139 #[v,u]):(loadVar 139 (aD B 0)).run Tryz.prog W=.ok (.agg #[v,u]) W:=by
 have a:W.cell? (aD B 0)=some v:=h.cell 0;have b:W.cell? (aD B 1)=some u:=h.cell 1;simp[go_sem,a,b]

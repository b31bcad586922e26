import Derived.Test.YtjndadibondgbaaGreatDoorL37
import Derived.Test.YtjndadibondgbaaGreatDoorL42
set_option linter.all false
set_option maxRecDepth 100000
set_option maxHeartbeats 16000000
namespace Go.Proofs.Zz
open Go.RowKit Go.Shelf
variable {L:Nat->Prop} {M ns:List ah} {w:World} {k:Nat} {q:ae} {ts:List af} {db:List aN} {X:List (List Int)}
theorem fJ.nodes{tn:TypeId}{v:Value}(h:fJ tn L v ns w)(h0:0<ns.length)(hl:ns.length<=1000):∃ g b,v=.slice (some (aD g 0)) ns.length b/\ns.length<=b/\g<w.heap.size/\fq w (some (aD g 0)) ns/\(∀ i,i<ns.length->(ns.getD i nz).co.xs.length<=(ns.getD i nz).co.cap)/\∀ j u,(ns.flatMap ah.list)[j]? = some u->w.cell? (aD g j)=some u:=by
 rcases qL h.own with⟨_,h1⟩ | ⟨g,b,rfl,hb,hlt,hc⟩
 ·omega
 have k:∀ i,i<ns.length->ns.getD i nz∈ns:=fun i a=>by
  rw[Ja,ZT a];exact Qk a
 have f:ns.length<=b:=by
  rcases h.own.2 with⟨e,_⟩ | ⟨_,_,_,e,_,_,hle,_⟩
  ·cases e
  ·cases e; exact hle
 have d:∀ i,i<ns.length->∀ j u,j<7->(ns.getD i nz).list[j]? = some u->w.cell? (aD g (0+i*7+j))=some u:=fun i a j u l m=>by
  rw[QJ];exact hc _ _ (by rw[flat_get ah.list 7 (fun _=>rfl) nz ns i j a l]; exact m)
 exact⟨g,b,rfl,f,hlt,⟨by omega,fun i a=>⟨g,0,rfl,d i a 0 _ (by omega) rfl,d i a 1 _ (by omega) rfl,d i a 2 _ (by omega) rfl,d i a 3 _ (by omega) rfl,d i a 4 _ (by omega) rfl,d i a 5 _ (by omega) rfl,d i a 6 _ (by omega) rfl,(h.lists _ (k i a) _ (.inl rfl)).1.1,(h.lists _ (k i a) _ (.inr rfl)).1.1⟩⟩,fun i a=>(h.lists _ (k i a) _ (.inr rfl)).2.2,hc⟩
theorem IY(f:ah->List Value)(hf:∀ n,(f n).length=7):∀ (ns:List ah) (k:Nat),(ns.take k).flatMap f=(ns.flatMap f).take (k*7)
 | [],k => by simp
 | n::ns,0 => by simp
 | n::ns,k+1 => by
  rw[List.take_succ_cons,QG,QG,IY f hf ns k,List.take_append,hf,show (k+1)*7-7=k*7 by omega,X0 (l:=f n) (by rw[hf]; omega)]
theorem Tryz.Vp:Tryz.prog.elem 32=36:=by kernel_rfl
theorem asQ(g n rc k:Nat)(hk:k<=rc)(x:World):(Instr.sliceAt 32 (.slice (some (aD g 0)) n rc) none (some (.int .i64 (k:Int))) none).run Tryz.prog x=.ok (.slice (some (aD g 0)) k rc) x:=by
 have b:Tryz.prog.underlying 32=some (.slice (Tryz.prog.elem 32)):=by rw[Tryz.Vp]; exact Tryz.underlying32
 obtain⟨j,e,f,a,i⟩:=Zy Tryz.D6;have d:(sizeOf (Tryz.prog.elem 32)).run Tryz.prog x=.ok 7 x:=by
  rw[Tryz.Vp];simp[sizeOf,typeInfo,e,a]
 rw[run_sliceAt_slice x 32 _ _ _ _ b,run_slice_h x 32 _ _ _ b _ _ (by omega) (by omega),d]
 show Result.ok (sliced _ _ _ _ _) x=_
 unfold sliced;by_cases c:rc=0
 ·simp[c]
 ·simp[c,addr_add]
theorem fJ.copy{g cap:Nat}{W:World}(h:fJ 36 L (.slice (some (aD g 0)) ns.length cap) ns W)(hl:ns.length<=100)(hk:k<=ns.length) :
  ∃ a c w',(Builtin.append_ #[32,32] 32 #[.slice none 0 0,.slice (some (aD g 0)) k cap]).run Tryz.prog W=.ok (.slice a k c) w'/\fJ 36 (fun _=>True) (.slice a k c) (ns.take k) w'/\Bw W w'/\∀ b,(Value.slice a k c).ownBlock=some b->W.heap.size<=b:=by
 obtain⟨D,E,t,v,w⟩:=Zy Tryz.D6;have f:(ns.take k).length=k:=by simp; omega
 obtain⟨z,w',A,B,F,_,y⟩:=X6 (P:=Tryz.prog) W 0 32 32 36 D _ 7 88 Tryz.underlying32 E t v w rfl (by decide) (.slice none 0 0) 0 [] (ZA _ _ _ _) (aD g 0) k cap ((ns.take k).flatMap ah.list) (by rw[zk ah.list 7 (fun _=>rfl),f]) (fun j u p=>by
   rw[addr_add,QJ];rw[IY ah.list (fun _=>rfl),ZW]at p;split at p
   ·rcases qL h.own with⟨e,_⟩ | ⟨g',cap',e,_,_,hc⟩
    ·cases e
    ·cases e; exact hc j u p
   ·cases p) (fun u o=>by
   obtain⟨n,_,o⟩:=Xr.1 o;unfold ah.list aa.val at o;simp at o;rcases o with rfl | rfl | rfl | rfl | rfl | rfl | rfl <;> rfl) (by unfold maxLen; omega) (by omega) (Zf _)
 rw[QJ,Zd]at B;have i:∀ b,z.ownBlock=some b->W.heap.size<=b:=fun b d=>by
  rcases y with e | e
  ·rw[e]at d; cases d
  ·rw[e]at d; cases d; exact Qs _
 have m:=Zo F (s:=fun _=>True) (fun r e _=>by cases e);have q:fJ 36 (fun _=>True) z (ns.take k) w':=⟨by rw[f]; exact B,fun n H l I=>by
  obtain⟨C,J,G⟩:=h.lists n (XW H) l I;refine⟨ag.keep C m.size fun b d _=>m.block b d trivial,fun b d=>⟨trivial,fun e=>?_⟩,G⟩;have:=ag.sV C d;have:=i b e;omega⟩
 obtain⟨a,c,rfl⟩:=q.slice;rw[f]at A q i;exact⟨a,c,w',A,q,m.below (Qs _) (fun _ _=>trivial),i⟩
theorem KR{P:List ah}(h:ns.map bU=P)(i:Nat):(ns.getD i nz).kind=(P.getD i nz).kind:=by
 subst h;rw[Ja,Ja,ZR]
 cases ns[i]? <;> rfl
theorem zx(q:ae)(k:Nat):(jL q k).length=if q.ord.xs=[] then 1 else 2:=by
 unfold jL;by_cases h:q.ord.xs=[]
 ·rw[Qu h,Qu h]; rfl
 ·rw[Qv h,Qv h]; rfl
theorem Em(hM:∀ n∈M,n.kind<=6)(h:ns.map bU=M++jL q M.length):M.length<ns.length/\ns.length<=M.length+2/\(∀ i,i<ns.length->(ns.getD i nz).kind≠8)/\(q.ord.xs=[]∨(ns.getD (ns.length-1) nz).kind=10)/\(∀ i,i<M.length->(ns.getD i nz).kind≠9/\(ns.getD i nz).kind≠7)/\((ns.getD M.length nz).kind=9∨(ns.getD M.length nz).kind=7):=by
 have e:ns.length=M.length+if q.ord.xs=[] then 1 else 2:=by
  have:=congrArg List.length h;rw[ZB,ZC,zx]at this;exact this
 have d:∀ i,i<M.length->(ns.getD i nz).kind<=6:=fun i b=>by
  rw[KR h,Jb,Qu b];exact hM _ (by rw[Ja,ZT b]; exact Qk b)
 have f:(ns.getD M.length nz).kind=if q.group then 7 else 9:=by
  rw[KR h,Jb,Qv (by omega),XZ];rfl
 have g:q.ord.xs≠[]->(ns.getD (M.length+1) nz).kind=10:=fun a=>by
  rw[KR h,Jb,Qv (by omega),Nat.add_sub_cancel_left];unfold jL;rw[Qv a];rfl
 refine⟨by split at e <;> omega,by split at e <;> omega,fun i b=>?_,?_,fun i b=>?_,?_⟩
 ·by_cases c:i<M.length
  ·have:=d i c; omega
  ·by_cases j:i=M.length
   ·rw[j,f]; split <;> omega
   ·split at e
    ·omega
    ·rename_i a
     rw[show i=M.length+1 by omega,g a]; omega
 ·by_cases a:q.ord.xs=[]
  ·exact .inl a
  ·rw[Qv a]at e;exact .inr (by rw[show ns.length-1=M.length+1 by omega]; exact g a)
 ·have:=d i b; omega
 ·rw[f]; split <;> simp
theorem Yk(h:ns.map bU=M++jL q M.length){i:Nat}(h0:M.length<=i)(h1:i<ns.length):(jL q (M.length+1)).take (i+1-M.length)=(jL q (M.length+1)).take (i-M.length)++[{ bU (ns.getD i nz) with l:=(i:Int) }]:=by
 have e:bU (ns.getD i nz)=(M++jL q M.length).getD i nz:=by
  rw[<- h,Ja,Ja,ZR,ZT h1];rfl
 have a:=congrArg List.length h;rw[ZB,ZC,zx]at a;rw[e,Jb,Qv (by omega)];obtain⟨j,rfl⟩:∃ j,i=M.length+j:=⟨i-M.length,by omega⟩
 rw[Nat.add_sub_cancel_left,show M.length+j+1-M.length=j+1 by omega];unfold jL;by_cases b:q.ord.xs=[]
 ·rw[Qu b]at a;obtain rfl:j=0:=by omega
  simp[nd]
 ·rw[Qv b]at a ⊢;rw[Qv b]
  match j,(show j=0∨j=1 by omega) with
  | 0,_ => simp[nd]
  | 1,_ => simp[nd]
theorem Yl{xs ys:List Int}(hl:xs.length=ys.length)(hk:k<xs.length):xs.take (k+1)=ys.take (k+1)↔xs.take k=ys.take k/\xs.getD k 0=ys.getD k 0:=by
 have a:k<ys.length:=by omega
 rw[Qm hk,Qm a];have b:xs.getD k 0=xs[k]:=by simp[List.getD,hk]
 have d:ys.getD k 0=ys[k]:=by simp[List.getD,a]
 rw[b,d];constructor
 ·intro h;have:=List.append_inj h (by simp; omega);exact⟨this.1,by simpa using this.2⟩
 ·rintro⟨e,f⟩;rw[e,f]
theorem Ym(ao bo:Option Addr)(cap cap':Nat)(xs ys:List Int)(w:World)(hx:aI w ao xs)(hy:aI w bo ys) :
  Cb 53 #[.slice ao xs.length cap,.slice bo ys.length cap'] w (.bool (decide (xs=ys))):=by
 have E:=hx.1;have u:=hy.1;obtain⟨B,q⟩:∃ b,b=decide (xs=ys):=⟨_,rfl⟩
 rw[<- q];have g:=Zh q;clear q;by_cases a:xs.length=ys.length
 ·have v:=Zh fun (k:Nat) (r:k<xs.length)=>Yl a r
  have z:=Zh (show xs.take xs.length=ys.take xs.length->xs=ys from fun h=>by rw[Qw,a,Qw]at h; exact h);have A:=Zh (show ∀ k,¬ xs.take k=ys.take k->¬ xs=ys from fun k h e=>h (by rw[e]));rw[<- a];go_enter Tryz.func53,Tryz.ntmps53;go_wp2;go_loopw [5] (fun i wr=>∃ k:Nat,k<=xs.length/\i=.int .i64 k/\Hid (xs.take k=ys.take k)/\∃ n,wr=w.drewN n) (fun i _=>xs.length-(intOf i).toNat)
  case atStart=>exact⟨0,Zf _,rfl,rfl,0,rfl⟩
  case round=>
   obtain⟨k,r,rfl,s,n,rfl⟩:=hrel;by_cases f:k<xs.length
   ·obtain⟨b,off,rfl,t⟩:=hx.get f;obtain⟨b',off',rfl,m⟩:=hy.get (i:=k) (by omega);have F:=t k f;have C:=m k (by omega);have d:=v.o k f;clear t m hx hy a;by_cases j:xs.getD k 0=ys.getD k 0
    ·have D:=Zh (d.2 ⟨s.o,j⟩);rw[<- j]at C;generalize xs.getD k 0=x at *;clear j d;go_wp2;go_quiet (fail);go_wp2;go_roundw
     case rel=>exact⟨k+1,by omega,by go_num,D.o,_,rfl⟩
     case measure=>simp[intOf]; omega
    ·have l:Hid (B=false):=by show B=false; rw[g.o]; exact Qg (A.o (k+1) fun h=>j (d.1 h).2)
     have p:(xs.getD k 0==ys.getD k 0)=false:=by simpa using j
     generalize xs.getD k 0=x at *;generalize ys.getD k 0=y at *;clear j d g;go_wp2;go_quiet (fail);go_wp2;go_ret;exact⟨by rw[l.o]; rfl,ZF (ZF (Qr _ _) _) _⟩
   ·obtain rfl:k=xs.length:=by omega
    have l:Hid (B=true):=by show B=true; rw[g.o]; exact Qy (z.o s.o)
    clear g;go_wp2;go_ret;exact⟨by rw[l.o]; rfl,ZF (Qr _ _) _⟩
 ·have l:Hid (B=false):=by show B=false; rw[g.o]; exact Qg fun e=>a (by rw[e])
  have p:(((xs.length:Nat):Int)==((ys.length:Nat):Int))=false:=by
   have:¬ ((xs.length:Nat):Int)=((ys.length:Nat):Int):=by omega
   simpa using this
  clear a g hx hy;go_enter Tryz.func53,Tryz.ntmps53;go_wp2;go_ret;exact⟨by rw[l.o]; rfl,Qr _ _⟩
theorem F3(a b:Int)(w:World):Ce 37 #[.int .i64 a,.int .i64 b] w (.bool (decide (dz a b<0))):=by
 obtain⟨B,d⟩:∃ x,x=decide (dz a b<0):=⟨_,rfl⟩
 rw[<- d];unfold dz at d;by_cases i:a=1073741824
 ·subst i;by_cases f:b=1073741824
  ·subst f;have g:Hid (B=false):=by show B=false; rw[d]; rfl
   clear d;go_enter Tryz.func37,Tryz.ntmps37;go_wp2;go_ret;exact⟨by rw[g.o]; rfl,rfl⟩
  ·have g:Hid (B=true):=by show B=true; rw[d,Qv (fun e=>f e.symm),Qu rfl]; rfl
   have j:(b==1073741824)=false:=by simpa using f
   have k:Hid ((b != 1073741824)=true):=by show (b != 1073741824)=true; simp[bne,j]
   clear d f;go_enter Tryz.func37,Tryz.ntmps37;go_wp2;go_ret;exact⟨by rw[g.o,<- k.o]; rfl,rfl⟩
 ·have m:(a==1073741824)=false:=by simpa using i
  by_cases f:b=1073741824
  ·subst f;have g:Hid (B=false):=by show B=false; rw[d,Qv i,Qv i,Qu rfl]; rfl
   clear d i;go_enter Tryz.func37,Tryz.ntmps37;go_wp2;go_ret;exact⟨by rw[g.o]; rfl,rfl⟩
  ·have j:(b==1073741824)=false:=by simpa using f
   have g:Hid (B=decide (a<b)):=by
    show B=_
    rw[d];by_cases e:a=b
    ·rw[Qu e,e]; simp
    ·rw[Qv e,Qv i,Qv f];by_cases l:a<b
     ·rw[Qu l,Qy l]; rfl
     ·rw[Qv l,Qg l]; rfl
   clear d i f;go_enter Tryz.func37,Tryz.ntmps37;go_wp2;go_ret;exact⟨by rw[g.o]; rfl,rfl⟩
theorem F4(q:ae)(w:World)(h1:q.keys.xs.length<=1000)(h2:q.sums.xs.length<=1000):Cb 21 #[.agg q.cells] w (.int .i64 (oQ q.group q.keys.xs q.sums.xs q.aK.xs)):=by
 obtain⟨m,k,e,f⟩:=aR w q.cells 26;have g:=Zh e;obtain⟨n,p,r,s,t,u,v⟩:=f.k7;obtain⟨src,y,z,wh,d,⟨A,B,a⟩,⟨C,D,b⟩,⟨E,F,G⟩,l⟩:=q;simp only[ae.cells,aa.val]at *;unfold oQ
 cases d with
 | true =>
  have i:wrap64 ((a.length:Int)+1)=(a.length:Int)+1:=by unfold wrap64; omega
  have j:Hid (wrap64 ((a.length:Int)+1+b.length)=(a.length:Int)+1+b.length):=by show wrap64 _=_; unfold wrap64; omega
  clear e f;go_enter Tryz.func21,Tryz.ntmps21;go_wp2;go_ret;exact⟨by first | rfl | (rw[<- j.o]; rfl),g.o⟩
 | false =>
  clear e f;go_enter Tryz.func21,Tryz.ntmps21;go_wp2;go_ret;exact⟨rfl,g.o⟩
theorem zy(ao:Option Addr)(cap:Nat)(rs:List aa)(r:aa)(w:World)(hr:iA w ao rs)(hx:r.At w)(hl:rs.length<=1000000) :
  Cb 38 #[.slice ao rs.length cap,r.val] w (.int .i64 (((rs.map aa.xs).count r.xs:Nat):Int)):=by
 obtain⟨M,p⟩:∃ M:Nat->Nat,M=fun k=>((rs.take k).map aa.xs).count r.xs:=⟨_,rfl⟩
 have u:Hid (M 0=0):=by rw[p]; rfl
 have v:Hid (∀ k,k<rs.length->M (k+1)=if (rs.getD k iz).xs=r.xs then M k+1 else M k):=fun k q=>by
  rw[p];simp only;rw[Qm q,Qn,List.count_append];have e:rs.getD k iz=rs[k]:=by simp[List.getD,q]
  rw[e];by_cases h:rs[k].xs=r.xs
  ·rw[Qu h]; simp[h]
  ·rw[Qv h]; simp[h]
 have y:Hid (M rs.length=(rs.map aa.xs).count r.xs):=by rw[p]; show List.count _ (List.map _ (rs.take rs.length))=_; rw[Qw]
 have z:Hid (∀ k,M k<=rs.length):=fun k=>by
  rw[p];refine QS List.count_le_length ?_;rw[ZB,XF];omega
 generalize (rs.map aa.xs).count r.xs=MC at *;have A:=Zh fun (x:World) (k:Nat) (s:Bw w x) (q:k<rs.length)=>Ym (rs.getD k iz).ad r.ad (rs.getD k iz).cap r.cap (rs.getD k iz).xs r.xs x (Qt s (hr.2.2 k q)) (Qt s hx)
 have D:=Zh hr.2.1;obtain⟨I,rc,E⟩:=r;simp only[aa.val]at *;clear p hr hx;go_enter Tryz.func38,Tryz.ntmps38;go_wp2;go_loopw [5,6] (fun n i wr=>∃ k:Nat,k<=rs.length/\i=.int .i64 k/\n=.int .i64 (M k:Int)/\Bw w wr) (fun _ i _=>rs.length-(intOf i).toNat)
 case atStart=>exact⟨0,Zf _,rfl,by rw[u.o]; rfl,Qr _ _⟩
 case round=>
  obtain⟨k,q,rfl,rfl,f⟩:=hrel;by_cases g:k<rs.length
  ·obtain⟨b,off,rfl,C⟩:=Qd D.o g;have B:=cB f (C k g);have a:=A.o wr k f g;have d:=v.o k g;have H:=z.o k;have t:=Zh f;clear C f;generalize rs.getD k iz=x at *;obtain⟨J,K,F⟩:=x;simp only[aa.val]at *;by_cases m:F=E
   ·rw[Qu m]at d;rw[Qy m]at a;have j:=Zh d;clear m d;go_wp2_with fail;refine a.mono ?_;rintro e G ⟨rfl,l⟩;clear a B;generalize M k=mk at *;go_wp2;go_roundw
    case rel=>exact⟨k+1,by omega,by go_num,by rw[j.o]; go_num,aC t.o l⟩
    case measure=>simp[intOf]; omega
   ·rw[Qv m]at d;rw[Qg m]at a;have j:=Zh d;clear m d;go_wp2_with fail;refine a.mono ?_;rintro e G ⟨rfl,l⟩;clear a B;go_wp2;go_roundw
    case rel=>exact⟨k+1,by omega,by go_num,by rw[j.o],aC t.o l⟩
    case measure=>simp[intOf]; omega
  ·obtain rfl:k=rs.length:=by omega
   have t:=Zh f;clear f;rw[y.o];go_wp2;go_ret;exact⟨rfl,t.o⟩
theorem Oe(ao bo:Option Addr)(cap cap':Nat)(ra rb:List aa)(w:World)(ha:iA w ao ra)(hb:iA w bo rb)(hl:ra.length<=1000000)(hp:(ra.map aa.xs).Perm (rb.map aa.xs)) :
  Cb 23 #[.slice ao ra.length cap,.slice bo rb.length cap'] w (.bool true):=by
 have g:rb.length=ra.length:=by have:=hp.length_eq; rw[ZB,ZB]at this; omega
 have r:=Zh fun (x:World) (k:Nat) (j:Bw w x) (q:k<ra.length)=>zy ao cap ra (ra.getD k iz) x (ha.below j) (Qt j (ha.2.2 k q)) hl
 have l:=Zh fun (x:World) (k:Nat) (j:Bw w x) (q:k<ra.length)=>zy bo cap' rb (ra.getD k iz) x (hb.below j) (Qt j (ha.2.2 k q)) (by omega)
 have A:=Zh fun (k:Nat)=>hp.count_eq (ra.getD k iz).xs
 rw[g]at l ⊢;have B:=Zh ha.2.1;have C:=ha.1;clear ha hb hp g;go_enter Tryz.func23,Tryz.ntmps23;go_wp2;go_loopw [5] (fun i wr=>∃ k:Nat,k<=ra.length/\i=.int .i64 k/\Bw w wr) (fun i _=>ra.length-(intOf i).toNat)
 case atStart=>exact⟨0,Zf _,rfl,Qr _ _⟩
 case round=>
  obtain⟨k,q,rfl,a⟩:=hrel;by_cases f:k<ra.length
  ·obtain⟨b,off,rfl,z⟩:=Qd B.o f;have u:=cB a (z k f);have v:=r.o wr k a f;have y:=Zh fun (x:World) (j:Bw w x)=>l.o x k j f
   rw[<- A.o k]at y;have p:=Zh a;clear z a;generalize ((ra.map aa.xs).count (ra.getD k iz).xs:Nat)=M at *;generalize ra.getD k iz=x at *;obtain⟨F,G,H⟩:=x;simp only[aa.val]at *;go_wp2_with fail;refine v.mono ?_;rintro e E ⟨rfl,d⟩;have m:=y.o E (aC p.o d);have D:=cB d u;have s:=Zh (aC p.o d);clear v u d;go_wp2_with fail;refine m.mono ?_;rintro e I ⟨rfl,n⟩;have t:=Zh (aC s.o n);clear m D n;go_wp2;go_roundw
   case rel=>exact⟨k+1,by omega,by go_num,t.o⟩
   case measure=>simp[intOf]; omega
  ·obtain rfl:k=ra.length:=by omega
   have p:=Zh a;clear a;go_wp2;go_ret;exact⟨rfl,p.o⟩
theorem IZ{a b ps:List Int}(h:cmpL a b ps<=0):∀ k,(∀ j,j<k->j<ps.length->a.getD (ps.getD j 0).toNat 0=b.getD (ps.getD j 0).toNat 0)->cmpL a b (ps.drop k)<=0
 | 0,_ => h
 | k+1,he => by
  have ih:=IZ h k fun j hj hl=>he j (by omega) hl
  by_cases hk:k<ps.length
  ·rw[XI hk]at ih;unfold cmpL at ih;have e:ps.getD k 0=ps[k]:=by simp[List.getD,hk]
   have:=he k (by omega) hk;rw[e]at this;rw[Qu (by rw[this]; unfold dz; rw[Qu rfl])]at ih;exact ih
  ·rw[List.drop_eq_nil_of_le (by omega)];unfold cmpL;omega
theorem afB{a b ps:List Int}(h:cmpL a b ps<=0)(hk:k<ps.length)(he:∀ j,j<k->j<ps.length->a.getD (ps.getD j 0).toNat 0=b.getD (ps.getD j 0).toNat 0):¬ dz (b.getD (ps.getD k 0).toNat 0) (a.getD (ps.getD k 0).toNat 0)<0:=by
 have d:=IZ h k he;rw[XI hk]at d;unfold cmpL at d;have e:ps.getD k 0=ps[k]:=by simp[List.getD,hk]
 rw[e,uj];by_cases f:dz (a.getD ps[k].toNat 0) (b.getD ps[k].toNat 0)=0
 ·omega
 ·rw[Qv f]at d;omega
theorem En(ao:Option Addr)(cap:Nat)(rs:List aa)(ps:aa)(w:World)(hr:iA w ao rs)(hp:ps.At w)(hl:rs.length<=1000000)(hin:∀ r∈rs,aM ps.xs r.xs.length=true)(hs:bS (DF ps.xs) (rs.map aa.xs)) :
  Cb 22 #[.slice ao rs.length cap,ps.val] w (.bool true):=by
 have uw:Hid (∀ i,i+1<rs.length->cmpL (rs.getD i iz).xs (rs.getD (i+1) iz).xs ps.xs<=0):=fun i hi=>by
  have h:=DN.1 hs;rw[Xt]at h;have h1:=h i (i+1) (by rw[ZB]; omega) (by rw[ZB]; omega) (by omega);have e1:rs.getD i iz=rs[i]:=by simp[List.getD,show i<rs.length by omega]
  have e2:rs.getD (i+1) iz=rs[i+1]:=by simp[List.getD,hi]
  rw[e1,e2]
  simpa using h1
 have D:=Zh hr;have HP:=Zh hp;have Cz:=Zh hin;have ag:=hp.1;clear hs hr hp hin;obtain⟨pa,pc,d⟩:=ps;simp only[aa.val]at *;go_enter Tryz.func22,Tryz.ntmps22;go_wp2;go_loopw [5] (fun i wr=>∃ k:Nat,1<=k/\(k<=rs.length∨k=1)/\i=.int .i64 k/\Bw w wr) (fun i _=>rs.length-(intOf i).toNat)
 case atStart=>exact⟨1,Qs _,.inr rfl,rfl,Qr _ _⟩
 case round=>
  obtain⟨i,aB,hi,rfl,q⟩:=hrel;by_cases l:i<rs.length
  ·have S:=Zh q;clear q;obtain⟨a,rfl⟩:∃ a,i=a+1:=⟨i-1,by omega⟩
   have HC:=Zh (uw.o a l);have hI:(a:Int)+1<(rs.length:Int):=by omega
   go_wp2;go_loopw [6] (fun kv wq=>∃ k:Nat,k<=d.length/\kv=.int .i64 k/\Hid (∀ j,j<k->j<d.length->(rs.getD a iz).xs.getD (d.getD j 0).toNat 0=(rs.getD (a+1) iz).xs.getD (d.getD j 0).toNat 0)/\Bw w wq) (fun kv _=>d.length-(intOf kv).toNat)
   case atStart=>exact⟨0,Zf _,rfl,fun j hj=>absurd hj (by omega),S.o⟩
   case round=>
    obtain⟨k,hk,rfl,W,b⟩:=hrel;by_cases m:k<d.length
    ·obtain⟨pb,po,rfl,K⟩:=Qe (Qt b HP.o) m;have T:=K k m;obtain⟨P,Q,Z,A⟩:=Qd (D.o.below b).2.1 l;subst Z;have s:=A (a+1) l;have t:=A a (by omega);have E:rs.getD (a+1) iz∈rs:=by simp[List.getD,l]
     have F:rs.getD a iz∈rs:=by simp[List.getD,show a<rs.length by omega]
     have G:=Qq (Cz.o _ E) m;have H:=Qq (Cz.o _ F) m;have ep:d.getD k 0=d[k]:=by simp[List.getD,m]
     rw[<- ep]at G H;obtain⟨f,B⟩:∃ f:Nat,d.getD k 0=(f:Int):=⟨(d.getD k 0).toNat,by omega⟩
     have n:=Zh (afB HC.o m W.o);rw[B]at T G H n;rw[ZY]at n;obtain⟨cb,Kn,Bq,L⟩:=Qe ((D.o.below b).2.2 (a+1) l) (i:=f) (by omega);obtain⟨db,M,ae,N⟩:=Qe ((D.o.below b).2.2 a (by omega)) (i:=f) (by omega);have u:=L f (by omega);have v:=N f (by omega);have y:Hid ((rs.getD a iz).xs.getD f 0=(rs.getD (a+1) iz).xs.getD f 0->∀ j,j<k+1->j<d.length->(rs.getD a iz).xs.getD (d.getD j 0).toNat 0=(rs.getD (a+1) iz).xs.getD (d.getD j 0).toNat 0):=fun h j hj hl=>by
      by_cases af:j<k
      ·exact W.o j af hl
      ·obtain rfl:j=k:=by omega
       rw[B,ZY];exact h
     have p:=Zh b;have ah:=((D.o.below b).2.2 (a+1) l).1;have ai:=((D.o.below b).2.2 a (by omega)).1;clear K A L N E F ep B b W;generalize rs.getD (a+1) iz=X at *;generalize rs.getD a iz=Y at *;obtain⟨xa,xc,xx⟩:=X;obtain⟨ya,yc,yx⟩:=Y;simp only[aa.val]at *;subst Bq;subst ae;have aj:wrap64 ((a:Int)+1-1)=(a:Int):=by unfold wrap64; omega
     have ak:(k:Int)<(d.length:Int):=by omega
     have au:(a:Int)<(rs.length:Int):=by omega
     generalize xx.getD f 0=xv at *;generalize yx.getD f 0=yv at *;by_cases R:yv=xv
     ·have U:=Zh (y.o R);subst R;clear y n;go_wp2;go_quiet (fail);go_wp2;go_roundw
      case rel=>exact⟨k+1,by omega,by go_num,U.o,ZF p.o _⟩
      case measure=>simp[intOf]; omega
     ·have av:(xv==yv)=false:=by simpa using fun e=>R e.symm
      have I:=fun x=>(F3 xv yv x).mono fun e w' h=>show e=.returned (.bool false)/\Bw x w' from ⟨by rw[h.1,Qg n.o],h.2 ▸ Qr _ _⟩
      have J:=Zh I;have ax:(0:Int)<=(a:Int)+1:=by omega
      have ay:IntKind.i64.wrap (a:Int)=(a:Int):=by rw[IntKind.wrap_i64]; omega
      clear y n R I;go_wp2;go_quiet (fail);go_upto_region 9 with fail;obtain⟨wz,C⟩:∃ z,wr.drewN nq=z:=⟨_,rfl⟩
      have g:Bw wr wz:=by rw[<- C]; exact ZF (Qr _ _) _
      have V:=Zh (aC p.o g);have s:=cB g s;have t:=cB g t;have u:=cB g u;have v:=cB g v;rw[C];clear C g;refine QA (by kernel_rfl) (by kernel_rfl) ?_;refine qS (.slice (some (aD P Q)) rs.length cap) ?_;refine qS (.int .i64 ((a:Int)+1)) ?_;refine qS (.pointer (some (aD P (Q+(a+1))))) ?_;refine qC (.slice (some (aD cb Kn)) xx.length xc) s ?_;refine qS (.int .i64 (f:Int)) ?_;refine qS (.pointer (some (aD cb (Kn+f)))) ?_;refine qC (.int .i64 xv) u ?_;refine qS (.slice (some (aD P Q)) rs.length cap) ?_;refine qS (.int .i64 ((a:Int)+1)) ?_;refine qS (.int .i64 (a:Int)) ?_;refine qS (.pointer (some (aD P (Q+a)))) ?_;refine qC (.slice (some (aD db M)) yx.length yc) t ?_;refine qS (.int .i64 (f:Int)) ?_;refine qS (.pointer (some (aD db (M+f)))) ?_;refine qC (.int .i64 yv) v ?_;go_big_quiet_want;refine⟨.bool false,fun x hx=>?_,?_⟩
      ·have hC:=QC hx (J.o x);go_simp
      simp only[pU];go_big_quiet_on;refine XY ?_;intro w5 O;have lD:=Zh (aC V.o O);clear O J;go_wp2;go_roundw
      case rel=>exact⟨a+1+1,by omega,by omega,by go_num,lD.o⟩
      case measure=>simp[intOf]; omega
    ·have az:¬ ((k:Int)<(d.length:Int)):=by omega
     have p:=Zh b;clear b;go_wp2;go_roundw
     case rel=>exact⟨a+1+1,by omega,by omega,by go_num,p.o⟩
     case measure=>simp[intOf]; omega
  ·have S:=Zh q;have aA:¬ ((i:Int)<(rs.length:Int)):=by omega
   clear q;go_wp2;go_ret;exact⟨rfl,S.o⟩
def Eo(X:List (List Int))(w:World)(e:Ending)(w':World):Prop:=∃ (ao:Option Addr) (cap:Nat) (ys:List aa),e=.returned (.tuple #[.slice ao ys.length cap,.int .i64 0])/\iA w' ao ys/\ys.map aa.xs=X/\Bw w w'
structure Og(q:ae)(n:Nat)(X:List (List Int)):Prop where
 few:X.length<=1000000
 lens:∀ r∈X,r.length=n
 ord:aM q.ord.xs (n:Int)=true
 sorted:bS (DF q.ord.xs) X
theorem Oh(co d po:Option Addr)(cm cc dm dc pm pc:Nat)(q:ae)(A B:List (List Int))(n:Nat)(w:World)(hq:q.ord.At w)(hk:q.keys.xs.length<=1000)(hu:q.sums.xs.length<=1000)(hn:oQ q.group q.keys.xs q.sums.xs q.aK.xs=(n:Int))(hA:Og q n A)(hB:Og q n B)(hp:A.Perm B)
  (he:∀ x,Bw w x->Calls Tryz.prog 15 #[.slice co cm cc,.agg q.cells,.slice d dm dc] x (Eo A x))
  (hx:∀ x,Bw w x->Calls Tryz.prog 18 #[.slice co cm cc,.agg q.cells,.slice po pm pc,.slice d dm dc] x (Eo B x))
  (hf:∀ x,Bw w x->Cb 19 #[.slice co cm cc,.agg q.cells,.slice po pm pc] x (.int .i64 0)) :
  Cb 7 #[.agg (caseA (.slice co cm cc) q (.slice d dm dc)),.slice po pm pc] w (.bool true):=by
 obtain⟨w1,az,K,hg⟩:=aR w (caseA (.slice co cm cc) q (.slice d dm dc)) 29;have W:=Zh he;have Y:=Zh hx;have Z:=Zh hf;have C:=Zh fun x=>F4 q x hk hu
 rw[hn]at C;have gX:=Zh fun (x:World) (z:Option Addr) (s:Nat) (ys:List aa) (X:List (List Int)) (h:iA x z ys) (e:ys.map aa.xs=X) (ok:Og q n X)=>Yn z s ys n x h (by have:=ok.few; rw[<- e,ZB]at this; exact this) (fun y hy=>ok.lens _ (by rw[<- e]; exact ZU.2 ⟨y,hy,rfl⟩))
 have wN:=Zh fun (x:World) (z:Option Addr) (s:Nat) (ys:List aa) (X:List (List Int)) (hx:Bw w x) (h:iA x z ys) (e:ys.map aa.xs=X) (ok:Og q n X)=>En z s ys q.ord x h (Qt hx hq) (by have:=ok.few; rw[<- e,ZB]at this; exact this) (fun y hy=>by rw[ok.lens y.xs (by rw[<- e]; exact ZU.2 ⟨y,hy,rfl⟩)]; exact ok.ord) (by rw[e]; exact ok.sorted)
 have Cg:=Zh fun (x:World) (z bo:Option Addr) (s R:Nat) (ys zs:List aa) (h:iA x z ys) (h':iA x bo zs) (e:ys.map aa.xs=A) (e':zs.map aa.xs=B)=>Oe z bo s R ys zs x h h' (by have:=hA.few; rw[<- e,ZB]at this; exact this) (by rw[e,e']; exact hp)
 have HA:=Zh hA;have HB:=Zh hB;have b:=Zh K;have a:=Zh fun (x:World) (hx:Bw w1 x)=>GB.k9 (hg.of (hx.block _ hg.lt))
 clear he hx hf hk hu hn hA hB hp hq K hg;obtain⟨src,bE,aF,wh,aA,aB,aD,aK,aG⟩:=q;simp only[caseA,ae.cells,aa.val]at *;obtain⟨f,g,i,j,k,l,m,p,r⟩:=a.o w1 (Qr _ _);have h1:=W.o w1 b.o;go_enter Tryz.func7,Tryz.ntmps7;go_wp2_with fail;refine h1.mono ?_;rintro e w2 ⟨ya,yc,ys,rfl,L,M,N⟩;have k2:=N;have S:=Zh (XX L M);have pg:=Zh k2;clear f g i j k l m p r;obtain⟨f,g,i,j,k,l,m,p,r⟩:=a.o w2 k2;have h2:=Y.o w2 (aC b.o k2);clear h1 az L M N k2;go_wp2_with fail;refine h2.mono ?_;rintro e w3 ⟨za,zc,zs,rfl,O,P,D⟩;have k3:=aC pg.o D;have T:=Zh (XX O P);have xD:=Zh k3;have af:=Zh (S.o.1.below D);clear f g i j k l m p r;obtain⟨f,g,i,j,k,l,m,p,r⟩:=a.o w3 k3;have h3:=Z.o w3 (aC b.o k3);clear h2 O P D k3;go_wp2_with fail;refine h3.mono ?_;rintro e w4 ⟨rfl,t⟩;have k4:=aC xD.o t;have ag:=Zh k4;have ah:=Zh (af.o.below t);have ai:=Zh (T.o.1.below t);clear f g i j k l m p r;obtain⟨f,g,i,j,k,l,m,p,r⟩:=a.o w4 k4;have h4:=C.o w4;clear h3 t k4;go_wp2_with fail;refine h4.mono ?_;rintro e w5 ⟨rfl,u⟩;have k5:=aC ag.o u;have aj:=Zh k5;have E:=Zh (ah.o.below u);have ak:=Zh (ai.o.below u);clear f g i j k l m p r;obtain⟨f,g,i,j,k,l,m,p,r⟩:=a.o w5 k5;have h5:=gX.o w5 ya yc ys A E.o S.o.2 HA.o;clear h4 u k5;go_wp2_with fail;refine h5.mono ?_;rintro e w6 ⟨rfl,rfl⟩;have h6:=C.o w6;clear h5;go_wp2_with fail;refine h6.mono ?_;rintro e w7 ⟨rfl,U⟩;have k7:=aC aj.o U;have F:=Zh k7;have G:=Zh (E.o.below U);have H:=Zh (ak.o.below U);clear f g i j k l m p r;obtain⟨f,g,i,j,k,l,m,p,r⟩:=a.o w7 k7;have h7:=gX.o w7 za zc zs B H.o T.o.2 HB.o;clear h6 U k7;go_wp2_with fail;refine h7.mono ?_;rintro e w8 ⟨rfl,rfl⟩;have h8:=wN.o w8 ya yc ys A (aC b.o F.o) G.o S.o.2 HA.o
 clear h7;go_wp2_with fail;refine h8.mono ?_;rintro e w9 ⟨rfl,V⟩;have k9:=aC F.o V;have au:=Zh k9;have av:=Zh (G.o.below V);have I:=Zh (H.o.below V);clear f g i j k l m p r;obtain⟨f,g,i,j,k,l,m,p,r⟩:=a.o w9 k9;have h9:=wN.o w9 za zc zs B (aC b.o k9) I.o T.o.2 HB.o;clear h8 V k9;go_wp2_with fail;refine h9.mono ?_;rintro e Vd ⟨rfl,v⟩;have J:=Cg.o Vd ya za yc zc ys zs (av.o.below v) (I.o.below v) S.o.2 T.o.2;have ax:=Zh (aC b.o (aC au.o v));clear h9 v;go_wp2_with fail;refine J.mono ?_;rintro e aH ⟨rfl,Q⟩;have ay:=Zh (aC ax.o Q);clear J Q;go_wp2;go_ret;exact⟨rfl,ay.o⟩
theorem rest_of(h:q.check ts=0):Vh ts q/\aM q.ord.xs (oQ q.group q.keys.xs q.sums.xs q.aK.xs)=true:=by
 obtain⟨_,_,_,_,_,a⟩:=mM h;unfold sK at a;simp only[Qo]at a;exact⟨⟨a.1.1.1.1.1.1.1,a.1.1.1.1.1.1.2,a.1.1.1.1.1.2⟩,a.1.1.1.1.2⟩
theorem GV(co d:Option Addr)(cc pE:Nat)(ts:List af)(q:ae)(db:List aN)(po:Option Addr)(pc:Nat)(pl:List ah)(w:World)(hts:bu w co ts)(hq:q.At w)(hkc:q.keys.xs.length<=q.keys.cap)(hoc:q.ord.xs.length<=q.ord.cap)(lF:qi w d db)(hn:fq w po pl)(hsh:eG w 0)(hcap:∀ i,i<pl.length->(pl.getD i nz).co.xs.length<=(pl.getD i nz).co.cap)
  (lC:q.check ts=0) (hdat:nW ts q.src.xs db=true) (ds:List bZ) (hlk:fV ts q pl=some ds) (h8:∀ i,i<pl.length->(pl.getD i nz).kind≠8) :
  Calls Tryz.prog 18 #[.slice co ts.length cc,.agg q.cells,.slice po pl.length pc,.slice d db.length pE] w fun e w'=>∃ (v:Value) (ys:List aa) (o:Nat->Prop) (I:World),e=.returned (.tuple #[v,.int .i64 0])/\ys.map aa.xs=mF ts q pl db pl.length (pl.length-1)/\
   eO (lK 3 I.heap.size) I.heap.size I 22 ys o w' v/\Bw w I:=by
 obtain⟨p1,p2,p3,p4,p5,p6⟩:=mM lC;have F:=yA p2;have z:=(Fg lC).1;have ok:=z.ok;have g:(db.length=ts.length/\tJ ts db=true)/\gm q.src.xs db<=20000:=by
  unfold nW at hdat;simp only[Qo,QE]at hdat;exact hdat
 obtain⟨oo,O⟩:=rest_of lC;obtain⟨h1,az,P,v,G,H⟩:=D9 ok hlk;have A:∀ i v,i<pl.length->dn ts q pl i=some v->v.out=true->(mF ts q pl db (i+1) i).length<=1000000/\∀ r∈mF ts q pl db (i+1) i,aM q.ord.xs r.length=true:=fun i v _ G H=>by
  have e:=SI ok oo pl g.1.2 g.2 (i+1) i v (by omega) G H;have p:=(Fp ok oo pl g.1.2 p4 g.2 (i+1) i v (by omega) G H).1;rw[<- e]at p;refine⟨?_,fun r hr=>?_⟩
  ·rw[p.length_eq];have h1:=uN q ((aW q.src.xs db).filter (dK q.wh));have h2:=XQ (dK q.wh) (aW q.src.xs db);have h3:=sF q.src.xs db;omega
  ·rw[sG q _ r (p.mem_iff.1 hr)];exact O
 have J:=Zh fun (f:aS) (a:Option Addr) (c:Nat) (ps:List aB) (x:World) (m:Bw w x) (aY:f.At ts q x) (aZ:PartsAt x a ps) (n:ps.map aB.d=ds)=>Me f ts q po pc pl a c ps d db.length pE (mF ts q pl db pl.length (pl.length-1)) x (hn.below m) h1 fun y hy=>Fh (dc:=pE) (pc:=pc) (pac:=c) (f:=f) (po:=po) (pa:=a) (ps:=ps) (d:=d) (w0:=x) ⟨ok,F.1,z.three,fun i hi c hc=>by obtain⟨k,hk,rfl⟩:=Qx hc; have h:=zR p5 hi hk; rwa [Ja,ZT hk]at h,aY,hn.below m,aZ,by have:=congrArg List.length n; rw[ZB]at this; omega,by rw[n]; exact P,lF.below m,g.1.1,g.1.2,g.2⟩ oo h8 F.2.2.2.1 F.2.2.2.2.1 F.2.2.1 A pl.length (pl.length-1) v (by omega) (by omega) G H y hy
 have ai:Hid ((mF ts q pl db pl.length (pl.length-1)).length<=1000000):=by
  have h:=(A (pl.length-1) v (by omega) G H).1;rw[show pl.length-1+1=pl.length by omega]at h;exact h
 obtain⟨I,aA,j,Q⟩:=aR w q.cells 26;obtain⟨g0,g1,g2,g3,g4,g5,g6⟩:=Q.k7;have B:=qD co cc ts q po pc pl I (hts.below j) (hq.below j) hkc hoc (hn.below j) (Jv j hsh) hcap;rw[lC,hlk]at B;have K:=Zh fun (x:World) (m:Bw w x)=>xw co cc ts q d pE db x (hts.below m) (Qt m hq.src) (lF.1.below m) p3 F.1
 rw[Qu hdat]at K;have aj:=Zh j;clear A P az hlk hdat lC hts hq hkc hoc lF hn hsh hcap z ok oo O p1 p2 p3 p4 p5 p6 F g G H Q j;generalize mF ts q pl db pl.length (pl.length-1)=OUT at *;obtain⟨⟨sa,sc,src⟩,bE,aF,wh,D,⟨ka,kc,R⟩,⟨ua,uc,S⟩,⟨ea,ec,aK⟩,⟨da,dc,aD⟩⟩:=q;simp only[ae.cells,aa.val]at *;go_enter Tryz.func18,Tryz.ntmps18;go_wp2_with fail;refine B.mono ?_;rintro e w2 ⟨E,T⟩;rcases T with⟨hc,_⟩ | ⟨_,hl,_⟩ | ⟨_,ds',hl,f,a,c,ps,rfl,hfa,Wz,n⟩
 ·exact absurd rfl hc
 ·cases hl
 cases hl
 have t:=aC aj.out E;obtain⟨a0,a1,a3,a4,a5,a6,a7,yI,BS,aG,n0,n1,n3,n4,n5,n6,n7,aH,aI,aJ,n8,n9,c0,c1,c3,c4,c5,c6,c7,aL,aO,aP,b2,dQ⟩:=adW f ts ⟨⟨sa,sc,src⟩,bE,aF,wh,D,⟨ka,kc,R⟩,⟨ua,uc,S⟩,⟨ea,ec,aK⟩,⟨da,dc,aD⟩⟩;obtain⟨w3,aQ,l,U⟩:=aR w2 #[.slice a0 n0 c0,.slice a1 n1 c1,.bool b2,.slice a3 n3 c3,.slice a4 n4 c4,.slice a5 n5 c5,.slice a6 n6 c6,.slice a7 n7 c7,.int .u64 (n8:Int),.int .u64 (n9:Int),.slice yI aH aL,.slice BS aI aO,.slice aG aJ aP] 70;have s:=aC t l;have C:=J.out f a c ps;rw[dQ]at C;rw[dQ];have ak:=Zh fun (x:World) (m:Bw w3 x)=>C x (aC s m) (hfa.below (aC l m)) (Wz.below (aC l m)) n
 obtain⟨k0,k1,k2,k3,k4,k5,k6,k7,k8,k9,V,W,X⟩:=U.k13;have u:=aC E l;have d0:=cB u g0;have d1:=cB u g1;have d2:=cB u g2;have d3:=cB u g3;have d4:=cB u g4;have d5:=cB u g5;have d6:=cB u g6;have L:=K.out w3 s;have au:=Zh s;clear B g0 g1 g2 g3 g4 g5 g6 C hfa Wz n dQ E t s l U u aA J;go_wp2_with fail;refine Jj L ?_;rintro e w4 ⟨rfl,b⟩;have j0:=cB b k0;have j1:=cB b k1;have j2:=cB b k2;have j3:=cB b k3;have j4:=cB b k4;have j5:=cB b k5;have j6:=cB b k6;have j7:=cB b k7;have j8:=cB b k8;have j9:=cB b k9;have av:=cB b V;have ax:=cB b W;have ay:=cB b X;have M:=ak.out w4 b;have qy:=Zh (aC au.out b);clear L d0 d1 d2 d3 d4 d5 d6 k0 k1 k2 k3 k4 k5 k6 k7 k8 k9 V W X b aQ;go_wp2_with fail;refine M.mono ?_;rintro e w5 ⟨v5,rfl,aT,aU⟩;have KE:=aC qy.out aU;obtain⟨g5,aV,rfl,Y,Z⟩:=aT;have N:=nQ (lK 3 w5.heap.size) (fun _=>rfl) g5 aV OUT w5 w5 (Qr _ _) ai.out Z Y;clear M j0 j1 j2 j3 j4 j5 j6 j7 j8 j9 av ax ay Z Y;go_wp2_with fail;refine N.mono ?_;rintro e w6 ⟨v6,ys,o6,rfl,aX,ag⟩;obtain⟨va,vn,vc,rfl⟩:=Zr ag.own;clear N;go_wp2;go_ret2;exact⟨_,ys,o6,w5,rfl,aX,ag,KE⟩
theorem agS(rows:List (List Int)):bS (DF []) rows:=List.pairwise_of_forall fun _ _=>rfl
theorem JY(lC:q.check ts=0)(hdat:nW ts q.src.xs db=true){n:Nat}(hn:oQ q.group q.keys.xs q.sums.xs q.aK.xs=(n:Int))(hp:X.Perm (jE q ((aW q.src.xs db).filter (dK q.wh))))(hs:bS (DF q.ord.xs) X):Og q n X:=by
 have a:gm q.src.xs db<=20000:=by
  unfold nW at hdat;simp only[Qo,QE]at hdat;exact hdat.2
 refine⟨?_,fun r b=>?_,?_,hs⟩
 ·rw[hp.length_eq];have d:=uN q ((aW q.src.xs db).filter (dK q.wh));have e:=XQ (dK q.wh) (aW q.src.xs db);have f:=sF q.src.xs db;omega
 ·have:=sG q _ r (hp.mem_iff.1 b);rw[hn]at this;omega
 ·rw[<- hn];exact(rest_of lC).2
theorem zZ(q:ae)(db:List aN):(l7 q db).Perm (jE q ((aW q.src.xs db).filter (dK q.wh))):=by
 unfold l7 eU;exact rJ _ _
theorem agT(lC:q.check ts=0)(hdat:nW ts q.src.xs db=true){pl:List ah}{ds:List bZ}(hlk:fV ts q pl=some ds)(ho:q.ord.xs=[]∨(pl.getD (pl.length-1) nz).kind=10):(mF ts q pl db pl.length (pl.length-1)).Perm (jE q ((aW q.src.xs db).filter (dK q.wh)))/\bS (DF q.ord.xs) (mF ts q pl db pl.length (pl.length-1)):=by
 have ok:=(Fg lC).1.ok;have b:=(rest_of lC).1;have a:(db.length=ts.length/\tJ ts db=true)/\gm q.src.xs db<=20000:=by
  unfold nW at hdat;simp only[Qo,QE]at hdat;exact hdat
 obtain⟨g,_,_,v,d,f⟩:=D9 ok hlk;have e:=SI ok b pl a.1.2 a.2 pl.length (pl.length-1) v (by omega) d f;have p:=Fp ok b pl a.1.2 (mM lC).2.2.2.1 a.2 pl.length (pl.length-1) v (by omega) d f;rw[<- e]at p;refine⟨p.1,?_⟩;rcases ho with h | h
 ·rw[h]; exact agS _
 ·exact p.2 h
theorem uU{w':World}{e:Ending}(hl:X.length<=1000000)(h:∃ (v:Value) (ys:List aa) (o:Nat->Prop) (a:World),e=.returned (.tuple #[v,.int .i64 0])/\ys.map aa.xs=X/\eO (lK 3 a.heap.size) a.heap.size a 22 ys o w' v/\Bw w a):Eo X w e w':=by
 obtain⟨v,ys,o,a,rfl,b,f,g⟩:=h;obtain⟨i,d,rfl,j⟩:=f.rows (fun y k=>k.1.1.1) (by have:=congrArg List.length b; rw[ZB]at this; omega);exact⟨i,d,ys,rfl,j,b,aC g f.below⟩
theorem Mf(co d po:Option Addr)(cc dc pc:Nat)(ts:List af)(q:ae)(db:List aN)(pl:List ah)(w:World)(hts:bu w co ts)(hq:q.At w)(hkc:q.keys.xs.length<=q.keys.cap)(hoc:q.ord.xs.length<=q.ord.cap)(hsc:q.src.xs.length<=q.src.cap)(lF:qi w d db)(hn:fq w po pl)(hsh:eG w 0)(hcap:∀ i,i<pl.length->(pl.getD i nz).co.xs.length<=(pl.getD i nz).co.cap)
  (lC:q.check ts=0) (hdat:nW ts q.src.xs db=true) (ds:List bZ) (hlk:fV ts q pl=some ds) (h8:∀ i,i<pl.length->(pl.getD i nz).kind≠8) (ho:q.ord.xs=[]∨(pl.getD (pl.length-1) nz).kind=10) :
  Cb 7 #[.agg (caseA (.slice co ts.length cc) q (.slice d db.length dc)),.slice po pl.length pc] w (.bool true):=by
 have g:=yA (mM lC).2.1;obtain⟨n,f⟩:∃ n:Nat,oQ q.group q.keys.xs q.sums.xs q.aK.xs=(n:Int):=⟨(oQ q.group q.keys.xs q.sums.xs q.aK.xs).toNat,by unfold oQ; split <;> omega⟩
 have b:=agT lC hdat hlk ho;have j:=JY lC hdat f (zZ q db) (by unfold l7; exact xP _ _);have k:=JY lC hdat f b.1 b.2;refine Oh co d po ts.length cc db.length dc pl.length pc q (l7 q db) (mF ts q pl db pl.length (pl.length-1)) n w hq.ord (by have:=g.2.2.2.1; omega) (by have:=g.2.2.2.2.1; omega) f j k ((zZ q db).trans b.1.symm) (fun x a=>?_) (fun x a=>?_) (fun x a=>?_)
 ·exact(JN co d cc dc ts q db x (hts.below a) (hq.below a) hkc hoc hsc (lF.below a) lC hdat).mono fun e w' h=>uU j.few h
 ·exact(GV co d cc dc ts q db po pc pl x (hts.below a) (hq.below a) hkc hoc (lF.below a) (hn.below a) (Jv a hsh) hcap lC hdat ds hlk h8).mono fun e w' h=>uU k.few h
 ·have h:=GX co cc ts q po pc pl x (hts.below a) (hq.below a) hkc hoc (hn.below a) (Jv a hsh) hcap;have e:BN ts q pl=0:=by unfold BN; rw[lC,hlk]; rfl
  rw[e]at h;exact h

import Derived.Test.YtjndadibondgbaaGreatDoorL05
set_option linter.all false
set_option maxRecDepth 100000
set_option maxHeartbeats 16000000
namespace Go.Proofs.Zz
open Go.RowKit Go.Shelf
variable {k n:Nat} {src xs:List Int} {ts:List af} {w:World} {cs:List ak} {a b:Int} {q:ae}
theorem WA{α:Type}{l:List α}{d:α}{k:Nat}(hk:k<l.length):l.getD k d∈l:=by
 have e:l.getD k d=l[k]:=by simp[List.getD,hk]
 rw[e];exact Qk hk
def X4:=@WA
theorem wpList_append_run{P:Program}{w:World}{ops:Array Oper}{rest:List Oper}{o:Oper}{a:Act}{Q:Exit->Act->World->Prop}(hgd:o.guard=none)(s x:Operand)(t:TypeId)
  (ho:o.op=.call { callee:=.builtin .append,args:=#[s,x],argTypes:=#[t,t] }) (v u v':Value) (w':World) (hs:a.eval s=v) (hx:a.eval x=u)
  (hrun:(Builtin.append_ #[t,t] o.type #[v,u]).run P w=.ok v' w') (h:wpList P ops Q rest (a.put o.dst v') w'):wpList P ops Q (o::rest) a w:=by
 refine wpList_plain hgd fun K b=>?_
 unfold Oper.wp execOp;simp only[ho,resolve,invoke,builtin,Sem.run_bind,Sem.run_pure,Result.andThen_ok,List.map_toArray,XH,List.map_nil,hs,hx,hrun];exact b _ _ h
structure Listed(tI tE:TypeId)(base:Nat)(v:Value)(ys:List aa)(W:World):Prop where
 own:W.ownsRow base tI 1 v ys.length (ys.map aa.val)
 at':∀ y∈ys,(Nz tE).At y W
theorem Listed.nil(tI tE:TypeId)(base:Nat)(W:World):Listed tI tE base (.slice none 0 0) [] W:=⟨ZA _ _ _ _,fun y a=>by cases a⟩
theorem uu(W:World)(base:Nat)(v:Value)(xs:List Int)(hown:W.ownsRow base 3 1 v xs.length (xs.map (Value.int .i64)))(hl:xs.length<=1000000)(hb:base<=W.heap.size)(x:Int)(ty:TypeId) :
  ∃ d w',(Builtin.append_ #[22,22] ty #[v,.slice (some (aD W.heap.size 0)) 1 1]).run Tryz.prog (W.alloc (.cells #[.int .i64 x] 3))=.ok d w'/\
   w'.ownsRow base 3 1 d (xs++[x]).length ((xs++[x]).map (Value.int .i64))/\Kept (fun b=>v.ownBlock≠some b) W w'/\(∃ a m c,d = .slice a m c)/\(d.ownBlock=v.ownBlock∨d.ownBlock=some (W.heap.size+1)):=by
 obtain⟨o,p,g,i,j⟩:=Zy Tryz.kT;obtain⟨d,w',k,l,q,_,f⟩:=X6 (P:=Tryz.prog) (W.alloc (.cells #[.int .i64 x] 3)) base 22 ty 3 o (.int .i64 0) 1 8 Tryz.underlying22 p g i j rfl (by decide) v xs.length (xs.map (Value.int .i64)) (hown.alloc _) (aD W.heap.size 0) 1 1 [.int .i64 x] rfl
  (X7 (cs:=#[.int .i64 x]) (t:=3) (fr:=(0,0)) (lZ W _)) (fun u n=>by rw[Zw]at n; rw[n]; rfl) (by unfold maxLen; omega) (by omega) (by rw[QY]; omega)
 refine⟨d,w',k,by rw[ZC,Qn]; exact l,(QX _ _).trans (Zo q (fun r e k=>k e)),Zr l,by rw[QY]at f; exact f⟩
def X5:=@wpList_append_run
theorem KY(h:n<=bB):IntKind.u64.wrap (n:Int)=n:=by
 unfold bB at h;rw[IntKind.wrap_u64];omega
theorem wX{v:Int}(hk:k<xs.length):v∈xs.take (k+1)↔v∈xs.take k∨xs.getD k 0=v:=by
 rw[Qm hk,Zx,Zw];have e:xs.getD k 0=xs[k]:=by simp[List.getD,hk]
 rw[e];constructor
 ·rintro (h | h)
  ·exact .inl h
  ·exact .inr h.symm
 ·rintro (h | h)
  ·exact .inl h
  ·exact .inr h.symm
theorem KZ{ys:List Int}(hx:k<xs.length)(hy:k<ys.length)(h:xs.take k=ys.take k)(e:xs.getD k 0=ys.getD k 0):xs.take (k+1)=ys.take (k+1):=by
 rw[Qm hx,Qm hy,h];have a:xs.getD k 0=xs[k]:=by simp[List.getD,hx]
 have b:ys.getD k 0=ys[k]:=by simp[List.getD,hy]
 rw[<- a,<- b,e]
theorem zB(hc:fo ts=true){i:Nat}(hi:i<ts.length):dX (ts.getD i tz)=true:=by
 cases h:dX (ts.getD i tz) with
 | true => rfl
 | false => rw[<- aa7 hi h]at hc; cases hc
theorem zC(hc:fo ts=true)(ha:aM src ts.length=true){c:Int}(h0:0<=c)(hl:c<ai ts src):1<=jN ts src c/\jN ts src c<=1000000:=by
 obtain⟨d,j,k,e⟩:=Xe hc ha h0 hl;have f:=iJ ts src (aj ts src c) d;have g:=jC hc ha (aj ts src c) (by omega);have i:=Qq ha d;have a:src.getD (aj ts src c) 0=src[aj ts src c]:=by simp[List.getD,d]
 rw[a]at e;have b:dX (ts.getD (src[aj ts src c]).toNat tz)=true:=zB hc (by omega);unfold dX at b;rw[QE]at b;rw[e];exact b.2.2.2.2 _ (by omega)
theorem acw{base:Nat}{e:TypeId}{v:Value}(h:w.ownsRow base e 1 v n (xs.map (Value.int .i64)))(hl:xs.length<=1152921504606846976):∃ f a,v=.slice f xs.length a/\aI w f xs:=by
 have j:xs.length=n:=by have:=h.1; simpa using this
 rcases h.2 with⟨rfl,h0⟩ | ⟨g,a,cur,rfl,_,hh,_,_,_,ht⟩
 ·have:xs=[]:=QF (by omega);subst this;exact⟨none,0,rfl,⟨by simp,fun i b=>absurd b (by simp)⟩⟩
 ·refine⟨some (aD g 0),a,by rw[<- j],⟨hl,fun i b=>⟨g,0,rfl,?_⟩⟩⟩;have d:(cur.toList.take (n*1))[i]? = some (.int .i64 (xs.getD i 0)):=by
   rw[ht,ZR];simp[List.getD,b]
  rw[QP (by omega)]at d;rw[QJ];simp only[World.cell?,hh]
  simpa using d
theorem F5(hk:k<cs.length):aG (cs.take (k+1))=aG (cs.take k)++aA (cs.getD k cz):=by
 have e:cs.getD k cz=cs[k]:=by simp[List.getD,hk]
 rw[Qm hk,e];unfold aG;rw[Xb];simp
theorem K3(c:ak):(aA c).length<=2:=by
 unfold aA;split <;> simp
theorem own_below{w w':World}{base:Nat}{e:TypeId}{sz:Nat}{v:Value}{n:Nat}{xs:List Value}(h:w.ownsRow base e sz v n xs)(hb:Bw w w'):w'.ownsRow base e sz v n xs:=zh h (Qs _) (fun j _ a=>hb.block j a)
def Ji:=@own_below
theorem oD:∀ (l:List Nat) (m:Nat),m<=bB->l.foldl bP m<=bB
 | [],_,h => h
 | a::l,m,_ => oD l _ (uX m a)
theorem adv(hc:fo ts=true)(ha:aM src ts.length=true)(iV:∀ c∈aG cs,0<=c/\c<ai ts src):1<=jf ts src cs/\jf ts src cs<=1000000:=by
 unfold jf;split
 ·omega
 rename_i h1
 split
 ·omega
 split
 ·omega
 rename_i o2
 have f:cs.length=1:=by
  by_cases e:cs.length=1
  ·exact e
  ·exact absurd (.inl e) h1
 have a:∀ x∈aA (cs.getD 0 cz),x∈aG cs:=by
  match cs,f with
  | [c],_ => intro x g; simpa [aG] using g
 have b:=iV (cs.getD 0 cz).left (a _ (by unfold aA; split <;> simp));have i:=zC hc ha b.1 b.2;split
 ·omega
 ·rename_i hcn
  have d:=iV (cs.getD 0 cz).right (a _ (by unfold aA; rw[Qu ⟨o2,by simpa using hcn⟩]; simp));have j:=zC hc ha d.1 d.2;omega
theorem adu(a:Addr)(x:World)(c:Int)(h0:0<=c)(h4:c<=4) :
  (Instr.sliceAt 48 (.pointer (some a)) none (some (.int .i64 c)) none).run Tryz.prog x=.ok (.slice (some a) c.toNat 4) x:=by
 have b:Tryz.prog.arrayLen 48=4:=by kernel_rfl
 have d:Tryz.prog.elem 48=3:=by kernel_rfl
 rw[run_sliceAt_array_h x 48 a (by rw[b,d]; exact Tryz.underlying48) .i64 c h0 (by rw[b]; omega),b,d];simp[slicedAt,Addr.add]
theorem Pb(t:af)(w:World) :
  Cb 66 #[.agg t.vals] w (.bool (dX t)):=by
 have b:=@Ry t;have d:=@MF t;have k:=@MG t;have e:=fun m r=>af.aeQ w t 50 m r
 generalize dX t=B at *;unfold af.vals;by_cases u:t.cols<1∨4<t.cols∨t.rows<0∨1000000<t.rows
 ·have f:=Zh ((b u).symm);clear b d k e;go_enter Tryz.func66,Tryz.ntmps66;go_wp2
  all_goals
   go_ret;exact⟨Qb f.o,bV _ _⟩
 ·have y:1<=t.cols:=by omega
  have z:t.cols<=4:=by omega
  have A:0<=t.rows:=by omega
  have C:t.rows<=1000000:=by omega
  have g:=Zh d;have l:=Zh k;have D:=Zh e;clear b d k u e;have E:=fun (a:Addr) (x:World)=>adu a x t.cols (by omega) (by omega)
  go_enter Tryz.func66,Tryz.ntmps66;go_wp2;go_loop [28] (fun i=>∃ m:Nat,m<=t.cols.toNat/\i=.int .i64 m/\Hid (∀ j,j<m->1<=t.kd j/\t.kd j<=1000000)) (fun i=>t.cols.toNat-(intOf i).toNat)
  case atStart=>exact⟨0,Zf _,rfl,fun j p=>absurd p (by omega)⟩
  case round=>
   obtain⟨m,r,rfl,s⟩:=hrel;by_cases v:m<t.cols.toNat
   ·have n:(m:Int)<t.cols:=by omega
    have F:=D.o m (by omega);by_cases G:t.kd m<1
    ·have f:=Zh ((g.o m v (by omega)).symm);go_wp2;go_ret;exact⟨Qb f.o,bV _ _⟩
    ·by_cases H:1000000<t.kd m
     ·have f:=Zh ((g.o m v (by omega)).symm);go_wp2;go_ret;exact⟨Qb f.o,bV _ _⟩
     ·go_wp2;go_round
      case rel=>
       refine⟨m+1,by omega,by go_num,fun j p=>?_⟩;by_cases q:j=m
       ·subst q; omega
       ·exact s.o j (by omega)
      case measure=>simp[intOf]; omega
   ·have n:¬ (m:Int)<t.cols:=by omega
    have f:=Zh ((l.o y z A C (fun j p=>s.o j (by omega))).symm);go_wp2;go_ret;exact⟨Qb f.o,bV _ _⟩
theorem Ud(t:af)(w:World) :
  Cb 65 #[.agg t.vals] w (.bool (!dX t)):=by
 have a:=fun x=>Pb t x
 generalize dX t=B at *;unfold af.vals at *;go_enter Tryz.func65,Tryz.ntmps65;go_wp2_with (go_at_call 66; refine(a _).mono ?_; rintro e w' ⟨rfl,b⟩);go_ret;exact⟨Qb rfl,aC (bV _ _) b⟩
theorem Ue(ao:Option Addr)(cap:Nat)(ts:List af)(w:World)(hx:bu w ao ts) :
  Calls Tryz.prog 103 #[.slice ao ts.length cap,.func (.func 65) #[] #[]] w fun e w'=>∃ r,e=.returned (.int .i64 r)/\foundAt r (ts.any fun t=>!dX t)/\Bw w w':=by
 have E:=hx.1;go_enter Tryz.func103,Tryz.ntmps103;go_wp2;go_loopw [8] (fun i wr=>∃ k:Nat,k<=ts.length/\i=.int .i64 k/\Hid (∀ j,j<k->(!dX (ts.getD j tz))=false)/\Bw w wr) (fun i _=>ts.length-(intOf i).toNat)
 case atStart=>exact⟨0,Zf _,rfl,fun j l=>absurd l (by omega),Qr _ _⟩
 case round=>
  obtain⟨k,L,rfl,q,a⟩:=hrel;by_cases f:k<ts.length
  ·obtain⟨b,off,rfl,v,y,A,B,C,D⟩:=hx.2 k f;have F:=cB a v;have G:=cB a y;have H:=cB a A;have I:=cB a B;have J:=cB a C;have K:=cB a D;have g:Hid ((!dX (ts.getD k tz))=true->(ts.any fun t=>!dX t)=true):=fun h=>J5 (z:=tz) f h
   have p:=Ud (ts.getD k tz) wr;unfold af.vals at p;generalize n:ts.getD k tz=t at *;have s:=Zh n;go_wp2_with fail;refine p.mono ?_;rintro e M ⟨rfl,d⟩
   cases hB:dX t
   ·rw[hB]at g;go_wp2;go_ret;exact⟨_,Qc rfl,⟨by omega,by rw[g.o rfl]; simp⟩,aC a d⟩
   ·have u:=Zh hB;go_wp2;go_roundw
    case rel=>
     refine⟨k+1,by omega,by go_num,fun j l=>?_,aC a d⟩;by_cases m:j=k
     ·subst m; rw[s.o,u.o]; rfl
     ·exact q.o j (by omega)
    case measure=>simp[intOf]; omega
  ·have g:Hid ((ts.any fun t=>!dX t)=false):=any_none (z:=tz) (fun j l=>q.o j (by omega));go_wp2;go_ret;exact⟨_,Qc rfl,⟨by omega,by rw[g.o]; rfl⟩,a⟩
theorem Gx(ao:Option Addr)(cap:Nat)(ts:List af)(w:World)(hx:bu w ao ts) :
  Cb 64 #[.slice ao ts.length cap,.func (.func 65) #[] #[]] w (.bool (ts.any fun t=>!dX t)):=by
 have b:=Ue ao cap ts w hx;go_enter Tryz.func64,Tryz.ntmps64;go_wp2_with fail;refine b.mono ?_;rintro e g ⟨r,rfl,f,a⟩;have d:=Zh f.2;go_wp2;go_ret;exact⟨Qb d.o,a⟩
theorem EM(ao:Option Addr)(cap:Nat)(ts:List af)(w:World)(hx:bu w ao ts) :
  Cb 41 #[.slice ao ts.length cap] w (.bool (fo ts)):=by
 have i:=hx.1;by_cases b:ts.length<1
 ·go_enter Tryz.func41,Tryz.ntmps41;go_wp2;go_ret;exact⟨Qb (Rz b),Qr _ _⟩
 by_cases d:8<ts.length
 ·go_enter Tryz.func41,Tryz.ntmps41;go_wp2;go_ret;exact⟨Qb (VG d),Qr _ _⟩
 have f:=Gx ao cap ts w hx;have g:=Zh (aa8 b d);generalize (ts.any fun t=>!dX t)=Y at *;go_enter Tryz.func41,Tryz.ntmps41;go_wp2_with fail;refine f.mono ?_;rintro e j ⟨rfl,a⟩;go_wp2;go_ret;exact⟨Qb g.o,a⟩
theorem uL(n b:Int)(w:World) :
  Ce 107 #[.int .i64 n,.int .i64 b] w (.bool (Ah n b)):=by
 by_cases a:0<=n
 ·go_enter Tryz.func107,Tryz.ntmps107;go_wp2;go_ret;exact⟨Qb (by simp[Ah]; omega),rfl⟩
 ·go_enter Tryz.func107,Tryz.ntmps107;go_wp2;go_ret;exact⟨Qb (by simp[Ah]; omega),rfl⟩
theorem LM(n:Int)(w:World) :
  Ce 110 #[.int .i64 n] w (.bool (decide (-1000<=n)&&decide (n<=1000))):=by
 by_cases a:-1000<=n
 ·go_enter Tryz.func110,Tryz.ntmps110;go_wp2;go_ret;exact⟨Qb (by simp; omega),rfl⟩
 ·go_enter Tryz.func110,Tryz.ntmps110;go_wp2;go_ret;exact⟨Qb (by simp; omega),rfl⟩
theorem Gy(n b:Int)(p o:Nat)(w:World)(hp:w.cell? (aD p o)=some (.int .i64 b)) :
  Ce 106 #[.int .i64 n,.pointer (some (aD p o))] w (.bool (!Ah n b)):=by
 have a:=uL n b w;generalize Ah n b=Y at *;go_enter Tryz.func106,Tryz.ntmps106;go_wp2_with fail;refine a.mono ?_;clear a;rintro e d ⟨rfl,rfl⟩;go_wp2;go_ret;exact⟨Qb rfl,rfl⟩
theorem Uf(ao:Option Addr)(cap:Nat)(xs:List Int)(bd:Int)(p o:Nat)(w:World)(hx:aI w ao xs)(hp:w.cell? (aD p o)=some (.int .i64 bd)) :
  Calls Tryz.prog 142 #[.slice ao xs.length cap,.func (.func 106) #[] #[.pointer (some (aD p o))]] w fun e w'=>∃ r,e=.returned (.int .i64 r)/\foundAt r (xs.any fun x=>!Ah x bd)/\w' = w:=by
 have v:=hx.1;go_enter Tryz.func142,Tryz.ntmps142;go_wp2;go_loop [8] (fun i=>∃ k:Nat,k<=xs.length/\i=.int .i64 k/\Hid (∀ j,j<k->(!Ah (xs.getD j 0) bd)=false)) (fun i=>xs.length-(intOf i).toNat)
 case atStart=>exact⟨0,Zf _,rfl,fun j g=>absurd g (by omega)⟩
 case round=>
  obtain⟨k,y,rfl,q⟩:=hrel;by_cases a:k<xs.length
  ·obtain⟨b,off,rfl,s⟩:=hx.get a;have t:=s k a;have f:Hid ((!Ah (xs.getD k 0) bd)=true->(xs.any fun x=>!Ah x bd)=true):=fun h=>J5 (z:=0) a h
   have m:=Gy (xs.getD k 0) bd p o w hp;have n:Hid (xs.getD k 0=xs.getD k 0):=rfl;generalize d:xs.getD k 0=x at *;have n:=Zh d;clear d s hx hp;go_wp2_with fail;refine m.mono ?_;clear m;rintro e A ⟨rfl,rfl⟩
   cases hB:Ah x bd
   ·rw[hB]at f;go_wp2;go_ret;exact⟨_,Qc rfl,⟨by omega,by rw[f.o rfl]; simp⟩,rfl⟩
   ·have u:=Zh hB;clear hB;go_wp2;go_round
    case rel=>
     refine⟨k+1,by omega,by go_num,fun j g=>?_⟩;by_cases l:j=k
     ·subst l; rw[n.o,u.o]; rfl
     ·exact q.o j (by omega)
    case measure=>simp[intOf]; omega
  ·have f:Hid ((xs.any fun x=>!Ah x bd)=false):=any_none (z:=0) (fun j g=>q.o j (by omega));go_wp2;go_ret;exact⟨_,Qc rfl,⟨by omega,by rw[f.o]; rfl⟩,rfl⟩
theorem Gz(ao:Option Addr)(cap:Nat)(xs:List Int)(bd:Int)(p o:Nat)(w:World)(hx:aI w ao xs)(hp:w.cell? (aD p o)=some (.int .i64 bd)) :
  Ce 105 #[.slice ao xs.length cap,.func (.func 106) #[] #[.pointer (some (aD p o))]] w (.bool (xs.any fun x=>!Ah x bd)):=by
 have a:=Uf ao cap xs bd p o w hx hp;go_enter Tryz.func105,Tryz.ntmps105;go_wp2_with fail;refine a.mono ?_;clear a;rintro e f ⟨r,rfl,b,rfl⟩;have d:=Zh b.2;clear b;go_wp2;go_ret;exact⟨Qb d.o,rfl⟩
theorem lu(ao:Option Addr)(cap:Nat)(xs:List Int)(bd:Int)(w:World)(hx:aI w ao xs) :
  Cb 69 #[.slice ao xs.length cap,.int .i64 bd] w (.bool (aM xs bd)):=by
 have a:=Gz ao cap xs bd w.heap.size 0 (w.alloc (.cells #[.int .i64 bd] 3)) (hx.below (bV _ _)) (by simp);have b:=Zh (aa9 xs bd);generalize (xs.any fun x=>!Ah x bd)=Y at *;go_enter Tryz.func69,Tryz.ntmps69;go_wp2_with fail;refine a.mono ?_;clear a;rintro e d ⟨rfl,rfl⟩;go_wp2;go_ret;exact⟨Qb b.o,bV _ _⟩
theorem eqB(h:a=b):(a==b)=true:=by simpa using h
theorem neB(h:¬ a=b):(a==b)=false:=by simpa using h
theorem Ug(ao:Option Addr)(cap:Nat)(xs:List Int)(v:Int)(w:World)(hx:aI w ao xs) :
  Calls Tryz.prog 143 #[.slice ao xs.length cap,.int .i64 v] w fun e w'=>∃ r,e=.returned (.int .i64 r)/\foundAt r (xs.any fun x=>decide (v=x))/\w' = w:=by
 have y:=hx.1;go_enter Tryz.func143,Tryz.ntmps143;go_wp2;go_loop [8] (fun i=>∃ k:Nat,k<=xs.length/\i=.int .i64 k/\Hid (∀ j,j<k->decide (v=xs.getD j 0)=false)) (fun i=>xs.length-(intOf i).toNat)
 case atStart=>exact⟨0,Zf _,rfl,fun j m=>absurd m (by omega)⟩
 case round=>
  obtain⟨k,A,rfl,p⟩:=hrel;by_cases d:k<xs.length
  ·obtain⟨b,off,rfl,q⟩:=hx.get d;have s:=q k d;have g:Hid (decide (v=xs.getD k 0)=true->(xs.any fun x=>decide (v=x))=true):=fun h=>J5 (z:=0) d h
   generalize f:xs.getD k 0=x at *;have t:=Zh f;clear f q hx;by_cases a:v=x
   ·have u:=eqB a;have l:=Zh a;clear a;go_wp2;go_ret;exact⟨_,Qc rfl,⟨by omega,by rw[g.o (Qy l.o)]; simp⟩,rfl⟩
   ·have u:=neB a;have l:=Zh a;clear a;go_wp2;go_round
    case rel=>
     refine⟨k+1,by omega,by go_num,fun j m=>?_⟩;by_cases n:j=k
     ·subst n; rw[t.o]; exact Qg l.o
     ·exact p.o j (by omega)
    case measure=>simp[intOf]; omega
  ·have g:Hid ((xs.any fun x=>decide (v=x))=false):=any_none (z:=0) (fun j m=>p.o j (by omega));go_wp2;go_ret;exact⟨_,Qc rfl,⟨by omega,by rw[g.o]; rfl⟩,rfl⟩
theorem GA(ao:Option Addr)(cap:Nat)(xs:List Int)(v:Int)(w:World)(hx:aI w ao xs) :
  Ce 109 #[.slice ao xs.length cap,.int .i64 v] w (.bool (xs.any fun x=>decide (v=x))):=by
 have a:=Ug ao cap xs v w hx;go_enter Tryz.func109,Tryz.ntmps109;go_wp2_with fail;refine a.mono ?_;clear a;rintro e f ⟨r,rfl,b,rfl⟩;have d:=Zh b.2;clear b;go_wp2;go_ret;exact⟨Qb d.o,rfl⟩
theorem aI.front{ao:Option Addr}(h:aI w ao xs)(hk:k<=xs.length):aI w ao (xs.take k):=by
 have d:(xs.take k).length=k:=by rw[XF]; omega
 refine⟨by have:=h.1; omega,fun i f=>?_⟩;obtain⟨b,off,e,a⟩:=h.2 i (by omega);refine⟨b,off,e,?_⟩;rw[a];simp[List.getD,show i<k by omega]
theorem qW(ao:Option Addr)(cap:Nat)(xs:List Int)(w:World)(hx:aI w ao xs)(hcap:xs.length<=cap) :
  Ce 74 #[.slice ao xs.length cap] w (.bool (dJ xs)):=by
 have G:=hx.1;go_enter Tryz.func74,Tryz.ntmps74;go_wp2;go_loop [7] (fun i=>∃ k:Nat,k<=xs.length/\i=.int .i64 k/\Hid (∀ i,i<k->∀ j,j<i->xs.getD i 0≠xs.getD j 0)) (fun i=>xs.length-(intOf i).toNat)
 case atStart=>exact⟨0,Zf _,rfl,fun i y=>absurd y (by omega)⟩
 case round=>
  obtain⟨k,D,rfl,u⟩:=hrel;by_cases f:k<xs.length
  ·have g:=aI.front hx D;obtain⟨b,off,rfl,v⟩:=hx.get f;have z:=v k f;have n:=GA (some (aD b off)) cap (xs.take k) (xs.getD k 0) w g;have a:(xs.take k).length=k:=by rw[XF]; omega
   rw[a]at n;have A:Hid (((xs.take k).any fun x=>decide (xs.getD k 0=x))=true->∃ j,j<k/\xs.getD k 0=xs.getD j 0):=fun h=>by
    rw[List.any_eq_true]at h;obtain⟨x,hx,E⟩:=h;obtain⟨j,r,rfl⟩:=Qx hx;have p:j<k:=by omega
    have:=Xk E;refine⟨j,p,this.trans ?_⟩;have d:j<xs.length:=by omega
    simp[List.getD,d]
   have B:Hid (((xs.take k).any fun x=>decide (xs.getD k 0=x))=false->∀ j,j<k->xs.getD k 0≠xs.getD j 0):=fun h j r m=>by
    rw[List.any_eq_false]at h;have d:j<xs.length:=by omega
    refine h ((xs.take k)[j]'(by omega)) (Qk _) (Qy ?_);rw[m];simp[List.getD,d]
   generalize F:((xs.take k).any fun x=>decide (xs.getD k 0=x))=Y at *;clear F a g v hx;generalize l:xs.getD k 0=x at *;have t:=Zh l;clear l;go_wp2_with fail;refine n.mono ?_;clear n;rintro e H ⟨rfl,rfl⟩
   cases Y
   ·go_wp2;go_round
    case rel=>
     refine⟨k+1,by omega,by go_num,fun i y=>?_⟩;by_cases s:i=k
     ·subst s; rw[t.o]; exact B.o (by trivial)
     ·exact u.o i (by omega)
    case measure=>simp[intOf]; omega
   ·obtain⟨j,r,m⟩:=A.o rfl;have C:=Zh (Rx f r (by rw[t.o]; exact m));clear m;go_wp2;go_ret;exact⟨Qb C.o,rfl⟩
  ·go_wp2;go_ret;have q:k=xs.length:=by omega
   subst q;exact⟨Qb (ME u.o),rfl⟩
theorem LP(c:ak)(n:Int)(w:World) :
  Cb 108 #[c.val,.int .i64 n] w (.bool (df c n)):=by
 have b:=@abb c n;have d:=@xC c n;have f:=@Ai c n;have g:=@MJ c n;have i:=@MK c n;obtain⟨y,q,left,a,right⟩:=c;unfold ak.val;simp only at b d f g i;generalize df ⟨y,q,left,a,right⟩ n=B at *;have p:=fun x=>uL left n x
 have l:=fun x=>uL right n x
 have t:=fun x=>LM right x
 generalize Ah right n=Y at *;generalize (decide (-1000<=right)&&decide (right<=1000))=Z at *
 cases hL:Ah left n
 ·have j:=Zh (b hL);rw[hL]at p;clear b d f g i l t hL;go_enter Tryz.func108,Tryz.ntmps108;go_wp2_with fail;refine(p _).mono ?_;clear p;rintro e r ⟨rfl,rfl⟩;go_wp2;go_ret;exact⟨Qb j.o,bV _ _⟩
 ·rw[hL]at p;by_cases k:q=0∨q=1
  ·cases a
   ·have j:=Zh (f hL k rfl);clear b d f g i t hL;rcases k with k | k
    all_goals
     subst k;go_enter Tryz.func108,Tryz.ntmps108;go_wp2_with fail;refine(p _).mono ?_;rintro e r ⟨rfl,rfl⟩;go_wp2_with fail;refine(l _).mono ?_;rintro e z ⟨rfl,rfl⟩;go_wp2;go_ret;exact⟨Qb j.o,bV _ _⟩
   ·have j:=Zh (d hL k rfl);clear b d f g i l hL;rcases k with k | k
    all_goals
     subst k;go_enter Tryz.func108,Tryz.ntmps108;go_wp2_with fail;refine(p _).mono ?_;rintro e r ⟨rfl,rfl⟩;go_wp2_with fail;refine(t _).mono ?_;rintro e z ⟨rfl,rfl⟩;go_wp2;go_ret;exact⟨Qb j.o,bV _ _⟩
  ·by_cases u:q=2
   ·have j:Hid ((!a&&decide (right=0))=B):=g hL u;clear b d f g i l t hL k;subst u
    cases a
    ·by_cases s:right=0
     ·have m:=Zh (show true=B by have:=j.o; simpa [s] using this);have v:=eqB s;clear j s;go_enter Tryz.func108,Tryz.ntmps108;go_wp2_with fail;refine(p _).mono ?_;rintro e r ⟨rfl,rfl⟩;go_wp2;go_ret;exact⟨Qb m.o,bV _ _⟩
     ·have m:=Zh (show false=B by have:=j.o; simpa [s] using this);have v:=neB s;clear j s;go_enter Tryz.func108,Tryz.ntmps108;go_wp2_with fail;refine(p _).mono ?_;rintro e r ⟨rfl,rfl⟩;go_wp2;go_ret;exact⟨Qb m.o,bV _ _⟩
    ·have m:=Zh (show false=B by have:=j.o; simpa using this);go_enter Tryz.func108,Tryz.ntmps108;go_wp2_with fail;refine(p _).mono ?_;rintro e r ⟨rfl,rfl⟩;go_wp2;go_ret;exact⟨Qb m.o,bV _ _⟩
   ·have j:=Zh (i (by omega) (by omega) u);have A:(q==0)=false:=neB (by omega);have C:(q==1)=false:=neB (by omega);have D:=neB u;clear b d f g i l t hL k u;go_enter Tryz.func108,Tryz.ntmps108;go_wp2_with fail;refine(p _).mono ?_;rintro e r ⟨rfl,rfl⟩;go_wp2;go_ret;exact⟨Qb j.o,bV _ _⟩
theorem Pd(ad:Option Addr)(n cap:Nat)(w:World) :
  Cb 68 #[.agg #[.slice ad n cap]] w (.bool (decide (3<n))):=by
 go_enter Tryz.func68,Tryz.ntmps68;go_wp2;go_ret;exact⟨Qb (decide_eq_decide.2 (by omega)),bV _ _⟩
theorem Uh(ao:Option Addr)(cap:Nat)(ls:List az)(w:World)(hx:bX w ao ls) :
  Calls Tryz.prog 104 #[.slice ao ls.length cap,.func (.func 68) #[] #[]] w fun e w'=>∃ r,e=.returned (.int .i64 r)/\foundAt r (ls.any fun c=>decide (3<c.cs.length))/\Bw w w':=by
 have B:=hx.1;go_enter Tryz.func104,Tryz.ntmps104;go_wp2;go_loopw [8] (fun i wr=>∃ k:Nat,k<=ls.length/\i=.int .i64 k/\Hid (∀ j,j<k->decide (3<(ls.getD j lz).cs.length)=false)/\Bw w wr) (fun i _=>ls.length-(intOf i).toNat)
 case atStart=>exact⟨0,Zf _,rfl,fun j q=>absurd q (by omega),Qr _ _⟩
 case round=>
  obtain⟨k,C,rfl,u,l⟩:=hrel;by_cases d:k<ls.length
  ·obtain⟨b,off,rfl,v⟩:=hx.2.1.get d;have m:=cB l (v k d);unfold az.val at m;have n:Hid (decide (3<(ls.getD k lz).cs.length)=true->(ls.any fun c=>decide (3<c.cs.length))=true):=fun h=>J5 (p:=fun c:az=>decide (3<c.cs.length)) (z:=lz) d h
   generalize (ls.getD k lz).ad=ad at *;generalize (ls.getD k lz).cap=cp at *;generalize g:(ls.getD k lz).cs.length=cl at *;have y:=Zh g;have f:=Pd ad cl cp wr;clear g v hx;by_cases s:3<cl
   ·rw[Qy s]at f;go_wp2_with fail;refine f.mono ?_;clear f;rintro e A ⟨rfl,a⟩;go_wp2;go_ret;exact⟨_,Qc rfl,⟨by omega,by rw[n.o (Qy s)]; simp⟩,aC l a⟩
   ·rw[Qg s]at f;go_wp2_with fail;refine f.mono ?_;clear f;rintro e A ⟨rfl,a⟩;go_wp2;go_roundw
    case rel=>
     refine⟨k+1,by omega,by go_num,fun j q=>?_,aC l a⟩;by_cases t:j=k
     ·subst t; rw[y.o]; exact Qg (by omega)
     ·exact u.o j (by omega)
    case measure=>simp[intOf]; omega
  ·have n:Hid ((ls.any fun c=>decide (3<c.cs.length))=false):=any_none (z:=lz) (fun j q=>u.o j (by omega));go_wp2;go_ret;exact⟨_,Qc rfl,⟨by omega,by rw[n.o]; rfl⟩,l⟩
theorem GD(ao:Option Addr)(cap:Nat)(ls:List az)(w:World)(hx:bX w ao ls) :
  Cb 67 #[.slice ao ls.length cap,.func (.func 68) #[] #[]] w (.bool (Bd ls ls.length)):=by
 have a:=Uh ao cap ls w hx;rw[aba]at a;go_enter Tryz.func67,Tryz.ntmps67;go_wp2_with fail;refine a.mono ?_;clear a;rintro e g ⟨r,rfl,d,b⟩;have f:=Zh d.2;clear d;go_wp2;go_ret;exact⟨Qb f.o,b⟩
theorem Ui(q:ae)(w:World)(hq:bX w q.bE q.wh) :
  Cb 42 #[.agg q.cells] w (.bool (kS q.src.xs q.oM q.keys.xs q.sums.xs q.aK.xs q.ord.xs)):=by
 have i:=Zh q.UT;generalize kS q.src.xs q.oM q.keys.xs q.sums.xs q.aK.xs q.ord.xs=FB at *;have l:=fun o=>GD q.bE q.aF q.wh (w.alloc o) (hq.below (bV _ _))
 have p:=hq.1;clear hq;obtain⟨src,z,A,wh,t,a,d,k,b⟩:=q;simp only at i l p;unfold ae.cells aa.val;simp only;by_cases n:5<src.xs.length∨8<wh.length∨8<k.xs.length∨4<a.xs.length∨4<d.xs.length∨4<b.xs.length
 ·have r:=Zh (show true=FB by rw[i.o,Qy n,Bool.true_or]);clear l i;have f:(5<src.xs.length)∨(¬ 5<src.xs.length/\8<wh.length)∨(¬ 5<src.xs.length/\¬ 8<wh.length/\4<b.xs.length)∨(¬ 5<src.xs.length/\¬ 8<wh.length/\¬ 4<b.xs.length/\8<k.xs.length)∨
   (¬ 5<src.xs.length/\¬ 8<wh.length/\¬ 4<b.xs.length/\¬ 8<k.xs.length/\4<a.xs.length)∨(¬ 5<src.xs.length/\¬ 8<wh.length/\¬ 4<b.xs.length/\¬ 8<k.xs.length/\¬ 4<a.xs.length/\4<d.xs.length):=by omega
  clear n;rcases f with g | ⟨g,j⟩ | ⟨g,j,m⟩ | ⟨g,j,m,s⟩ | ⟨g,j,m,s,v⟩ | ⟨g,j,m,s,v,y⟩
  all_goals
   go_enter Tryz.func42,Tryz.ntmps42;go_wp2;go_ret;exact⟨Qb r.o,bV _ _⟩
 ·have r:=Zh (show Bd wh wh.length=FB by rw[i.o,Qg n,Bool.false_or]);have g:¬ 5<src.xs.length:=by omega
  have j:¬ 8<wh.length:=by omega
  have m:¬ 8<k.xs.length:=by omega
  have s:¬ 4<a.xs.length:=by omega
  have v:¬ 4<d.xs.length:=by omega
  have y:¬ 4<b.xs.length:=by omega
  clear i n;generalize Bd wh wh.length=Y at *;go_enter Tryz.func42,Tryz.ntmps42;go_wp2_with fail;refine(l _).mono ?_;clear l;rintro e B ⟨rfl,u⟩;go_wp2;go_ret;exact⟨Qb r.o,aC (bV _ _) u⟩
theorem LU(q:ae)(w:World)(h1:q.keys.xs.length<=1000)(h2:q.sums.xs.length<=1000) :
  Cb 73 #[.agg q.cells] w (.int .i64 (oQ q.group q.keys.xs q.sums.xs q.aK.xs)):=by
 obtain⟨src,f,g,wh,a,b,d,i,e⟩:=q;simp only at h1 h2;unfold ae.cells aa.val
 cases a
 ·go_enter Tryz.func73,Tryz.ntmps73;go_wp2;go_ret;exact⟨Qc rfl,bV _ _⟩
 ·go_enter Tryz.func73,Tryz.ntmps73;go_wp2;go_ret;exact⟨Qc rfl,bV _ _⟩
theorem A7(ao:Option Addr)(cap:Nat)(ts:List af)(lQ:Option Addr)(fA:Nat)(xs:List Int)(w:World)(hx:bu w ao ts)(hc:fo ts=true)(hq:aI w lQ xs)(h5:xs.length<=5)(ha:aM xs ts.length=true) :
  Ce 70 #[.slice ao ts.length cap,.slice lQ xs.length fA] w (.int .i64 (ai ts xs)):=by
 have d:=Zh hc;have e:=Zh ha;clear hc ha;go_enter Tryz.func70,Tryz.ntmps70;go_wp2;go_loop [5,10] (fun n i=>∃ k:Nat,k<=xs.length/\i=.int .i64 k/\n=.int .i64 (ai ts (xs.take k))) (fun _ i=>xs.length-(intOf i).toNat)
 case atStart=>exact⟨0,Zf _,rfl,rfl⟩
 case round=>
  obtain⟨k,m,rfl,rfl⟩:=hrel;have g:=jC d.o e.o k m;by_cases a:k<xs.length
  ·obtain⟨s,p,rfl,f⟩:=hq.get a;have j:=f k a;have q:=Qq e.o a;have r:=kR d.o (i:=xs[k].toNat) (by omega);obtain⟨b,off,rfl,t,-⟩:=hx.2 xs[k].toNat (by omega);have l:=Zh (iJ ts xs k a);generalize (ts.getD xs[k].toNat tz).cols=cc at *;generalize ai ts (xs.take k)=W0 at *;clear f hx hq;go_wp2;go_round
   case rel=>exact⟨k+1,by omega,by go_num,by rw[l.o]⟩
   case measure=>simp[intOf]; omega
  ·go_wp2;go_ret;have:k=xs.length:=by omega
   subst this;exact⟨Qc (by rw[Qw]),rfl⟩
theorem LV{ls:List az}{n:Int}{k:Nat}(hk:k<ls.length)(h:iq (ls.getD k lz).cs n=false):false=dN (ls.map az.cs) n:=
 (@J2 ⟨⟨none,0,[]⟩,none,0,ls,false,⟨none,0,[]⟩,⟨none,0,[]⟩,⟨none,0,[]⟩,⟨none,0,[]⟩⟩ n k hk h).symm
theorem GG{ls:List az}{n:Int}(h:∀ k,k<ls.length->iq (ls.getD k lz).cs n=true):true=dN (ls.map az.cs) n:=
 (@FJ ⟨⟨none,0,[]⟩,none,0,ls,false,⟨none,0,[]⟩,⟨none,0,[]⟩,⟨none,0,[]⟩,⟨none,0,[]⟩⟩ n h).symm
theorem LW(ao:Option Addr)(cap:Nat)(ls:List az)(n:Int)(w:World)(hx:bX w ao ls) :
  Cb 71 #[.slice ao ls.length cap,.int .i64 n] w (.bool (dN (ls.map az.cs) n)):=by
 have Y:=hx.1;have Q:Hid _:=@LV ls n;have S:Hid _:=@GG ls n;generalize dN (ls.map az.cs) n=R at *;go_enter Tryz.func71,Tryz.ntmps71;go_wp2;go_loopw [11] (fun i wr=>∃ k:Nat,k<=ls.length/\i=.int .i64 k/\Hid (∀ j,j<k->iq (ls.getD j lz).cs n=true)/\Bw w wr) (fun i _=>ls.length-(intOf i).toNat)
 case atStart=>exact⟨0,Zf _,rfl,fun j q=>absurd q (by omega),Qr _ _⟩
 case round=>
  obtain⟨k,hk,rfl,H,A⟩:=hrel;by_cases d:k<ls.length
  ·obtain⟨b,off,rfl,I⟩:=hx.2.1.get d;have f:=cB A (I k d);have g:=hx.2.2 k d;have s:Hid (iq (ls.getD k lz).cs n=false->false=R):=fun h=>Q.o d h
   generalize B:ls.getD k lz=cl at *;have T:=Zh B;clear B I hx;obtain⟨ad,cp,cs⟩:=cl;unfold az.val at f;simp only at f g;have Z:=g.1;have t:=A.size;by_cases r:cs.length=0
   ·have u:=Zh (s.o (J3 (by simp only; omega)));go_wp2;go_ret;exact⟨Qb u.o,A.alloc t _⟩
   ·have v:((cs.length:Int)==0)=false:=by simpa using r
    have U:=Zh r;clear r;go_wp2;go_loopw [22] (fun i E=>∃ m:Nat,m<=cs.length/\i=.int .i64 m/\Hid (∀ j,j<m->df (cs.getD j cz) n=true)/\Bw w E) (fun i _=>cs.length-(intOf i).toNat)
    case atStart=>exact⟨0,Zf _,rfl,fun j q=>absurd q (by omega),A.alloc t _⟩
    case round=>
     obtain⟨m,hm,rfl,J,a⟩:=hrel;have y:=a.size;clear f v;by_cases P:m<cs.length
     ·obtain⟨b2,W,rfl,K,L,M,N,O⟩:=g.2 m P;have d0:=cB a K;have d1:=cB a L;have d2:=cB a M;have d3:=cB a N;have d4:=cB a O;clear K L M N O;have l:=fun x=>LP (cs.getD m cz) n x
      unfold ak.val at l;generalize C:cs.getD m cz=cc at *;have z:=Zh C;clear C
      cases hcb:df cc n
      ·rw[hcb]at l;have u:=Zh (s.o (MH P (by rw[z.o]; exact hcb)));go_wp2_with fail;refine(l _).mono ?_;clear l;rintro e X ⟨rfl,p⟩;go_wp2;go_ret;exact⟨Qb u.o,aC (a.alloc y _) p⟩
      ·rw[hcb]at l;have D:=Zh hcb;clear hcb;go_wp2_with fail;refine(l _).mono ?_;clear l;rintro e X ⟨rfl,p⟩;go_wp2;go_roundw
       case rel=>
        refine⟨m+1,by omega,by go_num,fun j q=>?_,aC (a.alloc y _) p⟩;by_cases F:j=m
        ·subst F; rw[z.o]; exact D.o
        ·exact J.o j (by omega)
       case measure=>simp[intOf]; omega
     ·have V:=Zh (J4 (by have:=U.o; omega) (fun j q=>J.o j (by omega)));go_wp2;go_roundw
      case rel=>
       refine⟨k+1,by omega,by go_num,fun j q=>?_,a⟩;by_cases G:j=k
       ·subst G; rw[T.o]; exact V.o
       ·exact H.o j (by omega)
      case measure=>simp[intOf]; omega
  ·have u:=Zh (S.o (fun j q=>H.o j (by omega)));go_wp2;go_ret;exact⟨Qb u.o,A⟩
def uM(n:Int)(group:Bool)(keys sums aK:List Int):Bool:=
 if group then decide (aK.length=0)&&aM sums n&&aM keys n&&dJ keys else decide (0<aK.length)&&aM aK n&&decide (keys.length=0)&&decide (sums.length=0)
theorem EN(q:ae)(n:Int)(w:World)(hk:q.keys.At w)(hs:q.sums.At w)(he:q.aK.At w)(hkc:q.keys.xs.length<=q.keys.cap) :
  Cb 72 #[.agg q.cells,.int .i64 n] w (.bool (uM n q.group q.keys.xs q.sums.xs q.aK.xs)):=by
 obtain⟨src,L,M,wh,i,⟨B,C,b⟩,⟨G,H,g⟩,⟨y,z,m⟩,I⟩:=q;unfold aa.At at hk hs he;simp only at hk hs he hkc;unfold ae.cells aa.val;simp only;have D:=he.1;have p:=fun x (h:Bw w x)=>lu y z m n x (Qt h he)
 have j:=fun x (h:Bw w x)=>lu G H g n x (Qt h hs)
 have u:=fun x (h:Bw w x)=>lu B C b n x (Qt h hk)
 have r:=fun x (h:Bw w x)=>qW B C b x (Qt h hk) hkc
 clear hk hs he;have E:Hid (uM n i b g m=uM n i b g m):=rfl;generalize f:uM n i b g m=R at *;clear E;unfold uM at f;generalize aM m n=A1 at *;generalize aM g n=A2 at *;generalize aM b n=A3 at *;generalize dJ b=A4 at *
 cases i
 ·simp only[Bool.false_eq_true,if_false]at f;clear j u r;by_cases A:0<m.length
  ·rw[Qy A,Qz]at f
   cases A1
   ·have k:=Zh (show false=R by rw[<- f]; rfl);clear f;go_enter Tryz.func72,Tryz.ntmps72;go_wp2_with fail;refine(p _ (bV _ _)).mono ?_;clear p;rintro e s ⟨rfl,a⟩;go_wp2;go_ret;exact⟨Qb k.o,aC (bV _ _) a⟩
   ·rw[Qz]at f;by_cases t:b.length=0
    ·have v:((b.length:Int)==0)=true:=by simpa using t
     have k:=Zh (show ((g.length:Int)==0)=R by rw[<- f,Qy t,Qz,aeR]);clear f t;go_enter Tryz.func72,Tryz.ntmps72;go_wp2_with fail;refine(p _ (bV _ _)).mono ?_;clear p;rintro e s ⟨rfl,a⟩;have d:=yH a;simp at d;go_wp2;go_ret;exact⟨Qb k.o,aC (bV _ _) a⟩
    ·have v:((b.length:Int)==0)=false:=by simpa using t
     have k:=Zh (show false=R by rw[<- f,Qg t]; rfl);clear f t;go_enter Tryz.func72,Tryz.ntmps72;go_wp2_with fail;refine(p _ (bV _ _)).mono ?_;clear p;rintro e s ⟨rfl,a⟩;have d:=yH a;simp at d;go_wp2;go_ret;exact⟨Qb k.o,aC (bV _ _) a⟩
  ·have k:=Zh (show false=R by rw[<- f,Qg A]; rfl);clear f;go_enter Tryz.func72,Tryz.ntmps72;go_wp2;go_ret;exact⟨Qb k.o,bV _ _⟩
 ·simp only[if_true]at f;clear p;by_cases A:0<m.length
  ·have k:=Zh (show false=R by rw[<- f,Qg (by omega)]; rfl);clear f;go_enter Tryz.func72,Tryz.ntmps72;go_wp2;go_ret;exact⟨Qb k.o,bV _ _⟩
  ·rw[Qy (show m.length=0 by omega),Qz]at f
   cases A2
   ·have k:=Zh (show false=R by rw[<- f]; rfl);clear f;go_enter Tryz.func72,Tryz.ntmps72;go_wp2_with fail;refine(j _ (bV _ _)).mono ?_;clear j;rintro e s ⟨rfl,a⟩;go_wp2;go_ret;exact⟨Qb k.o,aC (bV _ _) a⟩
   ·rw[Qz]at f
    cases A3
    ·have k:=Zh (show false=R by rw[<- f]; rfl);clear f;go_enter Tryz.func72,Tryz.ntmps72;go_wp2_with fail;refine(j _ (bV _ _)).mono ?_;clear j;rintro e s ⟨rfl,a⟩;have d:=yH a;simp at d;go_wp2_with fail;refine(u _ (aC (bV _ _) a)).mono ?_;clear u;rintro e J ⟨rfl,l⟩;go_wp2;go_ret;exact⟨Qb k.o,aC (aC (bV _ _) a) l⟩
    ·have k:=Zh (show A4=R by rw[<- f,Qz]);clear f;go_enter Tryz.func72,Tryz.ntmps72;go_wp2_with fail;refine(j _ (bV _ _)).mono ?_;clear j;rintro e s ⟨rfl,a⟩;have d:=yH a;simp at d;go_wp2_with fail;refine(u _ (aC (bV _ _) a)).mono ?_;clear u;rintro e J ⟨rfl,l⟩;have K:w.heap.size<s.heap.size:=by have:=a.size; simp at this; omega
     have F:=yH l;go_wp2_with fail;refine(r _ (aC (aC (bV _ _) a) l)).mono ?_;clear r;rintro e N ⟨rfl,rfl⟩;go_wp2;go_ret;exact⟨Qb k.o,aC (aC (bV _ _) a) l⟩
theorem Uj(n:Int)(group:Bool)(keys sums aK ord:List Int) :
  sK n group keys sums aK ord=(uM n group keys sums aK&&(aM ord (oQ group keys sums aK)&&dJ ord)):=by
 unfold sK uM;generalize aM ord (oQ group keys sums aK)=O;generalize dJ ord=P
 cases group
 ·by_cases a:aK.length=0
  ·have:¬ 0<aK.length:=by omega
   simp[a]
  ·have b:=Qg a;have j:decide (0<aK.length)=true:=Qy (by omega);rw[b,j];by_cases g:keys.length=0
   ·by_cases i:sums.length=0
    ·have d:=QF g;have e:=QF i;subst d e;have k:dJ []=true:=by decide
     rw[k]
     cases aM aK n <;> cases O <;> cases P <;> rfl
    ·rw[Qg i,Qg (show ¬ keys.length+sums.length=0 by omega)];simp
   ·rw[Qg g,Qg (show ¬ keys.length+sums.length=0 by omega)];simp
 ·by_cases a:aK.length=0
  ·have f:=QF a;subst f;have b:aM [] n=true:=rfl;rw[b]
   cases aM sums n <;> cases aM keys n <;> cases dJ keys <;> cases O <;> cases P <;> rfl
  ·rw[Qg a];simp
def A8(ts:List af)(src:List Int)(wh:List (List ak))(group:Bool)(keys sums aK ord:List Int):Bool:=
 decide (0<src.length)&&(aM src ts.length&&(dN wh (ai ts src)&&(uM (ai ts src) group keys sums aK&&(aM ord (oQ group keys sums aK)&&dJ ord))))
theorem Pe{wh:List (List ak)}{group:Bool}{keys sums aK ord:List Int}(hc:fo ts=true)(hf:kS src wh keys sums aK ord=false) :
  checkN ts src wh group keys sums aK ord=if A8 ts src wh group keys sums aK ord then 0 else 3:=by
 unfold checkN A8;rw[Qv (by simp[hc]),Qv (by simp[hf]),Uj];generalize (uM (ai ts src) group keys sums aK&&(aM ord (oQ group keys sums aK)&&dJ ord))=X;by_cases a:0<src.length
 ·rw[Qy a]
  cases aM src ts.length <;> cases dN wh (ai ts src) <;> cases X <;> simp[a]
 ·rw[Qg a];simp[a]
theorem Pf(ao:Option Addr)(cap:Nat)(ts:List af)(q:ae)(w:World)(hx:bu w ao ts)(hq:q.At w)(hc:fo ts=true)
  (hf:kS q.src.xs q.oM q.keys.xs q.sums.xs q.aK.xs q.ord.xs=false) (hkc:q.keys.xs.length<=q.keys.cap) (hoc:q.ord.xs.length<=q.ord.cap) :
  Cb 43 #[.slice ao ts.length cap,.agg q.cells] w (.bool (A8 ts q.src.xs q.oM q.group q.keys.xs q.sums.xs q.aK.xs q.ord.xs)):=by
 have K:¬ (5<q.src.xs.length∨8<q.wh.length∨8<q.aK.xs.length∨4<q.keys.xs.length∨4<q.sums.xs.length∨4<q.ord.xs.length):=by
  intro h;rw[ae.UT,Qy h,Bool.true_or]at hf
  cases hf
 have v:=fun x=>LU q x (by omega) (by omega)
 have m:=fun n x (h:Bw w x)=>EN q n x (Qt h hq.keys) (Qt h hq.sums) (Qt h hq.aK) hkc
 unfold A8;obtain⟨src,D,G,wh,g,d,f,l,a⟩:=q;have p:aI w src.ad src.xs:=hq.src;have H:aI w a.ad a.xs:=hq.ord;have L:bX w D wh:=hq.wh;have y:(ae.mk src D G wh g d f l a).oM=wh.map az.cs:=rfl;simp only[y]at *;clear y hq hf;unfold ae.cells aa.val at *;simp only at *;have Z:src.xs.length<=5:=by omega
 have u:=fun x (h:Bw w x)=>lu src.ad src.cap src.xs ts.length x (p.below h)
 have z:=fun n x (h:Bw w x)=>LW D G wh n x (L.below h)
 have M:=fun x (h:Bw w x)=>lu a.ad a.cap a.xs (oQ g d.xs f.xs l.xs) x (H.below h)
 have A:=fun x (h:Bw w x)=>qW a.ad a.cap a.xs x (H.below h) hoc
 generalize r:(decide (0<src.xs.length)&&(aM src.xs ts.length&&(dN (wh.map az.cs) (ai ts src.xs)&&(uM (ai ts src.xs) g d.xs f.xs l.xs&&(aM a.xs (oQ g d.xs f.xs l.xs)&&dJ a.xs)))))=R;by_cases Y:0<src.xs.length
 ·rw[Qy Y,Qz]at r;have I:((src.xs.length:Int)==0)=false:=by rw[XU]; omega
  cases ha:aM src.xs ts.length
  ·rw[ha]at u r;have s:Hid (false=R):=r;clear r;go_enter Tryz.func43,Tryz.ntmps43;go_wp2_with fail;refine(u _ (bV _ _)).mono ?_;rintro e X ⟨rfl,k⟩;go_wp2;go_ret;exact⟨Qb s.o,aC (bV _ _) k⟩
  ·have B:=fun x (h:Bw w x)=>A7 ao cap ts src.ad src.cap src.xs x (hx.below h) hc (p.below h) Z ha
   rw[ha]at u r;clear ha hc;rw[Qz]at r;have s:=Zh r;clear r;generalize ai ts src.xs=N at *;have z:=z N;have m:=m N;generalize dN (wh.map az.cs) N=CB at *;generalize uM N g d.xs f.xs l.xs=FB at *;clear hx p H L hkc hoc;go_enter Tryz.func43,Tryz.ntmps43;go_wp2_with fail;refine(u _ (bV _ _)).mono ?_;clear u;rintro e X ⟨rfl,k⟩;have hz:w.heap.size<X.heap.size:=by have:=k.size; simp at this; omega
   have b:=yH k;simp at b;have E:=aC (bV _ _) k;go_wp2_with fail;refine(B _ E).mono ?_;clear B;rintro e w3 ⟨rfl,rfl⟩;go_wp2_with fail;refine(z _ E).mono ?_;clear z;rintro e t ⟨rfl,i⟩;have F:=aC E i;have P:t.cell? (aD w.heap.size 0)=some (.slice src.ad src.xs.length src.cap):=cB i (by rw[b _ _ (by omega)]; simp);have Q:t.cell? (aD w.heap.size 1)=some (.slice D wh.length G):=cB i (by rw[b _ _ (by omega)]; simp);have S:t.cell? (aD w.heap.size 2)=some (.bool g):=cB i (by rw[b _ _ (by omega)]; simp);have T:t.cell? (aD w.heap.size 3)=some (.slice d.ad d.xs.length d.cap):=cB i (by rw[b _ _ (by omega)]; simp);have f4:t.cell? (aD w.heap.size 4)=some (.slice f.ad f.xs.length f.cap):=cB i (by rw[b _ _ (by omega)]; simp);have U:t.cell? (aD w.heap.size 5)=some (.slice l.ad l.xs.length l.cap):=cB i (by rw[b _ _ (by omega)]; simp);have V:t.cell? (aD w.heap.size 6)=some (.slice a.ad a.xs.length a.cap):=cB i (by rw[b _ _ (by omega)]; simp);clear b i E k
   cases CB
   ·go_wp2;go_ret;exact⟨Qb s.o,F⟩
   ·go_wp2_with fail;refine(m _ F).mono ?_;clear m;rintro e w5 ⟨rfl,j⟩;have C:=aC F j;have g0:=cB j P;have g1:=cB j Q;have g2:=cB j S;have g3:=cB j T;have g4:=cB j f4;have g5:=cB j U;have J:=cB j V;clear P Q S T f4 U V j F
    cases FB
    ·go_wp2;go_ret;exact⟨Qb s.o,C⟩
    ·go_wp2_with fail;generalize oQ g d.xs f.xs l.xs=O at *;generalize aM a.xs O=AO at *;generalize dJ a.xs=PO at *;refine QA (by kernel_rfl) (by kernel_rfl) ?_;refine qS (.pointer (some (aD w.heap.size 6))) ?_;refine qC (.slice a.ad a.xs.length a.cap) J ?_;go_big_quiet_want;refine⟨.agg #[.slice src.ad src.xs.length src.cap,.slice D wh.length G,.bool g,.slice d.ad d.xs.length d.cap,.slice f.ad f.xs.length f.cap,.slice l.ad l.xs.length l.cap,.slice a.ad a.xs.length a.cap],fun x hx=>?_,?_⟩
     ·have e0:=J7 hx g0 g1 g2 g3 g4 g5 J;go_simp
     simp only[pU];go_big_quiet_on;go_big_quiet_want;refine⟨.int .i64 O,fun x hx=>?_,?_⟩
     ·have W:=QC hx (v x);go_simp
     simp only[pU];go_big_quiet_on;go_big_quiet_want;refine⟨.bool AO,fun x hx=>?_,?_⟩
     ·have W:=QC hx (M x (aC C hx));go_simp
     simp only[pU];go_big_quiet_on;refine qS (.bool AO) ?_
     cases AO
     ·go_big_quiet_skip;go_big_quiet_skip;go_big_quiet_skip;refine qS (.bool false) ?_;refine qS (.bool false) ?_;refine XY ?_;intro x hx;go_wp2;go_ret;exact⟨Qb s.o,aC C hx⟩
     ·go_big_quiet_want;refine⟨.pointer (some (aD w.heap.size 6)),fun x hx=>?_,?_⟩
      ·go_simp
      simp only[pU];go_big_quiet_on;refine qC (.slice a.ad a.xs.length a.cap) J ?_;go_big_quiet_want;refine⟨.bool PO,fun x hx=>?_,?_⟩
      ·have W:=Calls.MI hx (A x (aC C hx));go_simp
      simp only[pU];go_big_quiet_on;refine qS (.bool PO) ?_;refine qS (.bool PO) ?_;refine XY ?_;intro x hx;go_wp2;go_ret;exact⟨Qb s.o,aC C hx⟩
 ·have I:((src.xs.length:Int)==0)=true:=by rw[beq_iff_eq]; omega
  rw[Qg Y,Qh]at r;have s:=Zh r;clear r;clear v m u z M A;go_enter Tryz.func43,Tryz.ntmps43;go_wp2;go_ret;exact⟨Qb s.o,bV _ _⟩
theorem LX{q:ae}{ts:List af}(h:fo ts=false):(1:Int)=q.check ts:=ae.VH h
theorem EO{q:ae}{ts:List af}(hc:fo ts=true)(hf:kS q.src.xs q.oM q.keys.xs q.sums.xs q.aK.xs q.ord.xs=false) :
  q.check ts=if A8 ts q.src.xs q.oM q.group q.keys.xs q.sums.xs q.aK.xs q.ord.xs then 0 else 3:=Pe hc hf
theorem ES(ao:Option Addr)(cap:Nat)(ts:List af)(q:ae)(w:World)(hx:bu w ao ts)(hq:q.At w)(hkc:q.keys.xs.length<=q.keys.cap)(hoc:q.ord.xs.length<=q.ord.cap) :
  Cb 27 #[.slice ao ts.length cap,.agg q.cells] w (.int .i64 (q.check ts)):=by
 have i:=fun x (h:Bw w x)=>EM ao cap ts x (hx.below h)
 have d:=fun x (h:Bw w x)=>Ui q x (hq.wh.below h)
 have m:=fun (E:fo ts=true) (F:kS q.src.xs q.oM q.keys.xs q.sums.xs q.aK.xs q.ord.xs=false) x (h:Bw w x)=>Pf ao cap ts q x (hx.below h) (hq.below h) E F hkc hoc
 have n:=@LX q ts;have p:=@ae.RD q ts;have r:=@EO q ts;generalize q.check ts=R at *;generalize kS q.src.xs q.oM q.keys.xs q.sums.xs q.aK.xs q.ord.xs=FB at *;generalize A8 ts q.src.xs q.oM q.group q.keys.xs q.sums.xs q.aK.xs q.ord.xs=QB at *;generalize fo ts=CB at *;obtain⟨src,G,H,wh,u,y,z,I,C⟩:=q;clear hx hq hkc hoc;unfold ae.cells aa.val at *;simp only at *
 cases CB
 ·have j:=Zh (n rfl);clear d m n p r;go_enter Tryz.func27,Tryz.ntmps27;go_wp2_with fail;refine(i _ (bV _ _)).mono ?_;clear i;rintro e s ⟨rfl,a⟩;go_wp2;go_ret;exact⟨Qc j.o,aC (bV _ _) a⟩
 ·cases FB
  ·have v:=Zh (m rfl rfl);clear m;have j:=Zh (r rfl rfl);clear n p r;go_enter Tryz.func27,Tryz.ntmps27;go_wp2_with fail;refine(i _ (bV _ _)).mono ?_;clear i;rintro e s ⟨rfl,a⟩;have A:w.heap.size<s.heap.size:=by have:=a.size; simp at this; omega
   have b:=yH a;simp at b;have k:=aC (bV _ _) a;go_wp2_with fail;refine(d _ k).mono ?_;clear d;rintro e D ⟨rfl,f⟩;have B:=yH f;have t:=aC k f;go_wp2_with fail;refine(v.o _ t).mono ?_;clear v;rintro e J ⟨rfl,l⟩
   cases QB
   ·have g:Hid ((3:Int)=R):=j.o.symm;go_wp2;go_ret;exact⟨Qc g.o,aC t l⟩
   ·have g:Hid ((0:Int)=R):=j.o.symm;go_wp2;go_ret;exact⟨Qc g.o,aC t l⟩
  ·have j:=Zh (p rfl rfl);clear m n p r;go_enter Tryz.func27,Tryz.ntmps27;go_wp2_with fail;refine(i _ (bV _ _)).mono ?_;clear i;rintro e s ⟨rfl,a⟩;have A:w.heap.size<s.heap.size:=by have:=a.size; simp at this; omega
   have b:=yH a;simp at b;have k:=aC (bV _ _) a;go_wp2_with fail;refine(d _ k).mono ?_;clear d;rintro e D ⟨rfl,f⟩;go_wp2;go_ret;exact⟨Qc j.o,aC k f⟩
structure Chk(ts:List af)(q:ae):Prop where
 cat:fo ts=true
 src:aM q.src.xs ts.length=true
 five:q.src.xs.length<=5
 eight:q.wh.length<=8
 cols:Al ts q
 some:∀ i,i<q.wh.length->0<(q.wh.getD i lz).cs.length
 three:∀ i,i<q.wh.length->(q.wh.getD i lz).cs.length<=3
theorem Chk.ok(h:Chk ts q):Ok ts q:=⟨h.cat,h.src,by have:=h.five; omega,by have:=h.eight; omega,h.cols,h.some⟩
theorem Fg(h:q.check ts=0):Chk ts q/\0<q.src.xs.length/\(q.group=false->aM q.ord.xs q.aK.xs.length=true)/\q.ord.xs.length<=4/\aM q.aK.xs (ai ts q.src.xs)=true:=by
 unfold ae.check checkN at h
 cases hc:fo ts with
 | false => rw[Qu hc]at h; omega
 | true =>
  rw[Qv (by rw[hc]; simp)]at h
  cases hf:kS q.src.xs q.oM q.keys.xs q.sums.xs q.aK.xs q.ord.xs with
  | true => rw[Qu hf]at h; omega
  | false =>
   rw[Qv (by rw[hf]; simp)]at h;by_cases r:aM q.src.xs ts.length=true/\0<q.src.xs.length/\dN q.oM (ai ts q.src.xs)=true/\sK (ai ts q.src.xs) q.group q.keys.xs q.sums.xs q.aK.xs q.ord.xs=true
   ·obtain⟨t,u,g,j⟩:=r;unfold kS at hf;rw[Bool.or_eq_false_iff,Qf]at hf;obtain⟨z,m⟩:=hf;have s:q.oM.length=q.wh.length:=by unfold ae.oM; simp
    have d:∀ i,i<q.wh.length->(q.wh.getD i lz).cs∈q.oM:=fun i b=>by
     unfold ae.oM;rw[ZU];exact⟨q.wh.getD i lz,by simp[List.getD,b],rfl⟩
    unfold dN at g;rw[Qp]at g;have e:∀ i,i<q.wh.length->0<(q.wh.getD i lz).cs.length/\∀ c∈(q.wh.getD i lz).cs,df c (ai ts q.src.xs)=true:=fun i b=>by
     have:=g _ (d i b);unfold iq at this;rw[Qo,QE,Qp]at this;exact this
    unfold sK at j;simp only[Qo]at j;obtain⟨⟨⟨⟨⟨⟨⟨v,_⟩,_⟩,n⟩,_⟩,_⟩,_⟩,_⟩:=j;refine⟨⟨hc,t,by omega,by omega,?_,fun i b=>(e i b).1,fun i b=>?_⟩,u,fun y=>?_,by omega,v⟩
    ·intro i b c l;unfold aG at l;rw[Xr]at l;obtain⟨x,w,a⟩:=l;have f:=(e i b).2 x w;unfold df at f;simp only[Qo,QE]at f;obtain⟨⟨⟨⟨o,p⟩,A⟩,B⟩,k⟩:=f;unfold aA at a;split at a
     ·rename_i hop
      rw[Qv hop.1,hop.2]at k;simp only[Bool.false_eq_true,if_false,Qo,QE]at k;simp only[Z5,List.not_mem_nil,or_false]at a;rcases a with rfl | rfl
      ·exact⟨o,p⟩
      ·exact⟨k.1,by omega⟩
     ·simp only[Z5,List.not_mem_nil,or_false]at a;subst a;exact⟨o,p⟩
    ·rw[List.any_eq_false]at m;have:=m _ (d i b);simp only[QE]at this;omega
    ·rw[y]at n;exact n
   ·rw[Qv r]at h; omega

import Derived.Test.YtjndadibondgbaaGreatDoorL12
import Derived.Test.YtjndadibondgbaaGreatDoorL15
set_option linter.all false
set_option maxRecDepth 100000
set_option maxHeartbeats 16000000
namespace Go.Proofs.Zz
open Go.RowKit Go.Shelf
variable {pl:List ah} {i m:Nat} {n:ah}
abbrev ng:=Nat × Nat
def Vi(rk:Nat->Int)(t:ng):Int:=if t.2=0 then 6 else rk (t.1|||t.2)
def ab9(a b:Int):Int:=if a<b then -1 else if b<a then 1 else 0
def aca(rk:Nat->Int)(a b:ng):Int:=
 if ab9 (Vi rk b) (Vi rk a)≠0 then ab9 (Vi rk b) (Vi rk a) else if ab9 a.1 b.1≠0 then ab9 a.1 b.1 else ab9 a.2 b.2
def bsF(lt:Nat->Bool):Nat->Nat->Nat->Nat
 | 0,i,_ => i
 | f+1,i,j => if i<j then (if lt ((i+j) / 2)=true then bsF lt f ((i+j) / 2+1) j else bsF lt f i ((i+j) / 2)) else i
def Vj(rk:Nat->Int)(a:List ng)(t:ng):Nat:=bsF (fun h=>decide (aca rk (a.getD h (0,0)) t<0)) a.length 0 a.length
def aiJ(rk:Nat->Int)(a:List ng)(t:ng):Bool:=decide (Vj rk a t<a.length)&&decide (aca rk (a.getD (Vj rk a t) (0,0)) t=0)
def amW(rk:Nat->Int)(a:List ng)(t:ng):List ng:=if aiJ rk a t=true then a else a.take (Vj rk a t)++t::a.drop (Vj rk a t)
structure SeD where
 groups:List (List fG)
 SS:List ng
 cut:Bool
 amX:zl
 picks:List Int
 status:Int
def afo(rk:Nat->Int)(s:Nat)(gs:List (List fG))(a:List ng)(k:Nat):List ng:=
 if ((zm (gs.getD k [])).isSome&&decide (k &&& s=0))=true then amW rk (amW rk a (s,k)) (k,s) else a
def afp(rk:Nat->Int)(s:Nat)(gs:List (List fG))(a:List ng):List ng:=(List.range gs.length).foldl (afo rk s gs) a
def amY(ts:List af)(q:ae)(b t:zl):zl:=WE b (abT ts q t)
def Dk(rk:Nat->Int)(ts:List af)(q:ae)(s:Nat)(l:List zl)(σ:SeD):SeD:=
 if s=2 ^ q.src.xs.length-1 then { σ with amX:=l.foldl (amY ts q) σ.amX }
 else
  let r:=abY ts q (σ.groups.getD s []) l
  { σ with groups:=σ.groups.set s r.2,SS:=if r.1=true then afp rk s (σ.groups.set s r.2) σ.SS else σ.SS }
def SX(n:Nat)(gs:List (List fG))(t:ng):Prop:=
 (t.2=0/\∃ i,i<n/\t.1=2 ^ i)∨
 (t.2≠0/\t.1<gs.length/\t.2<gs.length/\t.1 &&& t.2=0/\(zm (gs.getD t.1 [])).isSome=true/\(zm (gs.getD t.2 [])).isSome=true)
theorem WS(gs:List (List fG))(s k:Nat)(g:List fG):(gs.set s g).getD k []=if s=k/\s<gs.length then g else gs.getD k []:=by
 rw[Ja,List.getElem?_set,Ja];by_cases h:s=k
 ·subst h;by_cases a:s<gs.length
  ·rw[Qu rfl,Qu a,Qu ⟨rfl,a⟩]; rfl
  ·rw[Qu rfl,Qv a,Qv (fun h=>a h.2),XA (by omega)]
 ·rw[Qv h,Qv (fun b=>h b.1)]
theorem SX.set{n:Nat}{gs:List (List fG)}{t:ng}(h:SX n gs t){s:Nat}{g:List fG}(hg:(zm (gs.getD s [])).isSome=true->(zm g).isSome=true):SX n (gs.set s g) t:=by
 rcases h with h | ⟨b,d,f,i,j,l⟩
 ·exact .inl h
 ·have key:∀ k,(zm (gs.getD k [])).isSome=true->(zm ((gs.set s g).getD k [])).isSome=true:=fun k a=>by
   rw[WS];split
   ·rename_i e
    rw[<- e.1]at a;exact hg a
   ·exact a
  exact .inr ⟨b,by rw[List.length_set]; exact d,by rw[List.length_set]; exact f,i,key _ j,key _ l⟩
theorem Tryz.Pz:(Tryz.prog.info? 75).map (fun i=>(i.zero,i.size,i.bytes))=some (some (.agg #[.int .i64 0,.int .u64 0,.int .u64 0,.slice none 0 0,.int .u64 0,.int .u64 0]),6,64):=by kernel_rfl
theorem JW(W:World)(base:Nat)(v:Value)(ps:List aB)(hown:W.ownsRow base 75 6 v ps.length (ps.flatMap aB.list))(hl:ps.length<=1000)(hb:base<=W.heap.size)(p:aB)(ty:TypeId) :
  ∃ d w',(Builtin.append_ #[71,71] ty #[v,.slice (some (aD W.heap.size 0)) 1 1]).run Tryz.prog (W.alloc (.cells p.cells 75))=.ok d w'/\
   w'.ownsRow base 75 6 d (ps++[p]).length ((ps++[p]).flatMap aB.list)/\Kept (fun b=>v.ownBlock≠some b) W w'/\(∃ a m c,d = .slice a m c)/\(d.ownBlock=v.ownBlock∨d.ownBlock=some (W.heap.size+1)):=by
 obtain⟨k,l,e,f,g⟩:=Zy Tryz.Pz;obtain⟨d,w',n,o,q,r,i⟩:=qN (P:=Tryz.prog) W base 71 ty 75 k _ 6 64 Tryz.underlying71 l e f g rfl (by decide) v ps.length _ hown hb p.list rfl (fun u j=>by
  unfold aB.list aa.val at j;simp at j;rcases j with rfl | rfl | rfl | rfl | rfl | rfl <;> rfl) hl (by decide)
 exact⟨d,w',n,by rw[ZC,Xb]; simpa using o,q,r,i⟩
def hasB(ar:Nat)(sb cb kb ob:Bool)(n:ah):List Bool:=
 [decide ((ar:Int)<1)&&(n.l != 0),decide ((ar:Int)<2)&&(n.r != 0),!sb&&(n.source != 0),!kb&&(n.key != 0),!cb&&decide (0<n.cl.xs.length),!ob&&decide (0<n.co.xs.length)]
theorem aak(n:ah):(!((hasB (arity n.kind) (decide (n.kind=1)) (decide (2<=n.kind/\n.kind<=5)) (decide (n.kind=4∨n.kind=5)) (decide (n.kind=6)) n).any id))=jT n:=by
 unfold hasB jT;rw[QD];simp only[List.any_cons,List.any_nil,id,Xu,Bool.or_eq_false_iff,Bool.and_eq_false_iff,QE,Qf,Bool.not_eq_false',bne_eq_false_iff_eq];constructor
 ·rintro⟨a,b,d,e,f,g,_⟩;refine⟨?_,?_,d,?_,?_,?_⟩
  ·rcases a with h | h
   ·left; omega
   ·right; exact h
  ·rcases b with h | h
   ·left; omega
   ·right; exact h
  ·rcases e with (h | h) | h
   ·exact .inl h
   ·exact .inr (.inl h)
   ·exact .inr (.inr h)
  ·rcases f with h | h
   ·by_cases i:n.kind=2
    ·exact .inl i
    ·exact .inr (.inl (by omega))
   ·exact .inr (.inr (by omega))
  ·rcases g with h | h
   ·exact .inl h
   ·exact .inr (by omega)
 ·rintro⟨a,b,d,e,f,g⟩;refine⟨?_,?_,d,?_,?_,?_,trivial⟩
  ·rcases a with h | h
   ·left; omega
   ·right; exact h
  ·rcases b with h | h
   ·left; omega
   ·right; exact h
  ·rcases e with h | h | h
   ·exact .inl (.inl h)
   ·exact .inl (.inr h)
   ·exact .inr h
  ·rcases f with h | h | h
   ·exact .inl (by omega)
   ·exact .inl (by omega)
   ·exact .inr (by omega)
  ·rcases g with h | h
   ·exact .inl h
   ·exact .inr (by omega)
theorem GJ(n:ah)(ar:Nat)(sb cb kb ob:Bool)(w:World)(hcl:n.cl.xs.length<=1152921504606846976)(hco:n.co.xs.length<=1152921504606846976) :
  Cb 89 #[.agg n.cells,.agg #[.int .i64 (ar:Int),.bool sb,.bool cb,.bool kb,.bool ob]] w (.bool (!((hasB ar sb cb kb ob n).any id))):=by
 obtain⟨M,N,p,k⟩:=aR w n.cells 36;obtain⟨O,P,q,s⟩:=aR M #[.int .i64 (ar:Int),.bool sb,.bool cb,.bool kb,.bool ob] 147;have g:=q;have m:=aC p g;have i:=k.of (g.block _ k.lt);have W:=i.at 1;have X:=i.at 2;have Y:=i.at 3;have Z:=i.at 4;have bT:=i.at 5;have bQ:=i.at 6;have E:=s;obtain⟨eT,fK,gy,gV,fM⟩:=E.k5;have j:=Zh m;obtain⟨B1,v⟩:∃ B,B=(decide ((ar:Int)<1)&&(n.l != 0)):=⟨_,rfl⟩
 obtain⟨B2,y⟩:∃ B,B=(decide ((ar:Int)<2)&&(n.r != 0)):=⟨_,rfl⟩
 obtain⟨t,z⟩:∃ B,B=(!sb&&(n.source != 0)):=⟨_,rfl⟩
 obtain⟨B4,A⟩:∃ B,B=(!kb&&(n.key != 0)):=⟨_,rfl⟩
 obtain⟨B5,C⟩:∃ B,B=(!cb&&decide (0<n.cl.xs.length)):=⟨_,rfl⟩
 obtain⟨u,D⟩:∃ B,B=(!ob&&decide (0<n.co.xs.length)):=⟨_,rfl⟩
 have a:Hid (hasB ar sb cb kb ob n=[B1,B2,t,B4,B5,u]):=by show _=_; unfold hasB; rw[v,y,z,A,C,D]
 have F:=Zh v;have G:=Zh y;have H:=Zh z;have I:=Zh A;have J:=Zh C;have K:=Zh D;generalize hasB ar sb cb kb ob n=L at *;generalize V:n.cells=NC at *;clear v y z A C D V k s i E p q m g;obtain⟨nk,Q,R,ns,⟨na,nc,S⟩,T,⟨oa,oc,U⟩⟩:=n;unfold aa.val at *;simp only at *;go_enter Tryz.func89,Tryz.ntmps89;go_upto_region 1 with fail;go_cut [5] from 6 to 13 (fun c f=>c=.bool B1/\f=O)
 case first=>
  by_cases d:(ar:Int)<1
  ·have b:B1=(Q != 0):=by rw[F.o,Qy d,Qz]
   go_wp2_with fail;go_meet;exact⟨by rw[b],rfl⟩
  ·have b:B1=false:=by rw[F.o,Qg d,Qh]
   go_wp2_with fail;go_meet;exact⟨by rw[b],rfl⟩
 case rest=>
 obtain⟨rfl,rfl⟩:=hcut
 cases hB1:B1 with
 | true =>
  rw[hB1]at a;have e:Hid ((!L.any id)=false):=by show _=_; rw[a.o]; simp
  clear a;go_wp2;go_ret;exact⟨Qb e.o.symm,j.o⟩
 | false =>
 rw[hB1]at a;clear hB1;go_upto_region 2 with fail;go_cut [5] from 14 to 21 (fun c f=>c=.bool B2/\f=wc)
 case first=>
  by_cases d:(ar:Int)<2
  ·have b:B2=(R != 0):=by rw[G.o,Qy d,Qz]
   go_wp2_with fail;go_meet;exact⟨by rw[b],rfl⟩
  ·have b:B2=false:=by rw[G.o,Qg d,Qh]
   go_wp2_with fail;go_meet;exact⟨by rw[b],rfl⟩
 case rest=>
 obtain⟨rfl,rfl⟩:=hcut
 cases hB2:B2 with
 | true =>
  rw[hB2]at a;have e:Hid ((!L.any id)=false):=by show _=_; rw[a.o]; simp
  clear a;go_wp2;go_ret;exact⟨Qb e.o.symm,j.o⟩
 | false =>
 rw[hB2]at a;clear hB2;go_upto_region 4 with fail;go_cut [22] from 23 to 30 (fun c f=>c=.bool t/\f=wc)
 case first=>
  cases d:sb with
  | false =>
   subst d;have b:t=(ns != 0):=by rw[H.o]; rfl
   go_wp2_with fail;go_meet;exact⟨by rw[b],rfl⟩
  | true =>
   subst d;have b:t=false:=by rw[H.o]; rfl
   go_wp2_with fail;go_meet;exact⟨by rw[b],rfl⟩
 case rest=>
 obtain⟨rfl,rfl⟩:=hcut
 cases hB3:t with
 | true =>
  rw[hB3]at a;have e:Hid ((!L.any id)=false):=by show _=_; rw[a.o]; simp
  clear a;go_wp2;go_ret;exact⟨Qb e.o.symm,j.o⟩
 | false =>
 rw[hB3]at a;clear hB3;go_upto_region 5 with fail;go_cut [22] from 31 to 38 (fun c f=>c=.bool B4/\f=wc)
 case first=>
  cases d:kb with
  | false =>
   subst d;have b:B4=(T != 0):=by rw[I.o]; rfl
   go_wp2_with fail;go_meet;exact⟨by rw[b],rfl⟩
  | true =>
   subst d;have b:B4=false:=by rw[I.o]; rfl
   go_wp2_with fail;go_meet;exact⟨by rw[b],rfl⟩
 case rest=>
 obtain⟨rfl,rfl⟩:=hcut
 cases hB4:B4 with
 | true =>
  rw[hB4]at a;have e:Hid ((!L.any id)=false):=by show _=_; rw[a.o]; simp
  clear a;go_wp2;go_ret;exact⟨Qb e.o.symm,j.o⟩
 | false =>
 rw[hB4]at a;clear hB4;go_upto_region 7 with fail;go_cut [39] from 40 to 48 (fun c f=>c=.bool B5/\f=wc)
 case first=>
  cases d:cb with
  | false =>
   subst d;have b:B5=(decide (0<S.length)):=by rw[J.o]; rfl
   go_wp2_with fail;go_meet;exact⟨by rw[b],rfl⟩
  | true =>
   subst d;have b:B5=false:=by rw[J.o]; rfl
   go_wp2_with fail;go_meet;exact⟨by rw[b],rfl⟩
 case rest=>
 obtain⟨rfl,rfl⟩:=hcut
 cases CV:B5 with
 | true =>
  rw[CV]at a;have e:Hid ((!L.any id)=false):=by show _=_; rw[a.o]; simp
  clear a;go_wp2;go_ret;exact⟨Qb e.o.symm,j.o⟩
 | false =>
 rw[CV]at a;clear CV;go_upto_region 8 with fail;go_cut [39] from 49 to 57 (fun c f=>c=.bool u/\f=wc)
 case first=>
  cases d:ob with
  | false =>
   subst d;have b:u=(decide (0<U.length)):=by rw[K.o]; rfl
   go_wp2_with fail;go_meet;exact⟨by rw[b],rfl⟩
  | true =>
   subst d;have b:u=false:=by rw[K.o]; rfl
   go_wp2_with fail;go_meet;exact⟨by rw[b],rfl⟩
 case rest=>
 obtain⟨rfl,rfl⟩:=hcut
 cases hB6:u with
 | true =>
  rw[hB6]at a;have e:Hid ((!L.any id)=false):=by show _=_; rw[a.o]; simp
  clear a;go_wp2;go_ret;exact⟨Qb e.o.symm,j.o⟩
 | false =>
 rw[hB6]at a;clear hB6;have e:Hid ((!L.any id)=true):=by show _=_; rw[a.o]; rfl
 clear a;go_wp2;go_ret;exact⟨Qb e.o.symm,j.o⟩
def yC(pl:List ah)(i j:Nat):Nat:=fE i fun m=>(inpN pl m).count j
theorem JQ(pl:List ah)(i j:Nat):yC pl (i+1) j=yC pl i j+(inpN pl i).count j:=Xf _ _
theorem agn(pl:List ah)(i:Nat):(inpN pl i).length<=2:=by
 unfold inpN;simp only
 repeat' split
 all_goals simp
theorem Vz(pl:List ah)(j:Nat):∀ i,yC pl i j<=2*i
 | 0 => by simp[yC,fE]
 | i+1 => by
  rw[JQ];have h1:=Vz pl j i;have h2:(inpN pl i).count j<=(inpN pl i).length:=List.count_le_length;have h3:=agn pl i;omega
theorem oH(k:Int):arity k<=2:=by unfold arity; split <;> (try split) <;> omega
def mW(n:ah)(i:Nat):Bool:=(aJ n).all fun x=>decide (0<=x)&&decide (x<(i:Int))
theorem aal(n:ah)(i:Nat):dH n i=(decide (1<=n.kind)&&decide (n.kind<=10)&&jT n&&mW n i):=by
 unfold dH mW aJ;have b:=oH n.kind;generalize arity n.kind=a at *;rw[Bool.and_assoc];congr 1
 match a,b with
 | 0,_ => simp
 | 1,_ => simp
 | 2,_ => simp
theorem akG(h:mW (pl.getD i nz) i=true):inpN pl i=(aJ (pl.getD i nz)).map Int.toNat:=by
 unfold mW aJ at h;unfold inpN aJ;simp only;have b:=oH (pl.getD i nz).kind;generalize arity (pl.getD i nz).kind=a at *
 match a,b with
 | 0,_ => simp
 | 1,_ =>
  simp at h;simp[h]
 | 2,_ =>
  simp at h;simp[h]
def zX(pl:List ah)(i m j:Nat):Nat:=yC pl i j+(((aJ (pl.getD i nz)).take m).map Int.toNat).count j
theorem aam(pl:List ah)(i:Nat)(hm:m<(aJ (pl.getD i nz)).length)(j:Nat):zX pl i (m+1) j=zX pl i m j+if j=((aJ (pl.getD i nz)).getD m 0).toNat then 1 else 0:=by
 unfold zX;generalize aJ (pl.getD i nz)=L at *;have e:L.getD m 0=L[m]:=by simp[List.getD,hm]
 rw[Qm hm,Qn,List.count_append,e];simp only[XH,List.map_nil,List.count_singleton];by_cases h:j=L[m].toNat
 ·rw[Qu h,h]; simp; omega
 ·rw[Qv h];have:(L[m].toNat==j)=false:=by rw[XU]; exact fun e=>h e.symm
  rw[this]; simp
theorem aan(pl:List ah)(i j:Nat):zX pl i 0 j=yC pl i j:=by unfold zX; simp
theorem adF(h:mW (pl.getD i nz) i=true)(j:Nat):zX pl i (aJ (pl.getD i nz)).length j=yC pl (i+1) j:=by
 unfold zX;rw[Qw,JQ,akG h]
theorem ql(n:ah):(aJ n).length<=2:=by unfold aJ; rw[XF]; simp; omega
theorem aao(hm:m<(aJ n).length)(h:(aJ n).getD m 0<0∨(i:Int)<=(aJ n).getD m 0):mW n i=false:=by
 unfold mW;rw[Qj];refine⟨_,X4 hm (d:=0),?_⟩;generalize (aJ n).getD m 0=x at *;rw[Qo,QE,QE];omega
theorem aap{n:ah}{i:Nat}(h:∀ m,m<(aJ n).length->0<=(aJ n).getD m 0/\(aJ n).getD m 0<(i:Int)):mW n i=true:=by
 unfold mW;rw[Qp];intro x b;obtain⟨m,a,rfl⟩:=Qx b;have:=h m a
 simpa [List.getD,a] using this
theorem adG{pl:List ah}{k:Nat}(hk:k<pl.length)(h:dH (pl.getD k nz) k=false):dI pl=false:=by
 unfold dI;have:((List.range pl.length).all fun i=>dH (pl.getD i nz) i)=false:=by
  rw[Qj];exact⟨k,Xm.2 hk,by rw[h]; simp⟩
 rw[this,Qi,Qh]
theorem aaq(h1:1<=pl.length)(h64:pl.length<=64)(h:∀ i,i<pl.length->dH (pl.getD i nz) i=true):dI pl=yS pl:=by
 unfold dI;have:((List.range pl.length).all fun i=>dH (pl.getD i nz) i)=true:=by
  rw[Qp];exact fun i a=>h i (Xm.1 a)
 rw[this,Qy h1,Qy h64];rfl
theorem adH{pl:List ah}{k:Nat}(hk:k<pl.length-1)(h:yC pl pl.length k≠1):yS pl=false:=by
 unfold yS;rw[Qj];exact⟨k,Xm.2 hk,by show ¬ decide (yC pl pl.length k=1)=true; rw[Qg h]; simp⟩
theorem aar{pl:List ah}(h:∀ k,k<pl.length-1->yC pl pl.length k=1):yS pl=true:=by
 unfold yS;rw[Qp];exact fun k a=>Qy (h k (Xm.1 a))
theorem adI(n:ah)(w:World)(h1:1<=n.kind)(hcl:n.cl.xs.length<=1152921504606846976)(hco:n.co.xs.length<=1152921504606846976) :
  Cb 89 #[.agg n.cells,.agg (gW n.kind)] w (.bool (jT n)):=by
 have h:=GJ n (arity n.kind) (decide (n.kind=1)) (decide (2<=n.kind/\n.kind<=5)) (decide (n.kind=4∨n.kind=5)) (decide (n.kind=6)) w hcl hco;rw[aak]at h;unfold gW;rw[xA h1];exact h
theorem Us(po:Option Addr)(pc:Nat)(pl:List ah)(w:World)(hp:fq w po pl)(hs:eG w 0) :
  Cb 57 #[.slice po pl.length pc] w (.bool (dI pl)):=by
 have bJ:=hp.1;by_cases z0:pl.length<1
 ·have d:Hid (dI pl=false):=by show _=_; unfold dI; rw[Qg (by omega)]; rfl
  have ay:(pl.length:Int)<1:=by omega
  generalize dI pl=R at *;clear hp hs;go_enter Tryz.func57,Tryz.ntmps57;go_wp2;go_ret;exact⟨Qb d.o.symm,Qr _ _⟩
 by_cases z1:64<pl.length
 ·have d:Hid (dI pl=false):=by show _=_; unfold dI; rw[Qg (show ¬ pl.length<=64 by omega),Qi]; rfl
  have aY:(64:Int)<(pl.length:Int):=by omega
  have ay:¬ (pl.length:Int)<1:=by omega
  generalize dI pl=R at *;clear hp hs;go_enter Tryz.func57,Tryz.ntmps57;go_wp2;go_ret;exact⟨Qb d.o.symm,Qr _ _⟩
 have aZ:=run_make_row' (P:=Tryz.prog) 22 3 (.int .i64 0) 8 Tryz.underlying22 Tryz.info3 rfl .i64 .i64 pl.length (by omega) (by omega);obtain⟨w1,Q⟩:∃ x,w.alloc (.cells (madeCells #[.int .i64 0] pl.length) 3)=x:=⟨_,rfl⟩
 have az:w1.rowIs w.heap.size 3 pl.length (fun _=>.int .i64 0):=by rw[<- Q]; exact World.rowIs_made _ _ _ _
 have aA:Bw w w1:=by rw[<- Q]; exact bV _ _
 have bf:w.heap.size<w1.heap.size:=by rw[<- Q]; simp
 have W:Hid (∀ x,Kept (fun b=>b≠w.heap.size) w1 x->Bw w x/\fq x po pl/\eG x 0):=fun x hk=>by
  have F:=Below.trans aA (hk.below (Nat.le_of_lt bf) (fun b F=>Nat.ne_of_lt F));exact⟨F,hp.below F,hs.below F⟩
 have ay:¬ (pl.length:Int)<1:=by omega
 have aY:¬ (64:Int)<(pl.length:Int):=by omega
 have B:Hid _:=@adG pl;have aB:=Zh (aaq (pl:=pl) (by omega) (by omega));have aF:Hid _:=@adH pl;have aG:Hid _:=@aar pl;have VJ:=hd az;have uz:Hid (∀ i j,yC pl i j<=2*i):=fun i j=>Vz pl j i
 generalize dI pl=R at *;generalize yS pl=OB at *;clear hp hs az aA z0 z1;go_enter Tryz.func57,Tryz.ntmps57;go_wp2;clear Q aZ;go_loopw [23] (fun iv wr=>∃ k:Nat,k<=pl.length/\iv=.int .i64 k/\Hid (∀ i,i<k->dH (pl.getD i nz) i=true)/\Hid (wr.rowIs w.heap.size 3 pl.length (fun j=>.int .i64 ((yC pl k j:Nat):Int)))/\Hid (Kept (fun b=>b≠w.heap.size) w1 wr)) (fun iv _=>pl.length-(intOf iv).toNat)
 case atStart=>exact⟨0,Zf _,rfl,fun j g=>absurd g (by omega),VJ.o,QR _ _⟩
 case round=>
  obtain⟨k,hk,rfl,HJ,S,nO⟩:=hrel;obtain⟨T,ak,au⟩:=W.o wr nO.o;by_cases aX:k<pl.length
  ·obtain⟨pb,bP,rfl,c0,c1,c2,c3,c4,c5,c6,i1,i2⟩:=ak.2 k aX;have C:Hid (dH (pl.getD k nz) k=false->R=false):=fun e=>B.o aX e
   have Y:Hid (dH (pl.getD k nz) k=true->∀ i,i<k+1->dH (pl.getD i nz) i=true):=fun h i hi=>by
    rcases Ql i k with V | V
    ·exact HJ.o i V
    ·obtain rfl:i=k:=by omega
     exact h
   have f:=Zh (aal (pl.getD k nz) k);have Wy:Hid (∀ m,m<(aJ (pl.getD k nz)).length->((aJ (pl.getD k nz)).getD m 0<0∨(k:Int)<=(aJ (pl.getD k nz)).getD m 0)->mW (pl.getD k nz) k=false):=fun m hm h=>aao hm h
   have p:Hid _:=@aap (pl.getD k nz) k;have CP:Hid (∀ m,m<(aJ (pl.getD k nz)).length->∀ j,zX pl k (m+1) j=zX pl k m j+if j=((aJ (pl.getD k nz)).getD m 0).toNat then 1 else 0):=fun m hm j=>aam pl k hm j
   have Z:Hid (mW (pl.getD k nz) k=true->∀ j,zX pl k (aJ (pl.getD k nz)).length j=yC pl (k+1) j):=fun h j=>adF h j
   have pJ:Hid (∀ m j,zX pl k m j<=2*k+2):=fun m j=>by
    unfold zX;have h1:=uz.o k j;have h2:(((aJ (pl.getD k nz)).take m).map Int.toNat).count j<=(((aJ (pl.getD k nz)).take m).map Int.toNat).length:=List.count_le_length;rw[ZB,XF]at h2;have h3:=ql (pl.getD k nz);omega
   have ae:Hid (wr.rowIs w.heap.size 3 pl.length (fun j=>.int .i64 ((zX pl k 0 j:Nat):Int))):=S.o.congr (fun j _=>by rw[aan]);have G:Hid (∀ x,1<=(pl.getD k nz).kind->_):=fun x h1=>adI (pl.getD k nz) x h1 i1.1 i2.1
   have H:Hid (∀ x,eG x 0->1<=(pl.getD k nz).kind->(pl.getD k nz).kind<=10->_):=fun x hs h1 bH=>zW (pl.getD k nz) x hs h1 bH
   have bg:=Zh (ql (pl.getD k nz));generalize aJ (pl.getD k nz)=L at *;generalize mW (pl.getD k nz) k=AB at *;generalize dH (pl.getD k nz) k=SB at *;generalize jT (pl.getD k nz)=MB at *;generalize zX pl k=CI at *;generalize pl.getD k nz=n at *;obtain⟨nk,nl,nr,ns,⟨na,nc,nx⟩,ny,⟨oa,oc,ox⟩⟩:=n;unfold ah.cells aa.val at *;simp only at *;clear i1 i2 HJ S B ak;obtain⟨wb,bF,U,aT⟩:=aR wr #[.int .i64 nk,.int .i64 nl,.int .i64 nr,.int .i64 ns,.slice na nx.length nc,.int .i64 ny,.slice oa ox.length oc] 36;obtain⟨y,m1,m2,m3,m4,m5,m6⟩:=aT.k7;have xW:=Zh (aC T U);have TZ:=Zh U;have af:=Zh (au.below U);clear aT U T au;by_cases b1:nk<1
   ·have d:=Zh (C.o (by rw[f.o,Qg (by omega)]; rfl));clear f C Y Wy p CP Z pJ G H;go_wp2;refine QA (by kernel_rfl) (by kernel_rfl) ?_;refine qS (.pointer (some (aD wr.heap.size 0))) ?_;refine qC (.int .i64 nk) y ?_;refine qS (.bool true) ?_;go_big_quiet_want;refine⟨.bool true,fun x l=>?_,?_⟩
    ·go_simp
    simp only[pU];go_big_quiet_on;go_big_quiet_skip
    try simp only[pU]
    iterate 2 (go_big_quiet_skip; try simp only[pU])
    refine qS (.bool true) ?_;go_big_quiet_want;refine⟨.bool true,fun x l=>?_,?_⟩
    ·go_simp
    simp only[pU];go_big_quiet_on;go_big_quiet_skip
    try simp only[pU]
    iterate 6 (go_big_quiet_skip; try simp only[pU])
    refine qS (.bool true) ?_;refine XY ?_;intro w2 a;have D:=Zh (aC xW.o a);clear a;go_wp2;go_ret;exact⟨Qb d.o.symm,D.o⟩
   by_cases b2:10<nk
   ·have d:=Zh (C.o (by rw[f.o,Qg (show ¬ nk<=10 by omega),Qi]; rfl));clear f C Y Wy p CP Z pJ G H;go_wp2;refine QA (by kernel_rfl) (by kernel_rfl) ?_;refine qS (.pointer (some (aD wr.heap.size 0))) ?_;refine qC (.int .i64 nk) y ?_;refine qS (.bool false) ?_;refine qS (.bool false) ?_;refine qS (.pointer (some (aD wr.heap.size 0))) ?_;refine qC (.int .i64 nk) y ?_;refine qS (.bool true) ?_;refine qS (.bool true) ?_;go_big_quiet_want;refine⟨.bool true,fun x l=>?_,?_⟩
    ·go_simp
    simp only[pU];go_big_quiet_on;go_big_quiet_skip
    try simp only[pU]
    iterate 6 (go_big_quiet_skip; try simp only[pU])
    refine qS (.bool true) ?_;refine XY ?_;intro w2 a;have D:=Zh (aC xW.o a);clear a;go_wp2;go_ret;exact⟨Qb d.o.symm,D.o⟩
   have I:=fun x=>G.o x (by omega)
   have ag:=fun x hs=>H.o x hs (by omega) (by omega)
   obtain⟨K,rfl⟩:=Jh (show 0<=nk by omega);have bn:K<=10:=by omega
   obtain⟨t0,t1,t2,t3,t4⟩:=eG.get af.o bn;obtain⟨s0,s1,s2,s3,s4,aU,e0,e1,e2,e3,e4⟩:∃ s0 s1 s2 s3 s4,gW (K:Int)=#[s0,s1,s2,s3,s4]/\s0=.int .i64 (zV K)/\s1=.bool (decide ((K:Int)=1))/\s2=.bool (decide (2<=(K:Int)/\(K:Int)<=5))/\s3=.bool (decide ((K:Int)=4∨(K:Int)=5))/\s4=.bool (decide ((K:Int)=6)):=⟨_,_,_,_,_,rfl,rfl,rfl,rfl,rfl,rfl⟩
   rw[<- e0]at t0;rw[<- e1]at t1;rw[<- e2]at t2;rw[<- e3]at t3;rw[<- e4]at t4;rw[QJ]at t0 t1 t2 t3 t4;rw[aU]at I;have aH:decide (1<=(K:Int))=true:=Qy (by omega);have aI:decide ((K:Int)<=10)=true:=Qy (by omega);rw[aH,aI]at f;clear e0 e1 e2 e3 e4 aU G H aH aI;have bK:¬ (11:Int)<=(K:Int):=by omega
   cases MB with
   | false =>
    have d:=Zh (C.o (by rw[f.o]; rfl));clear f C Y Wy p CP Z pJ ag;go_wp2;refine QA (by kernel_rfl) (by kernel_rfl) ?_;refine qS (.pointer (some (aD wr.heap.size 0))) ?_;refine qC (.int .i64 (K:Int)) y ?_;refine qS (.bool false) ?_;refine qS (.bool false) ?_;refine qS (.pointer (some (aD wr.heap.size 0))) ?_;refine qC (.int .i64 (K:Int)) y ?_;refine qS (.bool false) ?_;refine qS (.bool false) ?_;refine qS (.bool false) ?_;go_big_quiet_want;refine⟨.agg #[.int .i64 (K:Int),.int .i64 nl,.int .i64 nr,.int .i64 ns,.slice na nx.length nc,.int .i64 ny,.slice oa ox.length oc],fun x l=>?_,?_⟩
    ·have e0:=J7 l y m1 m2 m3 m4 m5 m6;go_simp
    simp only[pU];go_big_quiet_on;refine qS (.pointer (some (aD wr.heap.size 0))) ?_;refine qC (.int .i64 (K:Int)) y ?_;refine qS (.pointer (some (aD 0 (K*5)))) ?_;go_big_quiet_want;refine⟨.agg #[s0,s1,s2,s3,s4],fun x l=>?_,?_⟩
    ·have e0:=cR5 l t0 t1 t2 t3 t4;go_simp
    simp only[pU];go_big_quiet_on;go_big_quiet_want;refine⟨.bool false,fun x l=>?_,?_⟩
    ·have hC:=QC l (I x);go_simp
    simp only[pU];go_big_quiet_on;refine qS (.bool true) ?_;refine qS (.bool true) ?_;refine XY ?_;intro w2 a;have D:=Zh (aC xW.o a);clear a;go_wp2;go_ret;exact⟨Qb d.o.symm,D.o⟩
   | true =>
    have aK:Hid (SB=AB):=by show _=_; rw[f.o]; rfl
    clear f;have f:=Zh aK.o;clear aK;go_wp2;refine QA (by kernel_rfl) (by kernel_rfl) ?_;refine qS (.pointer (some (aD wr.heap.size 0))) ?_;refine qC (.int .i64 (K:Int)) y ?_;refine qS (.bool false) ?_;refine qS (.bool false) ?_;refine qS (.pointer (some (aD wr.heap.size 0))) ?_;refine qC (.int .i64 (K:Int)) y ?_;refine qS (.bool false) ?_;refine qS (.bool false) ?_;refine qS (.bool false) ?_;go_big_quiet_want;refine⟨.agg #[.int .i64 (K:Int),.int .i64 nl,.int .i64 nr,.int .i64 ns,.slice na nx.length nc,.int .i64 ny,.slice oa ox.length oc],fun x l=>?_,?_⟩
    ·have e0:=J7 l y m1 m2 m3 m4 m5 m6;go_simp
    simp only[pU];go_big_quiet_on;refine qS (.pointer (some (aD wr.heap.size 0))) ?_;refine qC (.int .i64 (K:Int)) y ?_;refine qS (.pointer (some (aD 0 (K*5)))) ?_;go_big_quiet_want;refine⟨.agg #[s0,s1,s2,s3,s4],fun x l=>?_,?_⟩
    ·have e0:=cR5 l t0 t1 t2 t3 t4;go_simp
    simp only[pU];go_big_quiet_on;go_big_quiet_want;refine⟨.bool true,fun x l=>?_,?_⟩
    ·have hC:=QC l (I x);go_simp
    simp only[pU];go_big_quiet_on;refine qS (.bool false) ?_;refine qS (.bool false) ?_;refine XY ?_;intro w2 a;have q0:=cB a y;have q1:=cB a m1;have q2:=cB a m2;have q3:=cB a m3;have q4:=cB a m4;have q5:=cB a m5;have q6:=cB a m6;have aL:=ag w2 (Jv a af.o);have pg:=Zh (nO.o.trans (QU (aC TZ.o a) (fun b F _=>F)));have J:=Zh (ae.o.of_block ((aC TZ.o a).block _ ae.o.lt));clear a I ag y m1 m2 m3 m4 m5 m6 t0 t1 t2 t3 t4 ae af TZ bF c0 c1 c2 c3 c4 c5 c6;go_wp2_with fail;refine Jj aL ?_;clear aL q0 q1 q2 q3 q4 q5 q6;rintro e w3 ⟨ib,rfl,aV,bG,av⟩;have xD:=Zh (pg.o.trans (QU av (fun b F _=>F)));have bq:=Zh (J.o.of_block (av.block _ J.o.lt));have bu:ib≠w.heap.size:=by have:=J.o.lt; omega
    have Kb:Hid _:=aV;have bL:=bg.o;clear aV bG av pg J;go_wp2;go_loopw [48] (fun iv wx=>∃ m:Nat,m<=L.length/\iv=.int .i64 m/\Hid (∀ j,j<m->0<=L.getD j 0/\L.getD j 0<(k:Int))/\Hid (wx.rowIs w.heap.size 3 pl.length (fun j=>.int .i64 ((CI m j:Nat):Int)))/\Hid (Kept (fun b=>b≠w.heap.size) w3 wx)) (fun iv _=>L.length-(intOf iv).toNat)
    case atStart=>exact⟨0,Zf _,rfl,fun j g=>absurd g (by omega),bq.o,QR _ _⟩
    case round=>
     obtain⟨m,hm,rfl,q,z,Mv⟩:=hrel;by_cases A:m<L.length
     ·obtain⟨bQ,io,ei,aW⟩:=Qe Kb.o A
      cases ei
      have aM:=Zj (aW m A) Mv.o bu;rw[QJ]at aM;have r:=Zh (Wy.o m A);have s:=Zh (CP.o m A);have M:Hid _:=fun j=>pJ.o m j
      have t:Hid (∀ x,x=L.getD m 0->0<=x->x<(k:Int)->∀ j,j<m+1->0<=L.getD j 0/\L.getD j 0<(k:Int)):=fun x l h0 h1 j g=>by
       rcases Ql j m with V | V
       ·exact q.o j V
       ·obtain rfl:j=m:=by omega
        rw[<- l]; exact⟨h0,h1⟩
      have KM:=Zh ((W.o wr (xD.o.trans Mv.o)).1);clear aW q Wy CP pJ;obtain⟨x,ax⟩:=eY (L.getD m 0)
      rw[<- ax]at aM r s;have O:=Zh (t.o x ax);clear ax t;by_cases x0:x<0
      ·have d:=Zh (C.o (by rw[f.o,r.o (.inl x0)]));clear f C Y p Z r s M O;go_wp2;go_ret;exact⟨Qb d.o.symm,KM.o⟩
      by_cases x1:(k:Int)<=x
      ·have d:=Zh (C.o (by rw[f.o,r.o (.inr x1)]));clear f C Y p Z r s M O;go_wp2;go_ret;exact⟨Qb d.o.symm,KM.o⟩
      obtain⟨X,rfl⟩:=Jh (show 0<=x by omega);have hX:X<pl.length:=by omega
      have aN:=z.o.cell hX;have bM:=z.o.frozen X;have aO:=M.o X;rw[ZY]at s;have KO:Hid (∀ v:Nat,v=CI m X+1->(wr.setCell (aD w.heap.size X) (.int .i64 (v:Int))).rowIs w.heap.size 3 pl.length (fun j=>.int .i64 ((CI (m+1) j:Nat):Int))):=fun v hv=>
       (z.o.set X (.int .i64 (v:Int))).congr (fun j _=>by
        show (if j=X then _ else _)=_
        rw[s.o j];by_cases g:j=X
        ·rw[Qu g,Qu g,g,hv]
        ·rw[Qv g,Qv g,Xg])
      have bz:=Zh (O.o (by omega) (by omega));obtain⟨u,hu⟩:=eY (CI m X)
      rw[<- hu]at aN aO KO;have bN:u<=200:=by omega
      have aP:Hid (Kept (fun b=>b≠w.heap.size) w3 (wr.setCell (aD w.heap.size X) (.int .i64 ((u+1:Nat):Int)))):=Mv.o.trans (Zn _ _ _ (fun h=>h rfl));have aQ:Hid _:=KO.o (u+1) rfl;clear hu z s M KO r O aO;have E:((u+1:Nat):Int)=(u:Int)+1:=by omega
      rw[E]at aP aQ;clear E;go_wp2;go_roundw
      case rel=>exact⟨m+1,by omega,by go_num,bz.o,aQ.o,aP.o⟩
      case measure=>simp[intOf]; omega
     ·obtain rfl:m=L.length:=by omega
      have ai:=p.o q.o;have bA:=Zh (Y.o (by rw[f.o,ai]));have bB:=Zh (z.o.congr (fun j _=>by rw[Z.o ai j]));have bC:=Zh (xD.o.trans Mv.o);clear ai p Y f Z z Mv q C Wy CP pJ;go_wp2;go_roundw
      case rel=>exact⟨k+1,by omega,by go_num,bA.o,bB.o,bC.o⟩
      case measure=>simp[intOf]; omega
  ·obtain rfl:k=pl.length:=by omega
   have d:=Zh (aB.o HJ.o);have aS:=Zh T;have bD:Hid (∀ j,j<pl.length->wr.cell? (aD w.heap.size j)=some (.int .i64 ((yC pl pl.length j:Nat):Int))):=fun j g=>S.o.cell g
   clear B aB HJ S nO T ak au W VJ;generalize yC pl pl.length=CN at *;obtain⟨N,hN⟩:=eX (pl.length-1)
   have bI:(pl.length:Int)-1=(N:Int):=by omega
   have bO:N<=pl.length:=by omega
   rw[hN]at aF aG;have qF:=Zh hN;clear hN;go_wp2;go_loop [73] (fun iv=>∃ m:Nat,m<=N/\iv=.int .i64 m/\Hid (∀ j,j<m->CN j=1)) (fun iv=>N-(intOf iv).toNat)
   case atStart=>exact⟨0,Zf _,rfl,fun j g=>absurd g (by omega)⟩
   case round=>
    obtain⟨m,hm,rfl,q⟩:=hrel;by_cases A:m<N
    ·have aN:=bD.o m (by have:=qF.o; omega);have aj:=Zh (aF.o A);have t:Hid (CN m=1->∀ j,j<m+1->CN j=1):=fun h j g=>by
      rcases Ql j m with V | V
      ·exact q.o j V
      ·obtain rfl:j=m:=by omega
       exact h
     generalize CN m=c at *;by_cases hc:c=1
     ·have HT:=Zh (t.o hc);have bE:((c:Int) != 1)=false:=by rw[hc]; rfl
      clear t hc aj;go_wp2;go_round
      case rel=>exact⟨m+1,by omega,by go_num,HT.o⟩
      case measure=>simp[intOf]; omega
     ·have YY:Hid (R=false):=by show _=_; rw[d.o]; exact aj.o hc
      have bE:((c:Int) != 1)=true:=by rw[bne_iff_ne]; omega
      clear t hc aj;go_wp2;go_ret;exact⟨Qb YY.o.symm,aS.o⟩
    ·have YY:Hid (R=true):=by show _=_; rw[d.o]; exact aG.o (fun j g=>q.o j (by omega))
     go_wp2;go_ret;exact⟨Qb YY.o.symm,aS.o⟩
theorem EY{ts:List af}{q:ae}{pl:List ah}{k:Nat}(h:fB ts q pl k=none):∀ m,k<=m->fB ts q pl m=none
 | 0,hm => by
  obtain rfl:k=0:=by omega
  exact h
 | m+1,hm => by
  by_cases e:k=m+1
  ·rw[<- e]; exact h
  ·show (fB ts q pl m).bind _=none
   rw[EY h m (by omega)];rfl
def dW(n:ah)(ps:List aB):List aB:=(aJ n).map fun x=>ps.getD x.toNat aT
theorem qX(n:ah)(ps:List aB):(dW n ps).length=(aJ n).length:=by unfold dW; simp
theorem mh(n:ah):(aJ n).length=arity n.kind:=by
 unfold aJ;rw[XF];have:=oH n.kind;simp;omega
theorem uO{α β:Type}(f:α->β)(l:List α)(i:Nat)(z:α):(l.map f).getD i (f z)=f (l.getD i z):=by
 by_cases h:i<l.length
 ·simp[List.getD,h]
 ·simp[List.getD,h]
theorem ah7(n:ah)(ps:List aB):((dW n ps).getD 0 aT).d=ed n (ps.map aB.d):=by
 unfold dW aJ ed;have a:=oH n.kind;rcases (by omega:arity n.kind=0∨arity n.kind=1∨arity n.kind=2) with h | h | h <;> rw[h]
 ·rfl
 ·show (ps.getD n.l.toNat aT).d=_
  rw[Qu (by omega)];exact(uO aB.d ps n.l.toNat aT).symm
 ·show (ps.getD n.l.toNat aT).d=_
  rw[Qu (by omega)];exact(uO aB.d ps n.l.toNat aT).symm
theorem ah8(n:ah)(ps:List aB):((dW n ps).getD 1 aT).d=dV n (ps.map aB.d):=by
 unfold dW aJ dV;have a:=oH n.kind;rcases (by omega:arity n.kind=0∨arity n.kind=1∨arity n.kind=2) with h | h | h <;> rw[h]
 ·rfl
 ·rfl
 ·show (ps.getD n.r.toNat aT).d=_
  rw[Qu rfl];exact(uO aB.d ps n.r.toNat aT).symm
theorem Ut(n:ah)(ps:List aB):kF n.kind (dW n ps)=kV n.kind (ed n (ps.map aB.d)) (dV n (ps.map aB.d)):=by
 rw[<- ah7,<- ah8];have f:=oH n.kind;have b:∀ {k:Int},arity k=2->decide (k=10)=false:=fun {k} h=>by
  unfold arity at h;rw[Qf];intro e;rw[e]at h;simp at h
 have a:∀ {k:Int},arity k=0->decide (k=10)=false:=fun {k} h=>by
  unfold arity at h;rw[Qf];intro e;rw[e]at h;simp at h
 unfold dW aJ kV kF;rcases (by omega:arity n.kind=0∨arity n.kind=1∨arity n.kind=2) with h | h | h
 ·rw[h,a h]; rfl
 ·rw[h]
  show (([ps.getD n.l.toNat aT]:List aB).all _)=_
  simp only[XE,List.all_nil,Xz]
  show _=((dO (ps.getD n.l.toNat aT).kind==decide (n.kind=10))&&true)
  rw[Xz]
 ·rw[h]
  show (([ps.getD n.l.toNat aT,ps.getD n.r.toNat aT]:List aB).all _)=_
  simp only[XE,List.all_nil,Xz]
  show _=((dO (ps.getD n.l.toNat aT).kind==decide (n.kind=10)) && !dO (ps.getD n.r.toNat aT).kind)
  rw[b h]
  cases dO (ps.getD n.r.toNat aT).kind <;> rfl
theorem step_eq(ts:List af)(q:ae)(n:ah)(ps:List aB):kX ts q n (ps.map aB.d)=if (kF n.kind (dW n ps)&&bJ ts q n ((dW n ps).getD 0 aT).d ((dW n ps).getD 1 aT).d)=true then some (ps.map aB.d++[iB ts q n ((dW n ps).getD 0 aT).d ((dW n ps).getD 1 aT).d]) else none:=by
 unfold kX;rw[Ut,ah7,ah8]
theorem adJ(h:dI pl=true):1<=pl.length/\pl.length<=64/\∀ i,i<pl.length->dH (pl.getD i nz) i=true:=by
 unfold dI at h;simp only[Qo,QE,Qp]at h;exact⟨h.1.1.1,h.1.1.2,fun i a=>h.1.2 i (Xm.2 a)⟩
theorem EZ(h:dH n i=true):1<=n.kind/\n.kind<=10/\∀ m,m<(aJ n).length->0<=(aJ n).getD m 0/\(aJ n).getD m 0<(i:Int):=by
 unfold dH at h;simp only[Qo,Z4,QE]at h;obtain⟨⟨⟨⟨k,d⟩,_⟩,a⟩,b⟩:=h;refine⟨k,d,fun m f=>?_⟩;rw[mh]at f;have o:=oH n.kind;have g:0<arity n.kind->(aJ n).getD 0 0=n.l:=fun h=>by
  unfold aJ;rcases (by omega:arity n.kind=1∨arity n.kind=2) with e | e <;> rw[e] <;> rfl
 have j:1<arity n.kind->(aJ n).getD 1 0=n.r:=fun h=>by
  unfold aJ;rw[show arity n.kind=2 by omega];rfl
 rcases (by omega:m=0∨m=1) with rfl | rfl
 ·rw[g f];rcases a with a | a
  ·omega
  ·exact a
 ·rw[j f];rcases b with b | b
  ·omega
  ·exact b
theorem Uu{n:ah}{i:Nat}(h:dH n i=true)(ho:dO n.kind=true):0<=n.l/\n.l<(i:Int):=by
 obtain⟨g,d,e⟩:=EZ h;have f:7<=n.kind:=by unfold dO at ho; simp at ho; omega
 have a:arity n.kind=1:=by unfold arity; rw[Qv (by omega),Qv (by omega)]
 have:=e 0 (by rw[mh,a]; omega);have b:(aJ n).getD 0 0=n.l:=by unfold aJ; rw[a]; rfl
 rw[b]at this;exact this
theorem adK{ps:List aB}(hm:m<(aJ n).length):(dW n ps).take (m+1)=(dW n ps).take m++[ps.getD ((aJ n).getD m 0).toNat aT]:=by
 have a:m<(dW n ps).length:=by rw[qX]; exact hm
 rw[Qm a];congr 2;unfold dW;simp[List.getD,hm]
theorem agq(f:aS)(ts:List af)(q:ae)(n:ah)(ao:Option Addr)(cap:Nat)(ps:List aB)(w:World)(ok:Ok ts q)(hf:f.At ts q w)(hcl:n.cl.At w)(hco:n.co.At w)(hcap:n.co.xs.length<=n.co.cap)(hp:PartsAt w ao ps)(hk:n.kind=1)(hl:ps.length=arity n.kind) :
  Cb 60 #[.agg (f.cells ts q),.agg n.cells,.slice ao ps.length cap] w (.bool (bJ ts q n (ps.getD 0 aT).d (ps.getD 1 aT).d)):=by
 obtain⟨v0,V,W,v3,v4,v5,X,Y,Z,v9,P,Q,S,u,k,A,B,C,D,E,F,-⟩:=Ju f ts q;have v:n.cells=#[.int .i64 n.kind,.int .i64 n.l,.int .i64 n.r,.int .i64 n.source,n.cl.val,.int .i64 n.key,n.co.val]:=rfl;obtain⟨T,G,m,b⟩:=aR w ((f.cells ts q)) 70;obtain⟨w2,H,p,s⟩:=aR T n.cells 36;have a:=p;have i:=aC m a;have J:=b.of (a.block _ b.lt);have K:=s;obtain⟨eT,fK,gy,gV,fM,iG,ik⟩:=K.k7;obtain⟨U,bN,bA,bG,bO,bT,bQ,dF,dD,dE,aU,aZ,aV⟩:=J.k13 (by rw[u]; rfl);have O:=hp.1;have y:ps.length=0:=by rw[hl,hk]; rfl
 have z:=Zh i;obtain⟨e,t⟩:∃ R,R=bJ ts q n (ps.getD 0 aT).d (ps.getD 1 aT).d:=⟨_,rfl⟩
 rw[<- t];unfold bJ at t;rw[Qu hk]at t;generalize ps.getD 0 aT=L at *;generalize ps.getD 1 aT=R at *;rw[k]at U;have g:=Zh t;rw[u,v];rw[u]at G;rw[v]at H;clear t b s J K m p i a y hl;clear hf hcl hco hcap hp ok u v k A B C D E F;obtain⟨nk,nl,nr,ns,⟨ca,cc,cl⟩,key,⟨da,dc,co⟩⟩:=n;simp only at hk;subst hk;simp only[aB.cells,ah.cells,aa.val]at *;generalize q.src.xs.length=N at *;by_cases I:0<=ns
 ·by_cases M:ns<(N:Int)
  ·have j:Hid (e=true):=by show _=_; rw[g.o,Qy I,Qy M]; rfl
   clear g;go_enter Tryz.func60,Tryz.ntmps60;go_wp2;go_ret;exact⟨Qb j.o.symm,z.o⟩
  ·have j:Hid (e=false):=by show _=_; rw[g.o,Qy I,Qg M]; rfl
   clear g;go_enter Tryz.func60,Tryz.ntmps60;go_wp2;go_ret;exact⟨Qb j.o.symm,z.o⟩
 ·have j:Hid (e=false):=by show _=_; rw[g.o,Qg I]; rfl
  clear g;go_enter Tryz.func60,Tryz.ntmps60;go_wp2;go_ret;exact⟨Qb j.o.symm,z.o⟩
theorem agr(f:aS)(ts:List af)(q:ae)(n:ah)(ao:Option Addr)(cap:Nat)(ps:List aB)(w:World)(ok:Ok ts q)(hf:f.At ts q w)(hcl:n.cl.At w)(hco:n.co.At w)(hcap:n.co.xs.length<=n.co.cap)(hp:PartsAt w ao ps)(hk:n.kind=2)(hl:ps.length=arity n.kind) :
  Cb 60 #[.agg (f.cells ts q),.agg n.cells,.slice ao ps.length cap] w (.bool (bJ ts q n (ps.getD 0 aT).d (ps.getD 1 aT).d)):=by
 obtain⟨v0,v1,v2,v3,v4,v5,v6,v7,v8,v9,H,I,J,s,K,M,N,O,P,Q,S,-⟩:=Ju f ts q;have C:n.cells=#[.int .i64 n.kind,.int .i64 n.l,.int .i64 n.r,.int .i64 n.source,n.cl.val,.int .i64 n.key,n.co.val]:=rfl;obtain⟨B,i,t,j⟩:=aR w ((f.cells ts q)) 70;obtain⟨w2,k,u,v⟩:=aR B n.cells 36;have e:=u;have a:=aC t e;have Y:=j.of (e.block _ j.lt);have Z:=v;obtain⟨eT,fK,gy,gV,T,iG,ik⟩:=Z.k7;obtain⟨bD,bN,bA,bG,bO,bT,bQ,dF,dD,dE,aU,aZ,aV⟩:=Y.k13 (by rw[s]; rfl);have ag:=hp.1;have D:ps.length=1:=by rw[hl,hk]; rfl
 have HC:=Zh a;obtain⟨m,g⟩:∃ R,R=bJ ts q n (ps.getD 0 aT).d (ps.getD 1 aT).d:=⟨_,rfl⟩
 rw[<- g];unfold bJ at g;rw[Qv (by rw[hk]; decide),Qu hk]at g;have E:0<ps.length:=by omega
 obtain⟨⟨U,po,rfl,c0,c1,c2,c3,c4,c5⟩,V⟩:=(X8 a hp).2 0 E;rw[QI,Xg]at c0 c1 c2 c3 c4 c5;generalize ps.getD 0 aT=L at *;generalize ps.getD 1 aT=R at *;have p:Hid (∀ x,Bw w2 x->Cb 90 #[.agg (f.cells ts q),n.cl.val,.int .u64 (L.sources:Int)] x (.bool (jo ts q n.cl.xs L.sources))):=fun x b=>uG f ts q n.cl.ad n.cl.cap n.cl.xs L.sources x ok (hf.below (aC a b)) (Qt (aC a b) hcl) (by have:=V.sources; unfold bB at this; omega)
 have ai:=hcl.1;rw[s]at p;have g:m=(decide (0<n.cl.xs.length)&&jo ts q n.cl.xs L.sources):=g;generalize jo ts q n.cl.xs L.sources=RB at *;have A:=Zh g;rw[s,C];rw[s]at i;rw[C]at k;clear g j v Y Z t u a e D hl;clear hf hcl hco hcap hp ok s C K M N O P Q S;obtain⟨nk,nl,nr,ns,⟨W,X,cl⟩,key,⟨da,dc,co⟩⟩:=n;simp only at hk;subst hk;obtain⟨lk,ls,Gv,⟨la,JR,lx⟩,lz,LA⟩:=L;simp only[aB.cells,ah.cells,aa.val]at *;by_cases z:0<cl.length
 ·have F:Hid (m=RB):=by show _=_; rw[A.o,Qy z]; rfl
  clear A;go_enter Tryz.func60,Tryz.ntmps60;go_upto_region 5 with fail;clear i k;refine QA (by kernel_rfl) (by kernel_rfl) ?_;refine qS (.pointer (some (aD B.heap.size 4))) ?_;refine qC (.slice W cl.length X) T ?_;refine qS (.int .i64 (cl.length:Int)) ?_;refine qS (.bool true) ?_;refine qS (.bool true) ?_;go_big_quiet_want;refine⟨.agg #[v0,v1,v2,v3,v4,v5,v6,v7,v8,v9,H,I,J],fun x b=>?_,?_⟩
  ·have e0:=mi b bD bN bA bG bO bT bQ dF dD dE aU aZ aV;go_simp
  simp only[pU];go_big_quiet_on;refine qS (.pointer (some (aD B.heap.size 4))) ?_;refine qC (.slice W cl.length X) T ?_;refine qS (.slice (some (aD U po)) ps.length cap) ?_;refine qS (.pointer (some (aD U po))) ?_;refine qS (.pointer (some (aD U (po+1)))) ?_;refine qC (.int .u64 (ls:Int)) c1 ?_;go_big_quiet_want;refine⟨.bool RB,fun x b=>?_,?_⟩
  ·have hC:=QC b (p.o x b);go_simp
  simp only[pU];go_big_quiet_on;refine qS (.bool RB) ?_;refine qS (.bool RB) ?_;refine XY ?_;intro wE y;have G:=Zh (aC HC.o y);clear y;go_wp2;go_ret;exact⟨Qb F.o.symm,G.o⟩
 ·have F:Hid (m=false):=by show _=_; rw[A.o,Qg z]; rfl
  obtain rfl:cl=[]:=QF (by omega);simp only[Q8]at *;clear A;go_enter Tryz.func60,Tryz.ntmps60;go_upto_region 5 with fail;clear i k;refine QA (by kernel_rfl) (by kernel_rfl) ?_;refine qS (.pointer (some (aD B.heap.size 4))) ?_;refine qC (.slice W 0 X) T ?_;refine qS (.int .i64 0) ?_;refine qS (.bool false) ?_;go_big_quiet_want;refine⟨.bool false,fun x b=>?_,?_⟩
  ·go_simp
  simp only[pU];go_big_quiet_on;go_big_quiet_skip
  try simp only[pU]
  iterate 7 (go_big_quiet_skip; try simp only[pU])
  refine qS (.bool false) ?_;refine qS (.bool false) ?_;refine XY ?_;intro wE y;have G:=Zh (aC HC.o y);clear y;go_wp2;go_ret;exact⟨Qb F.o.symm,G.o⟩
theorem ags(f:aS)(ts:List af)(q:ae)(n:ah)(ao:Option Addr)(cap:Nat)(ps:List aB)(w:World)(ok:Ok ts q)(hf:f.At ts q w)(hcl:n.cl.At w)(hco:n.co.At w)(hcap:n.co.xs.length<=n.co.cap)(hp:PartsAt w ao ps)(hk:n.kind=3)(hl:ps.length=arity n.kind) :
  Cb 60 #[.agg (f.cells ts q),.agg n.cells,.slice ao ps.length cap] w (.bool (bJ ts q n (ps.getD 0 aT).d (ps.getD 1 aT).d)):=by
 obtain⟨v0,v1,v2,v3,v4,v5,v6,v7,v8,v9,D,E,F,k,G,H,I,J,K,M,N,-⟩:=Ju f ts q;have y:n.cells=#[.int .i64 n.kind,.int .i64 n.l,.int .i64 n.r,.int .i64 n.source,n.cl.val,.int .i64 n.key,n.co.val]:=rfl;obtain⟨w1,m,p,i⟩:=aR w ((f.cells ts q)) 70;obtain⟨w2,s,t,u⟩:=aR w1 n.cells 36;have e:=t;have a:=aC p e;have V:=i.of (e.block _ i.lt);have W:=u;obtain⟨eT,fK,gy,gV,fM,iG,ik⟩:=W.k7;obtain⟨bD,bN,bA,bG,bO,bT,bQ,dF,dD,dE,aU,aZ,aV⟩:=V.k13 (by rw[k]; rfl);have ag:=hp.1;have z:ps.length=2:=by rw[hl,hk]; rfl
 have HC:=Zh a;obtain⟨O,g⟩:∃ R,R=bJ ts q n (ps.getD 0 aT).d (ps.getD 1 aT).d:=⟨_,rfl⟩
 rw[<- g];unfold bJ at g;rw[Qv (by rw[hk]; decide),Qv (by rw[hk]; decide),Qu hk]at g;have A:0<ps.length:=by omega
 obtain⟨⟨v,po,rfl,Y,Z,c2,c3,c4,c5⟩,P⟩:=(X8 a hp).2 0 A;rw[QI,Xg]at Y Z c2 c3 c4 c5;have B:1<ps.length:=by omega
 have ai:(1:Int)<(ps.length:Int):=by omega
 obtain⟨⟨aj,ak,e',d0,d1,d2,d3,d4,d5⟩,Q⟩:=(X8 a hp).2 1 B
 cases e'
 rw[Z9]at d0 d1 d2 d3 d4 d5;generalize ps.getD 0 aT=L at *;generalize ps.getD 1 aT=R at *;have j:Hid (∀ x,Bw w2 x->Cb 91 #[.agg (f.cells ts q),.agg n.cells,.agg L.cells,.agg R.cells] x (.bool (jJ ts q n L.sources R.sources))):=fun x b=>sw f ts q n L R x ok (hf.below (aC a b)) (Qt (aC a b) hcl) P.sources Q.sources
 rw[k]at j;have g:O=jJ ts q n L.sources R.sources:=g;generalize jJ ts q n L.sources R.sources=RB at *;have X:=Zh g;rw[k,y];rw[k]at m;rw[y]at s;clear g i u V W p t a e z hl;clear hf hcl hco hcap hp ok k y G H I J K M N;obtain⟨nk,nl,nr,ns,⟨ca,cc,cl⟩,key,⟨da,dc,co⟩⟩:=n;simp only at hk;subst hk;obtain⟨lk,ls,Gv,⟨la,JR,lx⟩,lz,LA⟩:=L;obtain⟨rk,rs,S,⟨ra,T,rx⟩,rz,U⟩:=R;simp only[aB.cells,ah.cells,aa.val]at *;have HV:=Zh X.o;clear X;go_enter Tryz.func60,Tryz.ntmps60;go_upto_region 7 with fail;clear m s;refine QA (by kernel_rfl) (by kernel_rfl) ?_;go_big_quiet_want;refine⟨.agg #[v0,v1,v2,v3,v4,v5,v6,v7,v8,v9,D,E,F],fun x b=>?_,?_⟩
 ·have C:=mi b bD bN bA bG bO bT bQ dF dD dE aU aZ aV;go_simp
 simp only[pU];go_big_quiet_on;go_big_quiet_want;refine⟨.agg #[.int .i64 3,.int .i64 nl,.int .i64 nr,.int .i64 ns,.slice ca cl.length cc,.int .i64 key,.slice da co.length dc],fun x b=>?_,?_⟩
 ·have C:=J7 b eT fK gy gV fM iG ik;go_simp
 simp only[pU];go_big_quiet_on;refine qS (.slice (some (aD v po)) ps.length cap) ?_;refine qS (.pointer (some (aD v po))) ?_;go_big_quiet_want;refine⟨.agg #[.int .i64 lk,.int .u64 (ls:Int),.int .u64 (Gv:Int),.slice la lx.length JR,.int .u64 (lz:Int),.int .u64 (LA:Int)],fun x b=>?_,?_⟩
 ·have C:=Rb b Y Z c2 c3 c4 c5;go_simp
 simp only[pU];go_big_quiet_on;refine qS (.slice (some (aD v po)) ps.length cap) ?_;refine qS (.pointer (some (aD v (po+6)))) ?_;go_big_quiet_want;refine⟨.agg #[.int .i64 rk,.int .u64 (rs:Int),.int .u64 (S:Int),.slice ra rx.length T,.int .u64 (rz:Int),.int .u64 (U:Int)],fun x b=>?_,?_⟩
 ·have C:=Rb b d0 d1 d2 d3 d4 d5;go_simp
 simp only[pU];go_big_quiet_on;go_big_quiet_want;refine⟨.bool RB,fun x b=>?_,?_⟩
 ·have hC:=QC b (j.o x b);go_simp
 simp only[pU];go_big_quiet_on;refine qS (.bool RB) ?_;refine XY ?_;intro wE lG;have mU:=Zh (aC HC.o lG);clear lG;go_wp2;go_ret;exact⟨Qb HV.o.symm,mU.o⟩
def Bb(ts:List af)(q:ae)(n:ah)(l r:bZ):Bool:=
 (lH ts q n l.sources r.sources).2.2&&jJ ts q n l.sources r.sources&&bW l.order [(lH ts q n l.sources r.sources).1]&&bW r.order [(lH ts q n l.sources r.sources).2.1]
theorem GK(f:aS)(ts:List af)(q:ae)(n:ah)(l r:aB)(w:World)(ok:Ok ts q)(hf:f.At ts q w)(hn:n.cl.At w)(hl:l.Ok w)(hr:r.Ok w) :
  Cb 93 #[.agg (f.cells ts q),.agg n.cells,.agg l.cells,.agg r.cells] w (.bool (Bb ts q n l.d r.d)):=by
 obtain⟨v0,v1,v2,v3,v4,v5,v6,v7,v8,v9,bB,bC,bE,Q,-⟩:=Ju f ts q;have jP:n.cells=#[.int .i64 n.kind,.int .i64 n.l,.int .i64 n.r,.int .i64 n.source,n.cl.val,.int .i64 n.key,n.co.val]:=rfl;have Mw:l.cells=#[.int .i64 l.kind,.int .u64 (l.sources:Int),.int .u64 (l.clauses:Int),l.order.val,.int .u64 (l.size:Int),.int .u64 (l.cost:Int)]:=rfl;have t:r.cells=#[.int .i64 r.kind,.int .u64 (r.sources:Int),.int .u64 (r.clauses:Int),r.order.val,.int .u64 (r.size:Int),.int .u64 (r.cost:Int)]:=rfl;obtain⟨w1,R,S,G⟩:=aR w ((f.cells ts q)) 70;obtain⟨w2,T,U,H⟩:=aR w1 n.cells 36;obtain⟨w3,V,W,I⟩:=aR w2 l.cells 75;obtain⟨w4,X,Y,Z⟩:=aR w3 r.cells 75;have A:=Y;have B:=aC W A;have C:=aC U B;have g:=aC S C;have cK:=G.of (C.block _ G.lt);have ig:=H.of (B.block _ H.lt);obtain⟨eT,fK,gy,gV,fM,iG,ik⟩:=ig.k7;have YZ:=I.of (A.block _ I.lt);obtain⟨ag,Gg,ai,aj,ak,au⟩:=YZ.k6;have M:=Z;obtain⟨av,Gh,ax,ay,az,aA⟩:=M.k6;obtain⟨bD,bN,bA,bG,bO,bT,bQ,dF,dD,dE,aU,aZ,aV⟩:=cK.k13 (by rw[Q]; rfl);have m:=oz f ts q n l r w4 ok (hf.below g) (Qt g hn) hl.sources hr.sources;have p:Hid (∀ x,Bw w4 x->_):=fun x L=>sw f ts q n l r x ok (hf.below (aC g L)) (Qt (aC g L) hn) hl.sources hr.sources
 have D:Hid (∀ x b c,Bw w4 x->x.cell? (aD b 0)=some (.int .i64 c)->Cb 96 #[.slice l.order.ad l.order.xs.length l.order.cap,.slice (some (aD b 0)) 1 1] x (.bool (bW l.order.xs [c]))):=
  fun x b c L h0=>rZ l.order.ad (some (aD b 0)) l.order.cap 1 l.order.xs [c] x (Qt (aC g L) hl.order) ⟨by simp,fun i hi=>⟨b,0,rfl,by
   have aF:i<1:=hi;obtain rfl:i=0:=by omega
   exact h0⟩⟩ hl.cap
 have gX:Hid (∀ x b c,Bw w4 x->x.cell? (aD b 0)=some (.int .i64 c)->Cb 96 #[.slice r.order.ad r.order.xs.length r.order.cap,.slice (some (aD b 0)) 1 1] x (.bool (bW r.order.xs [c]))):=
  fun x b c L h0=>rZ r.order.ad (some (aD b 0)) r.order.cap 1 r.order.xs [c] x (Qt (aC g L) hr.order) ⟨by simp,fun i hi=>⟨b,0,rfl,by
   have aF:i<1:=hi;obtain rfl:i=0:=by omega
   exact h0⟩⟩ hr.cap
 have k:Hid (Bb ts q n l.d r.d=((lH ts q n l.sources r.sources).2.2&&jJ ts q n l.sources r.sources&&bW l.order.xs [(lH ts q n l.sources r.sources).1]&&bW r.order.xs [(lH ts q n l.sources r.sources).2.1])):=rfl;have HC:=Zh g;rw[Q,jP,Mw,t]at m p;rw[Q]at R;rw[jP]at T;rw[Mw]at V;rw[t]at X;rw[Q,jP,Mw,t];generalize Bb ts q n l.d r.d=MP at *;generalize jJ ts q n l.sources r.sources=JP at *;generalize lH ts q n l.sources r.sources=KP at *;clear Q jP Mw t G H I Z cK ig YZ M S U W Y g C B A hf hn hl hr ok;obtain⟨ka,kb,bu⟩:=KP;obtain⟨nk,nl,nr,ns,⟨na,nc,nx⟩,ny,⟨oa,oc,ox⟩⟩:=n;obtain⟨lk,ls,Gv,⟨la,JR,lx⟩,lz,LA⟩:=l;obtain⟨rk,rs,bF,⟨ra,bH,rx⟩,rz,bI⟩:=r;unfold aa.val at *;simp only at *
 cases bu with
 | false =>
  have z:Hid (MP=false):=by show _=_; rw[k.o]; rfl
  clear k p D gX;go_enter Tryz.func93,Tryz.ntmps93;go_wp2_with fail;refine Jj m ?_;clear m;rintro e w5 ⟨rfl,a⟩;have lD:=Zh (aC HC.o a);clear a;go_wp2;go_ret;exact⟨Qb z.o.symm,lD.o⟩
 | true =>
  go_enter Tryz.func93,Tryz.ntmps93;go_wp2_with fail;refine Jj m ?_;clear m R T V X;rintro e w5 ⟨rfl,a⟩;have Gi:=cB a bD;have Gj:=cB a bN;have Gl:=cB a bA;have Gm:=cB a bG;have Gn:=cB a bO;have Gp:=cB a bT;have Gq:=cB a bQ;have Gs:=cB a dF;have Gt:=cB a dD;have Gu:=cB a dE;have xg:=cB a aU;have xh:=cB a aZ;have xq:=cB a aV;have aG:=cB a eT;have aH:=cB a fK;have aI:=cB a gy;have aJ:=cB a gV;have aK:=cB a fM;have aL:=cB a iG;have aM:=cB a ik;have aN:=cB a ag;have aO:=cB a av;have Y4:=cB a Gg;have aP:=cB a Gh;have aQ:=cB a ai;have aT:=cB a ax;have N:=cB a aj;have O:=cB a ay;have aW:=cB a ak;have aX:=cB a az;have aY:=cB a au;have bf:=cB a aA;have u:=p.o w5 a;have lD:=Zh a;have Yj:=Zh (aC HC.o a);clear a bD bN bA bG bO bT bQ dF dD dE aU aZ aV eT fK gy gV fM iG ik ag Gg ai aj ak au av Gh ax ay az aA
  cases JP with
  | false =>
   have z:Hid (MP=false):=by show _=_; rw[k.o]; rfl
   clear k p D gX;go_wp2_with fail;refine Jj u ?_;clear u;rintro e w6 ⟨rfl,j⟩;have tX:=Zh (aC Yj.o j);clear j;go_wp2;go_ret;exact⟨Qb z.o.symm,tX.o⟩
  | true =>
   have v:Hid (MP=(bW lx [ka]&&bW rx [kb])):=by show _=_; rw[k.o]; rfl
   clear k p;go_wp2_with fail;refine Jj u ?_;clear u;rintro e w6 ⟨rfl,j⟩;have e3:=cB j N;have e4:=cB j O;have tX:=Zh (aC lD.o j);have bg:=Zh (aC Yj.o j);clear j Gi Gj Gl Gm Gn Gp Gq Gs Gt Gu xg xh xq aG aH aI aJ aK aL aM aN Y4 aQ N aW aY aO aP aT O aX bf;obtain⟨wa,NG⟩:∃ x,w6.alloc (.cells #[.int .i64 ka] 3)=x:=⟨_,rfl⟩
   have s:Bw w6 wa:=by rw[<- NG]; exact bV _ _
   have y:=D.o wa w6.heap.size ka (aC tX.o s) (by rw[<- NG]; simp);have Cg:=Zh (aC tX.o s);have FD:=Zh (aC bg.o s);have P:=cB s e4;clear s;generalize bW lx [ka]=S1 at *
   cases S1 with
   | false =>
    have z:Hid (MP=false):=by show _=_; rw[v.o]; rfl
    clear v;go_wp2_with fail;refine Jj y ?_;clear y NG;rintro e w7 ⟨rfl,J⟩;have Ms:=Zh (aC FD.o J);clear J;go_wp2;go_ret;exact⟨Qb z.o.symm,Ms.o⟩
   | true =>
    have z:Hid (MP=bW rx [kb]):=by show _=_; rw[v.o]; rfl
    clear v;go_wp2_with fail;refine Jj y ?_;clear y NG;rintro e w7 ⟨rfl,J⟩;have bz:=cB J P;have Ms:=Zh (aC Cg.o J);have bn:=Zh (aC FD.o J);clear J e4 P e3;obtain⟨wb,K⟩:∃ x,w7.alloc (.cells #[.int .i64 kb] 3)=x:=⟨_,rfl⟩
    have E:Bw w7 wb:=by rw[<- K]; exact bV _ _
    have F:=gX.o wb w7.heap.size kb (aC Ms.o E) (by rw[<- K]; simp);rw[<- z.o]at F;have pJ:=Zh (aC bn.o E);clear E z;go_wp2_with fail;refine Jj F ?_;clear F K;rintro e w8 ⟨rfl,Ew⟩;have bq:=Zh (aC pJ.o Ew);clear Ew;go_wp2;go_ret;exact⟨rfl,bq.o⟩

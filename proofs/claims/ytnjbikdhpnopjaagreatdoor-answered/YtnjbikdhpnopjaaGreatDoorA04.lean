import Derived.Test.YtnjbikdhpnopjaaGreatDoorA03
set_option linter.all false
set_option maxRecDepth 100000
set_option maxHeartbeats 0
namespace Go.Proofs.Zz
open Go.RowKit Go.Shelf
open List renaming length->N,getD->E
open Go.Value renaming slice->Z,int->I
open Option renaming some->O
open Go.IntKind renaming i64->J
open Go.Obj renaming cells->EP
variable {k:Nat} {cols row ss:List Int}
def uG(w:World)(d:Option Addr)(db:List aP):Prop:=U2 w d db/\∀i,i<N db->bD w (E db i rz).ad (E db i rz).rs
def uG.below{w w':World}(hb:Bw w w'){d:Option Addr}{db:List aP}(h:uG w d db):uG w' d db:=⟨h.1.below hb,λi a=>(h.2 i a).below hb⟩
def BM{α:Type}{l:List α}{d:α}(hk:k<N l):E l k d∈l:=by
 have e:E l k d=l[k]:=by simp[List.getD,hk]
 rw[e];exact Zv hk
def Ka(x:Int):Prop:=-2305843009213693952<=x/\x<=2305843009213693952
def xq(ss row cols:List Int)(k:Nat):List Int:=(gH ss row cols).take k++ss.drop k
def Vz:xq ss row cols 0=ss:=by simp[xq]
def abG(h:N ss=N cols):xq ss row cols (N cols)=gH ss row cols:=by unfold xq;rw[Xi (by rw[kH h];exact Qn _),List.drop_of_length_le (by omega),Xd]
def abH(h:N ss=N cols)(hk:k<N cols):(xq ss row cols k)[k]? = O (E ss k 0):=by unfold xq;rw[Xj (by rw[Xu,kH h];omega),Xu,kH h,Qr (by omega),Nat.sub_self,List.getElem?_drop];simp[List.getD,show k<N ss by omega]
def abI(h:N ss=N cols)(hk:k<N cols):(xq ss row cols k).set k (J4 (E ss k 0) (E row (E cols k 0).toNat 0))=xq ss row cols (k+1):=by
 unfold xq;have a:N ((gH ss row cols).take k)=k:=by rw[Xu,kH h];omega
 rw[List.set_append_right _ _ (by omega),a,Nat.sub_self,Xh (by omega),Qc,Qh (by rw[kH h];omega),ZE];congr 2;simp[gH,List.getD,hk,show k<N ss by omega]
def qO(gb sb:Nat)(kv:Value)(cnt:Nat)(ss:List Int)(x c:ae)(w:World)(hgs:gb≠sb)
  (hg:w.heap[gb]? = O (EP #[kv,I J cnt,Z (O (aD sb 0)) (N c.xs) (N c.xs)] 239)) (hs:w.heap[sb]? = O (EP (ss.map (Value.int J)).toArray 3)) (hl:N ss=N c.xs) (hcl:N c.xs<=4)
  (hx:x.At w) (hc:c.At w) (hxb:∀a,x.ad=O a->a.block≠gb/\a.block≠sb) (hcb:0<N c.xs->∀a,c.ad=O a->a.block≠gb/\a.block≠sb) (ha:aS c.xs (N x.xs)=true)
  (hcnt:cnt<=1000000) (hbs:∀s∈ss,Ka s) (hbx:∀v∈x.xs,Ka v) :
  Calls Tryz.prog 176 #[.pointer (O (aD gb 0)),x.val,c.val] w λe P=>(∃v,e=.returned v)/\
   P.heap[gb]? = O (EP #[kv,I J (cnt+1:Nat),Z (O (aD sb 0)) (N c.xs) (N c.xs)] 239)/\P.heap[sb]? = O (EP ((gH ss x.xs c.xs).map (Value.int J)).toArray 3)/\
   Kept (λb=>b≠gb/\b≠sb) w P/\P.heap.size=w.heap.size:=by
 obtain⟨iZ,bL,xs⟩:=x;obtain⟨lQ,dE,cs⟩:=c;unfold ae.val;simp only at*;have c1:w.cell? (aD gb 1)=O (I J cnt):=XG hg rfl;have f1:=jP hg 1;have q:wrap64 ((cnt:Int)+1)=((cnt+1:Nat):Int):=by unfold wrap64;omega
 obtain⟨HG,HS⟩:=aJ hg hs;have HX:Hid _:=hx;have HC:Hid _:=hc;obtain⟨A,J8,HA,B⟩:=om hxb hcb ha hl;have r:Hid _:=hgs;obtain⟨O9,Bg⟩:=aJ hbs hbx;clear hg hs hx hc hxb hcb ha hl hgs hbs hbx;go_enter Tryz.func176,Tryz.ntmps176;go_wp2;go_loopw [17] (λi wr=>∃k:Nat,k<=N cs/\i=I J k/\wr.heap[gb]? = O (EP #[kv,I J (cnt+1:Nat),Z (O (aD sb 0)) (N cs) (N cs)] 239)/\wr.heap[sb]? = O (EP ((xq ss xs cs k).map (Value.int J)).toArray 3)/\
  Kept (λb=>b≠gb/\b≠sb) w wr/\wr.heap.size=w.heap.size) (λi _=>N cs-(intOf i).toNat)
 case atStart=>
  refine⟨0,QW _,rfl,?_,?_,Q8 _ _ _ (λh=>h.1 rfl),by simp[World.setCell]⟩
  .have:=lU HG.o 1 (I J (wrap64 ((cnt:Int)+1)));rw[q]at this
   first|exact this|(rw[q];exact this)
  .rw[xh (λe=>r.o e.symm),Vz];exact HS.o
 case round=>
  obtain⟨k,hk,rfl,l,d,f,p⟩:=hrel;by_cases g:k<N cs
  .obtain⟨cb,aj,rfl,C⟩:=HC.o.get g;have Q:=Q0 (C k g) f (J8.o (by omega) (aD cb aj) rfl);have az:=Ql HA.o g;have z:E cs k 0=cs[k]:=by simp[List.getD,g]
   have n:cs[k].toNat<N xs:=by omega
   obtain⟨xb,ak,rfl,zh⟩:=HX.o.get n;have R:=Q0 (zh _ n) f (A.o (aD xb ak) rfl);have c2:wr.cell? (aD gb 2)=O (Z (O (aD sb 0)) (N cs) (N cs)):=XG l rfl;have c3:=XG d (by rw[List.getElem?_toArray,ZA,abH B.o g];rfl);have f3:=jP d k;have j:=abI (row:=xs) B.o g;rw[z]at j Q;have S:Ka (E ss k 0):=O9.o _ (BM (by have:=B.o;omega));have W:Ka (E xs cs[k].toNat 0):=Bg.o _ (BM n);have X:((cs[k].toNat:Nat):Int)=cs[k]:=by omega
   obtain⟨u,D,G,K,L⟩:=J2 l d f p j;clear l d f p j C zh z;generalize E ss k 0=sv at*;generalize E xs cs[k].toNat 0=xv at*;generalize NG:cs[k]=ck at*;clear NG;obtain⟨cn,rfl⟩:∃cn:Nat,ck=(cn:Int):=⟨ck.toNat,by omega⟩;simp only[Xk]at n R;clear X c1 f1;obtain⟨y,m⟩:∃y,(wr.setCell (aD sb k) (I J (J4 sv xv))).drew=y:=⟨_,rfl⟩;have t:Kept (λb=>b≠sb) wr y:=by rw[<-m];exact(Q8 wr (aD sb k) _ (λh=>h rfl)).trans ⟨rfl,rfl,rfl,Qn _,λ_ _ _=>rfl⟩
   have aa:=Zh ((t.block gb (QI.1 u.o).1 r.o).trans u.o);have UO:Hid (y.heap[sb]? = O (EP ((xq ss xs cs (k+1)).map (Value.int J)).toArray 3)):=by have h:=lU D.o k (I J (J4 sv xv));rw[Qu,<-List.map_set,L.o]at h;rw[<-m];exact h
   have af:=Zh (G.o.trans (t.mono λ_ _ h=>h.2));have ag:Hid (y.heap.size=w.heap.size):=by
    have h:y.heap.size=wr.heap.size:=by rw[<-m];show (wr.setCell _ _).heap.size=_;simp[World.setCell]
    exact h.trans K.o
   have ah:=Zh m;clear t m u D G K L HG HS HA B r O9 Bg HX HC A J8 q hcnt;go_wp2;go_region_with (refine(NK sv xv _ S W).mono ?_;rintro e w4 ⟨rfl,rfl⟩)
   all_goals
    rw[ah.o];go_wp2;go_roundw
    case rel=>exact⟨k+1,by omega,by go_num,aa.o,UO.o,af.o,ag.o⟩
    case measure=>simp[intOf];omega
  .have ai:k=N cs:=by omega
   subst ai;rw[abG B.o]at d;obtain⟨au,av,ax,ay⟩:=om l d f p;clear l d f p;go_wp2
   (try simp only[Exit.inBlock,Exit.then])
   refine bodyPost_end (Q6 rfl _ _ _) rfl ?_;exact⟨⟨_,rfl⟩,au.o,av.o,ax.o,ay.o⟩

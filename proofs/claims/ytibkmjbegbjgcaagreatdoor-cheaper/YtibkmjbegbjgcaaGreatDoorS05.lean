import Derived.Test.YtibkmjbegbjgcaaGreatDoorS03
set_option linter.all false
set_option maxRecDepth 100000
set_option maxHeartbeats 0
namespace Go.Proofs.Zz
open Go.RowKit Go.Shelf
open List renaming length->N,getD->E
open Go.Value renaming int->I
open Option renaming some->O
open Go.World renaming cell?->Qp
open Go.IntKind renaming u64->Qq
def Rv(p:aC):p.cells=#[I .i64 p.kind,I Qq (p.sources:Int),I Qq (p.clauses:Int),p.order.val,I Qq (p.size:Int),I Qq (p.cost:Int)]:=rfl
def VM(k:Int)(l r s:Nat):tL k l r s<=bQ:=by
 unfold tL
 repeat' split
 .exact vO _
 .exact vO _
 .exact xV _ _
def ME(p:aC)(ao:PN)(cap:Nat)(ps:Qy aC)(w:World)(hp:PartsAt w ao ps)(hz:p.size<=bQ)(h1:p.kind≠1->0<N ps)(h2:3<=p.kind->p.kind<=5->1<N ps) :
  Cb 164 #[.agg p.cells,.slice ao (N ps) cap] w (I Qq (kr p.kind p.size (E ps 0 bG).cost (E ps 0 bG).size (E ps 1 bG).cost (E ps 1 bG).size:Nat)):=by
 obtain⟨w1,aS,ay,aa⟩:=bC w p.cells 102;have G:=ay;have lu:=aa;have iZ:=lu.at 0;have jZ:=lu.at 4;have HC:=Zh G;generalize aV:p.cells=PC at*;by_cases k1:p.kind=1
 .have g:=Zh (by  unfold kr;rw[Zb k1]:kr p.kind p.size (E ps 0 bG).cost (E ps 0 bG).size (E ps 1 bG).cost (E ps 1 bG).size=iU [p.size,1])
  generalize kr p.kind p.size (E ps 0 bG).cost (E ps 0 bG).size (E ps 1 bG).cost (E ps 1 bG).size=R at*;have a:=aes w1 p.size 1 hz (by unfold bQ;omega);rw[<-g.o]at a;have kb:(p.kind==1)=true:=by simp[k1]
  generalize p.kind=k,p.size=s at*;go_enter Tryz.func164,Tryz.ntmps164;go_wp2_with fail;refine a.mono ?_;rintro e w2 ⟨rfl,ae⟩;have i:=Zh (az HC.o ae);clear ae;go_wp2;go_ret;exact⟨rfl,i.o⟩
 have au:=h1 k1;have aJ:=hp.1;obtain⟨⟨C,D,rfl,c0,c1,c2,c3,c4,c5⟩,hl⟩:=hp.2 0 au;rw[Nat.zero_mul,XH]at c0 c1 c2 c3 c4 c5;have av:Hid (1<N ps->Qp w (aD C (D+6))=O (I .i64 (E ps 1 bG).kind)/\Qp w (aD C (D+6+1))=O (I Qq ((E ps 1 bG).sources:Int))/\
  Qp w (aD C (D+6+2))=O (I Qq ((E ps 1 bG).clauses:Int))/\Qp w (aD C (D+6+3))=O (E ps 1 bG).order.val/\
  Qp w (aD C (D+6+4))=O (I Qq ((E ps 1 bG).size:Int))/\Qp w (aD C (D+6+5))=O (I Qq ((E ps 1 bG).cost:Int))/\(E ps 1 bG).size<=bQ/\(E ps 1 bG).cost<=bQ):=λh=>by obtain⟨⟨b',o',e,d0,d1,d2,d3,d4,d5⟩,hr⟩:=hp.2 1 h;cases e;rw[Nat.one_mul]at d0 d1 d2 d3 d4 d5;exact⟨d0,d1,d2,d3,d4,d5,hr.size,hr.cost⟩
 have j:=hl.size;have n:=hl.cost;obtain⟨R,hR⟩:=eY (kr p.kind p.size (E ps 0 bG).cost (E ps 0 bG).size (E ps 1 bG).cost (E ps 1 bG).size);rw[<-hR];unfold kr at hR;rw[Zg k1]at hR;have g:=Zh hR;clear hR;have L:=h2;clear hp hl h1 h2 aa lu;generalize p.kind=k,p.size=s,E ps 0 bG=l,E ps 1 bG=r at*;obtain⟨lk,ls,aA,⟨la,aB,lx⟩,lz,lc⟩:=l;obtain⟨rk,rs,aF,⟨ra,aG,rx⟩,rz,rc⟩:=r;unfold ah.val at*;simp only at*;obtain⟨w2,aT,af,ag⟩:=bC w1 #[I .i64 lk,I Qq (ls:Int),I Qq (aA:Int),.slice la (N lx) aB,I Qq (lz:Int),I Qq (lc:Int)] 102;obtain⟨d0,d1,d2,d3,d4,d5⟩:=PS G c0 c1 c2 c3 c4 c5;obtain⟨m0,m4⟩:=jf af iZ jZ;have l4:=ag.at 4;have l5:=ag.at 5;have xP:=Zh (az HC.o af);have aK:(k==1)=false:=by simp[k1]
 go_enter Tryz.func164,Tryz.ntmps164;go_wp2;refine Zd ?_;refine qA6 ?_;refine XZ ?_;intro y ak;obtain⟨n0,n5⟩:=jf ak m0 l5;have A:=Zh (az xP.o ak);have ax:Hid (1<N ps->_):=λh=>av.o h;by_cases z:k=3∨k=4∨k=5
 .rw[Zb z]at g;obtain⟨q0,q1,q2,q3,q4,q5,aH,aI⟩:=ax.o (L X X);obtain⟨e0,e1,e2,e3,e4,e5⟩:=PS A.o q0 q1 q2 q3 q4 q5;have aL:=L X X;obtain⟨w4,aU,ai,aj⟩:=bC y #[I .i64 rk,I Qq (rs:Int),I Qq (aF:Int),.slice ra (N rx) aG,I Qq (rz:Int),I Qq (rc:Int)] 102;have r4:=aj.at 4;have r5:=aj.at 5;obtain⟨t0,t5⟩:=jf ai n0 n5;have q:=Zh (az A.o ai);have t:Hid (∀x,_):=λx=>EZ k lz rz s x j aH hz
  have B:Hid (tL k lz rz s<=bQ):=VM _ _ _ _;have UL:Hid (∀(x:World) (m:Nat),m<=bQ->_):=λx m hm=>aet x lc rc m n aI hm;generalize tL k lz rz s=wk at*;have HK:=Zh z;rcases HK.o with h|h|h
  .subst h;go_wp2;refine wH w4 λa=>?_
   refine Vs 0 a ?_;refine wR 10 λK b=>?_;go_simp;refine XX (t.o _) ?_;rintro e u ⟨rfl,d⟩;refine oT b a d λa=>?_;refine wR 11 λK b=>?_;go_simp;refine oA b a λa=>?_;refine wR 12 λK b=>?_;go_simp;refine XX (UL.o u wk B.o) ?_;rintro e w6 ⟨rfl,f⟩;refine b.o _ _ ((Below.trans (((Q9 _ _).drew).trans (d.mono Qa)) (f.mono (by have:=d.size;simp at this;omega)))) (λa=>?_);refine wR 13 λK b=>?_;go_simp;refine b.o _ _ a λa=>?_;refine wD ?_;try simp only[pU]
   have i:=Zh (az q.o a);rw[<-g.o];go_wp2;go_ret;exact⟨rfl,i.o⟩
  .subst h;go_wp2;refine wH w4 λa=>?_
   refine Vs 0 a ?_;refine wR 10 λK b=>?_;go_simp;refine XX (t.o _) ?_;rintro e u ⟨rfl,d⟩;refine oT b a d λa=>?_;refine wR 11 λK b=>?_;go_simp;refine oA b a λa=>?_;refine wR 12 λK b=>?_;go_simp;refine XX (UL.o u wk B.o) ?_;rintro e w6 ⟨rfl,f⟩;refine b.o _ _ ((Below.trans (((Q9 _ _).drew).trans (d.mono Qa)) (f.mono (by have:=d.size;simp at this;omega)))) (λa=>?_);refine wR 13 λK b=>?_;go_simp;refine b.o _ _ a λa=>?_;refine wD ?_;try simp only[pU]
   have i:=Zh (az q.o a);rw[<-g.o];go_wp2;go_ret;exact⟨rfl,i.o⟩
  .subst h;go_wp2;refine wH w4 λa=>?_
   refine Vs 0 a ?_;refine wR 10 λK b=>?_;go_simp;refine XX (t.o _) ?_;rintro e u ⟨rfl,d⟩;refine oT b a d λa=>?_;refine wR 11 λK b=>?_;go_simp;refine oA b a λa=>?_;refine wR 12 λK b=>?_;go_simp;refine XX (UL.o u wk B.o) ?_;rintro e w6 ⟨rfl,f⟩;refine b.o _ _ ((Below.trans (((Q9 _ _).drew).trans (d.mono Qa)) (f.mono (by have:=d.size;simp at this;omega)))) (λa=>?_);refine wR 13 λK b=>?_;go_simp;refine b.o _ _ a λa=>?_;refine wD ?_;try simp only[pU]
   have i:=Zh (az q.o a);rw[<-g.o];go_wp2;go_ret;exact⟨rfl,i.o⟩
 rw[Zg z]at g;have aM:(k==3)=false:=Qj;have aN:(k==4)=false:=Qj;have aO:(k==5)=false:=Qj;by_cases k6:k=6∨k=10
 .rw[Zb k6]at g;have P:Hid (∀x,_):=λx=>E8 lz x j
  have B:Hid (fA lz (kW lz+1)<=bQ):=xV _ _;have Q:Hid (∀(x:World) (m:Nat),m<=bQ->_):=λx m hm=>aes x lc m n hm;generalize fA lz (kW lz+1)=wk at*;have HK:=Zh k6;rcases HK.o with h|h
  .subst h;go_wp2;refine wH y λa=>?_
   refine wA3 0 a ?_;refine wR 3 λK b=>?_;go_simp;refine XX (P.o _) ?_;rintro e u ⟨rfl,rfl⟩;refine b.o _ _ a λa=>?_;refine wR 4 λK b=>?_;go_simp;refine oA b a λa=>?_;refine wR 5 λK b=>?_;go_simp;refine XX (Q.o y.drew wk B.o) ?_;rintro e w6 ⟨rfl,f⟩;refine b.o _ _ ((((Q9 _ _).drew).trans (f.mono Qa))) (λa=>?_);refine wR 6 λK b=>?_;go_simp;refine b.o _ _ a λa=>?_;refine wD ?_;try simp only[pU]
   have i:=Zh (az A.o a);rw[<-g.o];go_wp2;go_ret;exact⟨rfl,i.o⟩
  .subst h;go_wp2;refine wH y λa=>?_
   refine wA3 0 a ?_;refine wR 3 λK b=>?_;go_simp;refine XX (P.o _) ?_;rintro e u ⟨rfl,rfl⟩;refine b.o _ _ a λa=>?_;refine wR 4 λK b=>?_;go_simp;refine oA b a λa=>?_;refine wR 5 λK b=>?_;go_simp;refine XX (Q.o y.drew wk B.o) ?_;rintro e w6 ⟨rfl,f⟩;refine b.o _ _ ((((Q9 _ _).drew).trans (f.mono Qa))) (λa=>?_);refine wR 6 λK b=>?_;go_simp;refine b.o _ _ a λa=>?_;refine wD ?_;try simp only[pU]
   have i:=Zh (az A.o a);rw[<-g.o];go_wp2;go_ret;exact⟨rfl,i.o⟩
 rw[Zg k6]at g;have aP:(k==6)=false:=Qj;have aQ:(k==10)=false:=Qj;by_cases k7:k=7
 .rw[Zb k7]at g;subst k7;have S:=aet y lc lz lz n j j;rw[<-g.o]at S;go_wp2_with fail;refine S.mono ?_;rintro e w4 ⟨rfl,v⟩;have i:=Zh (az A.o v);go_wp2;go_ret;exact⟨rfl,i.o⟩
 rw[Zg k7]at g;have aR:(k==7)=false:=Qj;have W:=aes y lc lz n j;rw[<-g.o]at W;go_wp2_with fail;refine W.mono ?_;rintro e w4 ⟨rfl,v⟩;have i:=Zh (az A.o v);go_wp2;go_ret;exact⟨rfl,i.o⟩

import Derived.Test.YtibkmjbegbjgcaaGreatDoorS10
set_option linter.all false
set_option maxRecDepth 100000
set_option maxHeartbeats 0
namespace Go.Proofs.Zz
open Go.RowKit Go.Shelf Go.Proofs.Tryz
open List renaming length->N,getD->E
open Go.Value renaming slice->Z,int->I,pointer->Y,bool->Qr,agg->Qu
open Go.Proofs.Tryz renaming prog->V
open Option renaming some->O
open Go.IntKind renaming i64->J,u64->Qq
open Bool renaming false->F,true->T
open Go renaming World->U,Value->Qm
open Go.World renaming heap->H,setCell->Qo,cell?->Qp
open _root_.Array renaming size->M
open Go.RowKit renaming Hid->Qn
open Go.Obj renaming cells->Qt
open Go.Ending renaming returned->Qv
variable {w w2 w3:U} {TS TT e t:TypeId} {base i n sb:Nat} {xs:Qy Qm} {av v v':Qm} {ag:Qy bB} {rk:Nat->Int} {arr:Array Qm}
def JM{Fq:Qz}{W0:U}{f:ay}{ts:Qy af}{q:ae}(Ez:Env f ts q W0)(hz:Fz Fq W0 w)(a b:Nat)(ha:a<2 ^ (N q.src.xs))(hb:b<2 ^ (N q.src.xs)) :
  Cb 187 #[Qu (f.cells ts q),I Qq (a:Int),I Qq (b:Int)] w (I Qq ((bL (aB ts q) a b:Nat):Int)):=by
 obtain⟨v0,r,t,v3,v4,v5,u,v,y,v9,g,i,j,bZ,-⟩:=XY f ts q;have ag:2 ^ (N q.src.xs)<=18446744073709551616:=ZA (n:=2) X Ez.ok.small;have m:∀s,bu (aB ts q) s<18446744073709551616:=λs=>Zy (gD _ _ (N (aB ts q))) (ZA (n:=2) X (show N (aB ts q)<=64 by rw[XC];exact Ez.ok.mf));have ah:=rq ha hb;have z:Qn (∀(x:U) (s:Nat),s<18446744073709551616->Bw w x->Cb 148 #[Qu #[v0,r,t,v3,v4,v5,u,v,y,v9,g,i,j],I Qq (s:Int)] x (I Qq ((bu (aB ts q) s:Nat):Int))):=λx s hs l=>by rw[<-bZ];exact yY f ts q s x Ez.ok ((Ez.at' hz).below l) hs
 have hR:bL (aB ts q) a b=bu (aB ts q) (a|||b) &&& (18446744073709551615-(bu (aB ts q) a|||bu (aB ts q) b)):=rfl;rw[hR,bZ];have D:Qn (a<18446744073709551616/\b<18446744073709551616/\a|||b<18446744073709551616):=⟨X,X,X⟩;have h1:=m (a|||b);have h2:=m a;have h3:=m b;have G:Qn (∀x,Bw w x->Cb 148 #[Qu #[v0,r,t,v3,v4,v5,u,v,y,v9,g,i,j],I Qq ((a|||b:Nat):Int)] x (I Qq ((bu (aB ts q) (a|||b):Nat):Int))):=λx l=>z.o x _ D.o.2.2 l;have L:Qn (∀x,Bw w x->Cb 148 #[Qu #[v0,r,t,v3,v4,v5,u,v,y,v9,g,i,j],I Qq (a:Int)] x (I Qq ((bu (aB ts q) a:Nat):Int))):=λx l=>z.o x _ D.o.1 l;have P:Qn (∀x,Bw w x->Cb 148 #[Qu #[v0,r,t,v3,v4,v5,u,v,y,v9,g,i,j],I Qq (b:Int)] x (I Qq ((bu (aB ts q) b:Nat):Int))):=λx l=>z.o x _ D.o.2.1 l;generalize bu (aB ts q) (a|||b)=A1,bu (aB ts q) a=A2,bu (aB ts q) b=A3 at*;have h4:A2|||A3<18446744073709551616:=rq (n:=64) h2 h3;have ai:=u64_andNot_nat A1 (A2|||A3) h1 h4;have Q:Qn (∀(x:U) (c:Nat),Qp x (aD c 0)=O (I Qq (a:Int))->Qp x (aD c 1)=O (I Qq (b:Int))->Ce 87 #[Z (O (aD c 0)) 2 2] x (I Qq ((a|||b:Nat):Int))):=λx c C e1=>jh c a b x C e1 D.o.1 D.o.2.1;have R:Qn (∀(x:U) (c:Nat),Qp x (aD c 0)=O (I Qq (A2:Int))->Qp x (aD c 1)=O (I Qq (A3:Int))->Ce 87 #[Z (O (aD c 0)) 2 2] x (I Qq ((A2|||A3:Nat):Int))):=λx c C e1=>jh c A2 A3 x C e1 h2 h3;generalize a|||b=ab,A2|||A3=A23 at*;generalize A1 &&& (18446744073709551615-A23)=RR at*;obtain⟨w1,aj,W,aa⟩:=bC w #[v0,r,t,v3,v4,v5,u,v,y,v9,g,i,j] 82;obtain⟨a0,a1,a2,a3,a4,a5,a6,a7,a8,a9,jq,jP,B⟩:=aa.k13;have p:=Zh W;go_enter func187,ntmps187;go_wp2_with fail;refine wH w1 λd=>?_;refine wT 0 (Qu #[v0,r,t,v3,v4,v5,u,v,y,v9,g,i,j]) d (λx l=>?_) ?_
 .have C:=GV l a0 a1 a2 a3 a4 a5 a6 a7 a8 a9 jq jP B;go_simp
 refine wt 1 (I Qq (a:Int)) d ?_;refine wt 2 (I Qq (b:Int)) d ?_;refine wT 6 (Qu #[v0,r,t,v3,v4,v5,u,v,y,v9,g,i,j]) d (λx l=>?_) ?_
 .have C:=GV l a0 a1 a2 a3 a4 a5 a6 a7 a8 a9 jq jP B;go_simp
 refine wt 7 (I Qq (a:Int)) d ?_;refine wT 9 (Qu #[v0,r,t,v3,v4,v5,u,v,y,v9,g,i,j]) d (λx l=>?_) ?_
 .have C:=GV l a0 a1 a2 a3 a4 a5 a6 a7 a8 a9 jq jP B;go_simp
 refine wt 10 (I Qq (b:Int)) d ?_;refine wR 3 λK k=>?_;go_simp;refine oA k d λd=>?_;refine wR 4 λK k=>?_;go_simp;refine XX (Q.o _ _ Qa Qa) ?_;rintro e w2 ⟨rfl,A⟩;have A:=A.symm;subst A;refine k.o _ _ d λd=>?_;refine wR 5 λK k=>?_;go_simp;refine XX (G.o _ (az p.o d)) ?_;rintro e w3 ⟨rfl,hb⟩;refine oT k d hb λd=>?_;refine wR 8 λK k=>?_;go_simp;refine XX (L.o _ (az p.o d)) ?_;rintro e w4 ⟨rfl,hb⟩;refine oT k d hb λd=>?_;refine wR 11 λK k=>?_;go_simp;refine XX (P.o _ (az p.o d)) ?_;rintro e w5 ⟨rfl,hb⟩;refine oT k d hb λd=>?_;refine wR 12 λK k=>?_;go_simp;refine oA k d λd=>?_;refine wR 13 λK k=>?_;go_simp;refine XX (R.o _ _ Qa Qa) ?_;rintro e w6 ⟨rfl,S⟩;have S:=S.symm;subst S;refine k.o _ _ d λd=>?_;refine wR 14 λK k=>?_;go_simp;refine k.o _ _ d λd=>?_;refine wR 15 λK k=>?_;go_simp;refine k.o _ _ d λd=>?_;refine wD ?_;try simp only[pU]
 have HF:=Zh (az p.o d);go_wp2;go_ret;refine⟨QZ ?_,HF.o⟩
 first|rfl|simp
def aju(w:U):Ce 208 #[I Qq ((0:Nat):Int)] w (I J (aZ 0)):=by
 have a:=Zh (by  decide:aZ 0=0)
 generalize aZ 0=R at*;go_enter func208,ntmps208;go_wp2;go_ret;exact⟨QZ (by rw[a.o];kernel_rfl),rfl⟩
def ajv(w:U):Ce 208 #[I Qq ((1:Nat):Int)] w (I J (aZ 1)):=by
 have a:=Zh (by  decide:aZ 1=1)
 generalize aZ 1=R at*;go_enter func208,ntmps208;go_wp2;go_ret;exact⟨QZ (by rw[a.o];kernel_rfl),rfl⟩
def ajw(w:U):Ce 208 #[I Qq ((2:Nat):Int)] w (I J (aZ 2)):=by
 have a:=Zh (by  decide:aZ 2=1)
 generalize aZ 2=R at*;go_enter func208,ntmps208;go_wp2;go_ret;exact⟨QZ (by rw[a.o];kernel_rfl),rfl⟩
def ajx(w:U):Ce 208 #[I Qq ((3:Nat):Int)] w (I J (aZ 3)):=by
 have a:=Zh (by  decide:aZ 3=2)
 generalize aZ 3=R at*;go_enter func208,ntmps208;go_wp2;go_ret;exact⟨QZ (by rw[a.o];kernel_rfl),rfl⟩
def ajy(w:U):Ce 208 #[I Qq ((4:Nat):Int)] w (I J (aZ 4)):=by
 have a:=Zh (by  decide:aZ 4=1)
 generalize aZ 4=R at*;go_enter func208,ntmps208;go_wp2;go_ret;exact⟨QZ (by rw[a.o];kernel_rfl),rfl⟩
def ajz(w:U):Ce 208 #[I Qq ((5:Nat):Int)] w (I J (aZ 5)):=by
 have a:=Zh (by  decide:aZ 5=2)
 generalize aZ 5=R at*;go_enter func208,ntmps208;go_wp2;go_ret;exact⟨QZ (by rw[a.o];kernel_rfl),rfl⟩
def ajA(w:U):Ce 208 #[I Qq ((6:Nat):Int)] w (I J (aZ 6)):=by
 have a:=Zh (by  decide:aZ 6=2)
 generalize aZ 6=R at*;go_enter func208,ntmps208;go_wp2;go_ret;exact⟨QZ (by rw[a.o];kernel_rfl),rfl⟩
def ajB(w:U):Ce 208 #[I Qq ((7:Nat):Int)] w (I J (aZ 7)):=by
 have a:=Zh (by  decide:aZ 7=3)
 generalize aZ 7=R at*;go_enter func208,ntmps208;go_wp2;go_ret;exact⟨QZ (by rw[a.o];kernel_rfl),rfl⟩
def ajC(w:U):Ce 208 #[I Qq ((8:Nat):Int)] w (I J (aZ 8)):=by
 have a:=Zh (by  decide:aZ 8=1)
 generalize aZ 8=R at*;go_enter func208,ntmps208;go_wp2;go_ret;exact⟨QZ (by rw[a.o];kernel_rfl),rfl⟩
def ajD(w:U):Ce 208 #[I Qq ((9:Nat):Int)] w (I J (aZ 9)):=by
 have a:=Zh (by  decide:aZ 9=2)
 generalize aZ 9=R at*;go_enter func208,ntmps208;go_wp2;go_ret;exact⟨QZ (by rw[a.o];kernel_rfl),rfl⟩
def afm(w:U):Ce 208 #[I Qq ((10:Nat):Int)] w (I J (aZ 10)):=by
 have a:=Zh (by  decide:aZ 10=2)
 generalize aZ 10=R at*;go_enter func208,ntmps208;go_wp2;go_ret;exact⟨QZ (by rw[a.o];kernel_rfl),rfl⟩
def afn(w:U):Ce 208 #[I Qq ((11:Nat):Int)] w (I J (aZ 11)):=by
 have a:=Zh (by  decide:aZ 11=3)
 generalize aZ 11=R at*;go_enter func208,ntmps208;go_wp2;go_ret;exact⟨QZ (by rw[a.o];kernel_rfl),rfl⟩
def afo(w:U):Ce 208 #[I Qq ((12:Nat):Int)] w (I J (aZ 12)):=by
 have a:=Zh (by  decide:aZ 12=2)
 generalize aZ 12=R at*;go_enter func208,ntmps208;go_wp2;go_ret;exact⟨QZ (by rw[a.o];kernel_rfl),rfl⟩
def afp(w:U):Ce 208 #[I Qq ((13:Nat):Int)] w (I J (aZ 13)):=by
 have a:=Zh (by  decide:aZ 13=3)
 generalize aZ 13=R at*;go_enter func208,ntmps208;go_wp2;go_ret;exact⟨QZ (by rw[a.o];kernel_rfl),rfl⟩
def afq(w:U):Ce 208 #[I Qq ((14:Nat):Int)] w (I J (aZ 14)):=by
 have a:=Zh (by  decide:aZ 14=3)
 generalize aZ 14=R at*;go_enter func208,ntmps208;go_wp2;go_ret;exact⟨QZ (by rw[a.o];kernel_rfl),rfl⟩
def afr(w:U):Ce 208 #[I Qq ((15:Nat):Int)] w (I J (aZ 15)):=by
 have a:=Zh (by  decide:aZ 15=4)
 generalize aZ 15=R at*;go_enter func208,ntmps208;go_wp2;go_ret;exact⟨QZ (by rw[a.o];kernel_rfl),rfl⟩
def afs(w:U):Ce 208 #[I Qq ((16:Nat):Int)] w (I J (aZ 16)):=by
 have a:=Zh (by  decide:aZ 16=1)
 generalize aZ 16=R at*;go_enter func208,ntmps208;go_wp2;go_ret;exact⟨QZ (by rw[a.o];kernel_rfl),rfl⟩
def aft(w:U):Ce 208 #[I Qq ((17:Nat):Int)] w (I J (aZ 17)):=by
 have a:=Zh (by  decide:aZ 17=2)
 generalize aZ 17=R at*;go_enter func208,ntmps208;go_wp2;go_ret;exact⟨QZ (by rw[a.o];kernel_rfl),rfl⟩
def afu(w:U):Ce 208 #[I Qq ((18:Nat):Int)] w (I J (aZ 18)):=by
 have a:=Zh (by  decide:aZ 18=2)
 generalize aZ 18=R at*;go_enter func208,ntmps208;go_wp2;go_ret;exact⟨QZ (by rw[a.o];kernel_rfl),rfl⟩
def afv(w:U):Ce 208 #[I Qq ((19:Nat):Int)] w (I J (aZ 19)):=by
 have a:=Zh (by  decide:aZ 19=3)
 generalize aZ 19=R at*;go_enter func208,ntmps208;go_wp2;go_ret;exact⟨QZ (by rw[a.o];kernel_rfl),rfl⟩
def afw(w:U):Ce 208 #[I Qq ((20:Nat):Int)] w (I J (aZ 20)):=by
 have a:=Zh (by  decide:aZ 20=2)
 generalize aZ 20=R at*;go_enter func208,ntmps208;go_wp2;go_ret;exact⟨QZ (by rw[a.o];kernel_rfl),rfl⟩
def afx(w:U):Ce 208 #[I Qq ((21:Nat):Int)] w (I J (aZ 21)):=by
 have a:=Zh (by  decide:aZ 21=3)
 generalize aZ 21=R at*;go_enter func208,ntmps208;go_wp2;go_ret;exact⟨QZ (by rw[a.o];kernel_rfl),rfl⟩
def afy(w:U):Ce 208 #[I Qq ((22:Nat):Int)] w (I J (aZ 22)):=by
 have a:=Zh (by  decide:aZ 22=3)
 generalize aZ 22=R at*;go_enter func208,ntmps208;go_wp2;go_ret;exact⟨QZ (by rw[a.o];kernel_rfl),rfl⟩
def afz(w:U):Ce 208 #[I Qq ((23:Nat):Int)] w (I J (aZ 23)):=by
 have a:=Zh (by  decide:aZ 23=4)
 generalize aZ 23=R at*;go_enter func208,ntmps208;go_wp2;go_ret;exact⟨QZ (by rw[a.o];kernel_rfl),rfl⟩
def afA(w:U):Ce 208 #[I Qq ((24:Nat):Int)] w (I J (aZ 24)):=by
 have a:=Zh (by  decide:aZ 24=2)
 generalize aZ 24=R at*;go_enter func208,ntmps208;go_wp2;go_ret;exact⟨QZ (by rw[a.o];kernel_rfl),rfl⟩
def afB(w:U):Ce 208 #[I Qq ((25:Nat):Int)] w (I J (aZ 25)):=by
 have a:=Zh (by  decide:aZ 25=3)
 generalize aZ 25=R at*;go_enter func208,ntmps208;go_wp2;go_ret;exact⟨QZ (by rw[a.o];kernel_rfl),rfl⟩
def afC(w:U):Ce 208 #[I Qq ((26:Nat):Int)] w (I J (aZ 26)):=by
 have a:=Zh (by  decide:aZ 26=3)
 generalize aZ 26=R at*;go_enter func208,ntmps208;go_wp2;go_ret;exact⟨QZ (by rw[a.o];kernel_rfl),rfl⟩
def afD(w:U):Ce 208 #[I Qq ((27:Nat):Int)] w (I J (aZ 27)):=by
 have a:=Zh (by  decide:aZ 27=4)
 generalize aZ 27=R at*;go_enter func208,ntmps208;go_wp2;go_ret;exact⟨QZ (by rw[a.o];kernel_rfl),rfl⟩
def afE(w:U):Ce 208 #[I Qq ((28:Nat):Int)] w (I J (aZ 28)):=by
 have a:=Zh (by  decide:aZ 28=3)
 generalize aZ 28=R at*;go_enter func208,ntmps208;go_wp2;go_ret;exact⟨QZ (by rw[a.o];kernel_rfl),rfl⟩
def afF(w:U):Ce 208 #[I Qq ((29:Nat):Int)] w (I J (aZ 29)):=by
 have a:=Zh (by  decide:aZ 29=4)
 generalize aZ 29=R at*;go_enter func208,ntmps208;go_wp2;go_ret;exact⟨QZ (by rw[a.o];kernel_rfl),rfl⟩
def afG(w:U):Ce 208 #[I Qq ((30:Nat):Int)] w (I J (aZ 30)):=by
 have a:=Zh (by  decide:aZ 30=4)
 generalize aZ 30=R at*;go_enter func208,ntmps208;go_wp2;go_ret;exact⟨QZ (by rw[a.o];kernel_rfl),rfl⟩
def afH(w:U):Ce 208 #[I Qq ((31:Nat):Int)] w (I J (aZ 31)):=by
 have a:=Zh (by  decide:aZ 31=5)
 generalize aZ 31=R at*;go_enter func208,ntmps208;go_wp2;go_ret;exact⟨QZ (by rw[a.o];kernel_rfl),rfl⟩
def zL(s:Nat)(hs:s<32)(w:U):Ce 208 #[I Qq (s:Int)] w (I J (aZ s)):=by
 have h:s=0∨s=1∨s=2∨s=3∨s=4∨s=5∨s=6∨s=7∨s=8∨s=9∨s=10∨s=11∨s=12∨s=13∨s=14∨s=15∨s=16∨s=17∨s=18∨s=19∨s=20∨s=21∨s=22∨s=23∨s=24∨s=25∨s=26∨s=27∨s=28∨s=29∨s=30∨s=31:=X;rcases h with rfl|rfl|rfl|rfl|rfl|rfl|rfl|rfl|rfl|rfl|rfl|rfl|rfl|rfl|rfl|rfl|rfl|rfl|rfl|rfl|rfl|rfl|rfl|rfl|rfl|rfl|rfl|rfl|rfl|rfl|rfl|rfl
 .exact aju w
 .exact ajv w
 .exact ajw w
 .exact ajx w
 .exact ajy w
 .exact ajz w
 .exact ajA w
 .exact ajB w
 .exact ajC w
 .exact ajD w
 .exact afm w
 .exact afn w
 .exact afo w
 .exact afp w
 .exact afq w
 .exact afr w
 .exact afs w
 .exact aft w
 .exact afu w
 .exact afv w
 .exact afw w
 .exact afx w
 .exact afy w
 .exact afz w
 .exact afA w
 .exact afB w
 .exact afC w
 .exact afD w
 .exact afE w
 .exact afF w
 .exact afG w
 .exact afH w
def FW(s:Nat)(hs:s<32)(w:U):Ce 170 #[I Qq (s:Int)] w (I J (aZ s)):=by
 have a:=zL s hs w;generalize aZ s=R at*;have b:Ce 195 #[I Qq (s:Int)] w (I J R):=by go_enter func195,ntmps195;go_wp2_with fail;refine a.mono ?_;rintro e d ⟨rfl,rfl⟩;go_wp2;go_ret;exact⟨rfl,rfl⟩
 go_enter func170,ntmps170;go_wp2_with fail;refine b.mono ?_;rintro e d ⟨rfl,rfl⟩;go_wp2;go_ret;exact⟨rfl,rfl⟩
def JU(l r:Nat)(hl:l<32)(hr:r<32)(w:U) :
  Cb 125 #[Qu #[I Qq (l:Int),I Qq (r:Int)]] w (I J (kL aZ (l,r))):=by
 obtain⟨u,f⟩:=eX (w.alloc (Qt #[I Qq (l:Int),I Qq (r:Int)] 118));have k:Bw w u:=by rw[<-f];exact cZ _ _
 have C:Qp u (aD (M (H w)) 0)=O (I Qq (l:Int)):=by rw[<-f];simp
 have D:Qp u (aD (M (H w)) 1)=O (I Qq (r:Int)):=by rw[<-f];simp
 have b:=uR l r u;have m:=Zh k;have q:Qn (kL aZ (l,r)=if r=0 then 6 else aZ (l|||r)):=rfl;have v:l|||r<32:=rq (n:=5) hl hr;generalize kL aZ (l,r)=R at*;clear k;by_cases j:r=0
 .have t:=Zh (by  rw[q.o,Zb j]:R=6)
  rw[Zi j]at b;clear j q;go_enter func125,ntmps125;go_wp2_with fail;refine b.mono ?_;rintro e A ⟨rfl,d⟩;have i:=Zh (az m.o d);clear b d f;go_wp2;go_ret;exact⟨QZ t.o.symm,i.o⟩
 .have t:=Zh (by  rw[q.o,Zg j]:R=aZ (l|||r))
  rw[Zr j]at b;clear j q;go_enter func125,ntmps125;go_wp2_with fail;refine b.mono ?_;rintro e A ⟨rfl,d⟩;have i:=Zh (az m.o d);obtain⟨K,L⟩:=jf d C D;obtain⟨B,g⟩:=eX (A.alloc (Qt #[I Qq (l:Int),I Qq (r:Int)] 78));have y:Qn (Bw w B):=az i.o (by rw[<-g];exact cZ _ _);have p:=jh (M (H A)) l r B (by rw[<-g];simp) (by rw[<-g];simp) X X;have z:=FW (l|||r) v B;rw[<-t.o]at z;generalize l|||r=lr at*;clear b d f C D t;go_wp2_with fail;refine p.mono ?_;rintro e G ⟨rfl,a⟩;have a:=a.symm;subst a;go_wp2_with fail;refine z.mono ?_;rintro e G ⟨rfl,a⟩;have a:=a.symm;subst a;clear p z g;go_wp2;go_ret;exact⟨rfl,y.o⟩
def Sy(a b:bB)(ha:a.1<32/\a.2<32)(hb:b.1<32/\b.2<32)(w:U) :
  Cb 85 #[Qu #[I Qq (a.1:Int),I Qq (a.2:Int)],Qu #[I Qq (b.1:Int),I Qq (b.2:Int)]] w (I J (qd aZ a b)):=by
 have t:Qn (∀x,Cb 125 #[Qu #[I Qq (a.1:Int),I Qq (a.2:Int)]] x (I J (kL aZ a))):=λx=>JU a.1 a.2 ha.1 ha.2 x;have u:Qn (∀x,Cb 125 #[Qu #[I Qq (b.1:Int),I Qq (b.2:Int)]] x (I J (kL aZ b))):=λx=>JU b.1 b.2 hb.1 hb.2 x;have L:Qn (qd aZ a b=if mZ (kL aZ b) (kL aZ a)≠0 then mZ (kL aZ b) (kL aZ a) else if mZ a.1 b.1≠0 then mZ a.1 b.1 else mZ a.2 b.2):=rfl;have W:Qn (∀x,Ce 124 #[I J (kL aZ b),I J (kL aZ a)] x (I J (mZ (kL aZ b) (kL aZ a)))):=λx=>FV _ _ x;have xP:Qn (∀x,Ce 126 #[I Qq (a.1:Int),I Qq (b.1:Int)] x (I J (mZ a.1 b.1))):=λx=>wZ _ _ x;have VN:Qn (∀x,Ce 126 #[I Qq (a.2:Int),I Qq (b.2:Int)] x (I J (mZ a.2 b.2))):=λx=>wZ _ _ x;generalize qd aZ a b=R,kL aZ a=RA,kL aZ b=RB at*;obtain⟨n,p⟩:=a;obtain⟨q,r⟩:=b;simp only at*;generalize mZ RB RA=C1 at*;generalize mZ (n:Int) (q:Int)=C2 at*;generalize mZ (p:Int) (r:Int)=C3 at*;have v:Qn (∀(x:U) (c:Nat),Qp x (aD c 0)=O (I J C1)->Qp x (aD c 1)=O (I J C2)->Qp x (aD c 2)=O (I J C3)->Ce 123 #[Z (O (aD c 0)) 3 3] x (I J R)):=λx c h0 h1 h2=>by rw[L.o];exact abI c C1 C2 C3 x h0 h1 h2
 clear L ha hb;obtain⟨z,A,l,j⟩:=bC w #[I Qq (n:Int),I Qq (p:Int)] 118;obtain⟨w2,B,k,m⟩:=bC z #[I Qq (q:Int),I Qq (r:Int)] 118;have i:=j.of (k.block _ j.lt);obtain⟨a0,P⟩:=i.k2;obtain⟨Q,S⟩:=m.k2;have y:=Zh (az l k);clear l k j m i;go_enter func85,ntmps85;go_wp2_with fail;clear A B;refine wH w2 λd=>?_;refine wT 0 (Qu #[I Qq (q:Int),I Qq (r:Int)]) d (λx G=>?_) ?_
 .obtain⟨e0,e1⟩:=jf G Q S;go_simp
 refine wT 2 (Qu #[I Qq (n:Int),I Qq (p:Int)]) d (λx G=>?_) ?_
 .obtain⟨e0,e1⟩:=jf G a0 P;go_simp
 refine wt 5 (Y (O (aD (M (H w)) 0))) d ?_;refine zC 6 (I Qq (n:Int)) d a0 ?_;refine wt 7 (Y (O (aD (M (H z)) 0))) d ?_;refine zC 8 (I Qq (q:Int)) d Q ?_;refine wt 10 (Y (O (aD (M (H w)) 1))) d ?_;refine zC 11 (I Qq (p:Int)) d P ?_;refine wt 12 (Y (O (aD (M (H z)) 1))) d ?_;refine zC 13 (I Qq (r:Int)) d S ?_;refine wR 1 λK f=>?_;go_simp;refine XX (u.o _) ?_;rintro e w3 ⟨rfl,hb⟩;refine oT f d hb λd=>?_;clear f K;refine wR 3 λK f=>?_;go_simp;refine XX (t.o _) ?_;rintro e w4 ⟨rfl,hb⟩;refine oT f d hb λd=>?_;clear f K;refine wR 4 λK f=>?_;go_simp;refine XX (W.o _) ?_;rintro e w5 ⟨rfl,uC⟩;have g:=uC.symm;subst g;refine f.o _ _ d λd=>?_;clear f K;refine wR 9 λK f=>?_;go_simp;refine XX (xP.o _) ?_;rintro e w6 ⟨rfl,oV⟩;have g:=oV.symm;subst g;refine f.o _ _ d λd=>?_;clear f K;refine wR 14 λK f=>?_;go_simp;refine XX (VN.o _) ?_;rintro e w7 ⟨rfl,C⟩;have g:=C.symm;subst g;refine f.o _ _ d λd=>?_;clear f K;refine wR 15 λK f=>?_;go_simp;refine oA f d λd=>?_;clear f K;refine wR 16 λK f=>?_;go_simp;refine XX (v.o _ _ Qa Qa Qa) ?_;rintro e w8 ⟨rfl,D⟩;have g:=D.symm;subst g;refine f.o _ _ d λd=>?_;clear f K;refine wR 17 λK f=>?_;go_simp;refine f.o _ _ d λd=>?_;clear f K;refine wD ?_;try simp only[pV]
 have HF:=Zh (az y.o d);clear d;go_wp2;go_ret;exact⟨rfl,HF.o⟩
def kM(w:U)(ao:PN)(ag:Qy bB):Prop:=
 N ag<=1000000000/\∀i,i<N ag->∃b off,ao=O (aD b off)/\Qp w (aD b (off+i*2))=O (I Qq ((E ag i (0,0)).1:Int))/\Qp w (aD b (off+i*2+1))=O (I Qq ((E ag i (0,0)).2:Int))
def kM.below{w w':U}(hb:Bw w w'){ao:PN}{ag:Qy bB}(h:kM w ao ag):kM w' ao ag:=
 ⟨h.1,λi g=>by obtain⟨b,a,e,d,f⟩:=h.2 i g;exact⟨b,a,e,cB hb d,cB hb f⟩⟩
def WC(lt:Nat->Bool)(f i j:Nat)(h:i<j):Sv lt (f+1) i j=if lt ((i+j) / 2)=T then Sv lt f ((i+j) / 2+1) j else Sv lt f i ((i+j) / 2):=by show (if i<j then _ else _)=_;rw[Zb h]
def abK(lt:Nat->Bool)(f i j:Nat)(h:¬i<j):Sv lt f i j=i:=by
 cases f with
 |zero=>rfl
 |succ f =>
  show (if i<j then _ else _)=_;rw[Zg h]
theorem Dc(ao:PN)(cap:Nat)(ag:Qy bB)(t:bB)(w:U)(hx:kM w ao ag)(ha:∀a∈ag,a.1<32/\a.2<32)(ht:t.1<32/\t.2<32) :
  Cb 84 #[Z ao (N ag) cap,Qu #[I Qq (t.1:Int),I Qq (t.2:Int)],.func (.func 85) #[] #[]] w (.tuple #[I J (ng aZ ag t:Int),Qr (ni aZ ag t)]):=by
 have ai:Qn (∀k x,k<N ag->Cb 85 #[Qu #[I Qq ((E ag k (0,0)).1:Int),I Qq ((E ag k (0,0)).2:Int)],Qu #[I Qq (t.1:Int),I Qq (t.2:Int)]] x (I J (qd aZ (E ag k (0,0)) t))):=λk x hk=>Sy _ t (ha _ (Xy hk)) ht x;have HF:Qn (ng aZ ag t=Sv (λh=>decide (qd aZ (E ag h (0,0)) t<0)) (N ag) 0 (N ag)):=rfl;have HT:Qn (ni aZ ag t=(decide (ng aZ ag t<N ag)&&decide (qd aZ (E ag (ng aZ ag t) (0,0)) t=0))):=rfl;have hl:=hx.1;have HX:=Zh hx;generalize ni aZ ag t=TB,ng aZ ag t=FA at*;obtain⟨D,G⟩:=t;simp only at*;obtain⟨n,z⟩:=eY (λk=>qd aZ (E ag k (0,0)) (D,G):Nat->Int);have P:Qn (∀k x,k<N ag->Cb 85 #[Qu #[I Qq ((E ag k (0,0)).1:Int),I Qq ((E ag k (0,0)).2:Int)],Qu #[I Qq (D:Int),I Qq (G:Int)]] x (I J (n k))):=by rw[z];exact ai.o
 have aj:Qn (FA=Sv (λh=>decide (n h<0)) (N ag) 0 (N ag)):=by rw[z];exact HF.o
 have aB:Qn (TB=(decide (FA<N ag)&&decide (n FA=0))):=by rw[z];exact HT.o
 obtain⟨w1,p⟩:=eX (w.alloc (Qt #[I Qq (D:Int),I Qq (G:Int)] 118));have ak:Bw w w1:=by rw[<-p];exact cZ _ _
 have t0:Qp w1 (aD (M (H w)) 0)=O (I Qq (D:Int)):=by rw[<-p];simp
 have t1:Qp w1 (aD (M (H w)) 1)=O (I Qq (G:Int)):=by rw[<-p];simp
 have Q:=Zh ak;go_enter func84,ntmps84;go_wp2;go_loopw [9,10] (λiv jv wr=>∃i j f:Nat,i<=j/\j<=N ag/\j-i<=f/\iv=I J (i:Int)/\jv=I J (j:Int)/\Qn (Sv (λh=>decide (n h<0)) f i j=FA)/\Qn (Bw w1 wr)) (λiv jv _=>(intOf jv).toNat-(intOf iv).toNat)
 case atStart=>exact⟨0,N ag,N ag,ZB _,Za _,X,rfl,rfl,aj.o.symm,Q9 _ _⟩
 case round=>
  obtain⟨i,j,f,aF,ay,hf,rfl,rfl,yB,L⟩:=hrel;by_cases af:i<j
  .obtain⟨A,rfl⟩:∃A,f=A+1:=⟨f-1,X⟩
   have u:=Zh ((WC (λh=>decide (n h<0)) A i j af).symm.trans yB.o);obtain⟨h,hh⟩:=eX ((i+j) / 2);have aC:i<=h/\h<j:=X;rw[hh]at u;have p:wrap64 ((i:Int)+(j:Int))=((i+j:Nat):Int):=Qg;have R:((i:Int)+(j:Int)) / 2=(h:Int):=X;have S:h<N ag:=X;obtain⟨b,m,B,c0,c1⟩:=(kM.below (az Q.o L.o) HX.o).2 h S;subst B;have au:=P.o h;generalize (E ag h (0,0)).1=xl,(E ag h (0,0)).2=xr at*;obtain⟨s0,s1⟩:=jf L.o t0 t1;have W:(h:Int)<(N ag:Int):=X;have q:Qn _:=λx=>au x S;obtain⟨wq,C⟩:=eY (wr);subst C;obtain⟨v,hv⟩:=eX (n h);rw[hv]at q;simp only[hv]at u;have aa:Qn _:=u;go_wp2_with fail;try rw[R]
   refine wH wq λd=>?_;refine wt 0 (.func (.func 85) #[] #[]) d ?_;refine wt 1 (Z (O (aD b m)) (N ag) cap) d ?_;refine wt 2 (I J (h:Int)) d ?_;refine wt 3 (Y (O (aD b (m+h*2)))) d ?_;refine wT 4 (Qu #[I Qq (xl:Int),I Qq (xr:Int)]) d (λx hx=>?_) ?_
   .obtain⟨e0,e1⟩:=jf hx c0 c1;go_simp
   refine wT 5 (Qu #[I Qq (D:Int),I Qq (G:Int)]) d (λx hx=>?_) ?_
   .obtain⟨e0,e1⟩:=jf hx s0 s1;go_simp
   refine wR 6 λK g=>?_;go_simp;refine XX (q.o _) ?_;rintro e w2 ⟨rfl,hb⟩;refine oT g d hb λd=>?_;refine wR 7 λK g=>?_;go_simp;refine g.o _ _ d λd=>?_;refine wD ?_;try simp only[pV]
   have ae:=Zh (L.o.trans (d.mono L.o.size));by_cases r:v<0
   .have HN:Qn (Sv (λh=>decide (n h<0)) A (h+1) j=FA):=by have:=aa.o;rw[Zb (Zi r)]at this;exact this
    have av:=Zi r;go_wp2;go_roundw
    case rel=>exact⟨h+1,j,A,X,ay,X,Qe,rfl,HN.o,ae.o⟩
    case measure=>exact XK
   .have HN:Qn (Sv (λh=>decide (n h<0)) A i h=FA):=by have:=aa.o;rw[Zg (by rw[Zr r];decide)]at this;exact this
    have av:=Zr r;go_wp2;go_roundw
    case rel=>exact⟨i,h,A,X,X,X,rfl,rfl,HN.o,ae.o⟩
    case measure=>exact XK
  .have ax:=(abK _ f i j af).symm.trans yB.o;subst ax;obtain⟨wq,C⟩:=eY (wr)
   subst C;have l:=Zh (az Q.o L.o);by_cases ah:i<N ag
   .obtain⟨b,m,B,c0,c1⟩:=(kM.below l.o HX.o).2 i ah;subst B;have q:Qn _:=λx=>P.o i x ah
    generalize (E ag i (0,0)).1=xl,(E ag i (0,0)).2=xr at*;obtain⟨s0,s1⟩:=jf L.o t0 t1;have W:(i:Int)<(N ag:Int):=X;have y:Qn (TB=(n i==0)):=Qb;generalize n i=v at*;go_wp2_with fail;refine wH wq λd=>?_;refine wt 0 (I J (i:Int)) d ?_;refine wt 1 (I J (i:Int)) d ?_;refine wt 2 (I J (N ag:Int)) d ?_;refine wt 3 (Qr T) d ?_;refine wt 4 (Qr T) d ?_;refine wg 5 (.func (.func 85) #[] #[]) d ?_;refine wg 6 (Z (O (aD b m)) (N ag) cap) d ?_;refine wg 7 (I J (i:Int)) d ?_;refine wg 8 (Y (O (aD b (m+i*2)))) d ?_;refine wG 9 (Qu #[I Qq (xl:Int),I Qq (xr:Int)]) d (λx hx=>?_) ?_
    .obtain⟨e0,e1⟩:=jf hx c0 c1;go_simp
    refine wG 10 (Qu #[I Qq (D:Int),I Qq (G:Int)]) d (λx hx=>?_) ?_
    .obtain⟨e0,e1⟩:=jf hx s0 s1;go_simp
    refine wR 11 λK g=>?_;go_simp;refine XX (q.o _) ?_;rintro e w2 ⟨rfl,hb⟩;refine oT g d hb λd=>?_;refine wg 12 (Qr (v==0)) d ?_;refine wg 13 (Qr (v==0)) d ?_;refine wR 14 λK g=>?_;go_simp;refine g.o _ _ d λd=>?_;refine wR 15 λK g=>?_;go_simp;refine g.o _ _ d λd=>?_;refine wD ?_;try simp only[pV]
    have nH:=Zh (l.o.trans (d.mono l.o.size));go_wp2;go_ret2;exact⟨by rw[y.o];rfl,nH.o⟩
   .have y:Qn (TB=F):=Qb
    have aA:¬(i:Int)<(N ag:Int):=X;go_wp2_with fail;refine wH wq λd=>?_;refine wt 0 (I J (i:Int)) d ?_;refine wt 1 (I J (i:Int)) d ?_;refine wt 2 (I J (N ag:Int)) d ?_;refine wt 3 (Qr F) d ?_;refine wt 4 (Qr F) d ?_;refine wU 5 d ?_;refine wU 6 d ?_;refine wU 7 d ?_;refine wU 8 d ?_;refine wU 9 d ?_;refine wU 10 d ?_;refine wU 11 d ?_;refine wU 12 d ?_;refine wt 13 (Qr F) d ?_;refine wR 14 λK g=>?_;go_simp;refine g.o _ _ d λd=>?_;refine wR 15 λK g=>?_;go_simp;refine g.o _ _ d λd=>?_;refine wD ?_;try simp only[pV]
    have nH:=Zh (l.o.trans (d.mono l.o.size));go_wp2;go_ret2;exact⟨by rw[y.o];rfl,nH.o⟩
def dG(t:bB):Qy Value:=[I Qq (t.1:Int),I Qq (t.2:Int)]
def FT{P:Program}{tx ty:TypeId}{i:TypeInfo}(hi:P.info? e=O i)(h1:P.underlying t=O (.slice e))(h2:P.underlying tx=O (.slice e))(v x:Qm)(w:U):(Builtin.append_ #[t,tx] ty #[v,x]).run P w=(Builtin.append_ #[t,t] ty #[v,x]).run P w:=by unfold Builtin.append_;cases v <;> simp[run_underlying h1,run_underlying h2,sizeOf,typeInfo,hi]
theorem Ww{ys:Qy Qm}(l r:Qm)(hx:N xs=n*2)(hy:N ys=2)(hi:i<n) :
  (((xs++ys).take ((i+1)*2)++xs.drop (i*2)++(xs++ys).drop ((i+1)*2+N (xs.drop (i*2)))).take (i*2)++[l,r]++((xs++ys).take ((i+1)*2)++xs.drop (i*2)++(xs++ys).drop ((i+1)*2+N (xs.drop (i*2)))).drop (i*2+[l,r].length))=xs.take (i*2)++[l,r]++xs.drop (i*2):=by have a:(xs++ys).drop ((i+1)*2+N (xs.drop (i*2)))=[]:=List.drop_eq_nil_of_le Qb;have b:N ((xs++ys).take ((i+1)*2))=(i+1)*2:=Qb;rw[a,X0,List.take_append_of_le_length X,List.drop_left' (by rw[b];simp;omega),List.take_take,Nat.min_eq_left X,List.take_append_of_le_length X]
def Tryz.wY:(V.info? 118).map (λi=>(i.zero,i.size,i.bytes))=O (O (Qu #[I Qq 0,I Qq 0]),2,16):=Qd
def FU(base g n cap i vb:Nat)(l r:Qm)(xs:Qy Qm)(w:U)(hown:w.ownsRow base 118 2 (Z (O (aD g 0)) n cap) n xs)(hx1:∀u∈xs,u.oneCell' = T)(hl1:l.oneCell' = T)(hr1:r.oneCell' = T)(hi:i<n)(hroom:n+1<=cap)(hvb:GB w vb 118 #[l,r])(hne:vb≠g) :
  Calls V 86 #[Z (O (aD g 0)) n cap,I J i,Z (O (aD vb 0)) 1 1] w λe w'=>
   e=Qv (Z (O (aD g 0)) (n+1) cap)/\w'.ownsRow base 118 2 (Z (O (aD g 0)) (n+1) cap) (n+1) (xs.take (i*2)++[l,r]++xs.drop (i*2))/\Kept (λb=>b≠g) w w':=by
 obtain⟨i0,D,ai,G,aj⟩:=Xl Tryz.wY;have z:(V.info? 118).map (·.size)=O 2:=by rw[D];simp[G]
 obtain⟨_,aa,k,m,ae,af,ak⟩:=jL hown;have A:=hown.1;have au:cap<=9223372036854775807:=by unfold maxLen at aa;omega
 have R:w.shape? vb=O (118,2):=by have h:w.heap[vb]? = O (Qt #[l,r] 118 (0,0)):=hvb;simp[World.shape?,h]
 have ah:∀lb cb,(callFunc 127 #[Z (O (aD vb 0)) 1 1,Z (O (aD g ((i+1)*2))) lb cb]).run V w=.ok (.value (Qr F)) w:=λlb cb=>by
  rw[run_callFunc_extern func127 Qd Qd Qd (e:=Extern.SlicesOverlaps.overlaps #[91,91] #[4]) Qd,
   Lib.run_overlaps_apart w 91 4 118 underlying91 2 (λW=>by simp[sizeOf,typeInfo,D,G]) (aD vb 0) (aD g ((i+1)*2)) 1 1 lb cb hne 118 118 2 (cap*2) R af X (hvb.frozen 0) (hvb.frozen 2)]
  rfl
 have B:N (xs.drop (i*2))=n*2-i*2:=by rw[List.length_drop,A]
 have t:∀L P sc,(Builtin.copy_ #[92,92] L #[Z (O (aD g ((i+1)*2))) (n-i) P,Z (O (aD g (i*2))) (n+1-i) sc]).run V w.drew=.ok (goInt (Nat.min (n+1-i) (n-i))) (w.drew.setCells g ((i+1)*2) (xs.drop (i*2))):=λL P sc=>
  sw w.drew _ _ L 118 2 g ((i+1)*2) (n-i) P (aD g (i*2)) (n+1-i) sc (xs.drop (i*2)) underlying92 z (by rw[B];simp only[Nat.min_def];split <;> omega)
   (λj v y=>by rw[addr_add];exact k (i*2+j) v (by rwa [List.getElem?_drop]at y))
   (λj y=>m _ X) (λj y=>ae _) (λv hv=>hx1 v (List.mem_of_mem_drop hv))
 obtain⟨Q,K⟩:=eY (w.drew.setCells g ((i+1)*2) (xs.drop (i*2)));have f:w.drew.ownsRow base 118 2 (Z (O (aD g 0)) n cap) n xs:=hown;obtain⟨ys,ag,p⟩:=VY f hroom;have a:=fF (v:=Z (O (aD g 0)) (n+1) cap) (g:=g) rfl (xs.drop (i*2)) ((i+1)*2) p (by rw[B];omega);rw[<-K]at a t;have C:Kept (λb=>b≠g) w Q:=by rw[K];exact(Kept.adv w).trans (Kept.setCells (λh=>h rfl) _ _ _)
 obtain⟨_,_,q,rH,JO,_,_⟩:=jL a;have Wy:=hvb.keep C hne;have S:∀L P,(Builtin.copy_ #[92,91] L #[Z (O (aD g (i*2))) (n+1-i) P,Z (O (aD vb 0)) 1 1]).run V Q=.ok (goInt (Nat.min 1 (n+1-i))) (Q.setCells g (i*2) [l,r]):=λL P=>
  sw Q _ _ L 118 2 g (i*2) (n+1-i) P (aD vb 0) 1 1 [l,r] underlying92 z (by simp only[Nat.min_def];split <;> simp;omega)
   (λj v y=>by rw[addr_add,ZC,Wy.cell];simpa using y)
   (λj y=>rH _ (by simp at y;omega)) (λj y=>JO _) (λv hv=>by simp at hv;rcases hv with rfl|rfl <;> assumption)
 have d:=fF (v:=Z (O (aD g 0)) (n+1) cap) (g:=g) rfl [l,r] (i*2) a Qj;rw[Ww l r A ag hi]at d;have lW:Qn ((Q.setCells g (i*2) [l,r]).ownsRow base 118 2 (Z (O (aD g 0)) (n+1) cap) (n+1) (xs.take (i*2)++[l,r]++xs.drop (i*2))/\Kept (λb=>b≠g) w (Q.setCells g (i*2) [l,r])):=⟨d,C.trans (Kept.setCells (λh=>h rfl) _ _ _)⟩;clear hown f p a d C k m ae q rH JO hvb Wy ag B A hx1 R af ak z D ai G aj aa K;have av:¬(cap=i+1):=X;have ax:¬(cap=i):=X;have ay:IntKind.i64.wrap ((i:Int)+1)=(i:Int)+1:=by rw[IntKind.wrap_i64];omega
 have az:(0:Int)<=(i:Int)+1:=X;have aA:(i:Int)+1<=(n:Int)+1:=X;have aB:((i:Int)+1).toNat=i+1:=X;have aC:(i:Int)<=(n:Int)+1:=X;go_enter func86,ntmps86;go_wp2_with (simp only[ah]);go_region_law (refine step_copy_runI rfl _ _ 92 92 rfl _ _ (by simp[Act.eval,Act.put]) (by simp[Act.eval,Act.put]) (t _ _ _) ?_);go_wp2_with (at_builtin;refine wpList_copy_runI _ rfl _ _ 92 91 rfl _ _ rfl rfl (S _ _) ?_);go_ret;exact⟨rfl,lW.o⟩
theorem Sw{Zq:Qy Qm}(l r:Qm)(hx:N xs=n*2)(hZ:N Zq=(n+1)*2)(hi:i<n)(hz:Zq.take (i*2)=xs.take (i*2)) :
  ((Zq.take (i*2)++[l,r]++Zq.drop (i*2+[l,r].length)).take ((i+1)*2)++xs.drop (i*2)++(Zq.take (i*2)++[l,r]++Zq.drop (i*2+[l,r].length)).drop ((i+1)*2+N (xs.drop (i*2))))=xs.take (i*2)++[l,r]++xs.drop (i*2):=by have a:N (Zq.take (i*2)++[l,r])=(i+1)*2:=Qb;have b:(Zq.take (i*2)++[l,r]++Zq.drop (i*2+[l,r].length)).drop ((i+1)*2+N (xs.drop (i*2)))=[]:=List.drop_eq_nil_of_le Qb;rw[b,X0,List.take_left' a,hz]
theorem Nr(base n vb:Nat)(v l r:Qm)(xs:Qy Qm)(w:U)(hown:w.ownsRow base 118 2 v n xs)(hb:base<=M (H w))(hn:n<=1000000)(hl1:l.oneCell' = T)(hr1:r.oneCell' = T)(hvb:GB w vb 118 #[l,r]) :
  Calls V 86 #[v,I J n,Z (O (aD vb 0)) 1 1] w λe w'=>
   ∃d,e=Qv d/\w'.ownsRow base 118 2 d (n+1) (xs++[l,r])/\Kept (λb=>v.ownBlock≠O b) w w'/\(d.ownBlock=v.ownBlock∨∃g,d.ownBlock=O g/\M (H w)<=g):=by
 obtain⟨A,f,i,k,m⟩:=Xl Tryz.wY;obtain⟨d,w',p,q,z,t⟩:=XA (P:=V) w base 92 92 118 A _ 2 16 underlying92 f i k m rfl Qc v n xs hown (aD vb 0) 1 1 [l,r] rfl
  (λj u C=>by rw[addr_add,ZC,hvb.cell];simpa using C) (λu K=>Qb) Qh X hb
 have a:(Builtin.append_ #[92,91] 92 #[v,.slice (O (aD vb 0)) 1 1]).run V w=.ok d w':=(FT f underlying92 underlying91 _ _ _).trans p;have y:Qn (∃u,Ending.returned d = Qv u/\w'.ownsRow base 118 2 u (n+1) (xs++[l,r])/\Kept (λb=>v.ownBlock≠O b) w w'/\(u.ownBlock=v.ownBlock∨∃g,u.ownBlock=O g/\M (H w)<=g)):=⟨d,rfl,q,Xe z (λr e p=>p e),by
  grind⟩
 obtain⟨D,B,G,rfl⟩:=Xh q;clear p q z t hvb f i k m;rcases hown.2 with⟨rfl,rfl⟩|⟨g,cap,cur,rfl,-,-,hnc,hcm,-⟩
 .clear hown;go_enter func86,ntmps86;go_wp2_with (at_builtin;refine Lib.wpList_append_run _ rfl _ _ _ _ rfl _ _ rfl rfl _ _ a ?_);go_ret;exact y.o
 .clear hown;go_enter func86,ntmps86;go_wp2_with (at_builtin;refine Lib.wpList_append_run _ rfl _ _ _ _ rfl _ _ rfl rfl _ _ a ?_)
  all_goals (go_ret;exact y.o)
theorem JQ(base g n cap i vb:Nat)(l r:Qm)(xs:Qy Qm)(w:U)(hown:w.ownsRow base 118 2 (Z (O (aD g 0)) n cap) n xs)(hb:base<=M (H w))(hn:n<=1000000)(hx1:∀u∈xs,u.oneCell' = T)(hl1:l.oneCell' = T)(hr1:r.oneCell' = T)(hi:i<n)(hroom:cap<n+1)(hvb:GB w vb 118 #[l,r]) :
  Calls V 86 #[Z (O (aD g 0)) n cap,I J i,Z (O (aD vb 0)) 1 1] w λe w'=>
   ∃G,e=Qv (Z (O (aD (M (H w)) 0)) (n+1) G)/\w'.ownsRow base 118 2 (Z (O (aD (M (H w)) 0)) (n+1) G) (n+1) (xs.take (i*2)++[l,r]++xs.drop (i*2))/\Bw w w':=by
 obtain⟨i0,W,ax,aa,ae⟩:=Xl Tryz.wY;have D:(V.info? 118).map (·.size)=O 2:=by rw[W];simp[aa]
 obtain⟨aO,aA,a,af,aB,aC,aP⟩:=jL hown;have K:=hown.1;have ay:cap=n:=X;subst ay;have L:i+(cap+1-i)=cap+1:=X;have ag:(cap:Int)+1-(i:Int)=((cap+1-i:Nat):Int):=X;have C:(Builtin.firstCells i0.size i (Z (O (aD g 0)) i cap)).run V w.drew=.ok (xs.take (i*2)).toArray w.drew:=by
  rw[aa];exact run_firstCells_some w.drew 2 i (aD g 0) i cap (xs.take (i*2)) (by rw[XT];omega) (λj v f=>by
   rw[addr_add,ZC];rw[XG]at f;split at f
   .exact a j v f
   .cases f)
 have m:=Lib.run_append_grow_zeros w 92 3 92 118 i0 _ J J underlying92 underlying3 W ax (O (aD g 0)) i cap (xs.take (i*2)) C (cap+1-i) X X X X (by rw[ae];omega) (by rw[ae,L];exact growslice_fits X X);rw[<-ag,L]at m;obtain⟨G,hG⟩:=eY (grownCap w (cap+1) cap 118);obtain⟨d,k⟩:=eY ((xs.take (i*2)).toArray++Builtin.zeroCells (Value.agg #[.int Qq 0,.int Qq 0]).cells (cap+1-i)++Builtin.zeroCells (Value.agg #[.int Qq 0,.int Qq 0]).cells (G-(cap+1)):Array Qm);rw[<-hG,<-k]at m;have az:cap+1<=G:=by rw[hG];exact grownCap_ge w _ _ _
 have P:G<=maxLen:=by rw[hG];exact grownCap_le_maxLen w _ _ _ Qh
 have ah:N (xs.take (i*2))=i*2:=by rw[XT];omega
 have p:d.size=G*2:=by rw[k];simp[Builtin.zeroCells,Value.cells,ah];omega
 have ai:d.toList.take (i*2)=xs.take (i*2):=by grind
 obtain⟨N1,z⟩:=eY (w.drew.alloc (Qt d 118));rw[<-z]at m;have aj:N1.heap[M (H w)]? = O (Qt d 118 (0,0)):=by rw[z];exact lT w.drew _
 have q:Bw w N1:=by rw[z];exact((Q9 _ _).drew).alloc (Za _) _
 have Q:N1.ownsRow base 118 2 (Z (O (aD (M (H w)) 0)) (cap+1) G) (cap+1) (d.toList.take ((cap+1)*2)):=
  ⟨by rw[XT,Array.length_toList,p];omega,.inr ⟨M (H w),G,d,rfl,hb,aj,az,P,p,rfl⟩⟩
 have t:=fF (g:=M (H w)) rfl [l,r] (i*2) Q Qj;have R:N (xs.drop (i*2))=cap*2-i*2:=by rw[List.length_drop,K]
 obtain⟨_,_,_,rH,JO,_,_⟩:=jL Q;obtain⟨_,_,_,Ns,Db,_,_⟩:=jL t;obtain⟨N2,A⟩:=eY (N1.setCells (M (H w)) (i*2) [l,r]);rw[<-A]at t Ns Db;have y:Bw w N2:=by rw[A];exact q.trans ((Kept.setCells (s:=λb=>b<M (H w)) (λh=>Nat.lt_irrefl _ h) _ _ _).below q.size (λ_ h=>h))
 have ak:N2.drew.ownsRow base 118 2 (Z (O (aD (M (H w)) 0)) (cap+1) G) (cap+1) _:=t;have S:=fF (g:=M (H w)) rfl (xs.drop (i*2)) ((i+1)*2) ak (by rw[R];omega);have Wy:=hvb.keep (ZP (s:=λb=>b<M (H w)) q (λ_ h _=>h)) hvb.lt;have au:∀ty dc,(Builtin.copy_ #[92,91] ty #[Z (O (aD (M (H w)) (i*2))) (cap+1-i) dc,Z (O (aD vb 0)) 1 1]).run V N1=.ok (goInt (Nat.min 1 (cap+1-i))) N2:=λty dc=>by
  rw[A];exact sw N1 _ _ ty 118 2 (M (H w)) (i*2) (cap+1-i) dc (aD vb 0) 1 1 [l,r] underlying92 D (by simp only[Nat.min_def];split <;> simp;omega)
   (λj v f=>by rw[addr_add,ZC,Wy.cell];simpa using f)
   (λj f=>rH _ (by simp at f;omega)) (λj f=>JO _) (λv hv=>by simp at hv;rcases hv with rfl|rfl <;> assumption)
 obtain⟨N3,B⟩:=eY (N2.drew.setCells (M (H w)) ((i+1)*2) (xs.drop (i*2)));have av:∀ty dc sc,(Builtin.copy_ #[92,92] ty #[Z (O (aD (M (H w)) ((i+1)*2))) (cap-i) dc,Z (O (aD g (i*2))) (cap-i) sc]).run V N2.drew=.ok (goInt (Nat.min (cap-i) (cap-i))) N3:=λty dc sc=>by
  rw[B];exact sw N2.drew _ _ ty 118 2 (M (H w)) ((i+1)*2) (cap-i) dc (aD g (i*2)) (cap-i) sc (xs.drop (i*2)) underlying92 D (by rw[R];simp only[Nat.min_def];split <;> omega)
   (λj v f=>by
    rw[addr_add];have h1:=a (i*2+j) v (by rwa [List.getElem?_drop]at f);exact cB y.drew h1)
   (λj f=>Ns _ X) (λj f=>Db _) (λv hv=>hx1 v (List.mem_of_mem_drop hv))
 rw[<-B,Sw l r K (by rw[XT,Array.length_toList,p];omega) hi (by rw[List.take_take,Nat.min_eq_left X];exact ai)]at S;have lW:Qn (N3.ownsRow base 118 2 (Z (O (aD (M (H w)) 0)) (cap+1) G) (cap+1) (xs.take (i*2)++[l,r]++xs.drop (i*2))/\Bw w N3):=⟨S,by rw[B];exact y.drew.trans ((Kept.setCells (s:=λb=>b<M (H w)) (λh=>Nat.lt_irrefl _ h) _ _ _).below (by exact y.size) (λ_ h=>h))⟩;have aF:G<=9223372036854775807:=by unfold maxLen at P;omega
 have aH:¬(G=i):=X;have aG:¬(G=i+1):=X;have aI:¬(cap=i):=X;have aJ:IntKind.i64.wrap ((i:Int)+1)=(i:Int)+1:=by rw[IntKind.wrap_i64];omega
 have aK:(0:Int)<=(i:Int)+1:=X;have aL:(i:Int)+1<=(cap:Int)+1:=X;have aM:((i:Int)+1).toNat=i+1:=X;have aN:(i:Int)<=(cap:Int):=X;clear hown Q t ak S C k p ai z A B aj q y af rH Ns aB JO Db a hvb Wy R ah K hx1 aC D W ax aa ae hG L ag aA P;go_enter func86,ntmps86;go_wp2_with (first
  |(at_builtin;refine Lib.wpList_append_run _ rfl _ _ _ _ rfl _ _ rfl rfl _ _ m ?_)
  |(at_builtin;refine wpList_copy_runI _ rfl _ _ 92 91 rfl _ _ rfl rfl (au _ _) ?_))
 go_region_law (refine step_copy_runI rfl _ _ 92 92 rfl _ _ (by simp[Act.eval,Act.put]) (by simp[Act.eval,Act.put]) (av _ _ _) ?_);go_wp2;go_ret;exact⟨G,rfl,lW.o⟩
theorem Wz{zs:Qy Qm}{m:Nat}(hx:N xs=(i+1+m)*2) :
  ((xs.take (i*2)++xs.drop ((i+1)*2)++xs.drop (i*2+N (xs.drop ((i+1)*2)))).take ((i+m)*2)++zs++(xs.take (i*2)++xs.drop ((i+1)*2)++xs.drop (i*2+N (xs.drop ((i+1)*2)))).drop ((i+m)*2+N zs)).take ((i+m)*2)=xs.take (i*2)++xs.drop ((i+1)*2):=by have a:N (xs.take (i*2)++xs.drop ((i+1)*2))=(i+m)*2:=Qb;rw[List.take_left' a,X6 (xs.take (i*2)++xs.drop ((i+1)*2)) zs,List.take_left' a]
def uP(ag:Qy bB)(i:Nat):(ag.flatMap dG).take (i*2)=(ag.take i).flatMap dG:=by
 induction ag generalizing i with
 |nil=>simp
 |cons t ag ih =>
  cases i with
  |zero=>simp
  |succ i =>
   rw[List.take_succ_cons,XE,XE,<-ih i];show (dG t++_).take _=_;rw[show (i+1)*2=N (dG t)+i*2 by show _=2+_;omega,List.take_length_add_append]
def uQ(ag:Qy bB)(i:Nat):(ag.flatMap dG).drop (i*2)=(ag.drop i).flatMap dG:=by
 induction ag generalizing i with
 |nil=>simp
 |cons t ag ih =>
  cases i with
  |zero=>simp
  |succ i =>
   rw[List.drop_succ_cons,XE,<-ih i];show (dG t++_).drop _=_;rw[show (i+1)*2=N (dG t)+i*2 by show _=2+_;omega,List.drop_length_add_append]
def Bl(ag:Qy bB):∀u∈ag.flatMap dG,u.oneCell' = true:=by intro u a;obtain⟨t,_,h⟩:=X5.1 a;unfold dG at h;simp at h;rcases h with rfl|rfl <;> rfl
def WA(ag:Qy bB)(i:Nat)(t:bB):(ag.flatMap dG).take (i*2)++dG t++(ag.flatMap dG).drop (i*2)=(ag.take i++t::ag.drop i).flatMap dG:=by rw[uP,uQ,ZF,XE,X6]
def WB(ag:Qy bB)(i:Nat):(ag.flatMap dG).take (i*2)++(ag.flatMap dG).drop ((i+1)*2)=(ag.eraseIdx i).flatMap dG:=by rw[uP,uQ,<-ZF,List.eraseIdx_eq_take_drop_succ]
theorem JR(base i vb:Nat)(v:Qm)(ag:Qy bB)(t:bB)(w:U)(hown:w.ownsRow base 118 2 v (N ag) (ag.flatMap dG))(hb:base<=M (H w))(hl:N ag<=1000000)(hi:i<=N ag)(hvb:GB w vb 118 #[I Qq (t.1:Int),I Qq (t.2:Int)])(hne:v.ownBlock≠O vb) :
  Calls V 86 #[v,I J (i:Int),Z (O (aD vb 0)) 1 1] w λe w'=>
   ∃f,e=Qv f/\w'.ownsRow base 118 2 f (N (ag.take i++t::ag.drop i)) ((ag.take i++t::ag.drop i).flatMap dG)/\Kept (λb=>v.ownBlock≠O b) w w'/\(f.ownBlock=v.ownBlock∨∃g,f.ownBlock=O g/\M (H w)<=g):=by
 have d:N (ag.take i++t::ag.drop i)=N ag+1:=by grind
 rw[d,<-WA];by_cases l:i=N ag
 .subst l;have m:(ag.flatMap dG).take (N ag*2)++dG t++(ag.flatMap dG).drop (N ag*2)=ag.flatMap dG++[I Qq (t.1:Int),I Qq (t.2:Int)]:=by rw[uP,uQ,ZJ,List.drop_length];simp[dG]
  rw[m];exact Nr base (N ag) vb v _ _ _ w hown hb hl rfl rfl hvb
 .rcases hown.2 with⟨_,h0⟩|⟨g,cap,cur,rfl,-⟩
  .omega
  by_cases a:N ag+1<=cap
  .refine(FU base g (N ag) cap i vb _ _ _ w hown (Bl ag) rfl rfl X a hvb (λe=>hne (by rw[e];rfl))).mono ?_;rintro e w' ⟨rfl,j,k⟩;exact⟨_,rfl,j,k.mono (λb _ h e=>h (by rw[e];rfl)),.inl rfl⟩
  .refine(JQ base g (N ag) cap i vb _ _ _ w hown hb hl (Bl ag) rfl rfl X X hvb).mono ?_;rintro e w' ⟨G,rfl,j,k⟩;exact⟨_,rfl,j,ZP k (λ_ h _=>h),.inr ⟨_,rfl,Za _⟩⟩
theorem JS(base g cap i m:Nat)(xs:Qy Qm)(w:U)(hown:w.ownsRow base 118 2 (Z (O (aD g 0)) (i+1+m) cap) (i+1+m) xs)(hx1:∀u∈xs,u.oneCell' = T)(hm:i+1+m<=1000000) :
  Calls V 102 #[Z (O (aD g 0)) (i+1+m) cap,I J (i:Int),I J ((i:Int)+1)] w λe w'=>
   e=Qv (Z (O (aD g 0)) (i+m) cap)/\w'.ownsRow base 118 2 (Z (O (aD g 0)) (i+m) cap) (i+m) (xs.take (i*2)++xs.drop ((i+1)*2))/\Kept (λb=>b≠g) w w':=by
 obtain⟨i0,P,ae,af,az⟩:=Xl Tryz.wY;obtain⟨aA,Q,l,n,R,ag,ah⟩:=jL hown;have D:=hown.1;have ai:cap<=9223372036854775807:=by unfold maxLen at Q;omega
 obtain⟨a,d⟩:=eY (xs.drop ((i+1)*2));have f:N a=m*2:=Qb;obtain⟨A,hA,S⟩:∃A:Addr,(if cap=i+1 then O ((aD g 0):Addr) else O (aD g ((i+1)*2)))=O A/\Qn (∀t u,a[t]? = O u->w.drew.cell? (A.add t)=O u):=by
  by_cases h:cap=i+1
  .refine⟨(aD g 0),by simp[h],λt u y=>?_⟩
   grind
  .refine⟨(aD g ((i+1)*2)),by simp[h],λt u y=>?_⟩;rw[d,List.getElem?_drop]at y;rw[addr_add];exact l _ _ y
 have s1:=Zh f;have s2:Qn (∀u∈a,u.oneCell' = T):=λu y=>Qb;have s3:Qn (∀t,t<N a->(Qp w.drew (aD g (0+i*2+t))).isSome=T/\w.drew.frozen? (aD g (0+i*2+t))=F):=λt ht=>by rw[f]at ht;rw[ZC];exact⟨n _ X,R _⟩
 obtain⟨W1,q⟩:=eY (w.drew.setCells g (0+i*2) a);have k:w.drew.ownsRow base 118 2 (Z (O (aD g 0)) (i+1+m) cap) (i+1+m) xs:=hown;have p:=fF (v:=Z (O (aD g 0)) (i+1+m) cap) (g:=g) rfl a (0+i*2) k (by rw[f];omega);rw[<-q,ZC]at p;have G:Kept (λb=>b≠g) w W1:=by rw[q];exact(Kept.adv w).trans (Kept.setCells (λh=>h rfl) _ _ _)
 obtain⟨_,_,_,rH,JO,_,_⟩:=jL p;have K:∀W,(zeroValue 118).run V W=.ok (Qu #[I Qq 0,I Qq 0]) W:=λW=>by simp[zeroValue,typeInfo,P,ae]
 obtain⟨zs,r⟩:=eY ([I Qq 0,I Qq 0]:Qy Qm);have L:N zs=2:=by rw[r];rfl
 have aa:∀ty c,(Builtin.clear_ #[92] ty #[Z (O (aD g ((i+m)*2))) 1 c]).run V W1=.ok (.tuple #[]) (W1.setCells g ((i+m)*2) zs):=λty c=>
  Nb W1 92 118 ty _ underlying92 K zs (by rw[r];kernel_rfl) (λu y=>by rw[r]at y;simp at y;rcases y with rfl|rfl <;> rfl) g ((i+m)*2) c (λj hj=>rH _ X) (λj hj=>JO _)
 obtain⟨W2,C⟩:=eY (W1.setCells g ((i+m)*2) zs);have z:=fF (v:=.slice (O (aD g 0)) (i+1+m) cap) (g:=g) rfl zs ((i+m)*2) p (by rw[L];omega);rw[<-C]at z aa;have B:=abq z (m:=i+m) X;rw[d,Wz D]at B;have lW:Qn (W2.ownsRow base 118 2 (.slice (O (aD g 0)) (i+m) cap) (i+m) (xs.take (i*2)++xs.drop ((i+1)*2))/\Kept (λb=>b≠g) w W2):=⟨B,G.trans (by rw[C];exact Kept.setCells (λh=>h rfl) _ _ _)⟩;have HW:=Zh q;have aj:i+1+m-(i+1)=m:=X;have ak:i+1+m-(i+m)=1:=X;have au:i<=cap:=X;have av:i+1<=cap:=X;have ax:(0:Int)<=(i:Int)+1:=X;have ay:((i:Int)+1).toNat=i+1:=X;have qy:(i:Int)+1<=(i:Int)+1+(m:Int):=X;clear hown k p z B G q C n rH R JO l f d D hx1 K r L ag ah Q;go_enter func102,ntmps102;go_wp2_with fail;go_region_law (refine step_append_room rfl (.tmp 22) (.tmp 25) 92 rfl 118 i0 2 underlying92 P af g 0 i cap (by simp[Act.eval,Act.put]) A m (cap-(i+1)) a (by simp[Act.eval,Act.put]) s1.o S.o s2.o X s3.o ?_;rw[<-HW.o]);go_wp2;go_ret;exact⟨rfl,lW.o⟩
def sI(h:w.ownsRow base e 2 v (N ag) (ag.flatMap dG))(hl:N ag<=1000000):∃b cap,v=Z b (N ag) cap/\kM w b ag:=by
 rcases XF h with⟨rfl,h0⟩|⟨g,cap,rfl,_,_,hc⟩
 .have:=Zk h0;subst this;exact⟨none,0,rfl,Qa,λi a=>absurd a Qa⟩
 .refine⟨_,cap,rfl,X,λi a=>⟨g,0,rfl,?_,?_⟩⟩
  .rw[ZC];exact hc (i*2) _ (by have:=XD dG 2 (λ_=>rfl) (0,0) ag i 0 a X;rw[XH]at this;rw[this];rfl)
  .rw[ZC];exact hc (i*2+1) _ (by rw[XD dG 2 (λ_=>rfl) (0,0) ag i 1 a X];rfl)
def kM.aV{A B:U}{Fq:Qz}{ao:PN}{ag:Qy bB}(h:kM A ao ag)(hk:Kept Fq A B)(hF:∀a,ao=O a->Fq a.block):kM B ao ag:=
 ⟨h.1,λi j=>by
  obtain⟨b,d,rfl,f,g⟩:=h.2 i j;have e:=hk.block b (ZW f) (hF _ rfl);exact⟨b,d,rfl,by rw[ZX e];exact f,by rw[ZX e];exact g⟩⟩
def FY{rk:Nat->Int}:∀(l ag:Qy bB),(∀a∈ag,a.1<32/\a.2<32)->(∀a∈l,a.1<32/\a.2<32)->(∀a∈l.foldl (iG rk) ag,a.1<32/\a.2<32)/\N (l.foldl (iG rk) ag)<=N ag+N l
 |[],_,h,_=>⟨h,Qa⟩
 |t::l,ag,h,hl=>by
  have:=FY (rk:=rk) l (iG rk ag t) (λa ha=>by
   rcases xe ha with ha|rfl
   .exact h a ha
   .exact hl a XL) (λa ha=>hl a (XJ _ ha))
  refine⟨this.1,ZN this.2 ?_⟩;have:=Bq rk ag t;simp only[ZK];omega
def WI{t:bB}(h:ni rk ag t=T):iG rk ag t=ag:=by unfold iG;rw[Zb h]
def abM{t:bB}(h:ni rk ag t=F):iG rk ag t=ag.take (ng rk ag t)++t::ag.drop (ng rk ag t):=by unfold iG;rw[h];rfl
def Nt(lt:Nat->Bool):∀f i j,i<=j->Sv lt f i j<=j
 |0,_,_,h=>h
 |f+1,i,j,h=>by
  show (if i<j then _ else _)<=_;split
  .split
   .exact Nt lt f _ _ X
   .exact ZN (Nt lt f _ _ X) X
  .exact h
def WJ(rk:Nat->Int)(ag:Qy bB)(t:bB):ng rk ag t<=N ag:=Nt _ _ _ _ (ZB _)
theorem fQ{sz:Nat}{G:Nat}{c:Array Qm}(h:w.ownsRow base e sz v n xs)(hg:GB w G t c)(hne:e≠t):v.ownBlock≠O G:=λd=>by obtain⟨b,f⟩:=lg h d;have a:w.heap[G]? = O (Qt c t (0,0)):=hg;grind
theorem Pj{wr w1 w4:U}(hsz:14<arr.size)(hg:GB w4 sb TS (arr.setIfInBounds 14 v))(ho:w4.ownsRow base TT 2 v' n xs)(hk:Kept (λb=>b≠sb/\av.ownBlock≠O b) w wr)(h1:Bw wr w1)(h2:Bw w1 w2)(h3:Bw w2 w3)(h4:Kept (λb=>v.ownBlock≠O b) w3 w4)(hv:v.ownBlock=av.ownBlock∨∃g,v.ownBlock=O g/\M (H w)<=g)(hv':v'.ownBlock=v.ownBlock∨∃g,v'.ownBlock=O g/\M (H w3)<=g)(hne:TT≠TS) :
  GB (Qo w4 (aD sb 14) v') sb TS (arr.setIfInBounds 14 v')/\(Qo w4 (aD sb 14) v').ownsRow base TT 2 v' n xs/\Kept (λb=>b≠sb/\av.ownBlock≠O b) w (Qo w4 (aD sb 14) v')/\(v'.ownBlock=av.ownBlock∨∃g,v'.ownBlock=O g/\M (H w)<=g):=by
 have i:=ZN hk.size (ZN h1.size (ZN h2.size h3.size));have d:Kept (λb=>b<M (H wr)) wr w3:=(ZP h1 (λ_ h _=>h)).trans' ((ZP h2 (λ_ h _=>h)).trans' (ZP h3 (λ_ h _=>h)) (λb a _=>a)) (λb a _=>(Zy a h1.size:b<M (H w1)));have f:=(hk.trans' d (λb a _=>Zy a hk.size)).trans' h4 (λb a h e=>by
  grind)
 refine⟨?_,?_,f.trans (Xd _ _ _ (λh=>h.1 rfl)),?_⟩
 .have:=hg.set 14 v'
  rwa [Jn]at this
 .exact Xf ho (s:=λb=>b≠sb) (Xd _ _ _ (λh=>h rfl)) (λg e h=>fQ ho hg hne (h ▸ e))
 grind
theorem JZ(sb base:Nat)(arr:Array Qm)(av:Qm)(ag ts:Qy bB)(ta:PN)(tc:Nat)(w:U)(hg:GB w sb 95 arr)(h14:arr[14]? = O av)(hown:w.ownsRow base 118 2 av (N ag) (ag.flatMap dG))(hb:base<=M (H w))(hts:kM w ta ts)(abN:∀a,ta=O a->a.block≠sb/\av.ownBlock≠O a.block)(hl:N ag+N ts<=1000000)(ha32:∀a∈ag,a.1<32/\a.2<32)(afI:∀a∈ts,a.1<32/\a.2<32) :
  Calls V 46 #[Y (O (aD sb 14)),Z ta (N ts) tc] w λe w'=>(∃v,e=Qv v)/\∃ai,GB w' sb 95 (arr.setIfInBounds 14 ai)/\w'.ownsRow base 118 2 ai (N (ts.foldl (iG aZ) ag)) ((ts.foldl (iG aZ) ag).flatMap dG)/\Kept (λb=>b≠sb/\av.ownBlock≠O b) w w'/\(ai.ownBlock=av.ownBlock∨∃g,ai.ownBlock=O g/\M (H w)<=g):=by
 obtain⟨JD,aY⟩:=aS hts abN;obtain⟨d,az⟩:=eY (λk=>(ts.take k).foldl (iG aZ) ag:Nat->Qy bB);have aO:Qn (∀k,k<N ts->d (k+1)=iG aZ (d k) (E ts k (0,0))):=λk hk=>by rw[az];exact gF _ ag ts (0,0) hk
 have zJ:Qn (∀k,(∀a∈d k,a.1<32/\a.2<32)/\N (d k)<=1000000):=λk=>by have:=FY (rk:=aZ) (ts.take k) ag ha32 (λa ha=>afI a (List.mem_of_mem_take ha));grind
 have HE:Qn (d (N ts)=ts.foldl (iG aZ) ag):=by grind
 have aP:Qn (∀k,k<N ts->(E ts k (0,0)).1<32/\(E ts k (0,0)).2<32):=λk hk=>afI _ (Xy hk);have aH:Qn (GB w sb 95 (arr.setIfInBounds 14 av)/\w.ownsRow base 118 2 av (N (d 0)) ((d 0).flatMap dG)):=by
  refine⟨?_,by rw[az];exact hown⟩;have:arr.setIfInBounds 14 av=arr:=by grind
  rw[this];exact hg
 obtain⟨D7,yB⟩:=aS ((ZV.1 h14).1) hb;have bA:N ts<=1000000:=X;clear hts abN az ha32 afI hg h14 hown hl hb;generalize ts.foldl (iG aZ) ag=R at*;go_enter func46,ntmps46;go_wp2;go_loopw [10] (λiv wr=>∃(k:Nat) (B:Qm),k<=N ts/\iv=I J (k:Int)/\Qn (GB wr sb 95 (arr.setIfInBounds 14 B))/\Qn (wr.ownsRow base 118 2 B (N (d k)) ((d k).flatMap dG))/\Qn (Kept (λb=>b≠sb/\av.ownBlock≠O b) w wr)/\Qn (B.ownBlock=av.ownBlock∨∃g,B.ownBlock=O g/\M (H w)<=g)) (λiv _=>N ts-(intOf iv).toNat)
 case atStart=>exact⟨0,av,ZB _,rfl,aH.o.1,aH.o.2,ZO _ _,.inl rfl⟩
 case round=>
  obtain⟨k,B,hk,rfl,HG,HO,HK,HV⟩:=hrel;by_cases aG:k<N ts
  .obtain⟨tb,bD,abN,aA,aB⟩:=(JD.o.aV HK.o (λa ha=>aY.o a ha)).2 k aG;subst abN;have FL:=aO.o k aG;have aj:=aP.o k aG;have qJ:=zJ.o k;obtain⟨m,n,bf,Va⟩:=sI HO.o qJ.2;subst bf;generalize bz:E ts k (0,0)=t at*;obtain⟨r,u⟩:=t;simp only at aA aB aj;obtain⟨w1,bg,q,aC⟩:=bC wr #[I Qq (r:Int),I Qq (u:Int)] 118;obtain⟨b0,b1⟩:=aC.k2;have P:Qp w1 (aD sb 14)=O (Z m (N (d k)) n):=by refine cB q ?_;rw[HG.o.cell 14,Jk,Zb rfl,Zb D7.o]
   have Q:Qn (∀x,Bw w1 x->Cb 84 #[Z m (N (d k)) n,Qu #[I Qq (r:Int),I Qq (u:Int)],.func (.func 85) #[] #[]] x (.tuple #[I J (ng aZ (d k) (r,u):Int),Qr (ni aZ (d k) (r,u))])):=λx hx=>Dc m n (d k) (r,u) x (Va.below (q.trans (hx.mono q.size))) qJ.1 aj;obtain⟨Sz,qO,aL,af⟩:=sU (XM HO.o q) (HG.o.keep (ZP (s:=λb=>b<M (H wr)) q (λ_ h _=>h)) HG.o.lt) aC q;have W:Qn (∀x vb,x.ownsRow base 118 2 (Z m (N (d k)) n) (N (d k)) ((d k).flatMap dG)->base<=M (H x)->GB x vb 118 #[I Qq (r:Int),I Qq (u:Int)]->(Value.slice m (N (d k)) n).ownBlock≠O vb->ni aZ (d k) (r,u)=F->Calls V 86 #[Z m (N (d k)) n,I J (ng aZ (d k) (r,u):Int),Z (O (aD vb 0)) 1 1] x λe w'=>∃v',e=Qv v'/\w'.ownsRow base 118 2 v' (N (d (k+1))) ((d (k+1)).flatMap dG)/\Kept (λb=>(Value.slice m (N (d k)) n).ownBlock≠O b) x w'/\(v'.ownBlock=(Value.slice m (N (d k)) n).ownBlock∨∃g,v'.ownBlock=O g/\M (H x)<=g)):=λx vb ho hb hv bu ht=>by rw[FL,abM ht];exact JR base _ vb _ (d k) (r,u) x ho hb qJ.2 (WJ _ _ _) hv bu
   have aQ:Qn (ni aZ (d k) (r,u)=T->d (k+1)=d k):=λh=>by rw[FL];exact WI h
   have ak:=Zh (fQ HO.o HG.o Qc);have aR:=qJ.2;generalize ng aZ (d k) (r,u)=FA,ni aZ (d k) (r,u)=TB at*;obtain⟨L,aF⟩:=eY (N (d k));have vC:=Zh aF.symm;rw[<-aF]at P Q W ak Sz qO HV aR HG HO;clear q aC Va qJ FL aj bz aF;obtain⟨wq,bn⟩:=eY (wr);subst bn;go_wp2_with fail;clear bg;refine wH w1 λf=>?_;refine wA4 0 f ?_;refine wR 4 λK i=>?_;go_simp;refine XX (Q.o _ f) ?_;rintro e C ⟨rfl,hb⟩;refine oT i f hb λf=>?_;clear i K;refine wA4 5 f ?_;refine wR 9 λK i=>?_;go_simp;refine i.o _ _ f λf=>?_;clear i K;refine wD ?_;try simp only[pV]
   try simp only[pV]
   have y:=Zh f;clear f
   cases TB with
   |true =>
    have aT:=Zh (aQ.o rfl);have z:Qn (GB C sb 95 (arr.setIfInBounds 14 (Z m L n))/\C.ownsRow base 118 2 (Z m L n) (N (d (k+1))) ((d (k+1)).flatMap dG)/\Kept (λb=>b≠sb/\av.ownBlock≠O b) w C):=⟨qO.o.keep (ZP (s:=λb=>b<M (H w1)) y.o (λ_ h _=>h)) qO.o.lt,by rw[aT.o,vC.o];exact XM Sz.o y.o,HK.o.trans ((ZP af.o (λ_ h _=>h)).trans (ZP y.o (λ_ h _=>h)))⟩;clear b0 b1 P Q W aA aB;go_wp2;go_roundw
    case rel=>exact⟨k+1,Z m L n,X,Qe,z.o.1,z.o.2.1,z.o.2.2,HV.o⟩
    case measure=>exact XK
   |false =>
    have A:=y.o;have au:=cB A P;obtain⟨bq,aM,ah⟩:=jX (aL.o.keep (ZP (s:=λb=>b<M (H w1)) A (λ_ h _=>h)) aL.o.lt) (XM Sz.o A) (qO.o.keep (ZP (s:=λb=>b<M (H w1)) A (λ_ h _=>h)) qO.o.lt);have aU:Qn ((Value.slice m L n).ownBlock≠O (M (H wq))):=λe=>Qk ((Xg HO.o e).2);have aW:Qn (M (H wq)≠sb):=λe=>Qk HG.o.lt;have aI:Qp C.drew (aD sb 14)=O (Z m L n):=au;obtain⟨w3,aN⟩:=eX (C.drew.alloc (Qt #[I Qq (r:Int),I Qq (u:Int)] 118));have D:Bw C w3:=by rw[<-aN];exact((Q9 _ _).drew).alloc (Za _) _
    have aJ:=cB D au;have p:=Zh D;have ae:=W.o w3 (M (H C)) (XM aM.o D) (ZN yB.o (ZN HK.o.size (ZN af.o.size (ZN A.size D.size)))) (by rw[<-aN];exact lT C.drew _) (λe=>Qk ((Xg aM.o e).2)) rfl;clear A D b0 b1 P Q W aA aB au;go_wp2_with fail;refine Zo (S:=λx=>Kept (λb=>b≠sb/\(Value.slice m L n).ownBlock≠O b) C x) Qd (ZP ((Q9 (M (H C)) C).drew) (λ_ hl _=>hl)) (λf=>?_);refine wt 0 (Y (O (aD sb 14))) f ?_;refine wt 1 (Y (O (aD sb 14))) f ?_;refine wt 2 (Y (O (aD sb 14))) f ?_;refine wt 4 (I J (FA:Int)) f ?_;refine wT 5 (Qu #[I Qq (r:Int),I Qq (u:Int)]) f (λx hx=>?_) ?_
    .have aX:=bq.o.keep hx (show M (H wq)≠sb/\_ from ⟨aW.o,aU.o⟩);obtain⟨e0,e1⟩:=aX.k2;go_simp
    refine wJ 3 6 (λK i=>?_) λK i=>?_
    .go_simp;refine i.o _ _ f λf=>?_
     clear i K;refine wR 6 λK i=>?_;go_simp;refine i.o _ _ (ZP p.o (λ_ h _=>h)) (λf=>?_);clear i K;refine wR 7 λK i=>?_;go_simp;refine XX ae ?_;rintro e w4 ⟨v',rfl,yD,l,G⟩;obtain⟨za,zm,zc,rfl⟩:=Xh yD;have Nu:Kept (λb=>b≠sb/\(Value.slice m L n).ownBlock≠O b) C w4:=(ZP p.o (λ_ h _=>h)).trans (l.mono (λb _ h=>h.2));refine i.o _ _ Nu λf=>?_;clear i K;refine wt 8 (Y (O (aD sb 14))) f ?_;have j:=ah.o.keep ((ZP (s:=λb=>b=sb) p.o (λb _ h=>by rw[h];exact ah.o.lt)).trans (l.mono (λb _ h e=>ak.o (h ▸ e)))) rfl;have ax:=j.frozen 14;have ay:Qp w4 (aD sb 14)=O (Z m L n):=by rw[j.cell 14,Jk,Zb rfl,Zb D7.o]
     refine wR 9 λK i=>?_;go_simp;refine i.o _ _ (Nu.trans (Xd _ _ _ (λh=>h.1 rfl))) (λf=>?_);clear i K;refine wD ?_;try simp only[pV]
     try simp only[pV]
     have z:=Zh (Pj D7.o j yD HK.o af.o y.o p.o l HV.o G Qc);clear f ax ay j yD l G Nu aI aJ ae;go_wp2;go_roundw
     case rel=>exact⟨k+1,Z za zm zc,X,Qe,z.o.1,z.o.2.1,z.o.2.2.1,z.o.2.2.2⟩
     case measure=>exact XK
    .go_simp;refine i.o _ _ (ZP p.o (λ_ h _=>h)) (λf=>?_);clear i K;refine wR 3 λK i=>?_
     go_simp;refine i.o _ _ f λf=>?_;clear i K;refine wR 7 λK i=>?_;go_simp;refine XX ae ?_;rintro e w4 ⟨v',rfl,yD,l,G⟩;obtain⟨za,zm,zc,rfl⟩:=Xh yD;have Nu:Kept (λb=>b≠sb/\(Value.slice m L n).ownBlock≠O b) C w4:=(ZP p.o (λ_ h _=>h)).trans (l.mono (λb _ h=>h.2));refine i.o _ _ Nu λf=>?_;clear i K;refine wt 8 (Y (O (aD sb 14))) f ?_;have j:=ah.o.keep ((ZP (s:=λb=>b=sb) p.o (λb _ h=>by rw[h];exact ah.o.lt)).trans (l.mono (λb _ h e=>ak.o (h ▸ e)))) rfl;have ax:=j.frozen 14;have ay:Qp w4 (aD sb 14)=O (Z m L n):=by rw[j.cell 14,Jk,Zb rfl,Zb D7.o]
     refine wR 9 λK i=>?_;go_simp;refine i.o _ _ (Nu.trans (Xd _ _ _ (λh=>h.1 rfl))) (λf=>?_);clear i K;refine wD ?_;try simp only[pV]
     try simp only[pV]
     have z:=Zh (Pj D7.o j yD HK.o af.o y.o p.o l HV.o G Qc);clear f ax ay j yD l G Nu aI aJ ae;go_wp2;go_roundw
     case rel=>exact⟨k+1,Z za zm zc,X,Qe,z.o.1,z.o.2.1,z.o.2.2.1,z.o.2.2.2⟩
     case measure=>exact XK
  .have aK:N ts=k:=X
   rw[<-aK,HE.o]at HO;clear aK;go_wp2;go_end0;exact⟨⟨_,rfl⟩,B,HG.o,HO.o,HK.o,HV.o⟩
def WU(hg:GB w3 sb TS (arr.setIfInBounds 14 av))(ho:w3.ownsRow base TT 2 v' n xs)(h2:Bw w w2)(h4:Kept (λb=>av.ownBlock≠O b) w2 w3)(hne:TT≠TS) :
  GB (Qo w3 (aD sb 14) v') sb TS (arr.setIfInBounds 14 v')/\(Qo w3 (aD sb 14) v').ownsRow base TT 2 v' n xs/\Kept (λb=>b≠sb/\av.ownBlock≠O b) w (Qo w3 (aD sb 14) v'):=by
 refine⟨?_,?_,?_⟩
 .have:=hg.set 14 v'
  rwa [Jn]at this
 .exact Xf ho (s:=λb=>b≠sb) (Xd _ _ _ (λh=>h rfl)) (λg e h=>fQ ho hg hne (h ▸ e))
 .exact((ZP h2 (λ_ h _=>h)).trans (h4.mono (λb _ h=>h.2))).trans (Xd _ _ _ (λh=>h.1 rfl))
def WV{W:U}{B:Nat}{u:Qm}(h:GB W B 118 #[v,u]):(loadVar 118 (aD B 0)).run V W=.ok (Qu #[v,u]) W:=by obtain⟨a,b⟩:=h.k2;simp[go_sem,a,b]
theorem Ta(sb base i:Nat)(arr:Array Qm)(av:Qm)(ag:Qy bB)(w:U)(hg:GB w sb 95 arr)(h14:arr[14]? = O av)(hown:w.ownsRow base 118 2 av (N ag) (ag.flatMap dG))(hl:N ag<=1000000)(hi:i<N ag) :
  Calls V 61 #[Y (O (aD sb 14)),I J (i:Int)] w λe w'=>e=Qv (Qu #[I Qq ((E ag i (0,0)).1:Int),I Qq ((E ag i (0,0)).2:Int)])/\∃B,GB w' sb 95 (arr.setIfInBounds 14 B)/\w'.ownsRow base 118 2 B (N (ag.eraseIdx i)) ((ag.eraseIdx i).flatMap dG)/\Kept (λb=>b≠sb/\av.ownBlock≠O b) w w'/\B.ownBlock=av.ownBlock:=by
 obtain⟨W,az⟩:=ZV.1 h14;have t:arr.setIfInBounds 14 av=arr:=by grind
 have D:GB w sb 95 (arr.setIfInBounds 14 av):=by rw[t];exact hg
 obtain⟨aa,C,rfl,Va⟩:=sI hown hl;obtain⟨tb,aJ,z,ae,af⟩:=Va.2 i hi;rcases hown.2 with⟨_,h0⟩|⟨g,cap,cur,hs,hbg,-⟩
 .omega
 injection hs with hs1 _ hs2;subst hs1 hs2;injection z with z;injection z with apX apY;subst apX apY;obtain⟨m,hm⟩:∃m,N ag=i+1+m:=⟨N ag-(i+1),X⟩;have G:N (ag.eraseIdx i)=i+m:=Qb;have au:=Zh (fQ hown hg Qc);have K:=(hg.cell 14).trans h14;have L:=(Xg hown rfl).2;obtain⟨w1,aA,f,q⟩:=bC w #[I Qq 0,I Qq 0] 118;have v:=cB f K;rw[hm]at v;obtain⟨e0,e1⟩:=jf f ae af;rw[ZC]at e0 e1;obtain⟨tl,ah⟩:=eY ((E ag i (0,0)).1);obtain⟨tr,ai⟩:=eY ((E ag i (0,0)).2);rw[<-ah]at e0 ⊢;rw[<-ai]at e1 ⊢;obtain⟨w2,aB,r,aj⟩:=bC w1 #[I Qq (tl:Int),I Qq (tr:Int)] 118;have Df:=f.trans (r.mono f.size);have ax:=cB r v;have a:=XM hown Df;have y:=JS base g C i m (ag.flatMap dG) w2 (by rw[hm]at a;exact a) (Bl ag) X;rw[WB]at y;have u:=q.lt;have P:=hg.lt;obtain⟨aC,aF,aG,aH,D7⟩:=EI (D.keep (ZP (s:=λb=>b<M (H w)) Df (λ_ h _=>h)) hg.lt) aj (q.keep (ZP (s:=λb=>b<M (H w1)) r (λ_ h _=>h)) q.lt) Df W;have Lp:Qn (g<M (H w)):=L;have k:Qn (sb<M (H w)/\M (H w)<M (H w1)):=⟨P,u⟩;rw[G];have h1:(i:Int)<(i:Int)+1+(m:Int):=X;have aI:wrap64 ((i:Int)+1)=(i:Int)+1:=Qg;clear f r Df q aj hown a Va ae af hm G hg D t az h14 K W hi hl L u P ah ai hbg;generalize (ag.eraseIdx i).flatMap dG=FX at*;go_enter func61,ntmps61;go_wp2_with fail;refine y.mono ?_;rintro e w3 ⟨rfl,ak,j⟩;have l:=aC.o.keep j (λe=>au.o (by rw[e];rfl));have c3:Qp w3 (aD sb 14)=O (Z (O (aD g 0)) (N ag) C):=by rw[l.cell 14,Jk,Zb rfl,Zb D7.o]
 have f3:=l.frozen 14;clear y aA aB v e0 e1 ax;go_upto_region 3 with fail;obtain⟨w4,A⟩:=eY (Qo w3 (aD sb 14) (Z (O (aD g 0)) (i+m) C));have nW:Kept (λb=>b≠sb) w3 w4:=by rw[A];exact Xd _ _ _ (λh=>h rfl)
 have Q:=(aF.o.keep j (Ql Lp.o k.o)).keep nW (Qk k.o);have d:=(aG.o.keep j (Qk Lp.o)).keep nW (Qk k.o);have R:=WU l ak aH.o (j.mono (λb _ h e=>h (by rw[e];rfl))) (by decide:118≠95);rw[<-A]at R ⊢;obtain⟨x0,x1⟩:=Q.k2;obtain⟨y0,y1⟩:=d.k2;have z0:=d.frozen 0;have z1:=d.frozen 1;obtain⟨w5,uC⟩:=eY (Qo (Qo w4 (aD (M (H w)) 0) (I Qq (tl:Int))) (aD (M (H w)) 1) (I Qq (tr:Int)));have n:Kept (λb=>b≠M (H w)) w4 w5:=by rw[uC];exact(Xd _ _ _ (λh=>h rfl)).trans (Xd _ _ _ (λh=>h rfl))
 have S:GB w5 (M (H w)) 118 #[I Qq (tl:Int),I Qq (tr:Int)]:=by rw[uC];exact(d.set 0 _).set 1 _
 have Fs:=Zh (WV S);have HF:Qn (GB w5 sb 95 (arr.setIfInBounds 14 (Z (O (aD g 0)) (i+m) C))/\w5.ownsRow base 118 2 (Z (O (aD g 0)) (i+m) C) (i+m) FX/\Kept (λb=>b≠sb/\(Value.slice (O (aD g 0)) (N ag) C).ownBlock≠O b) w w5):=⟨R.1.keep n (Qk k.o),Xf R.2.1 n (λg' e=>by have e2:g=g':=Option.some.inj e;have:=Lp.o;omega),R.2.2.trans' n (λb hb _=>Nat.ne_of_lt hb)⟩;have ay:=Zh uC;clear A uC Q d R nW n S j ak l c3 f3;go_wp2;rw[<-ay.o];exact X8 (rZ (p:=4) rfl rfl Fs.o) rfl ⟨rfl,_,HF.o.1,HF.o.2.1,HF.o.2.2,rfl⟩

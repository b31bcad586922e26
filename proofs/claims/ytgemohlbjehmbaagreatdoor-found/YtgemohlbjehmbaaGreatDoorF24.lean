import Derived.Test.YtgemohlbjehmbaaGreatDoorF21
set_option linter.all false
set_option maxRecDepth 100000
set_option maxHeartbeats 16000000
namespace Go.Proofs.Zz
open Go.RowKit Go.Shelf
variable {F:Nat->Prop} {w w':World} {o:ai} {v v':Value} {Tl:TypeId} {base:Nat} {os:List ai}
def bJ(s:Nat):Int:=((bB s).length:Int)
theorem yH(l r:Nat)(w:World) :
  Cb 93 #[.agg #[.int .u64 (l:Int),.int .u64 (r:Int)]] w (.bool (decide (r=0))):=by
 obtain⟨d,a⟩:∃ x,w.alloc (.cells #[.int .u64 (l:Int),.int .u64 (r:Int)] 122)=x:=⟨_,rfl⟩;have b:Hid (Bw w d):=by show Below _ _ _; rw[<- a]; exact fq _ _
 have e:d.cell? (aD w.heap.size 1)=some (.int .u64 (r:Int)):=by rw[<- a]; simp
 go_enter Tryz.func93,Tryz.ntmps93;go_wp2;go_ret;exact⟨Qd (by grind),b.o⟩
theorem EZ(a:Int)(w:World):Ce 150 #[.int .i64 a] w (.bool false):=by go_enter Tryz.func150,Tryz.ntmps150;go_wp2;go_ret;exact⟨Qd (by simp),rfl⟩
theorem E8(a:Nat)(w:World):Ce 152 #[.int .u64 (a:Int)] w (.bool false):=by go_enter Tryz.func152,Tryz.ntmps152;go_wp2;go_ret;exact⟨Qd (by simp),rfl⟩
theorem Ky(a b:Int)(w:World):Ce 125 #[.int .i64 a,.int .i64 b] w (.int .i64 (oV a b)):=by
 have l:=EZ a w;have m:=EZ b w;have n:Hid (oV a b=if a<b then -1 else if b<a then 1 else 0):=rfl;generalize oV a b=R at *;go_enter Tryz.func125,Tryz.ntmps125;go_wp2_with fail;refine l.mono ?_;rintro e p ⟨rfl,d⟩;have d:=d.symm;subst d;go_wp2_with fail;refine m.mono ?_;rintro e p ⟨rfl,d⟩;have d:=d.symm;subst d;by_cases f:a<b
 ·have g:Hid (R = -1):=by show _=_; rw[n.o,Qo f]
  have k:=Qv f;go_wp2;go_ret;exact⟨Qe (by rw[g.o]),rfl⟩
 ·by_cases i:b<a
  ·have g:Hid (R=1):=by grind
   have k:=ZW f;have j:=Qv i;go_wp2;go_ret;exact⟨Qe (by rw[g.o]),rfl⟩
  ·have g:Hid (R=0):=by grind
   have k:=ZW f;have j:=ZW i;go_wp2;go_ret;exact⟨Qe (by rw[g.o]),rfl⟩
theorem Ad(a b:Nat)(w:World):Ce 127 #[.int .u64 (a:Int),.int .u64 (b:Int)] w (.int .i64 (oV (a:Int) (b:Int))):=by
 have l:=E8 a w;have m:=E8 b w;have n:Hid (oV (a:Int) (b:Int)=if a<b then -1 else if b<a then 1 else 0):=by show _=_;unfold oV;simp only[Int.ofNat_lt]
 generalize oV (a:Int) (b:Int)=R at *;go_enter Tryz.func127,Tryz.ntmps127;go_wp2_with fail;refine l.mono ?_;rintro e p ⟨rfl,d⟩;have d:=d.symm;subst d;go_wp2_with fail;refine m.mono ?_;rintro e p ⟨rfl,d⟩;have d:=d.symm;subst d;by_cases f:a<b
 ·have g:Hid (R = -1):=by show _=_; rw[n.o,Qo f]
  have k:=Qv f;go_wp2;go_ret;exact⟨Qe (by rw[g.o]),rfl⟩
 ·by_cases i:b<a
  ·have g:Hid (R=1):=by grind
   have k:=ZW f;have j:=Qv i;go_wp2;go_ret;exact⟨Qe (by rw[g.o]),rfl⟩
  ·have g:Hid (R=0):=by grind
   have k:=ZW f;have j:=ZW i;go_wp2;go_ret;exact⟨Qe (by rw[g.o]),rfl⟩
theorem aoz(w:World):Ce 171 #[.int .u64 ((0:Nat):Int)] w (.int .i64 (bJ 0)):=by
 have a:Hid (bJ 0=0):=by show _=_; decide
 generalize bJ 0=R at *;go_enter Tryz.func171,Tryz.ntmps171;go_wp2;go_ret;exact⟨Qe (by rw[a.o]; kernel_rfl),rfl⟩
theorem aoA(w:World):Ce 171 #[.int .u64 ((1:Nat):Int)] w (.int .i64 (bJ 1)):=by
 have a:Hid (bJ 1=1):=by show _=_; decide
 generalize bJ 1=R at *;go_enter Tryz.func171,Tryz.ntmps171;go_wp2;go_ret;exact⟨Qe (by rw[a.o]; kernel_rfl),rfl⟩
theorem aoB(w:World):Ce 171 #[.int .u64 ((2:Nat):Int)] w (.int .i64 (bJ 2)):=by
 have a:Hid (bJ 2=1):=by show _=_; decide
 generalize bJ 2=R at *;go_enter Tryz.func171,Tryz.ntmps171;go_wp2;go_ret;exact⟨Qe (by rw[a.o]; kernel_rfl),rfl⟩
theorem aoC(w:World):Ce 171 #[.int .u64 ((3:Nat):Int)] w (.int .i64 (bJ 3)):=by
 have a:Hid (bJ 3=2):=by show _=_; decide
 generalize bJ 3=R at *;go_enter Tryz.func171,Tryz.ntmps171;go_wp2;go_ret;exact⟨Qe (by rw[a.o]; kernel_rfl),rfl⟩
theorem aoD(w:World):Ce 171 #[.int .u64 ((4:Nat):Int)] w (.int .i64 (bJ 4)):=by
 have a:Hid (bJ 4=1):=by show _=_; decide
 generalize bJ 4=R at *;go_enter Tryz.func171,Tryz.ntmps171;go_wp2;go_ret;exact⟨Qe (by rw[a.o]; kernel_rfl),rfl⟩
theorem aoE(w:World):Ce 171 #[.int .u64 ((5:Nat):Int)] w (.int .i64 (bJ 5)):=by
 have a:Hid (bJ 5=2):=by show _=_; decide
 generalize bJ 5=R at *;go_enter Tryz.func171,Tryz.ntmps171;go_wp2;go_ret;exact⟨Qe (by rw[a.o]; kernel_rfl),rfl⟩
theorem aoF(w:World):Ce 171 #[.int .u64 ((6:Nat):Int)] w (.int .i64 (bJ 6)):=by
 have a:Hid (bJ 6=2):=by show _=_; decide
 generalize bJ 6=R at *;go_enter Tryz.func171,Tryz.ntmps171;go_wp2;go_ret;exact⟨Qe (by rw[a.o]; kernel_rfl),rfl⟩
theorem aoG(w:World):Ce 171 #[.int .u64 ((7:Nat):Int)] w (.int .i64 (bJ 7)):=by
 have a:Hid (bJ 7=3):=by show _=_; decide
 generalize bJ 7=R at *;go_enter Tryz.func171,Tryz.ntmps171;go_wp2;go_ret;exact⟨Qe (by rw[a.o]; kernel_rfl),rfl⟩
theorem aoH(w:World):Ce 171 #[.int .u64 ((8:Nat):Int)] w (.int .i64 (bJ 8)):=by
 have a:Hid (bJ 8=1):=by show _=_; decide
 generalize bJ 8=R at *;go_enter Tryz.func171,Tryz.ntmps171;go_wp2;go_ret;exact⟨Qe (by rw[a.o]; kernel_rfl),rfl⟩
theorem aoI(w:World):Ce 171 #[.int .u64 ((9:Nat):Int)] w (.int .i64 (bJ 9)):=by
 have a:Hid (bJ 9=2):=by show _=_; decide
 generalize bJ 9=R at *;go_enter Tryz.func171,Tryz.ntmps171;go_wp2;go_ret;exact⟨Qe (by rw[a.o]; kernel_rfl),rfl⟩
theorem aj2(w:World):Ce 171 #[.int .u64 ((10:Nat):Int)] w (.int .i64 (bJ 10)):=by
 have a:Hid (bJ 10=2):=by show _=_; decide
 generalize bJ 10=R at *;go_enter Tryz.func171,Tryz.ntmps171;go_wp2;go_ret;exact⟨Qe (by rw[a.o]; kernel_rfl),rfl⟩
theorem aj3(w:World):Ce 171 #[.int .u64 ((11:Nat):Int)] w (.int .i64 (bJ 11)):=by
 have a:Hid (bJ 11=3):=by show _=_; decide
 generalize bJ 11=R at *;go_enter Tryz.func171,Tryz.ntmps171;go_wp2;go_ret;exact⟨Qe (by rw[a.o]; kernel_rfl),rfl⟩
theorem aj4(w:World):Ce 171 #[.int .u64 ((12:Nat):Int)] w (.int .i64 (bJ 12)):=by
 have a:Hid (bJ 12=2):=by show _=_; decide
 generalize bJ 12=R at *;go_enter Tryz.func171,Tryz.ntmps171;go_wp2;go_ret;exact⟨Qe (by rw[a.o]; kernel_rfl),rfl⟩
theorem aj5(w:World):Ce 171 #[.int .u64 ((13:Nat):Int)] w (.int .i64 (bJ 13)):=by
 have a:Hid (bJ 13=3):=by show _=_; decide
 generalize bJ 13=R at *;go_enter Tryz.func171,Tryz.ntmps171;go_wp2;go_ret;exact⟨Qe (by rw[a.o]; kernel_rfl),rfl⟩
theorem aj6(w:World):Ce 171 #[.int .u64 ((14:Nat):Int)] w (.int .i64 (bJ 14)):=by
 have a:Hid (bJ 14=3):=by show _=_; decide
 generalize bJ 14=R at *;go_enter Tryz.func171,Tryz.ntmps171;go_wp2;go_ret;exact⟨Qe (by rw[a.o]; kernel_rfl),rfl⟩
theorem aj7(w:World):Ce 171 #[.int .u64 ((15:Nat):Int)] w (.int .i64 (bJ 15)):=by
 have a:Hid (bJ 15=4):=by show _=_; decide
 generalize bJ 15=R at *;go_enter Tryz.func171,Tryz.ntmps171;go_wp2;go_ret;exact⟨Qe (by rw[a.o]; kernel_rfl),rfl⟩
theorem aj8(w:World):Ce 171 #[.int .u64 ((16:Nat):Int)] w (.int .i64 (bJ 16)):=by
 have a:Hid (bJ 16=1):=by show _=_; decide
 generalize bJ 16=R at *;go_enter Tryz.func171,Tryz.ntmps171;go_wp2;go_ret;exact⟨Qe (by rw[a.o]; kernel_rfl),rfl⟩
theorem aj9(w:World):Ce 171 #[.int .u64 ((17:Nat):Int)] w (.int .i64 (bJ 17)):=by
 have a:Hid (bJ 17=2):=by show _=_; decide
 generalize bJ 17=R at *;go_enter Tryz.func171,Tryz.ntmps171;go_wp2;go_ret;exact⟨Qe (by rw[a.o]; kernel_rfl),rfl⟩
theorem aka(w:World):Ce 171 #[.int .u64 ((18:Nat):Int)] w (.int .i64 (bJ 18)):=by
 have a:Hid (bJ 18=2):=by show _=_; decide
 generalize bJ 18=R at *;go_enter Tryz.func171,Tryz.ntmps171;go_wp2;go_ret;exact⟨Qe (by rw[a.o]; kernel_rfl),rfl⟩
theorem akb(w:World):Ce 171 #[.int .u64 ((19:Nat):Int)] w (.int .i64 (bJ 19)):=by
 have a:Hid (bJ 19=3):=by show _=_; decide
 generalize bJ 19=R at *;go_enter Tryz.func171,Tryz.ntmps171;go_wp2;go_ret;exact⟨Qe (by rw[a.o]; kernel_rfl),rfl⟩
theorem akc(w:World):Ce 171 #[.int .u64 ((20:Nat):Int)] w (.int .i64 (bJ 20)):=by
 have a:Hid (bJ 20=2):=by show _=_; decide
 generalize bJ 20=R at *;go_enter Tryz.func171,Tryz.ntmps171;go_wp2;go_ret;exact⟨Qe (by rw[a.o]; kernel_rfl),rfl⟩
theorem akd(w:World):Ce 171 #[.int .u64 ((21:Nat):Int)] w (.int .i64 (bJ 21)):=by
 have a:Hid (bJ 21=3):=by show _=_; decide
 generalize bJ 21=R at *;go_enter Tryz.func171,Tryz.ntmps171;go_wp2;go_ret;exact⟨Qe (by rw[a.o]; kernel_rfl),rfl⟩
theorem ake(w:World):Ce 171 #[.int .u64 ((22:Nat):Int)] w (.int .i64 (bJ 22)):=by
 have a:Hid (bJ 22=3):=by show _=_; decide
 generalize bJ 22=R at *;go_enter Tryz.func171,Tryz.ntmps171;go_wp2;go_ret;exact⟨Qe (by rw[a.o]; kernel_rfl),rfl⟩
theorem akf(w:World):Ce 171 #[.int .u64 ((23:Nat):Int)] w (.int .i64 (bJ 23)):=by
 have a:Hid (bJ 23=4):=by show _=_; decide
 generalize bJ 23=R at *;go_enter Tryz.func171,Tryz.ntmps171;go_wp2;go_ret;exact⟨Qe (by rw[a.o]; kernel_rfl),rfl⟩
theorem akg(w:World):Ce 171 #[.int .u64 ((24:Nat):Int)] w (.int .i64 (bJ 24)):=by
 have a:Hid (bJ 24=2):=by show _=_; decide
 generalize bJ 24=R at *;go_enter Tryz.func171,Tryz.ntmps171;go_wp2;go_ret;exact⟨Qe (by rw[a.o]; kernel_rfl),rfl⟩
theorem akh(w:World):Ce 171 #[.int .u64 ((25:Nat):Int)] w (.int .i64 (bJ 25)):=by
 have a:Hid (bJ 25=3):=by show _=_; decide
 generalize bJ 25=R at *;go_enter Tryz.func171,Tryz.ntmps171;go_wp2;go_ret;exact⟨Qe (by rw[a.o]; kernel_rfl),rfl⟩
theorem aki(w:World):Ce 171 #[.int .u64 ((26:Nat):Int)] w (.int .i64 (bJ 26)):=by
 have a:Hid (bJ 26=3):=by show _=_; decide
 generalize bJ 26=R at *;go_enter Tryz.func171,Tryz.ntmps171;go_wp2;go_ret;exact⟨Qe (by rw[a.o]; kernel_rfl),rfl⟩
theorem akj(w:World):Ce 171 #[.int .u64 ((27:Nat):Int)] w (.int .i64 (bJ 27)):=by
 have a:Hid (bJ 27=4):=by show _=_; decide
 generalize bJ 27=R at *;go_enter Tryz.func171,Tryz.ntmps171;go_wp2;go_ret;exact⟨Qe (by rw[a.o]; kernel_rfl),rfl⟩
theorem akk(w:World):Ce 171 #[.int .u64 ((28:Nat):Int)] w (.int .i64 (bJ 28)):=by
 have a:Hid (bJ 28=3):=by show _=_; decide
 generalize bJ 28=R at *;go_enter Tryz.func171,Tryz.ntmps171;go_wp2;go_ret;exact⟨Qe (by rw[a.o]; kernel_rfl),rfl⟩
theorem akl(w:World):Ce 171 #[.int .u64 ((29:Nat):Int)] w (.int .i64 (bJ 29)):=by
 have a:Hid (bJ 29=4):=by show _=_; decide
 generalize bJ 29=R at *;go_enter Tryz.func171,Tryz.ntmps171;go_wp2;go_ret;exact⟨Qe (by rw[a.o]; kernel_rfl),rfl⟩
theorem akm(w:World):Ce 171 #[.int .u64 ((30:Nat):Int)] w (.int .i64 (bJ 30)):=by
 have a:Hid (bJ 30=4):=by show _=_; decide
 generalize bJ 30=R at *;go_enter Tryz.func171,Tryz.ntmps171;go_wp2;go_ret;exact⟨Qe (by rw[a.o]; kernel_rfl),rfl⟩
theorem akn(w:World):Ce 171 #[.int .u64 ((31:Nat):Int)] w (.int .i64 (bJ 31)):=by
 have a:Hid (bJ 31=5):=by show _=_; decide
 generalize bJ 31=R at *;go_enter Tryz.func171,Tryz.ntmps171;go_wp2;go_ret;exact⟨Qe (by rw[a.o]; kernel_rfl),rfl⟩
theorem DC(s:Nat)(hs:s<32)(w:World):Ce 171 #[.int .u64 (s:Int)] w (.int .i64 (bJ s)):=by
 have h:s=0∨s=1∨s=2∨s=3∨s=4∨s=5∨s=6∨s=7∨s=8∨s=9∨s=10∨s=11∨s=12∨s=13∨s=14∨s=15∨s=16∨s=17∨s=18∨s=19∨s=20∨s=21∨s=22∨s=23∨s=24∨s=25∨s=26∨s=27∨s=28∨s=29∨s=30∨s=31:=by omega
 rcases h with rfl | rfl | rfl | rfl | rfl | rfl | rfl | rfl | rfl | rfl | rfl | rfl | rfl | rfl | rfl | rfl | rfl | rfl | rfl | rfl | rfl | rfl | rfl | rfl | rfl | rfl | rfl | rfl | rfl | rfl | rfl | rfl
 ·exact aoz w
 ·exact aoA w
 ·exact aoB w
 ·exact aoC w
 ·exact aoD w
 ·exact aoE w
 ·exact aoF w
 ·exact aoG w
 ·exact aoH w
 ·exact aoI w
 ·exact aj2 w
 ·exact aj3 w
 ·exact aj4 w
 ·exact aj5 w
 ·exact aj6 w
 ·exact aj7 w
 ·exact aj8 w
 ·exact aj9 w
 ·exact aka w
 ·exact akb w
 ·exact akc w
 ·exact akd w
 ·exact ake w
 ·exact akf w
 ·exact akg w
 ·exact akh w
 ·exact aki w
 ·exact akj w
 ·exact akk w
 ·exact akl w
 ·exact akm w
 ·exact akn w
theorem Kz(s:Nat)(hs:s<32)(w:World):Ce 151 #[.int .u64 (s:Int)] w (.int .i64 (bJ s)):=by
 have a:=DC s hs w;generalize bJ s=R at *;have b:Ce 166 #[.int .u64 (s:Int)] w (.int .i64 R):=by go_enter Tryz.func166,Tryz.ntmps166;go_wp2_with fail;refine a.mono ?_;rintro e d ⟨rfl,rfl⟩;go_wp2;go_ret;exact⟨rfl,rfl⟩
 go_enter Tryz.func151,Tryz.ntmps151;go_wp2_with fail;refine b.mono ?_;rintro e d ⟨rfl,rfl⟩;go_wp2;go_ret;exact⟨rfl,rfl⟩
theorem afL(b:Nat)(x y z:Int)(w:World)(h0:w.cell? (aD b 0)=some (.int .i64 x))(h1:w.cell? (aD b 1)=some (.int .i64 y))(h2:w.cell? (aD b 2)=some (.int .i64 z)) :
  Ce 124 #[.slice (some (aD b 0)) 3 3] w (.int .i64 (if x≠0 then x else if y≠0 then y else z)):=by
 obtain⟨R,s⟩:=eY (if x≠0 then x else if y≠0 then y else z);rw[<- s];have n:=Zh s;clear s;obtain⟨L,l⟩:∃ L:List Int,L=[x,y,z]:=⟨_,rfl⟩;have A:Hid (∀ k,k<3->w.cell? (aD b k)=some (.int .i64 (L.getD k 0))):=λk m=>by
  rw[l]
  match k,m with
  | 0,_ => exact h0
  | 1,_ => exact h1
  | 2,_ => exact h2
 have B:Hid (∀ k,k<3->(∀ j,j<k->L.getD j 0=0)->L.getD k 0≠0->L.getD k 0=R):=λk m d I=>by
  rw[n.o];rw[l]at d I ⊢
  match k,m with
  | 0,_ =>
   grind
  | 1,_ =>
   grind
  | 2,_ =>
   have u:x=0:=d 0 (by omega);grind
 have C:Hid ((∀ j,j<3->L.getD j 0=0)->R=0):=λd=>by rw[l]at d;have u:x=0:=d 0 (by omega);have D:y=0:=d 1 (by omega);have E:z=0:=d 2 (by omega);rw[n.o,u,D,E];simp
 clear h0 h1 h2 l n;go_enter Tryz.func124,Tryz.ntmps124;go_wp2;go_loop [8] (λi=>∃ k:Nat,k<=3/\i=.int .i64 (k:Int)/\Hid (∀ j,j<k->L.getD j 0=0)) (λi=>3-(intOf i).toNat)
 case atStart=>exact⟨0,by omega,rfl,λj d=>by omega⟩
 case round=>
  obtain⟨k,m,rfl,t⟩:=hrel;by_cases g:k<3
  ·have F:=A.o k g;have e:=Zh (B.o k g t.o);obtain⟨v,hv⟩:=eY (L.getD k 0)
   rw[<- hv]at F e;have p:=Zh hv;clear hv;by_cases a:v=0
   ·have q:=Zh a;have G:(v != 0)=false:=by simp[a]
    clear a;go_wp2;go_round
    case rel=>exact⟨k+1,by omega,by go_num,λj d=>by
     rcases Nat.lt_or_eq_of_le (Nat.le_of_lt_succ d) with h | h
     ·exact t.o j h
     ·rw[h,<- p.o]; exact q.o⟩
    case measure=>simp[intOf]; omega
   ·have r:=Zh (e.o a);have G:(v != 0)=true:=by simp[a]
    clear e;go_wp2;go_ret;exact⟨Qe r.o,rfl⟩
  ·have f:k=3:=by omega
   have H:=Zh (C.o (by rw[<- f]; exact t.o));clear f;go_wp2;go_ret;exact⟨Qe H.o.symm,rfl⟩
theorem Nl(l r:Nat)(hl:l<32)(hr:r<32)(w:World) :
  Cb 126 #[.agg #[.int .u64 (l:Int),.int .u64 (r:Int)]] w (.int .i64 (mo bJ (l,r))):=by
 obtain⟨u,f⟩:∃ x,w.alloc (.cells #[.int .u64 (l:Int),.int .u64 (r:Int)] 122)=x:=⟨_,rfl⟩;have m:Bw w u:=by rw[<- f]; exact fq _ _
 have B:u.cell? (aD w.heap.size 0)=some (.int .u64 (l:Int)):=by rw[<- f]; simp
 have C:u.cell? (aD w.heap.size 1)=some (.int .u64 (r:Int)):=by rw[<- f]; simp
 have d:=yH l r u;have p:=Zh m;have s:Hid (mo bJ (l,r)=if r=0 then 6 else bJ (l|||r)):=rfl;have v:l|||r<32:=pW (n:=5) hl hr;generalize mo bJ (l,r)=R at *;clear m;by_cases k:r=0
 ·have t:Hid (R=6):=by show _=_; rw[s.o,Qo k]
  rw[Qv k]at d;clear k s;go_enter Tryz.func126,Tryz.ntmps126;go_wp2_with fail;refine d.mono ?_;rintro e z ⟨rfl,b⟩;have i:=Zh (aF p.o b);clear d b f;go_wp2;go_ret;exact⟨Qe t.o.symm,i.o⟩
 ·have t:Hid (R=bJ (l|||r)):=by show _=_; rw[s.o,Qu k]
  rw[ZW k]at d;clear k s;go_enter Tryz.func126,Tryz.ntmps126;go_wp2_with fail;refine d.mono ?_;rintro e z ⟨rfl,b⟩;have i:=Zh (aF p.o b);have E:=cB b B;have F:=cB b C;obtain⟨A,g⟩:∃ x,z.alloc (.cells #[.int .u64 (l:Int),.int .u64 (r:Int)] 64)=x:=⟨_,rfl⟩;have y:Hid (Bw w A):=aF i.o (by rw[<- g]; exact fq _ _);have q:=kW z.heap.size l r A (by rw[<- g]; simp) (by rw[<- g]; simp) (by omega) (by omega);have j:=Kz (l|||r) v A;rw[<- t.o]at j;generalize l|||r=lr at *;clear d b f B C t;go_wp2_with fail;refine q.mono ?_;rintro e D ⟨rfl,a⟩;have a:=a.symm;subst a;go_wp2_with fail;refine j.mono ?_;rintro e D ⟨rfl,a⟩;have a:=a.symm;subst a;clear q j g;go_wp2;go_ret;exact⟨rfl,y.o⟩
theorem Yc(a b:aO)(ha:a.1<32/\a.2<32)(hb:b.1<32/\b.2<32)(w:World) :
  Cb 89 #[.agg #[.int .u64 (a.1:Int),.int .u64 (a.2:Int)],.agg #[.int .u64 (b.1:Int),.int .u64 (b.2:Int)]] w (.int .i64 (qh bJ a b)):=by
 have t:Hid (∀ x,Cb 126 #[.agg #[.int .u64 (a.1:Int),.int .u64 (a.2:Int)]] x (.int .i64 (mo bJ a))):=λx=>Nl a.1 a.2 ha.1 ha.2 x;have H:Hid (∀ x,Cb 126 #[.agg #[.int .u64 (b.1:Int),.int .u64 (b.2:Int)]] x (.int .i64 (mo bJ b))):=λx=>Nl b.1 b.2 hb.1 hb.2 x;have D:Hid (qh bJ a b=if oV (mo bJ b) (mo bJ a)≠0 then oV (mo bJ b) (mo bJ a) else if oV a.1 b.1≠0 then oV a.1 b.1 else oV a.2 b.2):=rfl;have I:Hid (∀ x,Ce 125 #[.int .i64 (mo bJ b),.int .i64 (mo bJ a)] x (.int .i64 (oV (mo bJ b) (mo bJ a)))):=λx=>Ky _ _ x;have J:Hid (∀ x,Ce 127 #[.int .u64 (a.1:Int),.int .u64 (b.1:Int)] x (.int .i64 (oV a.1 b.1))):=λx=>Ad _ _ x;have L:Hid (∀ x,Ce 127 #[.int .u64 (a.2:Int),.int .u64 (b.2:Int)] x (.int .i64 (oV a.2 b.2))):=λx=>Ad _ _ x;generalize qh bJ a b=R at *;generalize mo bJ a=RA at *;generalize mo bJ b=RB at *;obtain⟨p,q⟩:=a;obtain⟨r,s⟩:=b;simp only at *;generalize oV RB RA=C1 at *;generalize oV (p:Int) (r:Int)=C2 at *;generalize oV (q:Int) (s:Int)=C3 at *;have u:Hid (∀ (x:World) (c:Nat),x.cell? (aD c 0)=some (.int .i64 C1)->x.cell? (aD c 1)=some (.int .i64 C2)->x.cell? (aD c 2)=some (.int .i64 C3)->Ce 124 #[.slice (some (aD c 0)) 3 3] x (.int .i64 R)):=λx c T U V=>by rw[D.o];exact afL c C1 C2 C3 x T U V
 clear D ha hb;obtain⟨y,z,l,j⟩:=bn w #[.int .u64 (p:Int),.int .u64 (q:Int)] 122;obtain⟨P,A,k,m⟩:=bn y #[.int .u64 (r:Int),.int .u64 (s:Int)] 122;have i:=j.of (k.block _ j.lt);obtain⟨a0,E⟩:=i.k2;obtain⟨F,G⟩:=m.k2;have v:=Zh (aF l k);clear l k j m i;go_enter Tryz.func89,Tryz.ntmps89;go_wp2_with fail;clear z A;refine wH P λd=>?_;refine wT 0 (.agg #[.int .u64 (r:Int),.int .u64 (s:Int)]) d (λx n=>?_) ?_
 ·have M:=cB n F;have N:=cB n G;go_simp
 refine wT 2 (.agg #[.int .u64 (p:Int),.int .u64 (q:Int)]) d (λx n=>?_) ?_
 ·have M:=cB n a0;have N:=cB n E;go_simp
 refine wt 5 (.pointer (some (aD w.heap.size 0))) d ?_;refine l8 6 (.int .u64 (p:Int)) d a0 ?_;refine wt 7 (.pointer (some (aD y.heap.size 0))) d ?_;refine l8 8 (.int .u64 (r:Int)) d F ?_;refine wt 10 (.pointer (some (aD w.heap.size 1))) d ?_;refine l8 11 (.int .u64 (q:Int)) d E ?_;refine wt 12 (.pointer (some (aD y.heap.size 1))) d ?_;refine l8 13 (.int .u64 (s:Int)) d G ?_;refine wR 1 λK f=>?_;go_simp;refine Z5 (H.o _) ?_;rintro e W ⟨rfl,hb⟩;refine oT f d hb λd=>?_;clear f K;refine wR 3 λK f=>?_;go_simp;refine Z5 (t.o _) ?_;rintro e X ⟨rfl,hb⟩;refine oT f d hb λd=>?_;clear f K;refine wR 4 λK f=>?_;go_simp;refine Z5 (I.o _) ?_;rintro e Y ⟨rfl,Q⟩;have g:=Q.symm;subst g;refine f.o _ _ d λd=>?_;clear f K;refine wR 9 λK f=>?_;go_simp;refine Z5 (J.o _) ?_;rintro e Z ⟨rfl,S⟩;have g:=S.symm;subst g;refine f.o _ _ d λd=>?_;clear f K;refine wR 14 λK f=>?_;go_simp;refine Z5 (L.o _) ?_;rintro e w7 ⟨rfl,B⟩;have g:=B.symm;subst g;refine f.o _ _ d λd=>?_;clear f K;refine wR 15 λK f=>?_;go_simp;refine oA f d λd=>?_;clear f K;refine wR 16 λK f=>?_;go_simp;refine Z5 (u.o _ _ (by simp) (by simp) (by simp)) ?_;rintro e w8 ⟨rfl,C⟩;have g:=C.symm;subst g;refine f.o _ _ d λd=>?_;clear f K;refine wR 17 λK f=>?_;go_simp;refine f.o _ _ d λd=>?_;clear f K;refine wD ?_;try simp only[pV]
 have O:=Zh (aF v.o d);clear d;go_wp2;go_ret;exact⟨rfl,O.o⟩
def mq(w:World)(ao:Option Addr)(ag:List aO):Prop:=
 ag.length<=1000000000/\∀ i,i<ag.length->∃ b off,ao=some (aD b off)/\w.cell? (aD b (off+i*2))=some (.int .u64 ((ag.getD i (0,0)).1:Int))/\w.cell? (aD b (off+i*2+1))=some (.int .u64 ((ag.getD i (0,0)).2:Int))
theorem mq.below{w w':World}(hb:Bw w w'){ao:Option Addr}{ag:List aO}(h:mq w ao ag):mq w' ao ag:=
 ⟨h.1,λi g=>by obtain⟨b,a,e,d,f⟩:=h.2 i g; exact⟨b,a,e,cB hb d,cB hb f⟩⟩
theorem acM(lt:Nat->Bool)(f i j:Nat)(h:i<j):Ya lt (f+1) i j=if lt ((i+j) / 2)=true then Ya lt f ((i+j) / 2+1) j else Ya lt f i ((i+j) / 2):=by show (if i<j then _ else _)=_;rw[Qo h]
theorem afN(lt:Nat->Bool)(f i j:Nat)(h:¬ i<j):Ya lt f i j=i:=by
 cases f with
 | zero => rfl
 | succ f =>
  show (if i<j then _ else _)=_;rw[Qu h]
theorem Ho(ao:Option Addr)(cap:Nat)(ag:List aO)(t:aO)(w:World)(hx:mq w ao ag)(ha:∀ a∈ag,a.1<32/\a.2<32)(ht:t.1<32/\t.2<32) :
  Cb 88 #[.slice ao ag.length cap,.agg #[.int .u64 (t.1:Int),.int .u64 (t.2:Int)],.func (.func 89) #[] #[]] w (.tuple #[.int .i64 (mK bJ ag t:Int),.bool (oh bJ ag t)]):=by
 have R:Hid (∀ k x,k<ag.length->Cb 89 #[.agg #[.int .u64 ((ag.getD k (0,0)).1:Int),.int .u64 ((ag.getD k (0,0)).2:Int)],.agg #[.int .u64 (t.1:Int),.int .u64 (t.2:Int)]] x (.int .i64 (qh bJ (ag.getD k (0,0)) t))):=λk x hk=>Yc _ t (ha _ (Zr hk)) ht x;have HF:Hid (mK bJ ag t=Ya (λh=>decide (qh bJ (ag.getD h (0,0)) t<0)) ag.length 0 ag.length):=rfl;have HT:Hid (oh bJ ag t=(decide (mK bJ ag t<ag.length)&&decide (qh bJ (ag.getD (mK bJ ag t) (0,0)) t=0))):=rfl;have hl:=hx.1;have HX:=Zh hx;generalize oh bJ ag t=TB at *;generalize mK bJ ag t=FA at *;obtain⟨D,E⟩:=t;simp only at *;obtain⟨l,z⟩:∃ l:Nat->Int,l=λk=>qh bJ (ag.getD k (0,0)) (D,E):=⟨_,rfl⟩;have F:Hid (∀ k x,k<ag.length->Cb 89 #[.agg #[.int .u64 ((ag.getD k (0,0)).1:Int),.int .u64 ((ag.getD k (0,0)).2:Int)],.agg #[.int .u64 (D:Int),.int .u64 (E:Int)]] x (.int .i64 (l k))):=by rw[z]; exact R.o
 have S:Hid (FA=Ya (λh=>decide (l h<0)) ag.length 0 ag.length):=by rw[z]; exact HF.o
 have ai:Hid (TB=(decide (FA<ag.length)&&decide (l FA=0))):=by rw[z]; exact HT.o
 obtain⟨P,p⟩:∃ x,w.alloc (.cells #[.int .u64 (D:Int),.int .u64 (E:Int)] 122)=x:=⟨_,rfl⟩;have T:Bw w P:=by rw[<- p]; exact fq _ _
 have t0:P.cell? (aD w.heap.size 0)=some (.int .u64 (D:Int)):=by rw[<- p]; simp
 have t1:P.cell? (aD w.heap.size 1)=some (.int .u64 (E:Int)):=by rw[<- p]; simp
 have G:=Zh T;go_enter Tryz.func88,Tryz.ntmps88;go_wp2;go_loopw [9,10] (λiv jv wr=>∃ i j f:Nat,i<=j/\j<=ag.length/\j-i<=f/\iv=.int .i64 (i:Int)/\jv=.int .i64 (j:Int)/\Hid (Ya (λh=>decide (l h<0)) f i j=FA)/\Hid (Bw P wr)) (λiv jv _=>(intOf jv).toNat-(intOf iv).toNat)
 case atStart=>exact⟨0,ag.length,ag.length,QK _,Qn _,by omega,rfl,rfl,S.o.symm,Qm _ _⟩
 case round=>
  obtain⟨i,j,f,ak,af,hf,rfl,rfl,DW,s⟩:=hrel;by_cases N:i<j
  ·obtain⟨A,rfl⟩:∃ A,f=A+1:=⟨f-1,by omega⟩
   have u:=Zh ((acM (λh=>decide (l h<0)) A i j N).symm.trans DW.o);obtain⟨h,hh⟩:∃ h,(i+j) / 2=h:=⟨_,rfl⟩;have aj:i<=h/\h<j:=by omega
   rw[hh]at u;have p:wrap64 ((i:Int)+(j:Int))=((i+j:Nat):Int):=by unfold wrap64; omega
   have H:((i:Int)+(j:Int)) / 2=(h:Int):=by omega
   have I:h<ag.length:=by omega
   obtain⟨b,n,B,c0,c1⟩:=(mq.below (aF G.o s.o) HX.o).2 h I;subst B;have U:=F.o h;generalize (ag.getD h (0,0)).1=xl at *;generalize (ag.getD h (0,0)).2=xr at *;have V:=cB s.o t0;have W:=cB s.o t1;have J:(h:Int)<(ag.length:Int):=by omega
   have q:Hid _:=λx=>U x I;obtain⟨Q,C⟩:∃ x,x=wr:=⟨_,rfl⟩;subst C;obtain⟨v,hv⟩:=eX (l h);rw[hv]at q;simp only[hv]at u;have L:Hid _:=u;go_wp2_with fail;try rw[H]
   refine wH Q λd=>?_;refine wt 0 (.func (.func 89) #[] #[]) d ?_;refine wt 1 (.slice (some (aD b n)) ag.length cap) d ?_;refine wt 2 (.int .i64 (h:Int)) d ?_;refine wt 3 (.pointer (some (aD b (n+h*2)))) d ?_;refine wT 4 (.agg #[.int .u64 (xl:Int),.int .u64 (xr:Int)]) d (λx hx=>?_) ?_
   ·have X:=cB hx c0;have Y:=cB hx c1;go_simp
   refine wT 5 (.agg #[.int .u64 (D:Int),.int .u64 (E:Int)]) d (λx hx=>?_) ?_
   ·have X:=cB hx V;have Y:=cB hx W;go_simp
   refine wR 6 λK g=>?_;go_simp;refine Z5 (q.o _) ?_;rintro e w2 ⟨rfl,hb⟩;refine oT g d hb λd=>?_;refine wR 7 λK g=>?_;go_simp;refine g.o _ _ d λd=>?_;refine wD ?_;try simp only[pV]
   have M:=Zh (s.o.trans (d.mono s.o.size));by_cases r:v<0
   ·have Z:Hid (Ya (λh=>decide (l h<0)) A (h+1) j=FA):=by have:=L.o;rw[Qo (Qv r)]at this;exact this
    have aa:=Qv r;go_wp2;go_roundw
    case rel=>exact⟨h+1,j,A,by omega,af,by omega,by go_num,rfl,Z.o,M.o⟩
    case measure=>simp[intOf]; omega
   ·have Z:Hid (Ya (λh=>decide (l h<0)) A i h=FA):=by have:=L.o;rw[Qu (by rw[ZW r]; decide)]at this;exact this
    have aa:=ZW r;go_wp2;go_roundw
    case rel=>exact⟨i,h,A,by omega,by omega,by omega,rfl,rfl,Z.o,M.o⟩
    case measure=>simp[intOf]; omega
  ·have ae:=(afN _ f i j N).symm.trans DW.o;subst ae;obtain⟨Q,C⟩:∃ x,x=wr:=⟨_,rfl⟩
   subst C;have m:=Zh (aF G.o s.o);by_cases O:i<ag.length
   ·obtain⟨b,n,B,c0,c1⟩:=(mq.below m.o HX.o).2 i O;subst B;have q:Hid _:=λx=>F.o i x O
    generalize (ag.getD i (0,0)).1=xl at *;generalize (ag.getD i (0,0)).2=xr at *;have V:=cB s.o t0;have W:=cB s.o t1;have J:(i:Int)<(ag.length:Int):=by omega
    have y:Hid (TB=(l i==0)):=by grind
    generalize l i=v at *;go_wp2_with fail;refine wH Q λd=>?_;refine wt 0 (.int .i64 (i:Int)) d ?_;refine wt 1 (.int .i64 (i:Int)) d ?_;refine wt 2 (.int .i64 (ag.length:Int)) d ?_;refine wt 3 (.bool true) d ?_;refine wt 4 (.bool true) d ?_;refine wg 5 (.func (.func 89) #[] #[]) d ?_;refine wg 6 (.slice (some (aD b n)) ag.length cap) d ?_;refine wg 7 (.int .i64 (i:Int)) d ?_;refine wg 8 (.pointer (some (aD b (n+i*2)))) d ?_;refine wG 9 (.agg #[.int .u64 (xl:Int),.int .u64 (xr:Int)]) d (λx hx=>?_) ?_
    ·have X:=cB hx c0;have Y:=cB hx c1;go_simp
    refine wG 10 (.agg #[.int .u64 (D:Int),.int .u64 (E:Int)]) d (λx hx=>?_) ?_
    ·have X:=cB hx V;have Y:=cB hx W;go_simp
    refine wR 11 λK g=>?_;go_simp;refine Z5 (q.o _) ?_;rintro e w2 ⟨rfl,hb⟩;refine oT g d hb λd=>?_;refine wg 12 (.bool (v==0)) d ?_;refine wg 13 (.bool (v==0)) d ?_;refine wR 14 λK g=>?_;go_simp;refine g.o _ _ d λd=>?_;refine wR 15 λK g=>?_;go_simp;refine g.o _ _ d λd=>?_;refine wD ?_;try simp only[pV]
    have jF:=Zh (m.o.trans (d.mono m.o.size));go_wp2;go_ret2;exact⟨by rw[y.o]; rfl,jF.o⟩
   ·have y:Hid (TB=false):=by grind
    have ah:¬ (i:Int)<(ag.length:Int):=by omega
    go_wp2_with fail;refine wH Q λd=>?_;refine wt 0 (.int .i64 (i:Int)) d ?_;refine wt 1 (.int .i64 (i:Int)) d ?_;refine wt 2 (.int .i64 (ag.length:Int)) d ?_;refine wt 3 (.bool false) d ?_;refine wt 4 (.bool false) d ?_;refine wU 5 d ?_;refine wU 6 d ?_;refine wU 7 d ?_;refine wU 8 d ?_;refine wU 9 d ?_;refine wU 10 d ?_;refine wU 11 d ?_;refine wU 12 d ?_;refine wt 13 (.bool false) d ?_;refine wR 14 λK g=>?_;go_simp;refine g.o _ _ d λd=>?_;refine wR 15 λK g=>?_;go_simp;refine g.o _ _ d λd=>?_;refine wD ?_;try simp only[pV]
    have jF:=Zh (m.o.trans (d.mono m.o.size));go_wp2;go_ret2;exact⟨by rw[y.o]; rfl,jF.o⟩
structure jB(Tl:TypeId)(F:Nat->Prop)(base:Nat)(w:World)(v:Value)(os:List ai):Prop where
 own:w.ownsRow base Tl 1 v os.length (os.map ai.val)
 each:∀ o∈os,IntsIn (Fv F v) w o/\o.xs.length<=1000
theorem jB.below{Tl:TypeId}{F:Nat->Prop}{base:Nat}{w w':World}{v:Value}{os:List ai}(h:jB Tl F base w v os)(hb:Bw w w'):jB Tl F base w' v os:=
 ⟨ZM h.own hb,λo a=>⟨(h.each o a).1.below hb,(h.each o a).2⟩⟩
theorem IntsIn.own{w0:World}(h:IntsIn F w0 o)(hb:Bw w0 w)(hv:∀ g,v.ownBlock=some g->w0.heap.size<=g):IntsIn (Fv F v) w o:=
 (h.mono (G:=Fv F v) (λb hb a=>⟨a,λe=>by have:=hv b e; omega⟩)).below hb
theorem IntsIn.pushed(h:IntsIn (Fv F v) w o)(hk:Kept (λb=>v.ownBlock≠some b) w w')(hat:v'.ownBlock=v.ownBlock∨∃ g,v'.ownBlock=some g/\w.heap.size<=g):IntsIn (Fv F v') w' o:=by
 have f:=h.mono (G:=λb=>Fv F v b/\Fv F v' b) (λb d a=>⟨a,a.1,λe=>by
  rcases hat with h | ⟨g,h,i⟩
  ·exact a.2 (h ▸ e)
  grind⟩)
 exact(f.bI (hk.mono λb _ d=>d.1.2)).mono λ_ _ h=>h.2
theorem jB.push(h:jB Tl F base w v os)(ho:IntsIn (Fv F v) w o)(hl:o.xs.length<=1000)(hn:w'.ownsRow base Tl 1 v' (os++[o]).length ((os++[o]).map ai.val))(hk:Kept (λb=>v.ownBlock≠some b) w w')(hat:v'.ownBlock=v.ownBlock∨∃ g,v'.ownBlock=some g/\w.heap.size<=g):jB Tl F base w' v' (os++[o]):=
 ⟨hn,λx a=>by
  rcases ZK.1 a with a | a
  ·exact⟨(h.each x a).1.pushed hk hat,(h.each x a).2⟩
  ·rw[Zy]at a;rw[a];exact⟨ho.pushed hk hat,hl⟩⟩
theorem jB.cells(h:jB Tl F base w v os):∃ b cap,v=.slice b os.length cap/\os.length<=cap/\bT w b os.length (λi=>(os.getD i gQ).val):=by
 rcases h.own.2 with⟨rfl,h0⟩ | ⟨g,cap,cur,rfl,-,-,hc,-⟩
 ·have:=Zl h0;subst this;exact⟨none,0,rfl,Qn _,λi a=>absurd a (by simp)⟩
 ·refine⟨_,cap,rfl,hc,λi a=>⟨g,0,rfl,?_⟩⟩;rcases iR h.own with⟨e,_⟩ | ⟨g',cap',e,_,_,hcc⟩
  ·cases e
  grind
theorem Yt{x:List Int}{k:Nat}(hk:k<os.length):x∈(os.take (k+1)).map ai.xs↔x∈(os.take k).map ai.xs∨x=(os.getD k gQ).xs:=by rw[Xq os gQ hk,Qi,ZK];simp
theorem ac3(W:World)(base:Nat)(v:Value)(os:List ai)(hown:W.ownsRow base 22 1 v os.length (os.map ai.val))(hl:os.length<=1000)(hb:base<=W.heap.size)(o:ai)(ty:TypeId) :
  ∃ d w',(Builtin.append_ #[54,54] ty #[v,.slice (some (aD W.heap.size 0)) 1 1]).run Tryz.prog (W.alloc (.cells #[o.val] 22))=.ok d w'/\
   w'.ownsRow base 22 1 d (os++[o]).length ((os++[o]).map ai.val)/\Kept (λb=>v.ownBlock≠some b) W w'/\(∃ a m c,d = .slice a m c)/\(d.ownBlock=v.ownBlock∨d.ownBlock=some (W.heap.size+1)):=by
 obtain⟨j,k,e,f,g⟩:=Zv Tryz.Mf;obtain⟨d,w',n,p,q,r,l⟩:=jX (P:=Tryz.prog) W base 54 ty 22 j _ 1 24 Tryz.underlying54 k e f g rfl (by decide) v os.length _ hown hb [o.val] rfl (λu i=>by
  rw[Zy]at i;rw[i];rfl) hl (by decide)
 grind
theorem Sw(x o:ai)(bx:Nat)(w:World)(hx:x.At w)(ho:o.At w)(hc:w.cell? (aD bx 0)=some o.val) :
  Calls Tryz.prog 122 (#[x.val] ++ #[.pointer (some (aD bx 0))]) w λe w'=>e=.returned (.bool (decide (x.xs=o.xs)))/\Bw w w':=by have a:=IG x.ad o.ad x.cap o.cap x.xs o.xs w hx ho;obtain⟨i,j,d⟩:=x;obtain⟨k,l,f⟩:=o;show Calls Tryz.prog 122 #[.slice i d.length j,.pointer (some (aD bx 0))] w _;simp only[ai.val]at *;generalize decide (d=f)=D at *;clear hx ho;generalize d.length=xl at *;generalize f.length=ol at *;go_enter Tryz.func122,Tryz.ntmps122;go_wp2_with fail;refine a.mono ?_;rintro e m ⟨rfl,b⟩;have g:=Zh b;clear a b hc;go_wp2;go_ret;exact⟨rfl,g.o⟩
theorem Sy(ao:Option Addr)(cap:Nat)(os:List ai)(o:ai)(bx:Nat)(w:World)(hos:bT w ao os.length (λi=>(os.getD i gQ).val))(hat:∀ x∈os,x.At w)(ho:o.At w)(hc:w.cell? (aD bx 0)=some o.val)(hl:os.length<=1000) :
  Calls Tryz.prog 149 #[.slice ao os.length cap,.func (.func 122) #[] #[.pointer (some (aD bx 0))]] w λe w'=>∃ r:Int,e=.returned (.int .i64 r)/\Hid (0<=r↔o.xs∈os.map ai.xs)/\Bw w w':=by
 have n:=Zh hos;have v:Hid (∀ (k:Nat) (y:World),k<os.length->Bw w y->Calls Tryz.prog 122 (#[(os.getD k gQ).val] ++ #[.pointer (some (aD bx 0))]) y λe w'=>e=.returned (.bool (decide ((os.getD k gQ).xs=o.xs)))/\Bw y w'):=λk y z hy=>Sw _ o bx y (Ql hy (hat _ (by grind))) (Ql hy ho) (cB hy hc);clear hos hat ho hc;go_enter Tryz.func149,Tryz.ntmps149;go_wp2;go_loopw [8] (λiv wr=>∃ k:Nat,k<=os.length/\iv=.int .i64 (k:Int)/\Hid (o.xs ∉ (os.take k).map ai.xs)/\Hid (Bw w wr)) (λiv _=>os.length-(intOf iv).toNat)
 case atStart=>exact⟨0,QK _,rfl,by show _ ∉ _; simp,Qm _ _⟩
 case round=>
  obtain⟨k,z,rfl,A,m⟩:=hrel;by_cases f:k<os.length
  ·obtain⟨F,G,rfl,g⟩:=Qf (bT.below m.o n.o) f;have j:=g k f;have a:=v.o k wr f m.o;have p:=Zh (Yt (x:=o.xs) f);have t:Hid (os.getD k gQ∈os):=by grind
   generalize os.getD k gQ=x at *;obtain⟨B,C,u⟩:=x;simp only[ai.val]at *;change Calls Tryz.prog 122 #[.slice B u.length C,.pointer (some (aD bx 0))] wr _ at a;by_cases d:u=o.xs
   ·rw[Qv d]at a;have q:Hid (o.xs∈os.map ai.xs):=by grind
    clear g d t p;go_wp2_with fail;refine a.mono ?_;rintro e D ⟨rfl,b⟩;have l:=Zh (aF m.o b);clear a b j;go_wp2;go_ret;exact⟨k,rfl,⟨λ_=>q.o,λ_=>by omega⟩,l.o⟩
   ·rw[ZW d]at a;have E:Hid (o.xs ∉ (os.take (k+1)).map ai.xs):=λh=>by
     rcases p.o.1 h with h | h
     ·exact A.o h
     ·exact d h.symm
    clear g d t p;go_wp2_with fail;refine a.mono ?_;rintro e D ⟨rfl,b⟩;have l:=Zh (aF m.o b);clear a b j;go_wp2;go_roundw
    case rel=>grind
    case measure=>simp[intOf]; omega
  ·have s:os.length=k:=by omega
   have q:Hid (o.xs ∉ os.map ai.xs):=by grind
   clear s;go_wp2;go_ret;exact⟨-1,rfl,⟨λh=>by omega,λh=>absurd h q.o⟩,m.o⟩
theorem Sz(ao:Option Addr)(cap:Nat)(os:List ai)(o:ai)(bx:Nat)(w:World)(hos:bT w ao os.length (λi=>(os.getD i gQ).val))(hat:∀ x∈os,x.At w)(ho:o.At w)(hc:w.cell? (aD bx 0)=some o.val)(hl:os.length<=1000) :
  Cb 121 #[.slice ao os.length cap,.func (.func 122) #[] #[.pointer (some (aD bx 0))]] w (.bool (decide (o.xs∈os.map ai.xs))):=by have b:=Sy ao cap os o bx w hos hat ho hc hl;clear hos hat ho hc hl;go_enter Tryz.func121,Tryz.ntmps121;go_wp2_with fail;refine b.mono ?_;rintro e g ⟨r,rfl,f,a⟩;have d:=Zh a;clear b a;go_wp2;go_ret;exact⟨Qd (by rw[QX,Qs,Qs]; exact f.o),d.o⟩
theorem Yu(h:jB 22 F base w v os)(hb:base<=w.heap.size)(o:ai)(ho:IntsIn (Fv F v) w o)(hol:o.xs.length<=1000)(hl:os.length<=1000) :
  Calls Tryz.prog 85 #[v,o.val] w λe w'=>∃ D i,e=.returned D/\jB 22 F base w' D i/\i.map ai.xs=iQ (os.map ai.xs) o.xs/\i.length<=os.length+1/\Kept (λb=>v.ownBlock≠some b) w w'/\(D.ownBlock=v.ownBlock∨∃ g,D.ownBlock=some g/\w.heap.size<=g):=by
 obtain⟨n,cap,rfl,P,p⟩:=h.cells;obtain⟨T,C,d,j⟩:=bn w #[o.val] 22;have y:=Sz n cap os o w.heap.size T (bT.below d p) (λx U=>Ql d (h.each x U).1.at') (Ql d ho.at') (j.cell 0) hl;have H:=Zh h;have Q:=Zh ho;have A:=Zh d;have I:=Zh j;by_cases z:o.xs∈os.map ai.xs
 ·rw[Qv z]at y;have J:Hid (iQ (os.map ai.xs) o.xs=os.map ai.xs):=by show _=_; unfold iQ; rw[Qo z]
  obtain⟨l,m,k⟩:=o;simp only[ai.val]at *;clear h ho d j z p;go_enter Tryz.func85,Tryz.ntmps85;go_wp2_with fail;refine y.mono ?_;rintro e q ⟨rfl,f⟩;have B:=Zh (aF A.o f);clear y f C;go_wp2;go_ret;exact⟨_,os,rfl,H.o.below B.o,J.o.symm,by omega,Q7 B.o (λ_ h _=>h),.inl rfl⟩
 ·rw[ZW z]at y;have J:Hid (iQ (os.map ai.xs) o.xs=os.map ai.xs++[o.xs]):=by show _=_; unfold iQ; rw[Qu z]
  have K:Hid (os.length<=1000/\base<=w.heap.size/\o.xs.length<=1000):=⟨hl,hb,hol⟩;obtain⟨l,m,k⟩:=o;simp only[ai.val]at *;clear h ho d j z p hl hb hol;go_enter Tryz.func85,Tryz.ntmps85;go_wp2_with fail;refine y.mono ?_;rintro e q ⟨rfl,f⟩;have a:=aF A.o f;have R:q.cell? (aD w.heap.size 0)=some (.slice l k.length m):=cB f (I.o.cell 0);obtain⟨D,G,r,E,s,⟨t,u,zc,rfl⟩,M⟩:=ac3 q base (.slice n os.length cap) os (ZM H.o.own a) K.o.1 (Q6 K.o.2.1 a.size) ⟨l,m,k⟩ 54;have L:(Value.slice t u zc).ownBlock=(Value.slice n os.length cap).ownBlock∨∃ g,(Value.slice t u zc).ownBlock=some g/\q.heap.size<=g:=by grind
  have N:Hid (jB 22 F base G (.slice t u zc) (os++[⟨l,m,k⟩])/\Kept (λb=>(Value.slice n os.length cap).ownBlock≠some b) w G/\((Value.slice t u zc).ownBlock=(Value.slice n os.length cap).ownBlock∨∃ g,(Value.slice t u zc).ownBlock=some g/\w.heap.size<=g)):=⟨(H.o.below a).push (Q.o.below a) K.o.2.2 E s L,(Q7 a (λ_ h _=>h)).trans s,by
   rcases L with h | ⟨g,h,S⟩
   ·exact .inl h
   ·exact .inr ⟨g,h,Q6 a.size S⟩⟩
  change (Builtin.append_ #[54,54] 54 #[.slice n os.length cap,.slice (some (aD q.heap.size 0)) 1 1]).run Tryz.prog (q.alloc (.cells #[.slice l k.length m] 22))=.ok (.slice t u zc) G at r;have O:Hid ((os++[(⟨l,m,k⟩:ai)]).map ai.xs=os.map ai.xs++[k]/\(os++[(⟨l,m,k⟩:ai)]).length<=os.length+1):=⟨by simp,by simp⟩;generalize os++[(⟨l,m,k⟩:ai)]=i at *;clear y f a C E s M L;go_wp2_with (first | (at_builtin; refine Zt rfl (.tmp 9) (.tmp 11) 54 rfl (.slice n os.length cap) (.slice (some (aD q.heap.size 0)) 1 1) (.slice t u zc) G rfl rfl r ?_));clear r R;go_wp2;go_ret;exact⟨_,i,rfl,N.o.1,O.o.1.trans J.o.symm,O.o.2,N.o.2⟩

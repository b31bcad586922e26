import Derived.Test.YtbcgekghfgcakaaGreatDoorF31
set_option linter.all false
set_option maxRecDepth 100000
set_option maxHeartbeats 16000000
namespace Go.Proofs.Zz
open Go.RowKit Go.Shelf
theorem ab0 {W0:World} {f:aB} {ts:List af} {q:ae} (E:Env f ts q W0) {X M:Nat->Prop} {w:World} {sb:Nat} {L:qj} {σ:fe} (h:dn W0 f ts q X M w sb L σ) (hc:nU q σ) (hal:σ.ak.length<=900000) (tl tr:Nat) (hr0:tr≠0) (hl1:tl<σ.groups.length) (hr1:tr<σ.groups.length) (hlr:tl &&& tr=0) (hhr:(bZ (σ.groups.getD tr [])).isSome=true) :
  Calls Tryz.prog 76 #[.pointer (some (aD sb 0)),.agg #[.int .u64 (tl:Int),.int .u64 (tr:Int)]] w fun e w'=>(∃ v,e=.returned v)/\bQ W0 f ts q X M w sb (sW aV ts q (aA ts q) (tl,tr) σ) w':=by
 obtain⟨v0,v1,v2,v3,v4,v5,v6,v7,v8,v9,v10,v11,v12,dw,-⟩:=Z8 f ts q;have h5:=E.five;have agi:2 ^ q.src.xs.length<=32:=QZ (n:=2) (by omega) h5;have hgl:=hc.vL;have HD:Hid (sW aV ts q (aA ts q) (tl,tr) σ=eH aV ts q (tl|||tr) (jg ts q (aA ts q) (σ.groups.getD tl []) (σ.groups.getD tr [])) σ):=by
  show _=_
  unfold sW;rw[Qs hr0]
 have hor:tl|||tr<2 ^ q.src.xs.length:=sP (by omega) (by omega)
 have akp:=Dj (ts:=ts) (ZQ ts q) hlr (hc.kU tl hl1) (hc.kU tr hr1) hhr;have h8:(aA ts q).length<=8:=by rw[ZQ]; exact E.eight
 have hjl:=Nw ts q (aA ts q) h8 (σ.groups.getD tl []) (σ.groups.getD tr []) (hc.kU tl hl1).short;have HJN:Hid (∀ x,Below w.heap.size w x->Calls Tryz.prog 130 #[.agg #[v0,v1,v2,v3,v4,v5,v6,v7,v8,v9,v10,v11,v12],.slice (some (aD (L.gb tl) 0)) (σ.groups.getD tl []).length (L.Gh tl),.slice (some (aD (L.gb tr) 0)) (σ.groups.getD tr []).length (L.Gh tr)] x (iP 120 100 (fun b=>¬ X b) x (jg ts q (aA ts q) (σ.groups.getD tl []) (σ.groups.getD tr [])))):=fun x hx=>by
  rw[<- dw];exact Sw E (h.hz.next hx) ((h.kU tl hl1).1.below hx) (hc.kU tl hl1).short (L.Gh tl) (fun p hp y hy=>((hc.kU tl hl1).all p hp y hy).1) ((h.kU tr hr1).1.below hx) (hc.kU tr hr1).short (L.Gh tr) (fun p hp y hy=>((hc.kU tr hr1).all p hp y hy).1) hhr
 have J7:Hid (∀ (x x0:World) (v:Value) (bs:List (Nat × aW)),Below w.heap.size w x0->Below x0.heap.size x0 x->bs.map Prod.snd=jg ts q (aA ts q) (σ.groups.getD tl []) (σ.groups.getD tr [])->bJ 120 100 (fun b=>¬ X b) x0.heap.size x v bs->∃ bo bc,v=.slice bo bs.length bc/\Calls Tryz.prog 127 #[.pointer (some (aD sb 0)),.int .u64 ((tl|||tr:Nat):Int),.slice bo bs.length bc] x fun e w'=>(∃ v,e=.returned v)/\bQ W0 f ts q X M x sb (sW aV ts q (aA ts q) (tl,tr) σ) w'):=fun x x0 v bs hx0 hx hbs hin=>by
  have hbl:bs.length<=340:=by
   have h1:bs.length=(jg ts q (aA ts q) (σ.groups.getD tl []) (σ.groups.getD tr [])).length:=by rw[<- hbs,QU]
   rw[h1];exact hjl
  obtain⟨bo,bc,rfl,hup,-,-,hun⟩:=kK (xs:=bs.map Prod.fst) hin.own (by rw[hin.len]; omega);rw[hin.len] at hin ⊢;refine⟨bo,bc,rfl,?_⟩;rw[HD.out,<- hbs];exact DI E (h.below (aG hx0 hx)) hc hal (tl|||tr) hor bo bc bs hup (fun a e hm=>by have h1:=(h.lt (h.sub _ hm)).2; have h2:=hun a e; have:=hx0.size; omega) (fun y hy=>(hin.tree y hy).1.Je) (FQ hin.rise) (fun k hk p hp y hy hm=>by
   obtain⟨z,hz,e⟩:=Q0.1 hm;have h1:=h.old hk hp hy;have h2:=(hin.tree z hz).2.1;have h3:=hx0.size;rw[e] at h2;omega) (by omega) (fun y hy=>akp y.2 (by rw[<- hbs]; exact List.mem_map_of_mem hy))
 have HAT:=Zh h;have Kj:=Zh dw;have Ny:=h.cells dw;have ab1:=h.blk;rw[dw] at ab1;have c13:=Ny.at 13;have akq:=h.rC tl hl1;have akr:=h.rC tr hr1;have Ya:Hid (∀ b,w.heap.size<=b->¬ M b):=fun b hb hm=>by have:=(h.lt (h.sub _ hm)).2; omega
 have hIS:∀ x,Calls Tryz.prog 126 #[.agg #[.int .u64 (tl:Int),.int .u64 (tr:Int)]] x fun e w'=>e=.returned (.bool false)/\Below x.heap.size x w':=fun x=>by
  have:=uA tl tr x
  rwa [Qh hr0] at this
 have htl:(tl:Int)<(σ.groups.length:Int):=by omega
 have htr:(tr:Int)<(σ.groups.length:Int):=by omega
 have HUN:Hid (∀ (b:Nat) (x:World),x.cell? (aD b 0)=some (.int .u64 (tl:Int))->x.cell? (aD b 1)=some (.int .u64 (tr:Int))->Calls Tryz.prog 124 #[.slice (some (aD b 0)) 2 2] x fun e w'=>e=.returned (.int .u64 ((tl|||tr:Nat):Int))/\w' = x):=fun b x h0 h1=>jq b tl tr x h0 h1 (by omega) (by omega)
 clear h hc hal hhr hlr h5 agi hgl HD hor akp h8 hjl Ny E dw hl1 hr1 hr0;generalize sW aV ts q (aA ts q) (tl,tr) σ=DN at *;generalize jg ts q (aA ts q) (σ.groups.getD tl []) (σ.groups.getD tr [])=JT at *;generalize (σ.groups.getD tl []).length=gll at *;generalize (σ.groups.getD tr []).length=glr at *;generalize L.gb tl=gbl at *;generalize L.gb tr=gbr at *;generalize L.Gh tl=gcl at *;generalize L.Gh tr=gcr at *;obtain⟨T,hT⟩:∃ T,T=kM L σ:=⟨_,rfl⟩
 rw[<- hT] at ab1;generalize L.gs=ggs at *;obtain⟨gn,hgn⟩:∃ n,n=σ.groups.length:=⟨_,rfl⟩
 rw[<- hgn] at c13 htl htr;generalize L.M6=abW at *;have oO:=Zh ab1;clear ab1 hT hgn;generalize (tl|||tr)=TOR at *;obtain⟨w1,hw1,hb1,hx1⟩:=bu w #[.int .u64 (tl:Int),.int .u64 (tr:Int)] 143;obtain⟨t0,t1⟩:=hx1.k2;have HB1:=Zh hb1;have Yb:=hIS w1;clear hb1 hx1 hIS;go_enter Tryz.func76,Tryz.ntmps76;go_wp2_with fail;refine Yb.mono ?_;rintro e w2 ⟨rfl,hb2⟩;clear Yb hw1;have hB2:=aG HB1.out hb2;have s0:=cB hb2 t0;have s1:=cB hb2 t1;have d13:=cB hB2 c13;have dl:=cB hB2 akq;have dr:=cB hB2 akr;have HB2:=Zh hB2;clear hb2 hB2 t0 t1 c13 akq akr;go_wp2_with fail;refine wH w2 fun hS=>?_
 refine wt 0 (.pointer (some (aD sb 0))) hS ?_;refine wt 1 (.pointer (some (aD sb 0))) hS ?_;refine wt 2 (.pointer (some (aD sb 13))) hS ?_;refine iB 3 (.slice (some (aD ggs 0)) gn abW) hS d13 ?_;refine wt 4 (.pointer (some (aD w.heap.size 0))) hS ?_;refine iB 5 (.int .u64 (tl:Int)) hS s0 ?_;refine wt 6 (.pointer (some (aD ggs tl))) hS ?_;refine iB 7 (.slice (some (aD gbl 0)) gll gcl) hS dl ?_;refine wt 8 (.pointer (some (aD sb 0))) hS ?_;refine wt 9 (.pointer (some (aD sb 0))) hS ?_;refine wt 10 (.pointer (some (aD sb 13))) hS ?_;refine iB 11 (.slice (some (aD ggs 0)) gn abW) hS d13 ?_;refine wt 12 (.pointer (some (aD w.heap.size 1))) hS ?_;refine iB 13 (.int .u64 (tr:Int)) hS s1 ?_;refine wt 14 (.pointer (some (aD ggs tr))) hS ?_;refine iB 15 (.slice (some (aD gbr 0)) glr gcr) hS dr ?_;refine wt 16 (.slice (some (aD gbl 0)) gll gcl) hS ?_;refine wR 17 fun K hK=>?_
 go_simp;refine hK.out _ _ hS fun hS=>?_
 clear hK K;refine wD ?_
 try simp only[pV]
 try simp only[pV]
 have HB3:=Zh HB2.out.drew;have wK:=Zh (oO.out.keep (Q9 (s:=fun b=>b<w.heap.size) HB3.out (fun _ h _=>h)) oO.out.lt);have r0:w2.drew.cell? (aD w.heap.size 0)=some (.int .u64 (tl:Int)):=s0;have r1:w2.drew.cell? (aD w.heap.size 1)=some (.int .u64 (tr:Int)):=s1;clear hS s0 s1 d13 dl dr HB2;generalize w2.drew=w3 at *;go_wp2_with fail;refine QL (S:=fun x=>Kept (fun b=>¬ M b) w3 x/\∃ T,GB x sb 102 (#[v0,v1,v2,v3,v4,v5,v6,v7,v8,v9,v10,v11,v12]++T)) (by kernel_rfl) ⟨Q9 ((Qp w3.heap.size w3).drew) (fun _ hl _=>hl),_,wK.out⟩ (fun hS=>?_);refine wt 0 (.pointer (some (aD sb 0))) hS ?_;refine wt 1 (.pointer (some (aD w.heap.size 0))) hS ?_;refine wT 2 (.int .u64 (tl:Int)) hS (fun x hx=>?_) ?_
 ·have e0:=XP hx.1 r0 (Ya.out _ (Qq _));go_simp
 refine wt 3 (.pointer (some (aD w.heap.size 1))) hS ?_;refine wT 4 (.int .u64 (tr:Int)) hS (fun x hx=>?_) ?_
 ·have e0:=XP hx.1 r1 (Ya.out _ (Qq _));go_simp
 refine wt 7 (.pointer (some (aD sb 0))) hS ?_;refine wt 8 (.pointer (some (aD sb 0))) hS ?_;refine wt 9 (.pointer (some (aD sb 0))) hS ?_;refine wT 10 (.agg #[v0,v1,v2,v3,v4,v5,v6,v7,v8,v9,v10,v11,v12]) hS (fun x hx=>?_) ?_
 ·obtain⟨T2,zq⟩:=hx.2;obtain⟨e0,e1,e2,e3,e4,e5,e6,e7,e8,e9,e10,e11,e12⟩:=OT zq;go_simp
 refine wt 11 (.slice (some (aD gbl 0)) gll gcl) hS ?_;refine wt 12 (.slice (some (aD gbr 0)) glr gcr) hS ?_;refine wR 5 fun K hK=>?_
 go_simp;obtain⟨w4,hw4⟩:∃ x,x=(w3.alloc (.cells #[.int .u64 (tl:Int),.int .u64 (tr:Int)] 90)).drew:=⟨_,rfl⟩
 have FD:Below w3.heap.size w3 w4:=by rw[hw4]; exact (bU _ _).drew
 have u0:w4.cell? (aD w3.heap.size 0)=some (.int .u64 (tl:Int)):=by rw[hw4]; exact (GB.alloc w3 _ _).cell 0
 have u1:w4.cell? (aD w3.heap.size 1)=some (.int .u64 (tr:Int)):=by rw[hw4]; exact (GB.alloc w3 _ _).cell 1
 rw[<- hw4];clear hw4;have hKF:∀ x,Below w3.heap.size w3 x->GB x sb 102 (#[v0,v1,v2,v3,v4,v5,v6,v7,v8,v9,v10,v11,v12]++T):=fun x hx=>wK.out.keep (Q9 (s:=fun b=>b<w3.heap.size) hx (fun _ h _=>h)) wK.out.lt
 have HKF:=Zh hKF;clear hKF;refine hK.out _ _ ⟨Q9 FD (fun _ h _=>h),_,HKF.out _ FD⟩ (fun hS=>?_);clear hK K;refine wR 6 fun K hK=>?_
 go_simp;refine Z7 (HUN.out w3.heap.size w4 u0 u1) ?_;rintro e wz ⟨rfl,hwz⟩;have nI:=hwz.symm;subst nI;refine hK.out _ _ hS fun hS=>?_
 clear hK K u0 u1;refine wR 13 fun K hK=>?_
 go_simp;refine Z7 (HJN.out w4 (aG HB3.out FD)) ?_;rintro e w6 ⟨v,bs,rfl,hbs,hin,hb6⟩;obtain⟨bo,bc,rfl,hKE⟩:=J7.out w6 w4 v bs (aG HB3.out FD) hb6 hbs hin;have Yd:=aG FD hb6;have yE:=Zh (aG HB3.out Yd);refine hK.out _ _ ⟨Q9 Yd (fun _ h _=>h),_,HKF.out _ Yd⟩ (fun hS=>?_);clear hK K;refine wR 14 fun K hK=>?_
 generalize bs.length=bl at *;go_simp;refine Z7 hKE ?_;rintro e w7 ⟨⟨rv,rfl⟩,hp7⟩;have agj:=hp7;obtain⟨L7,X7,M7,hA7,jL,-⟩:=agj;refine hK.out _ _ ⟨(Q9 Yd (fun _ h _=>h)).trans jL,_,by have:=hA7.blk; rw[Kj.out] at this; exact this⟩ (fun hS=>?_);clear hK K hA7 jL Yd hb6 FD hin hbs hKE;refine wD ?_
 try simp only[pV]
 try simp only[pV]
 have HF:Hid (bQ W0 f ts q X M w sb DN w7):=bQ.trans (Q9 yE.out (fun _ h hb=>h)) (fun _ h=>h) (fun _ h=>.inl h) (fun b=>⟨fun h=>.inl h,fun h=>by
  rcases h with h | h
  ·exact h
  ·exact HAT.out.sub b h⟩) hp7
 clear hS hp7 r0 r1;go_wp2;go_end0;exact⟨⟨_,rfl⟩,HF.out⟩
theorem agk {W0:World} {f:aB} {ts:List af} {q:ae} (E:Env f ts q W0) {X M:Nat->Prop} {w:World} {sb:Nat} {L:qj} {σ:fe} (h:dn W0 f ts q X M w sb L σ) (hc:nU q σ) (hal:σ.ak.length<=900000) (t:bg) (ht:kT q.src.xs.length σ.groups t) :
  Calls Tryz.prog 76 #[.pointer (some (aD sb 0)),.agg #[.int .u64 (t.1:Int),.int .u64 (t.2:Int)]] w fun e w'=>(∃ v,e=.returned v)/\bQ W0 f ts q X M w sb (sW aV ts q (aA ts q) t σ) w':=by
 obtain⟨tl,tr⟩:=t;rcases ht with⟨h0,i,hi,e⟩ | ⟨h0,h1,h2,h3,h4,h6⟩
 ·have h0:tr=0:=h0;have e:tl=2 ^ i:=e;subst h0 e;exact abY E h hc hal i hi
 ·exact ab0 E h hc hal tl tr h0 h1 h2 h3 h6

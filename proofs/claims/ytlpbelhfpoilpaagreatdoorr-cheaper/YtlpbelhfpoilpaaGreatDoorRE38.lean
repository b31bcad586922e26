import Derived.Test.YtlpbelhfpoilpaaGreatDoorRE37
set_option linter.all false
set_option maxRecDepth 100000
set_option maxHeartbeats 16000000
namespace Go.Proofs.Zz
open Go.RowKit Go.Shelf
variable {sb:Nat} {W0 w:World} {f:au} {ts:List af} {q:ae} {M X:Nat->Prop} {L:rV} {σ:iO}
theorem Sn{x:World}{t:TypeId}{v0 v1 v2 v3 v4 v5 v6 v7 v8 v9 v10 v11 v12:Value}{T:Array Value}(h:GB x sb t (#[v0,v1,v2,v3,v4,v5,v6,v7,v8,v9,v10,v11,v12]++T)):x.cell? (aD sb 0)=some v0/\x.cell? (aD sb 1)=some v1/\x.cell? (aD sb 2)=some v2/\x.cell? (aD sb 3)=some v3/\x.cell? (aD sb 4)=some v4/\x.cell? (aD sb 5)=some v5/\x.cell? (aD sb 6)=some v6/\x.cell? (aD sb 7)=some v7/\x.cell? (aD sb 8)=some v8/\x.cell? (aD sb 9)=some v9/\x.cell? (aD sb 10)=some v10/\x.cell? (aD sb 11)=some v11/\x.cell? (aD sb 12)=some v12:=by
 exact⟨(h.cell 0).trans (Jf (by simp)),(h.cell 1).trans (Jf (by simp)),(h.cell 2).trans (Jf (by simp)),(h.cell 3).trans (Jf (by simp)),(h.cell 4).trans (Jf (by simp)),(h.cell 5).trans (Jf (by simp)),(h.cell 6).trans (Jf (by simp)),(h.cell 7).trans (Jf (by simp)),(h.cell 8).trans (Jf (by simp)),(h.cell 9).trans (Jf (by simp)),(h.cell 10).trans (Jf (by simp)),(h.cell 11).trans (Jf (by simp)),(h.cell 12).trans (Jf (by simp))⟩
theorem Ik{bs:List (Nat × aQ)}(h:(bs.map Prod.fst).Pairwise (· < ·)):(bs.map Prod.fst).Nodup:=h.imp fun hab=>Nat.ne_of_lt hab
theorem PW(ts:List af)(q:ae)(conc:List Nat)(h8:conc.length<=8)(a b:List aj)(ha:a.length<=20):(jH ts q conc a b).length<=340:=by
 have hp:(dw a).length<=20:=Zl (by have:=vR a []; simpa [dw] using this) ha;unfold jH;have key:∀ l:List (Nat × aQ),(l.flatMap fun x=>dS ts q conc x.2 b).length<=17*l.length:=by
  intro l
  induction l with
  | nil => simp
  | cons x l ih =>
   rw[QM,Zb,Zg];have:=(Ai ts q conc x.2 b h8).2;omega
 exact Zl (key _) (by omega)
theorem dQ.old(h:dQ W0 f ts q X M w sb L σ){k:Nat}(hk:k<σ.groups.length){p:aj}(hp:p∈σ.groups.getD k []){y:Nat × aQ}(hy:p.2=some y):L.A k y.1<w.heap.size:=((h.kT k hk).1.tree p hp y hy).lt
theorem aed(E:Env f ts q W0)(h:dQ W0 f ts q X M w sb L σ)(hc:nW q σ)(hal:σ.ak.length<=900000)(i:Nat)(hi:i<q.src.xs.length) :
  Calls Tryz.prog 167 #[.pointer (some (aD sb 0)),.agg #[.int .u64 ((2 ^ i:Nat):Int),.int .u64 0]] w fun e w'=>(∃ v,e=.returned v)/\bX W0 f ts q X M w sb (sV bA ts q (aF ts q) (2 ^ i,0) σ) w':=by
 obtain⟨v0,v1,v2,v3,v4,v5,v6,v7,v8,v9,v10,v11,v12,bB,-⟩:=Xu f ts q;have h5:=E.five;have anm:2 ^ i<2 ^ q.src.xs.length:=Xi (by omega) hi;have aiT:2 ^ q.src.xs.length<=32:=Q7 (n:=2) (by omega) h5;have HD:Hid (sV bA ts q (aF ts q) (2 ^ i,0) σ=fG bA ts q (2 ^ i) [dP ts q (aF ts q) (i:Int)] σ):=by
  show _=_
  unfold sV;rw[Qy rfl,yj i (by omega)]
 have hsc:=sK ts q (conc:=aF ts q) (Xa ts q) (s:=(i:Int)) (by omega) (by omega);have hpos:0<2 ^ i:=Xm (by omega);have hrl:0<(dG (2 ^ i)).length/\(dG (2 ^ i)).length<=64:=by
  refine⟨?_,YY _⟩;have:i=0∨i=1∨i=2∨i=3∨i=4:=by omega
  rcases this with rfl | rfl | rfl | rfl | rfl <;> decide
 have DF:Hid (∀ x,Calls Tryz.prog 242 #[.int .u64 ((2 ^ i:Nat):Int)] x fun e w'=>∃ v,e=.returned v/\w'.ownsRow x.heap.size 3 1 v (dG (2 ^ i)).length ((dG (2 ^ i)).map (Value.int .i64))/\Bw x w'):=fun x=>Ci (2 ^ i) (by omega) x
 have JH:=Zh (yj i (by omega));have HSC:Hid (∀ x,Bw w x->Calls Tryz.prog 241 #[.agg #[v0,v1,v2,v3,v4,v5,v6,v7,v8,v9,v10,v11,v12],.int .i64 (i:Int)] x (bR 178 (fun b=>¬ X b) x (dP ts q (aF ts q) (i:Int)))):=fun x hx=>by
  rw[<- bB];exact KF E (h.hz.next hx) (i:Int) (by omega) (by omega)
 have MM:Hid (∀ (x:World) (c r:Nat),Bw w x->w.heap.size<=r->w.heap.size<=c->x.cell? (aD c 0)=some (.pointer (some (aD r 0)))->aG 178 (fun b=>¬ X b) x r (dP ts q (aF ts q) (i:Int))->Calls Tryz.prog 240 #[.pointer (some (aD sb 0)),.int .u64 ((2 ^ i:Nat):Int),.slice (some (aD c 0)) 1 1] x fun e w'=>(∃ v,e=.returned v)/\bX W0 f ts q X M x sb (sV bA ts q (aF ts q) (2 ^ i,0) σ) w'):=fun x c r hx hr hcc hcell ht=>by
  rw[HD.o];exact FZ E (h.below hx) hc hal (2 ^ i) anm (some (aD c 0)) 1 [(r,dP ts q (aF ts q) (i:Int))] ⟨by simp,fun j hj=>⟨c,0,rfl,by
   have:j=0:=by simpa using hj
   subst this;exact hcell⟩⟩ (fun a e hm=>by injection e with e; rw[<- e]at hm; have:=(h.lt (h.sub _ hm)).2; show False; exact absurd hcc (by show ¬ w.heap.size<=c; have h2:c<w.heap.size:=this; omega)) (fun y hy=>by rw[ZR]at hy; rw[hy]; exact ht) (by simp) (fun k hk p hp y hy hm=>by
    rw[List.map_singleton,ZR]at hm;have:=h.old hk hp hy;omega) (by simp) (fun y hy=>by rw[ZR]at hy; rw[hy]; exact⟨hsc.1,hsc.2.1,by have:=hsc.2.2; show (dP ts q (aF ts q) (i:Int)).ns.length+3<=5*2 ^ i; omega⟩)
 have HAT:=Zh h;have DJ:=Zh bB;have PX:=h.blk;rw[bB]at PX;have aaX:Hid (∀ b,w.heap.size<=b->¬ M b):=fun b hb hm=>by have:=(h.lt (h.sub _ hm)).2; omega
 have hIS:∀ x,Cb 239 #[.agg #[.int .u64 ((2 ^ i:Nat):Int),.int .u64 0]] x (.bool true):=fun x=>vV (2 ^ i) 0 x
 clear h hc hal hi h5 anm aiT HD hsc hpos E bB;generalize sV bA ts q (aF ts q) (2 ^ i,0) σ=DN at *;generalize dP ts q (aF ts q) (i:Int)=ST at *;generalize dG (2 ^ i)=RL at *;obtain⟨tl,htl⟩:∃ n,n=2 ^ i:=⟨_,rfl⟩
 rw[<- htl]at DF MM hIS ⊢;clear htl;obtain⟨T,hT⟩:=eY (mq L σ)
 rw[<- hT]at PX;have qN:=Zh PX;clear PX hT;obtain⟨w1,hw1,hb1,hx1⟩:=aU w #[.int .u64 (tl:Int),.int .u64 0] 236;obtain⟨t0,t1⟩:=hx1.k2;have HB1:=Zh hb1;have qU:=Zh (qN.o.keep (Zo (s:=fun b=>b<w.heap.size) hb1 (fun _ h _=>h)) qN.o.lt);have aaY:=hIS w1;clear hb1 hx1 hIS;go_enter Tryz.func167,Tryz.ntmps167;go_wp2_with fail;refine aaY.mono ?_;rintro e w2 ⟨rfl,hb2⟩;clear aaY hw1;have s0:=cB hb2 t0;have HB2:=Zh (aA HB1.o hb2);have HG2:=Zh (qU.o.keep (Zo (s:=fun b=>b<w1.heap.size) hb2 (fun _ h _=>h)) qU.o.lt);clear hb2 t0 t1;go_wp2_with fail;refine QX (S:=fun x=>Kept (fun b=>¬ M b) w2 x/\∃ T,GB x sb 174 (#[v0,v1,v2,v3,v4,v5,v6,v7,v8,v9,v10,v11,v12]++T)) (by kernel_rfl) ⟨Zo ((Qw w2.heap.size w2).drew) (fun _ hl _=>hl),_,HG2.o⟩ (fun hS=>?_);refine wt 0 (.pointer (some (aD sb 0))) hS ?_;refine wt 1 (.pointer (some (aD w.heap.size 0))) hS ?_;refine wT 2 (.int .u64 (tl:Int)) hS (fun x hx=>?_) ?_
 ·have e0:=X0 hx.1 s0 (aaX.o _ (Qx _));go_simp
 refine wt 3 (.pointer (some (aD sb 0))) hS ?_;refine wt 4 (.pointer (some (aD sb 0))) hS ?_;refine wt 5 (.pointer (some (aD sb 0))) hS ?_;refine wT 6 (.agg #[v0,v1,v2,v3,v4,v5,v6,v7,v8,v9,v10,v11,v12]) hS (fun x hx=>?_) ?_
 ·obtain⟨T2,Cw⟩:=hx.2;obtain⟨e0,e1,e2,e3,e4,e5,e6,e7,e8,e9,e10,e11,e12⟩:=Sn Cw;go_simp
 refine wt 7 (.pointer (some (aD w.heap.size 0))) hS ?_;refine wT 8 (.int .u64 (tl:Int)) hS (fun x hx=>?_) ?_
 ·have e0:=X0 hx.1 s0 (aaX.o _ (Qx _));go_simp
 refine wR 9 fun K hK=>?_
 go_simp;refine Xt (DF.o _) ?_;rintro e w3 ⟨v,rfl,hv,hb3⟩;have Dh:=(Qw w2.heap.size w2).drew.trans hb3;obtain⟨iv,qw,pJ,kD,-⟩:=nH hv (by omega);obtain⟨ja,jc,jx⟩:=iv;simp only[ah.val]at qw pJ kD;subst pJ;subst qw;obtain⟨jb,aAF,rfl,hjc⟩:=Qi kD.2 hrl.1;have j0:=hjc 0 hrl.1;rw[Zf,JH.o]at j0;have AP:=Zh (HG2.o.keep (Zo (s:=fun b=>b<w2.heap.size) Dh (fun _ h _=>h)) HG2.o.lt);refine hK.o _ _ ⟨Zo Dh (fun _ h _=>h),_,AP.o⟩ (fun hS=>?_);clear hK K hv kD hjc;refine wR 10 fun K hK=>?_
 go_simp;refine hK.o _ _ hS fun hS=>?_
 clear hK K;refine wR 11 fun K hK=>?_
 go_simp;refine hK.o _ _ hS fun hS=>?_
 clear hK K;refine wR 12 fun K hK=>?_
 go_simp;refine Xt (HSC.o _ (aA HB2.o Dh)) ?_;rintro e w4 ⟨r,rfl,hTr,hr1,hr2,hb4⟩;have mo:=aA Dh hb4;refine hK.o _ _ ⟨Zo mo (fun _ h _=>h),_,HG2.o.keep (Zo (s:=fun b=>b<w2.heap.size) mo (fun _ h _=>h)) HG2.o.lt⟩ (fun hS=>?_);clear hK K;refine wR 13 fun K hK=>?_
 go_simp;obtain⟨w6,lS⟩:∃ x,x=w4.alloc (.cells #[.pointer (some (aD r 0))] 172):=⟨_,rfl⟩
 have Ha:Bw w4 w6:=by rw[lS]; exact dn _ _
 have yG:=aA mo Ha;have c6:w6.cell? (aD w4.heap.size 0)=some (.pointer (some (aD r 0))):=by rw[lS]; simp
 rw[<- lS];clear lS;have Af:=Zh (aA HB2.o yG);refine hK.o _ _ ⟨Zo yG (fun _ h _=>h),_,HG2.o.keep (Zo (s:=fun b=>b<w2.heap.size) yG (fun _ h _=>h)) HG2.o.lt⟩ (fun hS=>?_);clear hK K;refine wR 14 fun K hK=>?_
 go_simp;refine Xt (MM.o w6 w4.heap.size r Af.o (by have:=HB2.o.size; have:=Dh.size; omega) (by have:=HB2.o.size; have:=mo.size; omega) c6 (hTr.below Ha)) ?_;rintro e w7 ⟨⟨rv,rfl⟩,hp7⟩;have aiV:=hp7;obtain⟨L7,X7,M7,hA7,lu,-⟩:=aiV;refine hK.o _ _ ⟨(Zo yG (fun _ h _=>h)).trans lu,_,by have:=hA7.blk; rw[DJ.o]at this; exact this⟩ (fun hS=>?_);clear hK K hA7 lu c6 Ha yG hTr hr1 hr2 hb4 mo Dh hb3 j0;refine wD ?_
 try simp only[pV]
 try simp only[pV]
 have HF:Hid (bX W0 f ts q X M w sb DN w7):=bX.trans (Zo Af.o (fun _ h hb=>h)) (fun _ h=>h) (fun _ h=>.inl h) (fun b=>⟨fun h=>.inl h,fun h=>by
  rcases h with h | h
  ·exact h
  ·exact HAT.o.sub b h⟩) hp7
 clear hS hp7 s0;go_wp2;refine XE (results_none rfl _ _ _) rfl ?_;exact⟨⟨_,rfl⟩,HF.o⟩
theorem aee(E:Env f ts q W0)(h:dQ W0 f ts q X M w sb L σ)(hc:nW q σ)(hal:σ.ak.length<=900000)(tl tr:Nat)(hr0:tr≠0)(hl1:tl<σ.groups.length)(hr1:tr<σ.groups.length)(hlr:tl &&& tr=0)(hhr:(bL (σ.groups.getD tr [])).isSome=true) :
  Calls Tryz.prog 167 #[.pointer (some (aD sb 0)),.agg #[.int .u64 (tl:Int),.int .u64 (tr:Int)]] w fun e w'=>(∃ v,e=.returned v)/\bX W0 f ts q X M w sb (sV bA ts q (aF ts q) (tl,tr) σ) w':=by
 obtain⟨v0,v1,v2,v3,v4,v5,v6,v7,v8,v9,v10,v11,v12,bB,-⟩:=Xu f ts q;have h5:=E.five;have aiT:2 ^ q.src.xs.length<=32:=Q7 (n:=2) (by omega) h5;have hgl:=hc.vW;have HD:Hid (sV bA ts q (aF ts q) (tl,tr) σ=fG bA ts q (tl|||tr) (jH ts q (aF ts q) (σ.groups.getD tl []) (σ.groups.getD tr [])) σ):=by
  show _=_
  unfold sV;rw[Qz hr0]
 have hor:tl|||tr<2 ^ q.src.xs.length:=sJ (by omega) (by omega)
 have ano:=zq (ts:=ts) (Xa ts q) hlr (hc.kT tl hl1) (hc.kT tr hr1) hhr;have h8:(aF ts q).length<=8:=by rw[Xa]; exact E.eight
 have hjl:=PW ts q (aF ts q) h8 (σ.groups.getD tl []) (σ.groups.getD tr []) (hc.kT tl hl1).short;have HJN:Hid (∀ x,Bw w x->Calls Tryz.prog 243 #[.agg #[v0,v1,v2,v3,v4,v5,v6,v7,v8,v9,v10,v11,v12],.slice (some (aD (L.gb tl) 0)) (σ.groups.getD tl []).length (L.IK tl),.slice (some (aD (L.gb tr) 0)) (σ.groups.getD tr []).length (L.IK tr)] x (jP 178 172 (fun b=>¬ X b) x (jH ts q (aF ts q) (σ.groups.getD tl []) (σ.groups.getD tr [])))):=fun x hx=>by
  rw[<- bB];exact UM E (h.hz.next hx) ((h.kT tl hl1).1.below hx) (hc.kT tl hl1).short (L.IK tl) (fun p hp y hy=>((hc.kT tl hl1).all p hp y hy).1) ((h.kT tr hr1).1.below hx) (hc.kT tr hr1).short (L.IK tr) (fun p hp y hy=>((hc.kT tr hr1).all p hp y hy).1) hhr
 have MM:Hid (∀ (x x0:World) (v:Value) (bs:List (Nat × aQ)),Bw w x0->Bw x0 x->bs.map Prod.snd=jH ts q (aF ts q) (σ.groups.getD tl []) (σ.groups.getD tr [])->bU 178 172 (fun b=>¬ X b) x0.heap.size x v bs->∃ bo bc,v=.slice bo bs.length bc/\Calls Tryz.prog 240 #[.pointer (some (aD sb 0)),.int .u64 ((tl|||tr:Nat):Int),.slice bo bs.length bc] x fun e w'=>(∃ v,e=.returned v)/\bX W0 f ts q X M x sb (sV bA ts q (aF ts q) (tl,tr) σ) w'):=fun x x0 v bs hx0 hx hbs hin=>by
  have hbl:bs.length<=340:=by
   have h1:bs.length=(jH ts q (aF ts q) (σ.groups.getD tl []) (σ.groups.getD tr [])).length:=by rw[<- hbs,Zc]
   rw[h1];exact hjl
  obtain⟨bo,bc,rfl,hup,-,-,hun⟩:=mi (xs:=bs.map Prod.fst) hin.own (by rw[hin.len]; omega);rw[hin.len]at hin ⊢;refine⟨bo,bc,rfl,?_⟩;rw[HD.o,<- hbs];exact FZ E (h.below (aA hx0 hx)) hc hal (tl|||tr) hor bo bc bs hup (fun a e hm=>by have h1:=(h.lt (h.sub _ hm)).2; have h2:=hun a e; have:=hx0.size; omega) (fun y hy=>(hin.tree y hy).1.KG) (Ik hin.rise) (fun k hk p hp y hy hm=>by
   obtain⟨z,hz,e⟩:=Zi.1 hm;have h1:=h.old hk hp hy;have h2:=(hin.tree z hz).2.1;have h3:=hx0.size;rw[e]at h2;omega) (by omega) (fun y hy=>ano y.2 (by rw[<- hbs]; exact List.mem_map_of_mem hy))
 have HAT:=Zh h;have DJ:=Zh bB;have PX:=h.cells bB;have aef:=h.blk;rw[bB]at aef;have c13:=PX.at 13;have anp:=h.tH tl hl1;have anq:=h.tH tr hr1;have aaX:Hid (∀ b,w.heap.size<=b->¬ M b):=fun b hb hm=>by have:=(h.lt (h.sub _ hm)).2; omega
 have hIS:∀ x,Cb 239 #[.agg #[.int .u64 (tl:Int),.int .u64 (tr:Int)]] x (.bool false):=fun x=>by
  have:=vV tl tr x
  rwa [Ql hr0]at this
 have htl:(tl:Int)<(σ.groups.length:Int):=by omega
 have htr:(tr:Int)<(σ.groups.length:Int):=by omega
 have HUN:Hid (∀ (b:Nat) (x:World),x.cell? (aD b 0)=some (.int .u64 (tl:Int))->x.cell? (aD b 1)=some (.int .u64 (tr:Int))->Ce 195 #[.slice (some (aD b 0)) 2 2] x (.int .u64 ((tl|||tr:Nat):Int))):=fun b x h0 h1=>jM b tl tr x h0 h1 (by omega) (by omega)
 clear h hc hal hhr hlr h5 aiT hgl HD hor ano h8 hjl PX E bB hl1 hr1 hr0;generalize sV bA ts q (aF ts q) (tl,tr) σ=DN at *;generalize jH ts q (aF ts q) (σ.groups.getD tl []) (σ.groups.getD tr [])=JT at *;generalize (σ.groups.getD tl []).length=gll at *;generalize (σ.groups.getD tr []).length=glr at *;generalize L.gb tl=gbl at *;generalize L.gb tr=gbr at *;generalize L.IK tl=gcl at *;generalize L.IK tr=gcr at *;obtain⟨T,hT⟩:=eY (mq L σ)
 rw[<- hT]at aef;generalize L.gs=ggs at *;obtain⟨gn,hgn⟩:∃ n,n=σ.groups.length:=⟨_,rfl⟩
 rw[<- hgn]at c13 htl htr;generalize L.O4=aeb at *;have qN:=Zh aef;clear aef hT hgn;generalize (tl|||tr)=TOR at *;obtain⟨w1,hw1,hb1,hx1⟩:=aU w #[.int .u64 (tl:Int),.int .u64 (tr:Int)] 236;obtain⟨t0,t1⟩:=hx1.k2;have HB1:=Zh hb1;have aaY:=hIS w1;clear hb1 hx1 hIS;go_enter Tryz.func167,Tryz.ntmps167;go_wp2_with fail;refine aaY.mono ?_;rintro e w2 ⟨rfl,hb2⟩;clear aaY hw1;have hB2:=aA HB1.o hb2;have s0:=cB hb2 t0;have s1:=cB hb2 t1;have d13:=cB hB2 c13;have dl:=cB hB2 anp;have dr:=cB hB2 anq;have HB2:=Zh hB2;clear hb2 hB2 t0 t1 c13 anp anq;go_wp2_with fail;refine wH w2 fun hS=>?_
 refine wt 0 (.pointer (some (aD sb 0))) hS ?_;refine wt 1 (.pointer (some (aD sb 0))) hS ?_;refine wt 2 (.pointer (some (aD sb 13))) hS ?_;refine lH 3 (.slice (some (aD ggs 0)) gn aeb) hS d13 ?_;refine wt 4 (.pointer (some (aD w.heap.size 0))) hS ?_;refine lH 5 (.int .u64 (tl:Int)) hS s0 ?_;refine wt 6 (.pointer (some (aD ggs tl))) hS ?_;refine lH 7 (.slice (some (aD gbl 0)) gll gcl) hS dl ?_;refine wt 8 (.pointer (some (aD sb 0))) hS ?_;refine wt 9 (.pointer (some (aD sb 0))) hS ?_;refine wt 10 (.pointer (some (aD sb 13))) hS ?_;refine lH 11 (.slice (some (aD ggs 0)) gn aeb) hS d13 ?_;refine wt 12 (.pointer (some (aD w.heap.size 1))) hS ?_;refine lH 13 (.int .u64 (tr:Int)) hS s1 ?_;refine wt 14 (.pointer (some (aD ggs tr))) hS ?_;refine lH 15 (.slice (some (aD gbr 0)) glr gcr) hS dr ?_;refine wt 16 (.slice (some (aD gbl 0)) gll gcl) hS ?_;refine wR 17 fun K hK=>?_
 go_simp;refine hK.o _ _ hS fun hS=>?_
 clear hK K;refine wD ?_
 try simp only[pV]
 try simp only[pV]
 have HB3:=Zh HB2.o.drew;have AP:=Zh (qN.o.keep (Zo (s:=fun b=>b<w.heap.size) HB3.o (fun _ h _=>h)) qN.o.lt);have r0:w2.drew.cell? (aD w.heap.size 0)=some (.int .u64 (tl:Int)):=s0;have r1:w2.drew.cell? (aD w.heap.size 1)=some (.int .u64 (tr:Int)):=s1;clear hS s0 s1 d13 dl dr HB2;generalize w2.drew=w3 at *;go_wp2_with fail;refine QX (S:=fun x=>Kept (fun b=>¬ M b) w3 x/\∃ T,GB x sb 174 (#[v0,v1,v2,v3,v4,v5,v6,v7,v8,v9,v10,v11,v12]++T)) (by kernel_rfl) ⟨Zo ((Qw w3.heap.size w3).drew) (fun _ hl _=>hl),_,AP.o⟩ (fun hS=>?_);refine wt 0 (.pointer (some (aD sb 0))) hS ?_;refine wt 1 (.pointer (some (aD w.heap.size 0))) hS ?_;refine wT 2 (.int .u64 (tl:Int)) hS (fun x hx=>?_) ?_
 ·have e0:=X0 hx.1 r0 (aaX.o _ (Qx _));go_simp
 refine wt 3 (.pointer (some (aD w.heap.size 1))) hS ?_;refine wT 4 (.int .u64 (tr:Int)) hS (fun x hx=>?_) ?_
 ·have e0:=X0 hx.1 r1 (aaX.o _ (Qx _));go_simp
 refine wt 7 (.pointer (some (aD sb 0))) hS ?_;refine wt 8 (.pointer (some (aD sb 0))) hS ?_;refine wt 9 (.pointer (some (aD sb 0))) hS ?_;refine wT 10 (.agg #[v0,v1,v2,v3,v4,v5,v6,v7,v8,v9,v10,v11,v12]) hS (fun x hx=>?_) ?_
 ·obtain⟨T2,Cw⟩:=hx.2;obtain⟨e0,e1,e2,e3,e4,e5,e6,e7,e8,e9,e10,e11,e12⟩:=Sn Cw;go_simp
 refine wt 11 (.slice (some (aD gbl 0)) gll gcl) hS ?_;refine wt 12 (.slice (some (aD gbr 0)) glr gcr) hS ?_;refine wR 5 fun K hK=>?_
 go_simp;obtain⟨w4,hw4⟩:∃ x,x=(w3.alloc (.cells #[.int .u64 (tl:Int),.int .u64 (tr:Int)] 86)).drew:=⟨_,rfl⟩
 have Ii:Bw w3 w4:=by rw[hw4]; exact(dn _ _).drew
 have u0:w4.cell? (aD w3.heap.size 0)=some (.int .u64 (tl:Int)):=by rw[hw4]; exact(GB.alloc w3 _ _).cell 0
 have u1:w4.cell? (aD w3.heap.size 1)=some (.int .u64 (tr:Int)):=by rw[hw4]; exact(GB.alloc w3 _ _).cell 1
 rw[<- hw4];clear hw4;have hKF:∀ x,Bw w3 x->GB x sb 174 (#[v0,v1,v2,v3,v4,v5,v6,v7,v8,v9,v10,v11,v12]++T):=fun x hx=>AP.o.keep (Zo (s:=fun b=>b<w3.heap.size) hx (fun _ h _=>h)) AP.o.lt
 have HKF:=Zh hKF;clear hKF;refine hK.o _ _ ⟨Zo Ii (fun _ h _=>h),_,HKF.o _ Ii⟩ (fun hS=>?_);clear hK K;refine wR 6 fun K hK=>?_
 go_simp;refine Xt (HUN.o w3.heap.size w4 u0 u1) ?_;rintro e wz ⟨rfl,hwz⟩;have pI:=hwz.symm;subst pI;refine hK.o _ _ hS fun hS=>?_
 clear hK K u0 u1;refine wR 13 fun K hK=>?_
 go_simp;refine Xt (HJN.o w4 (aA HB3.o Ii)) ?_;rintro e w6 ⟨v,bs,rfl,hbs,hin,hb6⟩;obtain⟨bo,bc,rfl,hKE⟩:=MM.o w6 w4 v bs (aA HB3.o Ii) hb6 hbs hin;have aaZ:=aA Ii hb6;have Af:=Zh (aA HB3.o aaZ);refine hK.o _ _ ⟨Zo aaZ (fun _ h _=>h),_,HKF.o _ aaZ⟩ (fun hS=>?_);clear hK K;refine wR 14 fun K hK=>?_
 generalize bs.length=bl at *;go_simp;refine Xt hKE ?_;rintro e w7 ⟨⟨rv,rfl⟩,hp7⟩;have aiV:=hp7;obtain⟨L7,X7,M7,hA7,lu,-⟩:=aiV;refine hK.o _ _ ⟨(Zo aaZ (fun _ h _=>h)).trans lu,_,by have:=hA7.blk; rw[DJ.o]at this; exact this⟩ (fun hS=>?_);clear hK K hA7 lu aaZ hb6 Ii hin hbs hKE;refine wD ?_
 try simp only[pV]
 try simp only[pV]
 have HF:Hid (bX W0 f ts q X M w sb DN w7):=bX.trans (Zo Af.o (fun _ h hb=>h)) (fun _ h=>h) (fun _ h=>.inl h) (fun b=>⟨fun h=>.inl h,fun h=>by
  rcases h with h | h
  ·exact h
  ·exact HAT.o.sub b h⟩) hp7
 clear hS hp7 r0 r1;go_wp2;go_end0;exact⟨⟨_,rfl⟩,HF.o⟩
theorem aiW(E:Env f ts q W0)(h:dQ W0 f ts q X M w sb L σ)(hc:nW q σ)(hal:σ.ak.length<=900000)(t:bG)(ht:lZ q.src.xs.length σ.groups t) :
  Calls Tryz.prog 167 #[.pointer (some (aD sb 0)),.agg #[.int .u64 (t.1:Int),.int .u64 (t.2:Int)]] w fun e w'=>(∃ v,e=.returned v)/\bX W0 f ts q X M w sb (sV bA ts q (aF ts q) t σ) w':=by
 obtain⟨tl,tr⟩:=t;rcases ht with⟨h0,i,hi,e⟩ | ⟨h0,h1,h2,h3,h4,h6⟩
 ·have h0:tr=0:=h0;have e:tl=2 ^ i:=e;subst h0 e;exact aed E h hc hal i hi
 ·exact aee E h hc hal tl tr h0 h1 h2 h3 h6

import Derived.Test.YtjndadibondgbaaGreatDoorL43
set_option linter.all false
set_option maxRecDepth 100000
set_option maxHeartbeats 16000000
namespace Go.Proofs.Zz
open Go.RowKit Go.Shelf
theorem UJ(w:World):Cb 5 #[] w (.bool true):=by
 obtain⟨r,s,a3⟩:=adZ w;have f:=Aa (jR w.heap.size) w;have i:=(JN (some (aD w.heap.size 0)) (some (aD (w.heap.size+1+1+1+1+1+1+1+1+1) 0)) 1 1 Ab (yE w.heap.size) (CX w.heap.size) _ r s (Qs _) (Qs _) (Qs _) a3 (PS _) (UI _)).mono fun e w' h=>uU (X:=[[4,10]]) (by simp) h
 have j:=Zh f;clear r s a3 f;have k:Calls Tryz.prog 15 #[.slice (some (aD w.heap.size 0)) 1 1,.agg #[.slice (some (aD (w.heap.size+1) 0)) 1 1,.slice none 0 0,.bool true,.slice none 0 0,.slice (some (aD (w.heap.size+1+1) 0)) 1 1,.slice none 0 0,.slice none 0 0],.slice (some (aD (w.heap.size+1+1+1+1+1+1+1+1+1) 0)) 1 1] (((((((((((w).alloc (.cells #[.int .i64 1,.int .i64 10,.int .i64 10,.int .i64 0,.int .i64 0,.int .i64 0] 50)).alloc (.cells #[.int .i64 0] 3)).alloc (.cells #[.int .i64 0] 3)).alloc (.cells #[.slice (some (aD (w.heap.size+1) 0)) 1 1,.slice none 0 0,.bool true,.slice none 0 0,.slice (some (aD (w.heap.size+1+1) 0)) 1 1,.slice none 0 0,.slice none 0 0] 26)).alloc (.cells #[.int .i64 4] 3)).alloc (.cells #[.int .i64 3] 3)).alloc (.cells #[.int .i64 3] 3)).alloc (.cells #[.int .i64 1073741824] 3)).alloc (.cells #[.slice (some (aD (w.heap.size+1+1+1+1) 0)) 1 1,.slice (some (aD (w.heap.size+1+1+1+1+1) 0)) 1 1,.slice (some (aD (w.heap.size+1+1+1+1+1+1) 0)) 1 1,.slice (some (aD (w.heap.size+1+1+1+1+1+1+1) 0)) 1 1] 22)).alloc (.cells #[.slice (some (aD (w.heap.size+1+1+1+1+1+1+1+1) 0)) 4 4] 53)) _:=i;clear i;go_enter Tryz.func5,Tryz.ntmps5;go_wp2_with fail;refine k.mono ?_;rintro e m ⟨I,C,ys,rfl,q,d,l⟩;clear k;obtain⟨y,rfl⟩:=List.length_eq_one_iff.1 (show ys.length=1 by simpa using congrArg List.length d);obtain⟨D,E,F⟩:=y;have n:F=[4,10]:=by injection d
 subst n;obtain⟨g,G,rfl,t⟩:=q.2.1 0 (by simp);have a:aI m D [4,10]:=q.2.2 0 (by simp);obtain⟨b,off,e,u⟩:=a.2 0 (by decide);obtain⟨_,_,H,v⟩:=a.2 1 (by decide);subst e
 cases H
 have z:m.cell? (aD g G)=some (.slice (some (aD b off)) 2 E):=t;have A:m.cell? (aD b off)=some (.int .i64 4):=u;have B:m.cell? (aD b (off+1))=some (.int .i64 10):=v;have p:=Zh (j.o.trans (l.mono j.o.size));clear t u v a q l d;simp only[Q7,Q8,Nat.reduceAdd];go_wp2;go_ret;exact⟨rfl,p.o⟩

import Derived.WalkSmall
import Derived.Deep.MidRow
namespace Go.Proofs.YtjlfibhbfdckpaaGreatDoor
set_option maxHeartbeats 64000000
set_option maxRecDepth 100000
section
open Go.RowKit
theorem zH {p:Prop} (h:p):Hid p:=h
theorem sM {P:Program} {f:FuncId} {a:Array Value} {w:World} {v:Ending} {Q:Ending->World->Prop} (h:Calls P f a w λe w'=>e=v/\w'=w) (k:Q v w):Calls P f a w Q:=h.mono (by rintro e w' ⟨rfl,rfl⟩;exact k)
structure Pn where
 f:Int
 b:Int
 bo:Bool
 un:Bool
 re:Bool
structure zk where
 r:Int
 p:Int
 n:Pn
def Pn.plain:Pn:=⟨0,0,false,false,false⟩
abbrev Pn.agg (n:Pn):Value:=.agg #[.int .i64 n.f,.int .i64 n.b,.bool n.bo,.bool n.un,.bool n.re]
abbrev zk.vals (c:zk):List Value:=[.int .i32 c.r,.int .i64 c.p,.int .i64 c.n.f,.int .i64 c.n.b,.bool c.n.bo,.bool c.n.un,.bool c.n.re]
abbrev zk.agg (c:zk):Value:=.agg #[.int .i32 c.r,.int .i64 c.p,.int .i64 c.n.f,.int .i64 c.n.b,.bool c.n.bo,.bool c.n.un,.bool c.n.re]
def blk (n:Pn):zk:=⟨32,0,n⟩
theorem zm (n:Int) (h0:-9223372036854775808<=n) (h1:n<=9223372036854775807):IntKind.i64.wrap n=n:=by
 rw[IntKind.wrap_i64];omega
theorem zf (w:World) (o:Obj):(w.alloc o).heap[w.heap.size]?=some o:=by
 show(w.heap.push o)[w.heap.size]?=some o;simp
theorem za {w:World} {b:Nat} {C:Array Value} {t:TypeId} {fr:Nat × Nat} (hb:w.heap[b]?=some (.cells C t fr)) (o:Nat):w.cell? ⟨b,o,none⟩=C[o]?:=by
 unfold World.cell?;simp[hb]
theorem ze {w:World} {b:Nat} {C:Array Value} {t:TypeId} (hb:w.heap[b]?=some (.cells C t)) (o:Nat):w.frozen? ⟨b,o,none⟩=false:=by
 unfold World.frozen?;simp[hb]
def zv (w:World) (g o:Nat) (c:zk):Prop:=w.cell? ⟨g,o,none⟩=some (.int .i32 c.r)/\w.cell? ⟨g,o+1,none⟩=some (.int .i64 c.p)/\w.cell? ⟨g,o+2,none⟩=some (.int .i64 c.n.f)/\w.cell? ⟨g,o+3,none⟩=some (.int .i64 c.n.b)/\w.cell? ⟨g,o+4,none⟩=some (.bool c.n.bo)/\w.cell? ⟨g,o+5,none⟩=some (.bool c.n.un)/\w.cell? ⟨g,o+6,none⟩=some (.bool c.n.re)
structure zd (F:Nat->Prop) (w w':World):Prop where
 os:w'.os=w.os
 tape:w'.tape=w.tape
 output:w'.output=w.output
 size:w.heap.size<=w'.heap.size
 block:∀k,k<w.heap.size->¬F k->w'.heap[k]?=w.heap[k]?
theorem zd.refl (F:Nat->Prop) (w:World):zd F w w:=⟨rfl,rfl,rfl,Nat.le_refl _,λ_ _ _=>rfl⟩
theorem zd.trans {F G:Nat->Prop} {a b c:World} (h:zd F a b) (k:zd G b c) (hG:∀i,i<a.heap.size->G i->F i):zd F a c:=
 ⟨k.os.trans h.os,k.tape.trans h.tape,k.output.trans h.output,Nat.le_trans h.size k.size,λi hi hF=>
  (k.block i (Nat.lt_of_lt_of_le hi h.size) (λhg=>hF (hG i hi hg))).trans (h.block i hi hF)⟩
theorem zd.below {w w':World} (F:Nat->Prop) (h:Below w.heap.size w w'):zd F w w':=⟨h.os,h.tape,h.output,h.size,λk hk _=>h.block k hk⟩
theorem zd.thenBelow {F:Nat->Prop} {a b c:World} (h:zd F a b) (k:Below b.heap.size b c):zd F a c:=
 h.trans (zd.below F k) (λ_ _ h=>h)
theorem zd.drew {F:Nat->Prop} {a b:World} (h:zd F a b):zd F a b.drew:=⟨h.os,h.tape,h.output,h.size,h.block⟩
theorem zd.drewN {F:Nat->Prop} {a b:World} (h:zd F a b) (n:Nat):zd F a (b.drewN n):=⟨h.os,h.tape,h.output,h.size,h.block⟩
theorem zd.setCell {F:Nat->Prop} {a b:World} (h:zd F a b) (p:Addr) (u:Value) (hp:p.block<a.heap.size->F p.block):zd F a (b.setCell p u):=by
 refine⟨h.os,h.tape,h.output,?_,λk hk hF=>?_⟩
 ·have:(b.setCell p u).heap.size=b.heap.size:=by simp[World.setCell]
  rw[this];exact h.size
 ·have hne:k≠p.block:=λe=>hF (e ▸ hp (e ▸ hk));rw[Below.heap_setCell b p u k hne];exact h.block k hk hF
theorem zd.alloc {F:Nat->Prop} {a b:World} (h:zd F a b) (o:Obj):zd F a (b.alloc o):=by
 have hb:Below b.heap.size b (b.alloc o):=(Below.refl _ _).alloc (Nat.le_refl _) o;exact h.thenBelow hb
theorem zd.mono {F G:Nat->Prop} {a b:World} (h:zd F a b) (hF:∀i,F i->G i):zd G a b:=⟨h.os,h.tape,h.output,h.size,λk hk hG=>h.block k hk (λhf=>hG (hF k hf))⟩
theorem zd.toBelow {F:Nat->Prop} {a b:World} {B:Nat} (h:zd F a b) (hB:B<=a.heap.size) (hF:∀i,i<B->¬F i):Below B a b:=
 ⟨h.os,h.tape,h.output,h.size,λk hk=>h.block k (Nat.lt_of_lt_of_le hk hB) (hF k hk)⟩
theorem Zj {w w':World} {b:Nat} (h:w'.heap[b]?=w.heap[b]?) (o:Nat):w'.cell? ⟨b,o,none⟩=w.cell? ⟨b,o,none⟩:=by
 unfold World.cell?;simp[h]
theorem za4 {w w':World} {b:Nat} (h:w'.heap[b]?=w.heap[b]?) (o:Nat):w'.frozen? ⟨b,o,none⟩=w.frozen? ⟨b,o,none⟩:=by
 unfold World.frozen?;simp[h]
structure zhf (w:World) (g W H:Nat) (G:Nat->Nat->zk):Prop where
 cel:∀x y,x<W->y<H->zv w g ((y*W+x)*7) (G x y)
 free:∀o,w.frozen? ⟨g,o,none⟩=false
theorem zhf.same {w w':World} {g W H:Nat} {G:Nat->Nat->zk} (h:zhf w g W H G) (hb:w'.heap[g]?=w.heap[g]?):zhf w' g W H G:=
 ⟨λx y hx hy=>by have:=h.cel x y hx hy;simpa[zv,Zj hb] using this,λo=>by rw[za4 hb];exact h.free o⟩
theorem zv.lt {w:World} {g o:Nat} {c:zk} (h:zv w g o c):g<w.heap.size:=World.block_lt_of_cell? _ _ h.1
theorem zcb {W x y x' y':Nat} (hx:x<W) (hx':x'<W) (h:y*W+x=y'*W+x'):x=x'/\y=y':=by
 have hy:y=y':=by
  have a:(y*W+x)/W=y:=by rw[Nat.mul_comm,Nat.mul_add_div (by omega)];simp[Nat.div_eq_of_lt hx]
  have b:(y'*W+x')/W=y':=by rw[Nat.mul_comm,Nat.mul_add_div (by omega)];simp[Nat.div_eq_of_lt hx']
  rw[←a,←b,h]
 subst hy;exact⟨by omega,rfl⟩
theorem zas {W H x y:Nat} (hx:x<W) (hy:y<H):y*W+x<H*W:=by
 have:(y+1)*W<=H*W:=Nat.mul_le_mul_right W hy;rw[Nat.add_mul] at this;omega
def put7 (w:World) (g o:Nat) (c:zk):World:=
 ((((((w.setCell ⟨g,o,none⟩ (.int .i32 c.r)).setCell ⟨g,o+1,none⟩ (.int .i64 c.p)).setCell ⟨g,o+2,none⟩ (.int .i64 c.n.f)).setCell ⟨g,o+3,none⟩ (.int .i64 c.n.b)).setCell ⟨g,o+4,none⟩ (.bool c.n.bo)).setCell ⟨g,o+5,none⟩ (.bool c.n.un)).setCell ⟨g,o+6,none⟩ (.bool c.n.re)
theorem zd.put7 {F:Nat->Prop} {a b:World} (h:zd F a b) (g o:Nat) (c:zk) (hp:g<a.heap.size->F g):zd F a (put7 b g o c):=
 ((((((h.setCell _ _ hp).setCell _ _ hp).setCell _ _ hp).setCell _ _ hp).setCell _ _ hp).setCell _ _ hp).setCell _ _ hp
theorem zbA (w:World) (a:Addr) (v:Value):(w.setCell a v).heap.size=w.heap.size:=by simp[World.setCell]
theorem zaJ (w:World) (g o:Nat) (c:zk):(put7 w g o c).heap.size=w.heap.size:=by simp only[put7,zbA]
theorem zW (w:World) (g o k:Nat) (c:zk) (h:k≠g):(put7 w g o c).heap[k]?=w.heap[k]?:=by
 unfold put7;rw[Below.heap_setCell _ _ _ _ h,Below.heap_setCell _ _ _ _ h,Below.heap_setCell _ _ _ _ h,Below.heap_setCell _ _ _ _ h,Below.heap_setCell _ _ _ _ h,Below.heap_setCell _ _ _ _ h,Below.heap_setCell _ _ _ _ h]
theorem zF (w:World) (g o q:Nat) (v:Value) (h:q≠o):(w.setCell ⟨g,o,none⟩ v).cell? ⟨g,q,none⟩=w.cell? ⟨g,q,none⟩ :=
 World.cell?_setCell_other _ _ _ _ (by intro e;cases e;exact h rfl)
theorem zcp (w:World) (g o:Nat) (v u:Value) (h:w.cell? ⟨g,o,none⟩=some u):(w.setCell ⟨g,o,none⟩ v).cell? ⟨g,o,none⟩=some v:=
 World.cell?_setCell_same _ _ _ h
theorem zdS (w:World) (a b:Addr) (v:Value):(w.setCell a v).frozen? b=w.frozen? b:=World.frozen?_setCell w a b v
def upd (G:Nat->Nat->zk) (x y:Nat) (c:zk):Nat->Nat->zk:=λa b=>if a=x/\b=y then c else G a b
theorem zaL {w:World} {g o q:Nat} {c:zk} (h:q<o\/o+7<=q):(put7 w g o c).cell? ⟨g,q,none⟩=w.cell? ⟨g,q,none⟩:=by
 unfold put7;rw[zF _ _ _ _ _ (by omega),zF _ _ _ _ _ (by omega),zF _ _ _ _ _ (by omega),zF _ _ _ _ _ (by omega),zF _ _ _ _ _ (by omega),zF _ _ _ _ _ (by omega),zF _ _ _ _ _ (by omega)]
theorem zai {w:World} {g o:Nat} {c d:zk} (h:zv w g o d):zv (put7 w g o c) g o c:=by
 obtain⟨h0,h1,h2,h3,h4,h5,h6⟩:=h;unfold put7;refine⟨?_,?_,?_,?_,?_,?_,?_⟩
 ·rw[zF _ _ _ _ _ (by omega),zF _ _ _ _ _ (by omega),zF _ _ _ _ _ (by omega),zF _ _ _ _ _ (by omega),zF _ _ _ _ _ (by omega),zF _ _ _ _ _ (by omega)];refine zcp _ _ _ _ (.int .i32 d.r) ?_;exact h0
 ·rw[zF _ _ _ _ _ (by omega),zF _ _ _ _ _ (by omega),zF _ _ _ _ _ (by omega),zF _ _ _ _ _ (by omega),zF _ _ _ _ _ (by omega)];refine zcp _ _ _ _ (.int .i64 d.p) ?_;rw[zF _ _ _ _ _ (by omega)];exact h1
 ·rw[zF _ _ _ _ _ (by omega),zF _ _ _ _ _ (by omega),zF _ _ _ _ _ (by omega),zF _ _ _ _ _ (by omega)];refine zcp _ _ _ _ (.int .i64 d.n.f) ?_;rw[zF _ _ _ _ _ (by omega),zF _ _ _ _ _ (by omega)];exact h2
 ·rw[zF _ _ _ _ _ (by omega),zF _ _ _ _ _ (by omega),zF _ _ _ _ _ (by omega)];refine zcp _ _ _ _ (.int .i64 d.n.b) ?_;rw[zF _ _ _ _ _ (by omega),zF _ _ _ _ _ (by omega),zF _ _ _ _ _ (by omega)];exact h3
 ·rw[zF _ _ _ _ _ (by omega),zF _ _ _ _ _ (by omega)];refine zcp _ _ _ _ (.bool d.n.bo) ?_;rw[zF _ _ _ _ _ (by omega),zF _ _ _ _ _ (by omega),zF _ _ _ _ _ (by omega),zF _ _ _ _ _ (by omega)];exact h4
 ·rw[zF _ _ _ _ _ (by omega)];refine zcp _ _ _ _ (.bool d.n.un) ?_;rw[zF _ _ _ _ _ (by omega),zF _ _ _ _ _ (by omega),zF _ _ _ _ _ (by omega),zF _ _ _ _ _ (by omega),zF _ _ _ _ _ (by omega)];exact h5
 ·refine zcp _ _ _ _ (.bool d.n.re) ?_;rw[zF _ _ _ _ _ (by omega),zF _ _ _ _ _ (by omega),zF _ _ _ _ _ (by omega),zF _ _ _ _ _ (by omega),zF _ _ _ _ _ (by omega),zF _ _ _ _ _ (by omega)];exact h6
theorem zhf.put {w:World} {g W H:Nat} {G:Nat->Nat->zk} (h:zhf w g W H G) {x y:Nat} (hx:x<W) (hy:y<H) (c:zk):zhf (put7 w g ((y*W+x)*7) c) g W H (upd G x y c):=by
 refine⟨λa b ha hb=>?_,λo=>?_⟩
 ·unfold upd;by_cases e:a=x/\b=y
  ·rw[if_pos e];obtain⟨rfl,rfl⟩:=e;exact zai (h.cel _ _ ha hb)
  ·rw[if_neg e];have hne:b*W+a≠y*W+x:=λe'=>e (zcb ha hx e');have:=h.cel a b ha hb;simp only[zv] at this ⊢;rw[zaL (by omega),zaL (by omega),zaL (by omega),zaL (by omega),zaL (by omega),zaL (by omega),zaL (by omega)];exact this
 ·unfold put7;simp only[zdS];exact h.free o
theorem ZZ (w:World) (a:Addr) (v:Value) (x:Addr):((w.setCell a v).cell? x).isSome=(w.cell? x).isSome:=by
 by_cases e:a=x
 ·subst e;cases h:w.cell? a with
  |some u=>rw[World.cell?_setCell_same _ _ _ h];rfl
  |none=>
   unfold World.cell? at h ⊢;unfold World.setCell;simp only[Array.getElem?_modify,↓reduceIte];cases hb:w.heap[a.block]? with
   |none=>simp
   |some o=>cases o<;>simp_all
 ·rw[World.cell?_setCell_other _ _ _ _ e]
theorem zv.same {w w':World} {g o:Nat} {c:zk} (h:zv w g o c) (hb:w'.heap[g]?=w.heap[g]?):zv w' g o c:=by
 simp only[zv,Zj hb];exact h
theorem zv.below {w w':World} {B g o:Nat} {c:zk} (h:zv w g o c) (hb:Below B w w') (hg:g<B):zv w' g o c:=h.same (hb.block _ hg)
theorem zv.put {w:World} {g o b q:Nat} {c d:zk} (h:zv w b q c) (hne:b≠g):zv (put7 w g o d) b q c:=h.same (zW _ _ _ _ _ hne)
theorem _root_.Go.RowKit.Below.cells {B:Nat} {w w':World} (h:Below B w w') {b:Nat} (hb:b<B):∀o,w'.cell? ⟨b,o,none⟩=w.cell? ⟨b,o,none⟩:=λo=>h.cell (p:=⟨b,o,none⟩) hb
theorem _root_.Go.RowKit.Below.marks {B:Nat} {w w':World} (h:Below B w w') {b:Nat} (hb:b<B):∀o,w'.frozen? ⟨b,o,none⟩=w.frozen? ⟨b,o,none⟩:=λo=>h.frozen (p:=⟨b,o,none⟩) hb
structure Zp (w:World) (bc g cap W H N:Nat) (G:Nat->Nat->zk):Prop where
 blk:w.heap[bc]?=some (.cells #[.int .i64 W,.int .i64 H,.slice (some ⟨g,0,none⟩) N cap] 122)
 grid:zhf w g W H G
 hN:N=H*W
 ne:bc≠g
 w1:1<=W
 w2:W<=40
 h1:1<=H
 h2:H<=20
theorem Zp.nle {w:World} {bc g cap W H N:Nat} {G:Nat->Nat->zk} (h:Zp w bc g cap W H N G):N<=800:=by
 rw[h.hN];exact Nat.mul_le_mul h.h2 h.w2
theorem Zp.lt {w:World} {bc g cap W H N:Nat} {G:Nat->Nat->zk} (h:Zp w bc g cap W H N G):bc<w.heap.size:=by
 have:=h.blk;exact(Array.getElem?_eq_some_iff.1 this).1
theorem Zp.glt {w:World} {bc g cap W H N:Nat} {G:Nat->Nat->zk} (h:Zp w bc g cap W H N G):g<w.heap.size:=(h.grid.cel 0 0 h.w1 h.h1).lt
theorem Zp.same {w w':World} {bc g cap W H N:Nat} {G:Nat->Nat->zk} (h:Zp w bc g cap W H N G) (h1:w'.heap[bc]?=w.heap[bc]?) (h2:w'.heap[g]?=w.heap[g]?):Zp w' bc g cap W H N G:=
 ⟨by rw[h1];exact h.blk,h.grid.same h2,h.hN,h.ne,h.w1,h.w2,h.h1,h.h2⟩
theorem Zp.below {w w':World} {bc g cap W H N:Nat} {G:Nat->Nat->zk} (h:Zp w bc g cap W H N G) (hb:Below w.heap.size w w'):Zp w' bc g cap W H N G:=
 h.same (hb.block _ h.lt) (hb.block _ h.glt)
theorem Zp.put {w:World} {bc g cap W H N:Nat} {G:Nat->Nat->zk} (h:Zp w bc g cap W H N G) {x y:Nat} (hx:x<W) (hy:y<H) (c:zk):Zp (put7 w g ((y*W+x)*7) c) bc g cap W H N (upd G x y c):=
 ⟨by rw[zW _ _ _ _ _ h.ne];exact h.blk,h.grid.put hx hy c,h.hN,h.ne,h.w1,h.w2,h.h1,h.h2⟩
theorem Zp.c0 {w:World} {bc g cap W H N:Nat} {G:Nat->Nat->zk} (h:Zp w bc g cap W H N G):w.cell? ⟨bc,0,none⟩=some (.int .i64 W):=by rw[za h.blk];rfl
theorem Zp.c1 {w:World} {bc g cap W H N:Nat} {G:Nat->Nat->zk} (h:Zp w bc g cap W H N G):w.cell? ⟨bc,1,none⟩=some (.int .i64 H):=by rw[za h.blk];rfl
theorem Zp.c2 {w:World} {bc g cap W H N:Nat} {G:Nat->Nat->zk} (h:Zp w bc g cap W H N G):w.cell? ⟨bc,2,none⟩=some (.slice (some ⟨g,0,none⟩) N cap):=by rw[za h.blk];rfl
theorem Zp.drew {w:World} {bc g cap W H N:Nat} {G:Nat->Nat->zk} (h:Zp w bc g cap W H N G):Zp w.drew bc g cap W H N G:=h.same rfl rfl
theorem zL {w w':World} (h:Below w.drew.heap.size w.drew w'):Below w.heap.size w w':=⟨h.os,h.tape,h.output,h.size,h.block⟩
def Zf (w:World) (b o:Nat) (n:Pn):Prop:=w.cell? ⟨b,o,none⟩=some (.int .i64 n.f)/\w.cell? ⟨b,o+1,none⟩=some (.int .i64 n.b)/\w.cell? ⟨b,o+2,none⟩=some (.bool n.bo)/\w.cell? ⟨b,o+3,none⟩=some (.bool n.un)/\w.cell? ⟨b,o+4,none⟩=some (.bool n.re)
theorem Zf.lt {w:World} {b o:Nat} {n:Pn} (h:Zf w b o n):b<w.heap.size:=World.block_lt_of_cell? _ _ h.1
theorem Zf.same {w w':World} {b o:Nat} {n:Pn} (h:Zf w b o n) (hb:w'.heap[b]?=w.heap[b]?):Zf w' b o n:=by
 simp only[Zf,Zj hb];exact h
theorem Zf.keep {F:Nat->Prop} {w w':World} {b o:Nat} {n:Pn} (h:Zf w b o n) (k:zd F w w') (hF:¬F b):Zf w' b o n:=h.same (k.block _ h.lt hF)
theorem ZO (w:World) (n:Pn) (t:TypeId):Zf (w.alloc (.cells #[.int .i64 n.f,.int .i64 n.b,.bool n.bo,.bool n.un,.bool n.re] t)) w.heap.size 0 n:=by
 refine⟨?_,?_,?_,?_,?_⟩<;>(rw[za (zf w _)];rfl)
theorem size_alloc (w:World) (o:Obj):(w.alloc o).heap.size=w.heap.size+1:=by
 show(w.heap.push o).size=_;simp
end
end Go.Proofs.YtjlfibhbfdckpaaGreatDoor

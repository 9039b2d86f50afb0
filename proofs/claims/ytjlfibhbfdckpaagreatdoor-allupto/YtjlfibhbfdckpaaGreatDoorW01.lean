import Derived.Test.YtjlfibhbfdckpaaGreatDoorChecked
import Derived.WalkSpells
import Derived.WalkLawsBesides
import Derived.Deep.RegionHeld3
import Derived.Deep.DrawnRows
import Derived.BigQuiet
import Derived.Deep.AppendLies
namespace Go.Proofs.YtjlfibhbfdckpaaGreatDoor
set_option maxHeartbeats 64000000
set_option maxRecDepth 100000
section
open Go.RowKit
theorem zH {p:Prop} (h:p):Hid p:=h
theorem sM {P:Program} {f:FuncId} {a:Array Value} {w:World} {v:Ending} {Q:Ending->World->Prop} (h:Calls P f a w λe w'=>e=v/\w'=w) (k:Q v w):Calls P f a w Q:=h.mono (by rintro e w' ⟨rfl,rfl⟩;exact k)
structure Pn where
 f:Int
 b:Int
 bo:Bool
 un:Bool
 re:Bool
structure zk where
 r:Int
 p:Int
 n:Pn
def Pn.plain:Pn:=⟨0,0,false,false,false⟩
abbrev Pn.agg (n:Pn):Value:=.agg #[.int .i64 n.f,.int .i64 n.b,.bool n.bo,.bool n.un,.bool n.re]
abbrev zk.vals (c:zk):List Value:=[.int .i32 c.r,.int .i64 c.p,.int .i64 c.n.f,.int .i64 c.n.b,.bool c.n.bo,.bool c.n.un,.bool c.n.re]
abbrev zk.agg (c:zk):Value:=.agg #[.int .i32 c.r,.int .i64 c.p,.int .i64 c.n.f,.int .i64 c.n.b,.bool c.n.bo,.bool c.n.un,.bool c.n.re]
def blk (n:Pn):zk:=⟨32,0,n⟩
theorem zm (n:Int) (h0:-9223372036854775808<=n) (h1:n<=9223372036854775807):IntKind.i64.wrap n=n:=by
 rw[IntKind.wrap_i64];omega
theorem zf (w:World) (o:Obj):(w.alloc o).heap[w.heap.size]?=some o:=by
 show(w.heap.push o)[w.heap.size]?=some o;simp
theorem za {w:World} {b:Nat} {C:Array Value} {t:TypeId} {fr:Nat × Nat} (hb:w.heap[b]?=some (.cells C t fr)) (o:Nat):w.cell? ⟨b,o,none⟩=C[o]?:=by
 unfold World.cell?;simp[hb]
theorem ze {w:World} {b:Nat} {C:Array Value} {t:TypeId} (hb:w.heap[b]?=some (.cells C t)) (o:Nat):w.frozen? ⟨b,o,none⟩=false:=by
 unfold World.frozen?;simp[hb]
def zv (w:World) (g o:Nat) (c:zk):Prop:=w.cell? ⟨g,o,none⟩=some (.int .i32 c.r)/\w.cell? ⟨g,o+1,none⟩=some (.int .i64 c.p)/\w.cell? ⟨g,o+2,none⟩=some (.int .i64 c.n.f)/\w.cell? ⟨g,o+3,none⟩=some (.int .i64 c.n.b)/\w.cell? ⟨g,o+4,none⟩=some (.bool c.n.bo)/\w.cell? ⟨g,o+5,none⟩=some (.bool c.n.un)/\w.cell? ⟨g,o+6,none⟩=some (.bool c.n.re)
structure zd (F:Nat->Prop) (w w':World):Prop where
 os:w'.os=w.os
 tape:w'.tape=w.tape
 output:w'.output=w.output
 size:w.heap.size<=w'.heap.size
 block:∀k,k<w.heap.size->¬F k->w'.heap[k]?=w.heap[k]?
theorem zd.refl (F:Nat->Prop) (w:World):zd F w w:=⟨rfl,rfl,rfl,Nat.le_refl _,λ_ _ _=>rfl⟩
theorem zd.trans {F G:Nat->Prop} {a b c:World} (h:zd F a b) (k:zd G b c) (hG:∀i,i<a.heap.size->G i->F i):zd F a c:=
 ⟨k.os.trans h.os,k.tape.trans h.tape,k.output.trans h.output,Nat.le_trans h.size k.size,λi hi hF=>
  (k.block i (Nat.lt_of_lt_of_le hi h.size) (λhg=>hF (hG i hi hg))).trans (h.block i hi hF)⟩
theorem zd.below {w w':World} (F:Nat->Prop) (h:Below w.heap.size w w'):zd F w w':=⟨h.os,h.tape,h.output,h.size,λk hk _=>h.block k hk⟩
theorem zd.thenBelow {F:Nat->Prop} {a b c:World} (h:zd F a b) (k:Below b.heap.size b c):zd F a c:=
 h.trans (zd.below F k) (λ_ _ h=>h)
theorem zd.drew {F:Nat->Prop} {a b:World} (h:zd F a b):zd F a b.drew:=⟨h.os,h.tape,h.output,h.size,h.block⟩
theorem zd.drewN {F:Nat->Prop} {a b:World} (h:zd F a b) (n:Nat):zd F a (b.drewN n):=⟨h.os,h.tape,h.output,h.size,h.block⟩
theorem zd.setCell {F:Nat->Prop} {a b:World} (h:zd F a b) (p:Addr) (u:Value) (hp:p.block<a.heap.size->F p.block):zd F a (b.setCell p u):=by
 refine⟨h.os,h.tape,h.output,?_,λk hk hF=>?_⟩
 ·have:(b.setCell p u).heap.size=b.heap.size:=by simp[World.setCell]
  rw[this];exact h.size
 ·have hne:k≠p.block:=λe=>hF (e ▸ hp (e ▸ hk));rw[Below.heap_setCell b p u k hne];exact h.block k hk hF
theorem zd.alloc {F:Nat->Prop} {a b:World} (h:zd F a b) (o:Obj):zd F a (b.alloc o):=by
 have hb:Below b.heap.size b (b.alloc o):=(Below.refl _ _).alloc (Nat.le_refl _) o;exact h.thenBelow hb
theorem zd.mono {F G:Nat->Prop} {a b:World} (h:zd F a b) (hF:∀i,F i->G i):zd G a b:=⟨h.os,h.tape,h.output,h.size,λk hk hG=>h.block k hk (λhf=>hG (hF k hf))⟩
theorem zd.toBelow {F:Nat->Prop} {a b:World} {B:Nat} (h:zd F a b) (hB:B<=a.heap.size) (hF:∀i,i<B->¬F i):Below B a b:=
 ⟨h.os,h.tape,h.output,h.size,λk hk=>h.block k (Nat.lt_of_lt_of_le hk hB) (hF k hk)⟩
theorem Zj {w w':World} {b:Nat} (h:w'.heap[b]?=w.heap[b]?) (o:Nat):w'.cell? ⟨b,o,none⟩=w.cell? ⟨b,o,none⟩:=by
 unfold World.cell?;simp[h]
theorem za4 {w w':World} {b:Nat} (h:w'.heap[b]?=w.heap[b]?) (o:Nat):w'.frozen? ⟨b,o,none⟩=w.frozen? ⟨b,o,none⟩:=by
 unfold World.frozen?;simp[h]
structure zhf (w:World) (g W H:Nat) (G:Nat->Nat->zk):Prop where
 cel:∀x y,x<W->y<H->zv w g ((y*W+x)*7) (G x y)
 free:∀o,w.frozen? ⟨g,o,none⟩=false
theorem zhf.same {w w':World} {g W H:Nat} {G:Nat->Nat->zk} (h:zhf w g W H G) (hb:w'.heap[g]?=w.heap[g]?):zhf w' g W H G:=
 ⟨λx y hx hy=>by have:=h.cel x y hx hy;simpa[zv,Zj hb] using this,λo=>by rw[za4 hb];exact h.free o⟩
theorem zv.lt {w:World} {g o:Nat} {c:zk} (h:zv w g o c):g<w.heap.size:=World.block_lt_of_cell? _ _ h.1
theorem zcb {W x y x' y':Nat} (hx:x<W) (hx':x'<W) (h:y*W+x=y'*W+x'):x=x'/\y=y':=by
 have hy:y=y':=by
  have a:(y*W+x)/W=y:=by rw[Nat.mul_comm,Nat.mul_add_div (by omega)];simp[Nat.div_eq_of_lt hx]
  have b:(y'*W+x')/W=y':=by rw[Nat.mul_comm,Nat.mul_add_div (by omega)];simp[Nat.div_eq_of_lt hx']
  rw[←a,←b,h]
 subst hy;exact⟨by omega,rfl⟩
theorem zas {W H x y:Nat} (hx:x<W) (hy:y<H):y*W+x<H*W:=by
 have:(y+1)*W<=H*W:=Nat.mul_le_mul_right W hy;rw[Nat.add_mul] at this;omega
def put7 (w:World) (g o:Nat) (c:zk):World:=
 ((((((w.setCell ⟨g,o,none⟩ (.int .i32 c.r)).setCell ⟨g,o+1,none⟩ (.int .i64 c.p)).setCell ⟨g,o+2,none⟩ (.int .i64 c.n.f)).setCell ⟨g,o+3,none⟩ (.int .i64 c.n.b)).setCell ⟨g,o+4,none⟩ (.bool c.n.bo)).setCell ⟨g,o+5,none⟩ (.bool c.n.un)).setCell ⟨g,o+6,none⟩ (.bool c.n.re)
theorem zd.put7 {F:Nat->Prop} {a b:World} (h:zd F a b) (g o:Nat) (c:zk) (hp:g<a.heap.size->F g):zd F a (put7 b g o c):=
 ((((((h.setCell _ _ hp).setCell _ _ hp).setCell _ _ hp).setCell _ _ hp).setCell _ _ hp).setCell _ _ hp).setCell _ _ hp
theorem zbA (w:World) (a:Addr) (v:Value):(w.setCell a v).heap.size=w.heap.size:=by simp[World.setCell]
theorem zaJ (w:World) (g o:Nat) (c:zk):(put7 w g o c).heap.size=w.heap.size:=by simp only[put7,zbA]
theorem zW (w:World) (g o k:Nat) (c:zk) (h:k≠g):(put7 w g o c).heap[k]?=w.heap[k]?:=by
 unfold put7;rw[Below.heap_setCell _ _ _ _ h,Below.heap_setCell _ _ _ _ h,Below.heap_setCell _ _ _ _ h,Below.heap_setCell _ _ _ _ h,Below.heap_setCell _ _ _ _ h,Below.heap_setCell _ _ _ _ h,Below.heap_setCell _ _ _ _ h]
theorem zF (w:World) (g o q:Nat) (v:Value) (h:q≠o):(w.setCell ⟨g,o,none⟩ v).cell? ⟨g,q,none⟩=w.cell? ⟨g,q,none⟩ :=
 World.cell?_setCell_other _ _ _ _ (by intro e;cases e;exact h rfl)
theorem zcp (w:World) (g o:Nat) (v u:Value) (h:w.cell? ⟨g,o,none⟩=some u):(w.setCell ⟨g,o,none⟩ v).cell? ⟨g,o,none⟩=some v:=
 World.cell?_setCell_same _ _ _ h
theorem zdS (w:World) (a b:Addr) (v:Value):(w.setCell a v).frozen? b=w.frozen? b:=World.frozen?_setCell w a b v
def upd (G:Nat->Nat->zk) (x y:Nat) (c:zk):Nat->Nat->zk:=λa b=>if a=x/\b=y then c else G a b
theorem zaL {w:World} {g o q:Nat} {c:zk} (h:q<o\/o+7<=q):(put7 w g o c).cell? ⟨g,q,none⟩=w.cell? ⟨g,q,none⟩:=by
 unfold put7;rw[zF _ _ _ _ _ (by omega),zF _ _ _ _ _ (by omega),zF _ _ _ _ _ (by omega),zF _ _ _ _ _ (by omega),zF _ _ _ _ _ (by omega),zF _ _ _ _ _ (by omega),zF _ _ _ _ _ (by omega)]
theorem zai {w:World} {g o:Nat} {c d:zk} (h:zv w g o d):zv (put7 w g o c) g o c:=by
 obtain⟨h0,h1,h2,h3,h4,h5,h6⟩:=h;unfold put7;refine⟨?_,?_,?_,?_,?_,?_,?_⟩
 ·rw[zF _ _ _ _ _ (by omega),zF _ _ _ _ _ (by omega),zF _ _ _ _ _ (by omega),zF _ _ _ _ _ (by omega),zF _ _ _ _ _ (by omega),zF _ _ _ _ _ (by omega)];refine zcp _ _ _ _ (.int .i32 d.r) ?_;exact h0
 ·rw[zF _ _ _ _ _ (by omega),zF _ _ _ _ _ (by omega),zF _ _ _ _ _ (by omega),zF _ _ _ _ _ (by omega),zF _ _ _ _ _ (by omega)];refine zcp _ _ _ _ (.int .i64 d.p) ?_;rw[zF _ _ _ _ _ (by omega)];exact h1
 ·rw[zF _ _ _ _ _ (by omega),zF _ _ _ _ _ (by omega),zF _ _ _ _ _ (by omega),zF _ _ _ _ _ (by omega)];refine zcp _ _ _ _ (.int .i64 d.n.f) ?_;rw[zF _ _ _ _ _ (by omega),zF _ _ _ _ _ (by omega)];exact h2
 ·rw[zF _ _ _ _ _ (by omega),zF _ _ _ _ _ (by omega),zF _ _ _ _ _ (by omega)];refine zcp _ _ _ _ (.int .i64 d.n.b) ?_;rw[zF _ _ _ _ _ (by omega),zF _ _ _ _ _ (by omega),zF _ _ _ _ _ (by omega)];exact h3
 ·rw[zF _ _ _ _ _ (by omega),zF _ _ _ _ _ (by omega)];refine zcp _ _ _ _ (.bool d.n.bo) ?_;rw[zF _ _ _ _ _ (by omega),zF _ _ _ _ _ (by omega),zF _ _ _ _ _ (by omega),zF _ _ _ _ _ (by omega)];exact h4
 ·rw[zF _ _ _ _ _ (by omega)];refine zcp _ _ _ _ (.bool d.n.un) ?_;rw[zF _ _ _ _ _ (by omega),zF _ _ _ _ _ (by omega),zF _ _ _ _ _ (by omega),zF _ _ _ _ _ (by omega),zF _ _ _ _ _ (by omega)];exact h5
 ·refine zcp _ _ _ _ (.bool d.n.re) ?_;rw[zF _ _ _ _ _ (by omega),zF _ _ _ _ _ (by omega),zF _ _ _ _ _ (by omega),zF _ _ _ _ _ (by omega),zF _ _ _ _ _ (by omega),zF _ _ _ _ _ (by omega)];exact h6
theorem zhf.put {w:World} {g W H:Nat} {G:Nat->Nat->zk} (h:zhf w g W H G) {x y:Nat} (hx:x<W) (hy:y<H) (c:zk):zhf (put7 w g ((y*W+x)*7) c) g W H (upd G x y c):=by
 refine⟨λa b ha hb=>?_,λo=>?_⟩
 ·unfold upd;by_cases e:a=x/\b=y
  ·rw[if_pos e];obtain⟨rfl,rfl⟩:=e;exact zai (h.cel _ _ ha hb)
  ·rw[if_neg e];have hne:b*W+a≠y*W+x:=λe'=>e (zcb ha hx e');have:=h.cel a b ha hb;simp only[zv] at this ⊢;rw[zaL (by omega),zaL (by omega),zaL (by omega),zaL (by omega),zaL (by omega),zaL (by omega),zaL (by omega)];exact this
 ·unfold put7;simp only[zdS];exact h.free o
theorem ZZ (w:World) (a:Addr) (v:Value) (x:Addr):((w.setCell a v).cell? x).isSome=(w.cell? x).isSome:=by
 by_cases e:a=x
 ·subst e;cases h:w.cell? a with
  |some u=>rw[World.cell?_setCell_same _ _ _ h];rfl
  |none=>
   unfold World.cell? at h ⊢;unfold World.setCell;simp only[Array.getElem?_modify,↓reduceIte];cases hb:w.heap[a.block]? with
   |none=>simp
   |some o=>cases o<;>simp_all
 ·rw[World.cell?_setCell_other _ _ _ _ e]
theorem zv.same {w w':World} {g o:Nat} {c:zk} (h:zv w g o c) (hb:w'.heap[g]?=w.heap[g]?):zv w' g o c:=by
 simp only[zv,Zj hb];exact h
theorem zv.below {w w':World} {B g o:Nat} {c:zk} (h:zv w g o c) (hb:Below B w w') (hg:g<B):zv w' g o c:=h.same (hb.block _ hg)
theorem zv.put {w:World} {g o b q:Nat} {c d:zk} (h:zv w b q c) (hne:b≠g):zv (put7 w g o d) b q c:=h.same (zW _ _ _ _ _ hne)
theorem _root_.Go.RowKit.Below.cells {B:Nat} {w w':World} (h:Below B w w') {b:Nat} (hb:b<B):∀o,w'.cell? ⟨b,o,none⟩=w.cell? ⟨b,o,none⟩:=λo=>h.cell (p:=⟨b,o,none⟩) hb
theorem _root_.Go.RowKit.Below.marks {B:Nat} {w w':World} (h:Below B w w') {b:Nat} (hb:b<B):∀o,w'.frozen? ⟨b,o,none⟩=w.frozen? ⟨b,o,none⟩:=λo=>h.frozen (p:=⟨b,o,none⟩) hb
structure Zp (w:World) (bc g cap W H N:Nat) (G:Nat->Nat->zk):Prop where
 blk:w.heap[bc]?=some (.cells #[.int .i64 W,.int .i64 H,.slice (some ⟨g,0,none⟩) N cap] 122)
 grid:zhf w g W H G
 hN:N=H*W
 ne:bc≠g
 w1:1<=W
 w2:W<=40
 h1:1<=H
 h2:H<=20
theorem Zp.nle {w:World} {bc g cap W H N:Nat} {G:Nat->Nat->zk} (h:Zp w bc g cap W H N G):N<=800:=by
 rw[h.hN];exact Nat.mul_le_mul h.h2 h.w2
theorem Zp.lt {w:World} {bc g cap W H N:Nat} {G:Nat->Nat->zk} (h:Zp w bc g cap W H N G):bc<w.heap.size:=by
 have:=h.blk;exact(Array.getElem?_eq_some_iff.1 this).1
theorem Zp.glt {w:World} {bc g cap W H N:Nat} {G:Nat->Nat->zk} (h:Zp w bc g cap W H N G):g<w.heap.size:=(h.grid.cel 0 0 h.w1 h.h1).lt
theorem Zp.same {w w':World} {bc g cap W H N:Nat} {G:Nat->Nat->zk} (h:Zp w bc g cap W H N G) (h1:w'.heap[bc]?=w.heap[bc]?) (h2:w'.heap[g]?=w.heap[g]?):Zp w' bc g cap W H N G:=
 ⟨by rw[h1];exact h.blk,h.grid.same h2,h.hN,h.ne,h.w1,h.w2,h.h1,h.h2⟩
theorem Zp.below {w w':World} {bc g cap W H N:Nat} {G:Nat->Nat->zk} (h:Zp w bc g cap W H N G) (hb:Below w.heap.size w w'):Zp w' bc g cap W H N G:=
 h.same (hb.block _ h.lt) (hb.block _ h.glt)
theorem Zp.put {w:World} {bc g cap W H N:Nat} {G:Nat->Nat->zk} (h:Zp w bc g cap W H N G) {x y:Nat} (hx:x<W) (hy:y<H) (c:zk):Zp (put7 w g ((y*W+x)*7) c) bc g cap W H N (upd G x y c):=
 ⟨by rw[zW _ _ _ _ _ h.ne];exact h.blk,h.grid.put hx hy c,h.hN,h.ne,h.w1,h.w2,h.h1,h.h2⟩
theorem Zp.c0 {w:World} {bc g cap W H N:Nat} {G:Nat->Nat->zk} (h:Zp w bc g cap W H N G):w.cell? ⟨bc,0,none⟩=some (.int .i64 W):=by rw[za h.blk];rfl
theorem Zp.c1 {w:World} {bc g cap W H N:Nat} {G:Nat->Nat->zk} (h:Zp w bc g cap W H N G):w.cell? ⟨bc,1,none⟩=some (.int .i64 H):=by rw[za h.blk];rfl
theorem Zp.c2 {w:World} {bc g cap W H N:Nat} {G:Nat->Nat->zk} (h:Zp w bc g cap W H N G):w.cell? ⟨bc,2,none⟩=some (.slice (some ⟨g,0,none⟩) N cap):=by rw[za h.blk];rfl
theorem Zp.drew {w:World} {bc g cap W H N:Nat} {G:Nat->Nat->zk} (h:Zp w bc g cap W H N G):Zp w.drew bc g cap W H N G:=h.same rfl rfl
theorem zL {w w':World} (h:Below w.drew.heap.size w.drew w'):Below w.heap.size w w':=⟨h.os,h.tape,h.output,h.size,h.block⟩
def Zf (w:World) (b o:Nat) (n:Pn):Prop:=w.cell? ⟨b,o,none⟩=some (.int .i64 n.f)/\w.cell? ⟨b,o+1,none⟩=some (.int .i64 n.b)/\w.cell? ⟨b,o+2,none⟩=some (.bool n.bo)/\w.cell? ⟨b,o+3,none⟩=some (.bool n.un)/\w.cell? ⟨b,o+4,none⟩=some (.bool n.re)
theorem Zf.lt {w:World} {b o:Nat} {n:Pn} (h:Zf w b o n):b<w.heap.size:=World.block_lt_of_cell? _ _ h.1
theorem Zf.same {w w':World} {b o:Nat} {n:Pn} (h:Zf w b o n) (hb:w'.heap[b]?=w.heap[b]?):Zf w' b o n:=by
 simp only[Zf,Zj hb];exact h
theorem Zf.keep {F:Nat->Prop} {w w':World} {b o:Nat} {n:Pn} (h:Zf w b o n) (k:zd F w w') (hF:¬F b):Zf w' b o n:=h.same (k.block _ h.lt hF)
theorem ZO (w:World) (n:Pn) (t:TypeId):Zf (w.alloc (.cells #[.int .i64 n.f,.int .i64 n.b,.bool n.bo,.bool n.un,.bool n.re] t)) w.heap.size 0 n:=by
 refine⟨?_,?_,?_,?_,?_⟩<;>(rw[za (zf w _)];rfl)
theorem size_alloc (w:World) (o:Obj):(w.alloc o).heap.size=w.heap.size+1:=by
 show(w.heap.push o).size=_;simp
end
namespace Wd
def inB (n a b:Int):Bool:=decide (a<=n)&&decide (n<=b)
theorem zm4 {n a b:Int}:inB n a b=true↔a<=n/\n<=b:=by simp[inB]
def validB (n:Int):Bool:=inB n 0 55295||inB n 57344 1114111
def zeroB (n:Int):Bool:=!validB n||decide (n<32)||inB n 127 159||inB n 768 879||inB n 8203 8207
def za5 (n:Int):Bool:=inB n 4352 4447||inB n 11904 42191||inB n 44032 55203||inB n 63744 64255||inB n 65072 65103||inB n 65280 65376||inB n 65504 65510||inB n 127744 128591||inB n 131072 262141
def wd (n:Int):Int:=if zeroB n then 0 else if za5 n then 2 else 1
theorem wd_cases (n:Int):wd n=0\/wd n=1\/wd n=2:=by
 unfold wd;cases zeroB n<;>cases za5 n<;>simp
theorem zke (n:Int):(0<=n/\n<55296/\validB n=true)\/(57343<n/\n<=1114111/\validB n=true)\/(n<0/\validB n=false)\/(55296<=n/\n<=57343/\validB n=false)\/(1114111<n/\validB n=false):=by
 have a:=@zm4 n 0 55295;have b:=@zm4 n 57344 1114111;unfold validB;cases h1:inB n 0 55295<;>cases h2:inB n 57344 1114111<;>simp[h1,h2] at a b ⊢<;>omega
theorem zlN (n:Int):(validB n=false/\zeroB n=true)\/(validB n=true/\n<32/\zeroB n=true)\/(validB n=true/\32<=n/\inB n 127 159=true/\zeroB n=true)
 ∨ (validB n=true/\32<=n/\inB n 127 159=false/\inB n 768 879=true/\zeroB n=true)\/(validB n=true/\32<=n/\inB n 127 159=false/\inB n 768 879=false/\inB n 8203 8207=true/\zeroB n=true)
 ∨ (validB n=true/\32<=n/\inB n 127 159=false/\inB n 768 879=false/\inB n 8203 8207=false/\zeroB n=false):=by
 unfold zeroB;by_cases h0:n<32
 ·cases validB n<;>simp[h0]
 ·have h0':32<=n:=by omega
  cases validB n<;>cases inB n 127 159<;>cases inB n 768 879<;>cases inB n 8203 8207<;>simp[h0,h0']
theorem zlO (n:Int):(inB n 4352 4447=true/\za5 n=true)
 ∨ (inB n 4352 4447=false/\inB n 11904 42191=true/\za5 n=true)
 ∨ (inB n 4352 4447=false/\inB n 11904 42191=false/\inB n 44032 55203=true/\za5 n=true)
 ∨ (inB n 4352 4447=false/\inB n 11904 42191=false/\inB n 44032 55203=false/\inB n 63744 64255=true/\za5 n=true)
 ∨ (inB n 4352 4447=false/\inB n 11904 42191=false/\inB n 44032 55203=false/\inB n 63744 64255=false/\inB n 65072 65103=true/\za5 n=true)
 ∨ (inB n 4352 4447=false/\inB n 11904 42191=false/\inB n 44032 55203=false/\inB n 63744 64255=false/\inB n 65072 65103=false/\inB n 65280 65376=true/\za5 n=true)
 ∨ (inB n 4352 4447=false/\inB n 11904 42191=false/\inB n 44032 55203=false/\inB n 63744 64255=false/\inB n 65072 65103=false/\inB n 65280 65376=false/\inB n 65504 65510=true/\za5 n=true)
 ∨ (inB n 4352 4447=false/\inB n 11904 42191=false/\inB n 44032 55203=false/\inB n 63744 64255=false/\inB n 65072 65103=false/\inB n 65280 65376=false/\inB n 65504 65510=false/\inB n 127744 128591=true/\za5 n=true)
 ∨ (inB n 4352 4447=false/\inB n 11904 42191=false/\inB n 44032 55203=false/\inB n 63744 64255=false/\inB n 65072 65103=false/\inB n 65280 65376=false/\inB n 65504 65510=false/\inB n 127744 128591=false/\inB n 131072 262141=true/\za5 n=true)
 ∨ (inB n 4352 4447=false/\inB n 11904 42191=false/\inB n 44032 55203=false/\inB n 63744 64255=false/\inB n 65072 65103=false/\inB n 65280 65376=false/\inB n 65504 65510=false/\inB n 127744 128591=false/\inB n 131072 262141=false/\za5 n=false):=by
 cases h0:inB n 4352 4447 with
 |true=>simp[za5,h0]
 |false=>
  cases h1:inB n 11904 42191 with
  |true=>simp[za5,h0,h1]
  |false=>
   cases h2:inB n 44032 55203 with
   |true=>simp[za5,h0,h1,h2]
   |false=>
    cases h3:inB n 63744 64255 with
    |true=>simp[za5,h0,h1,h2,h3]
    |false=>
     cases h4:inB n 65072 65103 with
     |true=>simp[za5,h0,h1,h2,h3,h4]
     |false=>
      cases h5:inB n 65280 65376 with
      |true=>simp[za5,h0,h1,h2,h3,h4,h5]
      |false=>
       cases h6:inB n 65504 65510 with
       |true=>simp[za5,h0,h1,h2,h3,h4,h5,h6]
       |false=>
        cases h7:inB n 127744 128591 with
        |true=>simp[za5,h0,h1,h2,h3,h4,h5,h6,h7]
        |false=>
         cases h8:inB n 131072 262141 with
         |true=>simp[za5,h0,h1,h2,h3,h4,h5,h6,h7,h8]
         |false=>
          simp[za5,h0,h1,h2,h3,h4,h5,h6,h7,h8]
def ze5:List (Int × Int):=[(127,159),(768,879),(8203,8207),(55296,57343)]
def zgu:List (Int × Int):=[(4352,4447),(11904,42191),(44032,55203),(63744,64255),(65072,65103),(65280,65376),(65504,65510),(127744,128591),(131072,262141)]
def zem (n:Int) (l:List (Int × Int)):Bool:=l.any λp=>inB n p.1 p.2
theorem zkf (n:Int):zem n zgu=za5 n:=by
 simp[zem,zgu,za5,Bool.or_assoc]
theorem zen (n:Int):zeroB n=(decide (n<32)||decide (1114111<n)||zem n ze5):=by
 rw[Bool.eq_iff_iff];simp[zem,ze5,zeroB,validB,inB];omega
theorem zkg (n:Int) (l:List (Int × Int)) (k:Nat) (a b:Int) (h:l[k]?=some (a,b)) (h1:zem n (l.take k)=false) (h2:inB n a b=false):zem n (l.take (k+1))=false:=by
 rw[List.take_add_one,h];simp only[zem,List.any_append,Option.toList,List.any_cons,List.any_nil,Bool.or_false] at *;simp[h1,h2]
theorem zm5 (n:Int) (l:List (Int × Int)) (k:Nat) (a b:Int) (h:l[k]?=some (a,b)) (h2:inB n a b=true):zem n l=true:=by
 simp only[zem,List.any_eq_true];exact⟨(a,b),List.mem_of_getElem? h,h2⟩
theorem zrM (n:Int) (h:zem n ze5=true):wd n=0:=by simp[wd,zen,h]
theorem ztQ (n:Int) (h1:32<=n) (h2:n<=1114111) (h:zem n ze5=false) (h3:zem n zgu=true):wd n=2:=by
 have a:¬n<32:=by omega
 have b:¬1114111<n:=by omega
 rw[zkf] at h3;simp[wd,zen,h,a,b,h3]
theorem ztR (n:Int) (h1:32<=n) (h2:n<=1114111) (h:zem n ze5=false) (h3:zem n zgu=false):wd n=1:=by
 have a:¬n<32:=by omega
 have b:¬1114111<n:=by omega
 rw[zkf] at h3;simp[wd,zen,h,a,b,h3]
end Wd
section
open Wd (wd)
def inG (W H:Nat) (x y:Int):Bool:=decide (0<=x)&&decide (x<W)&&decide (0<=y)&&decide (y<H)
theorem zu {W H:Nat} {x y:Int}:inG W H x y=true↔0<=x/\x<W/\0<=y/\y<H:=by simp[inG,and_assoc]
def setG (W H:Nat) (G:Nat->Nat->zk) (x y:Int) (k:zk):Nat->Nat->zk:=
 if inG W H x y=true then
  upd (if (G x.toNat y.toNat).p=1 then upd G (x.toNat+1) y.toNat (blk (G x.toNat y.toNat).n) else if (G x.toNat y.toNat).p=2 then upd G (x.toNat-1) y.toNat (blk (G x.toNat y.toNat).n) else G) x.toNat y.toNat k
 else G
structure Wf (W H:Nat) (G:Nat->Nat->zk):Prop where
 part:∀x y,x<W->y<H->((G x y).p=0/\wd (G x y).r=1)\/((G x y).p=1/\wd (G x y).r=2)\/((G x y).p=2/\wd (G x y).r=2)
 head:∀x y,x<W->y<H->(G x y).p=1->x+1<W/\G (x+1) y=⟨(G x y).r,2,(G x y).n⟩
 tail:∀x y,x<W->y<H->(G x y).p=2->1<=x/\G (x-1) y=⟨(G x y).r,1,(G x y).n⟩
def wrt (G:Nat->Nat->zk) (P:Nat->Nat->Bool) (v:Nat->Nat->zk):Nat->Nat->zk:=λa b=>
 if P a b=true then v a b else if ((G a b).p=1/\P (a+1) b=true)\/((G a b).p=2/\1<=a/\P (a-1) b=true) then blk (G a b).n else G a b
def pt (x y:Nat):Nat->Nat->Bool:=λa b=>decide (a=x)&&decide (b=y)
theorem zcR {x y a b:Nat}:pt x y a b=true↔a=x/\b=y:=by simp[pt]
def ZX (W H:Nat) (G K:Nat->Nat->zk):Prop:=∀x y,x<W->y<H->G x y=K x y
theorem ZX.symm {W H:Nat} {G K:Nat->Nat->zk} (h:ZX W H G K):ZX W H K G:=λx y hx hy=>(h x y hx hy).symm
theorem ZX.trans {W H:Nat} {G K L:Nat->Nat->zk} (h:ZX W H G K) (k:ZX W H K L):ZX W H G L:=λx y hx hy=>(h x y hx hy).trans (k x y hx hy)
theorem Zp.congr {w:World} {bc g cap W H N:Nat} {G K:Nat->Nat->zk} (h:Zp w bc g cap W H N G) (e:ZX W H G K):Zp w bc g cap W H N K:=
 ⟨h.blk,⟨λx y hx hy=>by rw[←e x y hx hy];exact h.grid.cel x y hx hy,h.grid.free⟩,h.hN,h.ne,h.w1,h.w2,h.h1,h.h2⟩
theorem Wf.congr {W H:Nat} {G K:Nat->Nat->zk} (h:Wf W H G) (e:ZX W H G K):Wf W H K:=by
 refine⟨λx y hx hy=>?_,λx y hx hy hp=>?_,λx y hx hy hp=>?_⟩
 ·rw[←e x y hx hy];exact h.part x y hx hy
 ·rw[←e x y hx hy] at hp ⊢;obtain⟨a,b⟩:=h.head x y hx hy hp;exact⟨a,by rw[←e _ _ a hy];exact b⟩
 ·rw[←e x y hx hy] at hp ⊢;obtain⟨a,b⟩:=h.tail x y hx hy hp;exact⟨a,by rw[←e _ _ (by omega) hy];exact b⟩
theorem ze6:wd 32=1:=by decide
theorem zgv (n:Pn):(blk n).n=n:=rfl
theorem zm6 (G:Nat->Nat->zk) (P Q:Nat->Nat->Bool) (v u:Nat->Nat->zk) (hv:∀a b,P a b=true->Q a b=false->(v a b).p=0):
 wrt (wrt G P v) Q u=wrt G (λa b=>P a b||Q a b) (λa b=>if Q a b=true then u a b else v a b):=by
 funext a b;unfold wrt;by_cases hQ:Q a b=true
 ·simp[hQ]
 ·have hQ':Q a b=false:=by simpa using hQ
  by_cases hP:P a b=true
  ·have:=hv a b hP hQ';simp[hQ',hP,this]
  ·have hP':P a b=false:=by simpa using hP
   simp only[hQ',hP',Bool.false_eq_true,if_false,Bool.or_false,Bool.or_eq_true];by_cases h1:((G a b).p=1/\P (a+1) b=true)\/((G a b).p=2/\1<=a/\P (a-1) b=true)
   ·rw[if_pos h1];have h2:((G a b).p=1/\(P (a+1) b=true\/Q (a+1) b=true))\/((G a b).p=2/\1<=a/\(P (a-1) b=true\/Q (a-1) b=true)):=by
     rcases h1 with⟨p,q⟩|⟨p,q,r⟩
     ·exact .inl ⟨p,.inl q⟩
     ·exact .inr ⟨p,q,.inl r⟩
    rw[if_pos h2];simp[blk]
   ·rw[if_neg h1];by_cases h3:((G a b).p=1/\Q (a+1) b=true)\/((G a b).p=2/\1<=a/\Q (a-1) b=true)
    ·have h2:((G a b).p=1/\(P (a+1) b=true\/Q (a+1) b=true))\/((G a b).p=2/\1<=a/\(P (a-1) b=true\/Q (a-1) b=true)):=by
      rcases h3 with⟨p,q⟩|⟨p,q,r⟩
      ·exact .inl ⟨p,.inr q⟩
      ·exact .inr ⟨p,q,.inr r⟩
     rw[if_pos h3,if_pos h2]
    ·have h2:¬(((G a b).p=1/\(P (a+1) b=true\/Q (a+1) b=true))\/((G a b).p=2/\1<=a/\(P (a-1) b=true\/Q (a-1) b=true))):=by
      rintro(⟨p,q|q⟩|⟨p,q,r|r⟩)
      ·exact h1 (.inl ⟨p,q⟩)
      ·exact h3 (.inl ⟨p,q⟩)
      ·exact h1 (.inr ⟨p,q,r⟩)
      ·exact h3 (.inr ⟨p,q,r⟩)
     rw[if_neg h3,if_neg h2]
theorem Wf.wr_of {W H:Nat} {G:Nat->Nat->zk} (h:Wf W H G) {P:Nat->Nat->Bool} {v:Nat->Nat->zk}
 (hp:∀x y,x<W->y<H->P x y=true->((v x y).p=0/\wd (v x y).r=1)\/((v x y).p=1/\wd (v x y).r=2)\/((v x y).p=2/\wd (v x y).r=2))
 (hh:∀x y,x<W->y<H->P x y=true->(v x y).p=1->x+1<W/\P (x+1) y=true/\v (x+1) y=⟨(v x y).r,2,(v x y).n⟩)
 (ht:∀x y,x<W->y<H->P x y=true->(v x y).p=2->1<=x/\P (x-1) y=true/\v (x-1) y=⟨(v x y).r,1,(v x y).n⟩):Wf W H (wrt G P v):=by
 refine⟨λx y hx hy=>?_,λx y hx hy hq=>?_,λx y hx hy hq=>?_⟩
 ·unfold Go.Proofs.YtjlfibhbfdckpaaGreatDoor.wrt;split
  ·exact hp x y hx hy ‹_›
  ·split
   ·exact .inl ⟨rfl,ze6⟩
   ·exact h.part x y hx hy
 ·unfold Go.Proofs.YtjlfibhbfdckpaaGreatDoor.wrt at hq ⊢;by_cases hP:P x y=true
  ·rw[if_pos hP] at hq ⊢;obtain⟨a,b,c⟩:=hh x y hx hy hP hq;exact⟨a,by rw[if_pos b];exact c⟩
  ·rw[if_neg hP] at hq ⊢;split at hq
   ·simp[blk] at hq
   ·rename_i hn;rw[if_neg hn];obtain⟨a,b⟩:=h.head x y hx hy hq;have hP1:¬P (x+1) y=true:=λe=>hn (.inl ⟨hq,e⟩);refine⟨a,?_⟩;rw[if_neg hP1,if_neg,b];rw[b];simp[hP]
 ·unfold Go.Proofs.YtjlfibhbfdckpaaGreatDoor.wrt at hq ⊢;by_cases hP:P x y=true
  ·rw[if_pos hP] at hq ⊢;obtain⟨a,b,c⟩:=ht x y hx hy hP hq;exact⟨a,by rw[if_pos b];exact c⟩
  ·rw[if_neg hP] at hq ⊢;split at hq
   ·simp[blk] at hq
   ·rename_i hn;rw[if_neg hn];obtain⟨a,b⟩:=h.tail x y hx hy hq;have hP1:¬P (x-1) y=true:=λe=>hn (.inr ⟨hq,a,e⟩);refine⟨a,?_⟩;have e1:x-1+1=x:=by omega
    rw[if_neg hP1,if_neg,b];rw[b,e1];simp[hP]
theorem Wf.wrWhole {W H:Nat} {G:Nat->Nat->zk} (h:Wf W H G) {P:Nat->Nat->Bool} {v:Nat->Nat->zk} (hv:∀x y,x<W->y<H->P x y=true->(v x y).p=0/\wd (v x y).r=1):Wf W H (wrt G P v):=
 h.wr_of (λx y hx hy hP=>.inl (hv x y hx hy hP)) (λx y hx hy hP h1=>by have:=(hv x y hx hy hP).1;omega) (λx y hx hy hP h1=>by have:=(hv x y hx hy hP).1;omega)
theorem zeR {W H:Nat} {G:Nat->Nat->zk} (h:Wf W H G) {x y:Nat} (hx:x<W) (hy:y<H) (k:zk):ZX W H (setG W H G x y k) (wrt G (pt x y) (λ_ _=>k)):=by
 intro a b ha hb;have hin:inG W H x y=true:=zu.2 (by omega);unfold setG wrt;rw[if_pos hin];simp only[Int.toNat_natCast,zcR];unfold upd;by_cases e:a=x/\b=y
 ·rw[if_pos e,if_pos e]
 ·rw[if_neg e,if_neg e];by_cases p1:(G x y).p=1
  ·obtain⟨q1,q2⟩:=h.head x y hx hy p1;rw[if_pos p1];by_cases e2:a=x+1/\b=y
   ·obtain⟨rfl,rfl⟩:=e2;rw[if_pos ⟨rfl,rfl⟩,if_pos (.inr ⟨by rw[q2],by omega,by omega,rfl⟩),q2]
   ·rw[if_neg e2,if_neg];rintro(⟨r1,r2,r3⟩|⟨r1,r2,r3,r4⟩)
    ·subst r3;obtain⟨s1,s2⟩:=h.head a b ha hb r1;rw[r2] at s2;rw[s2] at p1;exact absurd p1 (by simp)
    ·exact e2 ⟨by omega,r4⟩
  ·rw[if_neg p1];by_cases p2:(G x y).p=2
   ·obtain⟨q1,q2⟩:=h.tail x y hx hy p2;rw[if_pos p2];by_cases e2:a=x-1/\b=y
    ·obtain⟨rfl,rfl⟩:=e2;rw[if_pos ⟨rfl,rfl⟩,if_pos (.inl ⟨by rw[q2],by omega,rfl⟩),q2]
    ·rw[if_neg e2,if_neg];rintro(⟨r1,r2,r3⟩|⟨r1,r2,r3,r4⟩)
     ·exact e2 ⟨by omega,r3⟩
     ·subst r4;obtain⟨s1,s2⟩:=h.tail a b ha hb r1;rw[r3] at s2;rw[s2] at p2;exact absurd p2 (by simp)
   ·rw[if_neg p2,if_neg];rintro(⟨r1,r2,r3⟩|⟨r1,r2,r3,r4⟩)
    ·subst r3;obtain⟨s1,s2⟩:=h.head a b ha hb r1;rw[r2] at s2;rw[s2] at p2;exact p2 rfl
    ·subst r4;obtain⟨s1,s2⟩:=h.tail a b ha hb r1;rw[r3] at s2;rw[s2] at p1;exact p1 rfl
theorem Wf.half {W H:Nat} {G:Nat->Nat->zk} (h:Wf W H G) (x y:Int):inG W H x y=true->((G x.toNat y.toNat).p=1->x+1<W)/\((G x.toNat y.toNat).p=2->1<=x):=by
 intro hin;obtain⟨a,b,c,d⟩:=zu.1 hin;refine⟨λhp=>?_,λhp=>?_⟩
 ·have:=(h.head x.toNat y.toNat (by omega) (by omega) hp).1;omega
 ·have:=(h.tail x.toNat y.toNat (by omega) (by omega) hp).1;omega
def rg (f t:Int) (y:Nat):Nat->Nat->Bool:=λa b=>decide (b=y)&&decide (f<=a)&&decide ((a:Int)<t)
theorem zjt {f t:Int} {y a b:Nat}:rg f t y a b=true↔b=y/\f<=a/\(a:Int)<t:=by simp[rg,and_assoc]
theorem zhg {G:Nat->Nat->zk} {P Q:Nat->Nat->Bool} {v:Nat->Nat->zk} (h:∀a b,P a b=Q a b):wrt G P v=wrt G Q v:=by
 have:P=Q:=by funext a b;exact h a b
 rw[this]
theorem zg2 (G:Nat->Nat->zk) (P:Nat->Nat->Bool) (v:Nat->Nat->zk) (h:∀a b,P a b=false):wrt G P v=G:=by
 funext a b;simp[wrt,h]
theorem zkh (G:Nat->Nat->zk) (f t:Int) (x y:Nat) (n:Pn) (h1:f<=x) (h2:(x:Int)<t):
 wrt (wrt G (λa b=>rg f t y a b&&decide (a<x)) (λ_ _=>blk n)) (pt x y) (λ_ _=>blk n)=wrt G (λa b=>rg f t y a b&&decide (a<x+1)) (λ_ _=>blk n):=by
 rw[zm6 _ _ _ _ _ (λ_ _ _ _=>rfl)];have e:(λa b=>if pt x y a b=true then blk n else blk n)=λ(_ _:Nat)=>blk n:=by funext a b;simp
 rw[e];refine zhg λa b=>?_;rw[Bool.eq_iff_iff];simp[rg,pt];omega
theorem Wf.blk {W H:Nat} {G:Nat->Nat->zk} (h:Wf W H G) (P:Nat->Nat->Bool) (n:Pn):Wf W H (wrt G P (λ_ _=>blk n)):=
 h.wrWhole (λ_ _ _ _ _=>⟨rfl,ze6⟩)
end
section
open Go.RowKit
attribute [local go_sem ↓] Go.wp_at_zero Go.wp_at_succ
theorem zaj (n:Pn) (w:World):
 Calls Tryz.prog 95 #[n.agg] w λe w'=>e=.returned (blk n).agg/\Below w.heap.size w w':=by
 go_in;go_wp2;exact bodyPost_ret (v:=(blk n).agg) (by simp[results,Tryz.results95,go_sem,blk]) rfl ⟨rfl,((Below.refl _ _).alloc (Nat.le_refl _) _).alloc (by simp) _⟩
theorem zbQ (bc W H:Nat) (x y:Int) (w:World)
 (h0:w.cell? ⟨bc,0,none⟩=some (.int .i64 W)) (h1:w.cell? ⟨bc,1,none⟩=some (.int .i64 H)):
 Calls Tryz.prog 92 #[.pointer (some ⟨bc,0,none⟩),.int .i64 x,.int .i64 y] w λe w'=>e=.returned (.bool (inG W H x y))/\w'=w:=by
 rcases(by omega:x<0\/(0<=x/\x<W)\/(0<=x/\(W:Int)<=x)) with a1|⟨a1,a2⟩|⟨a1,a2⟩;all_goals rcases(by omega:y<0\/(0<=y/\y<H)\/(0<=y/\(H:Int)<=y)) with b1|⟨b1,b2⟩|⟨b1,b2⟩
 all_goals
  go_in;go_wp2;go_ret;exact⟨by simp[inG];omega,rfl⟩
theorem zeo (bc g cap W H N:Nat) (G:Nat->Nat->zk) (x y:Int) (w:World) (h:Zp w bc g cap W H N G) (x0:0<=x) (x1:x<W) (y0:0<=y) (y1:y<H):
 Calls Tryz.prog 94 #[.pointer (some ⟨bc,0,none⟩),.int .i64 x,.int .i64 y] w λe w'=>e=.returned (G x.toNat y.toNat).agg/\Below w.heap.size w w':=by
 obtain⟨x,rfl⟩:=Int.eq_ofNat_of_zero_le x0;obtain⟨y,rfl⟩:=Int.eq_ofNat_of_zero_le y0;simp only[Int.toNat_natCast];have hl:y*W+x<N:=by rw[h.hN];exact zas (by omega) (by omega)
 have hlen:=h.nle;have h0:=h.c0;have h2:=h.c2;have hc:=h.grid.cel x y (by omega) (by omega);obtain⟨i,hi⟩:∃i,y*W+x=i:=⟨_,rfl⟩;obtain⟨m,hm⟩:∃m,y*W=m:=⟨_,rfl⟩;rw[hi] at hl hc;rw[hm] at hi;generalize G x y=c at *;clear h;have hw1:IntKind.i64.wrap ((y:Int)*(W:Int))=(m:Int):=by rw[←Int.natCast_mul,hm];exact zm _ (by omega) (by omega)
 have hw2:IntKind.i64.wrap ((m:Int)+(x:Int))=(i:Int):=by rw[zm _ (by omega) (by omega)];omega
 have hi1:(0:Int)<=(i:Int):=by omega
 have hi2:(i:Int)<(N:Int):=by omega
 clear hm hi;obtain⟨c0,c1,c2,c3,c4,c5,c6⟩:=hc;have n1:=World.new_ne w _ h0;have n2:=World.new_ne w _ c0;go_in;go_wp2;go_region_held3 (λw'=>w'.cell? ⟨bc,0,none⟩=some (.int .i64 W)/\w'.cell? ⟨bc,2,none⟩=some (.slice (some ⟨g,0,none⟩) N cap)/\w'.cell? ⟨g,i*7,none⟩=some (.int .i32 c.r)/\w'.cell? ⟨g,i*7+1,none⟩=some (.int .i64 c.p)/\w'.cell? ⟨g,i*7+2,none⟩=some (.int .i64 c.n.f)/\w'.cell? ⟨g,i*7+3,none⟩=some (.int .i64 c.n.b)/\w'.cell? ⟨g,i*7+4,none⟩=some (.bool c.n.bo)/\w'.cell? ⟨g,i*7+5,none⟩=some (.bool c.n.un)/\w'.cell? ⟨g,i*7+6,none⟩=some (.bool c.n.re)) (go_keep) (fail);go_wp2;exact bodyPost_ret (v:=c.agg) (by simp[results,Tryz.results94,go_sem]) rfl ⟨rfl,((Below.refl _ _).alloc (Nat.le_refl _) _).drew⟩
end
section
open Wd (wd)
theorem zbm {W H:Nat} {G:Nat->Nat->zk} (h:Wf W H G) {P Q:Nat->Nat->Bool} {v u:Nat->Nat->zk} (e:∀a b,a<W->b<H->P a b=Q a b) (ev:∀a b,a<W->b<H->P a b=true->v a b=u a b):ZX W H (wrt G P v) (wrt G Q u):=by
 intro a b ha hb;unfold wrt;rw[e a b ha hb];by_cases hQ:Q a b=true
 ·rw[if_pos hQ,if_pos hQ];exact ev a b ha hb (by rw[e a b ha hb];exact hQ)
 ·rw[if_neg hQ,if_neg hQ];have c:(((G a b).p=1/\P (a+1) b=true)\/((G a b).p=2/\1<=a/\P (a-1) b=true))↔(((G a b).p=1/\Q (a+1) b=true)\/((G a b).p=2/\1<=a/\Q (a-1) b=true)):=by
   constructor
   ·rintro(⟨p,q⟩|⟨p,q,r⟩)
    ·exact .inl ⟨p,by rw[←e _ _ (h.head a b ha hb p).1 hb];exact q⟩
    ·exact .inr ⟨p,q,by rw[←e _ _ (by omega) hb];exact r⟩
   ·rintro(⟨p,q⟩|⟨p,q,r⟩)
    ·exact .inl ⟨p,by rw[e _ _ (h.head a b ha hb p).1 hb];exact q⟩
    ·exact .inr ⟨p,q,by rw[e _ _ (by omega) hb];exact r⟩
  by_cases hc:((G a b).p=1/\P (a+1) b=true)\/((G a b).p=2/\1<=a/\P (a-1) b=true)
  ·rw[if_pos hc,if_pos (c.1 hc)]
  ·rw[if_neg hc,if_neg (λx=>hc (c.2 x))]
def zR (W H:Nat) (G:Nat->Nat->zk) (x y:Int) (r:Int) (n:Pn):Nat->Nat->zk:=
 if wd r=1 then setG W H G x y ⟨r,0,n⟩
 else if inG W H x y=true/\inG W H (x+1) y=true then upd (upd (setG W H (setG W H G x y (blk n)) (x+1) y (blk n)) x.toNat y.toNat ⟨r,1,n⟩) (x.toNat+1) y.toNat ⟨r,2,n⟩
 else setG W H (setG W H G x y (blk n)) (x+1) y (blk n)
theorem Wf.set {W H:Nat} {G:Nat->Nat->zk} (h:Wf W H G) (x y:Int) (k:zk) (hp:k.p=0) (hr:wd k.r=1):Wf W H (setG W H G x y k):=by
 cases hin:inG W H x y with
 |false=>simp[setG,hin];exact h
 |true=>
  obtain⟨a,b,c,d⟩:=zu.1 hin;obtain⟨x,rfl⟩:=Int.eq_ofNat_of_zero_le a;obtain⟨y,rfl⟩:=Int.eq_ofNat_of_zero_le c;exact(h.wrWhole (P:=pt x y) (v:=λ_ _=>k) (λ_ _ _ _ _=>⟨hp,hr⟩)).congr (zeR h (by omega) (by omega) k).symm
theorem Wf.setBlk {W H:Nat} {G:Nat->Nat->zk} (h:Wf W H G) (x y:Int) (n:Pn):Wf W H (setG W H G x y (Go.Proofs.YtjlfibhbfdckpaaGreatDoor.blk n)):=h.set x y _ rfl ze6
theorem ZX.upd {W H:Nat} {G K:Nat->Nat->zk} (h:ZX W H G K) (x y:Nat) (c:zk):ZX W H (upd G x y c) (upd K x y c):=λa b ha hb=>by
 unfold Go.Proofs.YtjlfibhbfdckpaaGreatDoor.upd;split
 ·rfl
 ·exact h a b ha hb
theorem zm7 (G:Nat->Nat->zk) (P:Nat->Nat->Bool) (v:Nat->Nat->zk) (x y:Nat) (c:zk) (hP:P x y=true):upd (wrt G P v) x y c=wrt G P (upd v x y c):=by
 funext a b;unfold upd wrt;by_cases e:a=x/\b=y
 ·obtain⟨rfl,rfl⟩:=e;simp[hP]
 ·simp[e]
theorem zdT {W H:Nat} {G:Nat->Nat->zk} (h:Wf W H G) {x y:Nat} (hx:x<W) (hy:y<H) (r:Int) (n:Pn) (hr:wd r=1):ZX W H (zR W H G x y r n) (wrt G (pt x y) (λ_ _=>⟨r,0,n⟩)):=by
 unfold zR;rw[if_pos hr];exact zeR h hx hy _
def pt2 (x y:Nat):Nat->Nat->Bool:=λa b=>pt x y a b||pt (x+1) y a b
def wide (x:Nat) (r:Int) (n:Pn):Nat->Nat->zk:=λa _=>if a=x then⟨r,1,n⟩ else⟨r,2,n⟩
theorem zcS {W H:Nat} {G:Nat->Nat->zk} (h:Wf W H G) {x y:Nat} (hx:x+1<W) (hy:y<H) (r:Int) (n:Pn) (hr:wd r=2):ZX W H (zR W H G x y r n) (wrt G (pt2 x y) (wide x r n)):=by
 have i1:inG W H x y=true:=zu.2 (by omega);have i2:inG W H ((x:Int)+1) y=true:=zu.2 (by omega);unfold zR;rw[if_neg (by omega),if_pos ⟨i1,i2⟩];simp only[Int.toNat_natCast];have h1:=zeR h (x:=x) (y:=y) (by omega) hy (Go.Proofs.YtjlfibhbfdckpaaGreatDoor.blk n);have w1:Wf W H (setG W H G x y (Go.Proofs.YtjlfibhbfdckpaaGreatDoor.blk n)):=h.setBlk _ _ _;have h2:=zeR w1 (x:=x+1) (y:=y) hx hy (Go.Proofs.YtjlfibhbfdckpaaGreatDoor.blk n);have e2:ZX W H (wrt (setG W H G x y (Go.Proofs.YtjlfibhbfdckpaaGreatDoor.blk n)) (pt (x+1) y) (λ_ _=>Go.Proofs.YtjlfibhbfdckpaaGreatDoor.blk n)) (wrt (wrt G (pt x y) (λ_ _=>Go.Proofs.YtjlfibhbfdckpaaGreatDoor.blk n)) (pt (x+1) y) (λ_ _=>Go.Proofs.YtjlfibhbfdckpaaGreatDoor.blk n)):=by
  intro a b ha hb;unfold wrt;have:=h1 a b ha hb;unfold wrt at this;rw[this]
 rw[zm6 _ _ _ _ _ (λ_ _ _ _=>rfl)] at e2;have e3:=((h2.trans e2).upd x y ⟨r,1,n⟩).upd (x+1) y ⟨r,2,n⟩;rw[zm7 _ _ _ _ _ _ (by simp[pt]),zm7 _ _ _ _ _ _ (by simp[pt])] at e3;refine e3.trans (zbm h (λ_ _ _ _=>rfl) (λa b _ _ hp=>?_));simp[pt] at hp;unfold upd wide;rcases hp with⟨rfl,rfl⟩|⟨rfl,rfl⟩
 ·simp
 ·simp
theorem Wf.wide {W H:Nat} {G:Nat->Nat->zk} (h:Wf W H G) {x y:Nat} (hx:x+1<W) (r:Int) (n:Pn) (hr:wd r=2):Wf W H (wrt G (pt2 x y) (Go.Proofs.YtjlfibhbfdckpaaGreatDoor.wide x r n)):=by
 refine h.wr_of (λa b _ _ hp=>?_) (λa b _ _ hp hq=>?_) (λa b _ _ hp hq=>?_)
 ·unfold Go.Proofs.YtjlfibhbfdckpaaGreatDoor.wide;split
  ·exact .inr (.inl ⟨rfl,hr⟩)
  ·exact .inr (.inr ⟨rfl,hr⟩)
 ·unfold Go.Proofs.YtjlfibhbfdckpaaGreatDoor.wide at hq ⊢;split at hq
  ·subst a;simp[pt2,pt] at hp ⊢;exact⟨hx,hp⟩
  ·simp at hq
 ·unfold Go.Proofs.YtjlfibhbfdckpaaGreatDoor.wide at hq ⊢;split at hq
  ·simp at hq
  ·simp[pt2,pt] at hp;rename_i hne;obtain⟨rfl,rfl⟩:a=x+1/\b=y:=by omega
   simp[pt2,pt]
end
section
open Go.RowKit
def flat (L:List zk):List Value:=L.flatMap zk.vals
theorem zgw (L M:List zk):flat (L++M)=flat L++flat M:=by simp[flat]
theorem zki (c:zk):flat [c]=c.vals:=by simp[flat]
theorem zde (L:List zk):(flat L).length=L.length*7:=by
 induction L with
 |nil=>rfl
 |cons c L ih=>simp[flat] at ih ⊢;omega
theorem zju (L:List zk) (i:Nat) (c:zk) (h:L[i]?=some c) (j:Nat) (v:Value) (hv:c.vals[j]?=some v):(flat L)[i*7+j]?=some v:=by
 induction L generalizing i with
 |nil=>simp at h
 |cons d L ih=>
  have e:flat (d::L)=d.vals++flat L:=by simp[flat]
  rw[e];cases i with
  |zero=>
   simp at h;subst h;have hj:j<7:=by
    have:=(List.getElem?_eq_some_iff.1 hv).1;simpa using this
   rw[List.getElem?_append_left (by simpa using hj)];simpa using hv
  |succ i=>
   rw[List.getElem?_append_right (by simp;omega)];have e2:(i+1)*7+j-d.vals.length=i*7+j:=by simp;omega
   rw[e2];exact ih i (by simpa using h)
theorem zjv {w:World} {base g n cap:Nat} {L:List zk} {t:TypeId} (h:w.ownsRow base t 7 (.slice (some ⟨g,0,none⟩) n cap) n (flat L)) (i:Nat) (c:zk) (hi:L[i]?=some c):zv w g (i*7) c:=by
 obtain⟨hl,h|⟨g',cap',cur,hv,hb,hg,hn,hm,hs,ht⟩⟩:=h
 ·simp at h
 ·simp at hv;obtain⟨rfl,rfl⟩:=hv;have key:∀j v,c.vals[j]?=some v->w.cell? ⟨g,i*7+j,none⟩=some v:=by
   intro j v hjv;rw[za hg];have:=zju L i c hi j v hjv;rw[←ht] at this;have hlt:=(List.getElem?_eq_some_iff.1 this).1;rw[List.getElem?_take_of_lt (by simp at hlt;omega)] at this;simpa using this
  exact⟨key 0 _ rfl,key 1 _ rfl,key 2 _ rfl,key 3 _ rfl,key 4 _ rfl,key 5 _ rfl,key 6 _ rfl⟩
theorem zhh {w:World} {base g n cap:Nat} {xs:List Value} {t:TypeId} (h:w.ownsRow base t 7 (.slice (some ⟨g,0,none⟩) n cap) n xs) (o:Nat):w.frozen? ⟨g,o,none⟩=false:=by
 obtain⟨hl,h|⟨g',cap',cur,hv,hb,hg,hn,hm,hs,ht⟩⟩:=h
 ·simp at h
 ·simp at hv;obtain⟨rfl,rfl⟩:=hv;exact ze hg o
theorem zlP {w:World} {base g n cap k:Nat} {xs:List Value} {t:TypeId} (h:w.ownsRow base t 7 (.slice (some ⟨g,0,none⟩) n cap) k xs):base<=g/\g<w.heap.size:=h.lt g rfl
theorem zhi (c:zk):∀u∈c.vals,u.oneCell'=true:=by simp[Value.oneCell']
theorem zaM {w w':World} {base:Nat} {v:Value} {n:Nat} {xs:List Value} {t:TypeId} (h:w.ownsRow base t 7 v n xs) (hb:∀g,v.ownBlock=some g->w'.heap[g]?=w.heap[g]?):w'.ownsRow base t 7 v n xs:=by
 obtain⟨hl,h|⟨g',cap',cur,rfl,hb',hg,rest⟩⟩:=h
 ·exact⟨hl,.inl h⟩
 ·exact⟨hl,.inr ⟨g',cap',cur,rfl,hb',by rw[hb g' rfl];exact hg,rest⟩⟩
theorem zg {w:World} {b:Nat} {C:Array Value} {t:TypeId} {fr:Nat × Nat} (h:w.heap[b]?=some (.cells C t fr)) (o:Nat) (v:Value):(w.setCell ⟨b,o,none⟩ v).heap[b]?=some (.cells (C.setIfInBounds o v) t fr):=by
 unfold World.setCell;simp[Array.getElem?_modify,h]
theorem zd.grown {F:Nat->Prop} {a w w':World} {row:Option Nat} (h:zd F a w) (hg:w.grownBy w' row) (hr:∀k,row=some k->k<a.heap.size->F k):zd F a w' :=
 ⟨hg.os.trans h.os,hg.tape.trans h.tape,hg.output.trans h.output,Nat.le_trans h.size hg.size,λk hk hF=>
  (hg.block k (Nat.lt_of_lt_of_le hk h.size) (λe=>hF (hr k e.symm hk))).trans (h.block k hk hF)⟩
theorem zam {w:World} {base t n k:Nat} {xs:List Value} {v:Value} (h:w.ownsRow base t k v n xs) (hn:1<=n):∃g cap,v=.slice (some ⟨g,0,none⟩) n cap:=by
 obtain⟨_,⟨_,h⟩|⟨g,cap,_,hv,_⟩⟩:=h
 ·omega
 ·exact⟨g,cap,hv⟩
theorem zae (w:World) (o:Obj) (b:Nat) (hb:b=w.heap.size):(w.alloc o).heap[b]?=some o:=by subst hb;exact zf w o
theorem zcq (w:World) (c:zk) (q:Int) (h:c.p=q) (t:TypeId):zv (w.alloc (.cells #[.int .i32 c.r,.int .i64 q,.int .i64 c.n.f,.int .i64 c.n.b,.bool c.n.bo,.bool c.n.un,.bool c.n.re] t)) w.heap.size 0 c:=by
 subst h;exact⟨za (zf w _) 0,za (zf w _) 1,za (zf w _) 2,za (zf w _) 3,za (zf w _) 4,za (zf w _) 5,za (zf w _) 6⟩
end
end Go.Proofs.YtjlfibhbfdckpaaGreatDoor

/- Texts of the proof, one behind the other: FwV, Ap, LaC, FxI, FxA, FxB. -/
import Derived.Test.YtjlfibhbfdckpaaGreatDoorK02
import Derived.Test.YtjlfibhbfdckpaaGreatDoorK10
import Derived.Test.YtjlfibhbfdckpaaGreatDoorK17
import Derived.Test.YtjlfibhbfdckpaaGreatDoorK19
import Derived.Test.YtjlfibhbfdckpaaGreatDoorK28
import Derived.Test.YtjlfibhbfdckpaaGreatDoorK31
import Derived.Deep.RegionLaw
import Derived.Deep.AppendLies
import Derived.Test.YtjlfibhbfdckpaaGreatDoorProg
import Derived.Lib.Builder
import Derived.Lib.AppendStr
import Derived.Lib.UnsafeStr
/- Flush: the picture and the painter in memory; differs. -/
namespace Go.Proofs.YtjlfibhbfdckpaaGreatDoor
open Go.RowKit
attribute [local go_sem ↓] Go.wp_at_zero Go.wp_at_succ
theorem cel_neq (a b : Cel) (w : World) : (binOp .neq 38 a.agg b.agg).run Tryz.prog w = .ok (.bool (!a.eqB b)) w := by
  obtain ⟨r, p, ⟨f, n, bo, un, re⟩⟩ := a
  obtain ⟨r', p', ⟨f', n', bo', un', re'⟩⟩ := b
  go_simp
  unfold Cel.eqB Pn.eqB
  by_cases h1 : r = r'
  · by_cases h2 : p = p'
    · by_cases h3 : f = f'
      · by_cases h4 : n = n'
        · by_cases h5 : bo = bo'
          · by_cases h6 : un = un'
            · by_cases h7 : re = re'
              · simp [h1, h2, h3, h4, h5, h6, h7]
              · simp [h1, h2, h3, h4, h5, h6, h7]
            · simp [h1, h2, h3, h4, h5, h6]
          · simp [h1, h2, h3, h4, h5]
        · simp [h1, h2, h3, h4]
      · simp [h1, h2, h3]
    · simp [h1, h2]
  · simp [h1]
/-- A picture, line by line. -/
structure PcM (w : World) (po : Nat) (lb lc : Nat → Nat) (W H : Nat) (P : Nat → Nat → Cel) : Prop where
  row : ∀ y, y < H → w.cell? ⟨po, y, none⟩ = some (.slice (some ⟨lb y, 0, none⟩) W (lc y))
  cap : ∀ y, y < H → W ≤ lc y
  cel : ∀ y x, y < H → x < W → CelAt w (lb y) (x * 7) (P x y)
theorem PcM.far {w w' : World} {po W H : Nat} {lb lc : Nat → Nat} {P : Nat → Nat → Cel} (h : PcM w po lb lc W H P) (hb : ∀ i, i < w.heap.size → i = po ∨ (∃ y, y < H ∧ i = lb y) → w'.heap[i]? = w.heap[i]?) : PcM w' po lb lc W H P :=
  ⟨fun y hy => by
    have e := hb po (World.block_lt_of_cell? _ _ (h.row y hy)) (.inl rfl)
    rw [← h.row y hy]
    simp [World.cell?, e], h.cap, fun y x hy hx => (h.cel y x hy hx).same (hb _ (h.cel y x hy hx).lt (.inr ⟨y, hy, rfl⟩))⟩
theorem PcM.below {w w' : World} {po W H : Nat} {lb lc : Nat → Nat} {P : Nat → Nat → Cel} (h : PcM w po lb lc W H P) (hb : Below w.heap.size w w') : PcM w' po lb lc W H P := h.far (fun i hi _ => hb.block i hi)
/-- The painter: the picture, the screen, what was told. -/
structure PtM (w : World) (bp po pc : Nat) (lb lc : Nat → Nat) (H : Nat) (P : Nat → Nat → Cel) (bs bg g N : Nat) (s : Rs) (t : Pt) : Prop where
  c0 : w.cell? ⟨bp, 0, none⟩ = some (.slice (some ⟨po, 0, none⟩) H pc)
  c1 : w.cell? ⟨bp, 1, none⟩ = some (.pointer (some ⟨bs, 0, none⟩))
  pic : PcM w po lb lc s.W H P
  hs : H = s.H
  hpc : H ≤ pc
  scr : PrAt w bs bg g N s t
theorem PtM.below {w w' : World} {bp po pc H bs bg g N : Nat} {lb lc : Nat → Nat} {P : Nat → Nat → Cel} {s : Rs} {t : Pt} (h : PtM w bp po pc lb lc H P bs bg g N s t) (hb : Below w.heap.size w w') : PtM w' bp po pc lb lc H P bs bg g N s t := by
  have e := hb.cells (b := bp) (World.block_lt_of_cell? _ _ h.c0)
  exact ⟨(e 0).trans h.c0, (e 1).trans h.c1, h.pic.below hb, h.hs, h.hpc, h.scr.below hb⟩
set_option maxHeartbeats 4000000 in
theorem qDiffers (bp po pc : Nat) (lb lc : Nat → Nat) (H : Nat) (P : Nat → Nat → Cel) (bs bg g N : Nat) (s : Rs) (t : Pt) (x y : Nat) (w : World) (h : PtM w bp po pc lb lc H P bs bg g N s t) (hx : x < s.W) (hy : y < s.H) :
    Calls Tryz.prog 177 #[.pointer (some ⟨bp, 0, none⟩), .int .i64 x, .int .i64 y] w fun e w' => e = .returned (.bool (differsB s P x y)) ∧ Below w.heap.size w w' := by
  have HH : Hid (PtM w bp po pc lb lc H P bs bg g N s t) := h
  have hyH : y < H := by rw [h.hs]; exact hy
  have c0 := h.c0
  have c1 := h.c1
  have r0 := h.pic.row y hyH
  obtain ⟨a0, a1, a2, a3, a4, a5, a6⟩ := h.pic.cel y x hyH hx
  have zb := World.block_lt_of_cell? _ _ c0
  have zp := World.block_lt_of_cell? _ _ r0
  have zl := World.block_lt_of_cell? _ _ a0
  have hneq := fun w => cel_neq (s.G x y) (P x y) w
  have hx' : (x : Int) < (s.W : Int) := by omega
  have hy' : (y : Int) < (H : Int) := by omega
  have hd : differsB s P x y = !(s.G x y).eqB (P x y) := rfl
  rw [hd]
  clear hd h
  generalize (!(s.G x y).eqB (P x y)) = bb at *
  go_enter Tryz.func177, Tryz.ntmps177
  go_wp2_with fail
  go_region_held3 (fun w' => w'.cell? ⟨bp, 0, none⟩ = some (.slice (some ⟨po, 0, none⟩) H pc) ∧ w'.cell? ⟨bp, 1, none⟩ = some (.pointer (some ⟨bs, 0, none⟩)) ∧ w'.cell? ⟨po, y, none⟩ = some (.slice (some ⟨lb y, 0, none⟩) s.W (lc y)) ∧ w'.cell? ⟨lb y, x * 7, none⟩ = some (.int .i32 (P x y).r) ∧ w'.cell? ⟨lb y, x * 7 + 1, none⟩ = some (.int .i64 (P x y).p) ∧ w'.cell? ⟨lb y, x * 7 + 2, none⟩ = some (.int .i64 (P x y).n.f) ∧ w'.cell? ⟨lb y, x * 7 + 3, none⟩ = some (.int .i64 (P x y).n.b) ∧ w'.cell? ⟨lb y, x * 7 + 4, none⟩ = some (.bool (P x y).n.bo) ∧ w'.cell? ⟨lb y, x * 7 + 5, none⟩ = some (.bool (P x y).n.un) ∧ w'.cell? ⟨lb y, x * 7 + 6, none⟩ = some (.bool (P x y).n.re)) (simp [*]) (first | (go_at_call 122; refine (sCell bs bg g N s t x y _ (HH.out.scr.below (by first | exact Below.refl _ _ | exact (Below.refl _ _).drew)) hx hy).mono ?_; rintro e w7 ⟨rfl, hb7⟩; have hb8 := below_drew' hb7; have e4 := hb8.cells (b := bp) zb; have e5 := hb8.cells (b := po) zp; have e6 := hb8.cells (b := lb y) zl; have HB8 : Hid (Below w.heap.size w w7) := hb8; clear hb7 hb8))
  all_goals
    go_wp2_with fail
    go_ret
    exact ⟨rfl, HB8.out⟩
end Go.Proofs.YtjlfibhbfdckpaaGreatDoor

/- Cells are appended. -/
namespace Go.Proofs.YtjlfibhbfdckpaaGreatDoor
open Go.RowKit
theorem info_zero : (Tryz.prog.info? 38).bind (·.zero) = some (Cel.agg ⟨0, 0, Pn.plain⟩) := by kernel_rfl
theorem info_size : (Tryz.prog.info? 38).map (·.size) = some 7 := by kernel_rfl
theorem info_bytes : (Tryz.prog.info? 38).map (·.bytes) = some 40 := by kernel_rfl
theorem info_cell : ∃ i : TypeInfo, Tryz.prog.info? 38 = some i ∧ i.zero = some (Cel.agg ⟨0, 0, Pn.plain⟩) ∧ i.size = 7 ∧ i.bytes = 40 := by
  have h1 := info_zero
  have h2 := info_size
  have h3 := info_bytes
  cases h : Tryz.prog.info? 38 with
  | none => rw [h] at h2; simp at h2
  | some i => rw [h] at h1 h2 h3; exact ⟨i, rfl, by simpa using h1, by simpa using h2, by simpa using h3⟩
abbrev celArr (c : Cel) : Array Value := #[.int .i32 c.r, .int .i64 c.p, .int .i64 c.n.f, .int .i64 c.n.b, .bool c.n.bo, .bool c.n.un, .bool c.n.re]
end Go.Proofs.YtjlfibhbfdckpaaGreatDoor

/- Laid: all cells of a picture. -/
namespace Go.Proofs.YtjlfibhbfdckpaaGreatDoor
open Go.RowKit
attribute [local go_sem ↓] Go.wp_at_zero Go.wp_at_succ
def picG (L : List Wn) (K : Nat) (r : Wn) : Nat → Nat → Cel := fun x y => picP L K r x y
end Go.Proofs.YtjlfibhbfdckpaaGreatDoor

/- Flush: the picture. -/
namespace Go.Proofs.YtjlfibhbfdckpaaGreatDoor
open Go.RowKit
attribute [local go_sem ↓] Go.wp_at_zero Go.wp_at_succ
theorem rowInfo : (Tryz.prog.info? 120).map (fun i => (i.zero, i.size, i.bytes)) = some (some (.slice none 0 0), 1, 24) := by kernel_rfl
/-- The first y lines of a picture that is being made. -/
structure PcW (w : World) (m0 po W H : Nat) (lb : Nat → Nat) (P : Nat → Nat → Cel) (y : Nat) : Prop where
  po0 : m0 ≤ po
  plt : po < w.heap.size
  has : ∀ j, j < H → (w.cell? ⟨po, j, none⟩).isSome = true
  free : ∀ o, w.frozen? ⟨po, o, none⟩ = false
  row : ∀ j, j < y → w.cell? ⟨po, j, none⟩ = some (.slice (some ⟨lb j, 0, none⟩) W W)
  cel : ∀ j x, j < y → x < W → CelAt w (lb j) (x * 7) (P x j)
  ne : ∀ j, j < y → lb j ≠ po ∧ m0 ≤ lb j ∧ lb j < w.heap.size
theorem PcW.keep {w w' : World} {m0 po W H : Nat} {lb : Nat → Nat} {P : Nat → Nat → Cel} {y : Nat} (h : PcW w m0 po W H lb P y) (hp : w'.heap[po]? = w.heap[po]?) (hl : ∀ j, j < y → w'.heap[lb j]? = w.heap[lb j]?) (hs : w.heap.size ≤ w'.heap.size) : PcW w' m0 po W H lb P y :=
  ⟨h.po0, by have := h.plt; omega, fun j hj => by rw [cell_same hp]; exact h.has j hj, fun o => by rw [frozen_same hp]; exact h.free o, fun j hj => by rw [cell_same hp]; exact h.row j hj, fun j x hj hx => (h.cel j x hj hx).same (hl j hj), fun j hj => by have := h.ne j hj; omega⟩
theorem PcW.below {w w' : World} {m0 po W H : Nat} {lb : Nat → Nat} {P : Nat → Nat → Cel} {y : Nat} (h : PcW w m0 po W H lb P y) (hb : Below w.heap.size w w') : PcW w' m0 po W H lb P y :=
  h.keep (hb.block _ h.plt) (fun j hj => hb.block _ (h.ne j hj).2.2) hb.size
theorem made_rows (w : World) (n : Nat) (t : TypeId) : ∀ j, j < n → (w.alloc (.cells (madeCells #[.slice none 0 0] (n * 1)) t)).cell? ⟨w.heap.size, j, none⟩ = some (.slice none 0 0) := by
  intro j hj
  rw [cell_of_block (heap_new w _)]
  unfold madeCells
  rw [Array.getElem?_map, Array.getElem?_range, if_pos (by omega)]
  simp only [Option.map_some]
  rw [show j % (#[.slice none 0 0] : Array Value).size = 0 by simp [Nat.mod_one]]
  rfl
/-- A line that is being made: x cells are there. -/
def rowF (P : Nat → Nat → Cel) (y x : Nat) : Nat → Cel := fun i => if i < x then P i y else ⟨0, 0, Pn.plain⟩
theorem wpList_make_as {P : Program} (w wB : World) (b : Nat) {ops : Array Oper} {rest : List Oper} {o : Oper} {a : Act} {Q : Exit → Act → World → Prop}
    (hg : o.guard = none) (l c : Operand) (t : TypeId) (hop : o.op = Op.makeSlice t l c)
    (e : TypeId) (z : Value) (size bytes : Nat) (h1 : P.underlying t = some (.slice e)) (h2 : (P.info? e).map (fun i => (i.zero, i.size, i.bytes)) = some (some z, size, bytes))
    (n : Nat) (hl : a.eval l = .int .i64 n) (hc : a.eval c = .int .i64 n) (hn : n ≤ 800) (hb : bytes ≤ 1000) (hw : w.alloc (.cells (madeCells z.cells (n * size)) e) = wB) (hbb : w.heap.size = b)
    (hK : wpList P ops Q rest (a.put o.dst (.slice (some ⟨b, 0, none⟩) n n)) wB) : wpList P ops Q (o :: rest) a w := by
  subst hw hbb
  exact wpList_make_at w hg l c t hop e z size bytes h1 h2 n hl hc hn hb hK
theorem rowF_zero (P : Nat → Nat → Cel) (y : Nat) : rowF P y 0 = fun _ => ⟨0, 0, Pn.plain⟩ := by funext i; unfold rowF; rw [if_neg (by omega)]
theorem rowF_put (P : Nat → Nat → Cel) (y x : Nat) : updF (rowF P y x) x (P x y) = rowF P y (x + 1) := by
  funext i
  unfold updF rowF
  by_cases h : i = x
  · subst h; rw [if_pos rfl, if_pos (by omega)]
  · rw [if_neg h]
    by_cases h2 : i < x
    · rw [if_pos h2, if_pos (by omega)]
    · rw [if_neg h2, if_neg (by omega)]
/-- Line y has got x cells. -/
structure PcX (w : World) (m0 po b W H : Nat) (lb : Nat → Nat) (P : Nat → Nat → Cel) (y x : Nat) : Prop where
  pw : PcW w m0 po W H lb P y
  row : w.cell? ⟨po, y, none⟩ = some (.slice (some ⟨b, 0, none⟩) W W)
  fl : Flat w b W (rowF P y x)
  nb : b ≠ po ∧ m0 ≤ b
  nl : ∀ j, j < y → b ≠ lb j
theorem PcX.below {w w' : World} {m0 po b W H : Nat} {lb : Nat → Nat} {P : Nat → Nat → Cel} {y x : Nat} (h : PcX w m0 po b W H lb P y x) (hx : 1 ≤ W) (hb : Below w.heap.size w w') : PcX w' m0 po b W H lb P y x :=
  ⟨h.pw.below hb, by rw [cell_same (hb.block _ h.pw.plt)]; exact h.row, h.fl.same (hb.block _ (h.fl.cel 0 hx).lt), h.nb, h.nl⟩
theorem PcX.put {w : World} {m0 po b W H : Nat} {lb : Nat → Nat} {P : Nat → Nat → Cel} {y x : Nat} (h : PcX w m0 po b W H lb P y x) (hx : x < W) : PcX (put7 w b (x * 7) (P x y)) m0 po b W H lb P y (x + 1) := by
  have e := put7_other w b (x * 7) po (P x y) (Ne.symm h.nb.1)
  exact ⟨h.pw.keep e (fun j hj => put7_other _ _ _ _ _ (Ne.symm (h.nl j hj))) (by rw [put7_size]; exact Nat.le_refl _), by rw [cell_same e]; exact h.row, by rw [← rowF_put]; exact h.fl.put hx (P x y), h.nb, h.nl⟩
set_option maxHeartbeats 8000000 in
set_option maxRecDepth 100000 in
theorem qPicture {M : Mm} {L : List Wn} {last : Int} {N : Nat} {s : Rs} {t : Pt} {rk : Int → Nat} {K : Nat} (T : Tree L rk K) (ok : DOk L last) (w : World) (h : DkAt w M L last N s t) (r : Wn) (hr : r ∈ L) (hr0 : r.n = 0) :
    Calls Tryz.prog 124 #[.pointer (some ⟨M.t 1, 0, none⟩)] w fun e w' => ∃ po lb, e = .returned (.slice (some ⟨po, 0, none⟩) r.H r.H) ∧ PcM w' po lb (fun _ => r.W) r.W r.H (fun x y => picP L K r x y) ∧ Below w.heap.size w w' := by
  have hw := h.win r hr
  have g0 := hw.gr
  have f5 := hw.f5
  rw [hr0] at g0 f5
  have w1 := g0.w1
  have w2 := g0.w2
  have hh1 := g0.h1
  have hh2 := g0.h2
  have k0 : w.cell? ⟨M.t 1, 0, none⟩ = some (.pointer (some ⟨M.b 0, 0, none⟩)) := cell_of_block h.b1 0
  have HD : Hid (DkAt w M L last N s t ∧ Tree L rk K ∧ DOk L last ∧ r ∈ L ∧ r.n = 0) := ⟨h, T, ok, hr, hr0⟩
  have HG : Hid (GrAt w (M.c 0) (M.g 0) r.W r.H (r.H * r.W) r.G) := g0
  have z1 : M.t 1 < w.heap.size := World.block_lt_of_cell? _ _ k0
  have z2 : M.b 0 < w.heap.size := World.block_lt_of_cell? _ _ f5
  obtain ⟨m0, hm0⟩ : ∃ m0, w.heap.size = m0 := ⟨_, rfl⟩
  have Hm0 : Hid (w.heap.size = m0) := hm0
  obtain ⟨P, hP⟩ : ∃ P : Nat → Nat → Cel, (fun x y : Nat => picP L K r x y) = P := ⟨_, rfl⟩
  have HP : Hid ((fun x y : Nat => picP L K r x y) = P) := hP
  rw [hP]
  clear hw g0 hP h T ok hr hr0 hm0
  go_enter Tryz.func124, Tryz.ntmps124
  go_wp2_with fail
  go_at_call 127
  refine (pHeight (M.c 0) (M.g 0) r.W r.H _ r.G w HG.out).mono ?_
  rintro e w' ⟨rfl, hw'⟩
  replace hw' := hw'.symm
  subst hw'
  go_wp2_with (at_make; go_must (refine wpList_make_at _ rfl _ _ 155 rfl 120 _ 1 24 Tryz.underlying155 rowInfo r.H (by rfl) (by rfl) (by omega) (by omega) ?_))
  have hA : ∃ wA po, w.alloc (.cells (madeCells #[.slice none 0 0] (r.H * 1)) 120) = wA ∧ w.heap.size = po ∧ PcW wA m0 po r.W r.H (fun _ => 0) P 0 ∧ Below w.heap.size w wA := by
    refine ⟨_, _, rfl, rfl, ⟨Nat.le_of_eq Hm0.out.symm, by simp, fun j hj => by rw [made_rows w r.H _ j hj]; rfl, frozen_of_block (heap_new _ _), fun j hj => absurd hj (Nat.not_lt_zero _), fun j x hj => absurd hj (Nat.not_lt_zero _), fun j hj => absurd hj (Nat.not_lt_zero _)⟩, (Below.refl _ _).alloc (Nat.le_refl _) _⟩
  obtain ⟨wA, po, hwA, hpo, pA, belA⟩ := hA
  try simp only [Nat.mul_one] at hwA
  rw [hwA]
  try rw [hpo]
  have HA : Hid (PcW wA m0 po r.W r.H (fun _ => 0) P 0 ∧ Below w.heap.size w wA) := ⟨pA, belA⟩
  clear hwA hpo pA belA k0 f5
  go_loopw [17] (fun vi wr => ∃ y : Nat, vi = .int .i64 y ∧ y ≤ r.H ∧ (∃ lb, PcW wr m0 po r.W r.H lb P y) ∧ Below w.heap.size w wr) (fun vi _ => r.H - (intOf vi).toNat)
  case atStart => exact ⟨0, rfl, Nat.zero_le _, ⟨_, HA.out.1⟩, HA.out.2⟩
  case round =>
    obtain ⟨y, rfl, hy, ⟨lb, hpw⟩, hbw⟩ := hrel
    have HB : Hid (PcW wr m0 po r.W r.H lb P y ∧ Below w.heap.size w wr) := ⟨hpw, hbw⟩
    clear hpw hbw HA
    by_cases hc : y < r.H
    · have hc' : (y : Int) < (r.H : Int) := by omega
      have k0 : wr.cell? ⟨M.t 1, 0, none⟩ = some (.pointer (some ⟨M.b 0, 0, none⟩)) := cell_of_block (HD.out.1.below HB.out.2).b1 0
      have f5 : wr.cell? ⟨M.b 0, 5, none⟩ = some (.pointer (some ⟨M.c 0, 0, none⟩)) := by
        have := ((HD.out.1.below HB.out.2).win r HD.out.2.2.2.1).f5
        rw [HD.out.2.2.2.2] at this
        exact this
      have Hy : Hid (y < r.H) := hc
      clear hc hy
      go_wp2_with fail
      go_at_call 126
      refine (pWidth (M.c 0) (M.g 0) r.W r.H _ r.G wr (HG.out.below HB.out.2)).mono ?_
      rintro e w' ⟨rfl, hw'⟩
      replace hw' := hw'.symm
      subst hw'
      clear k0 f5
      have hB : ∃ wB b, wr.alloc (.cells (madeCells #[.int .i32 0, .int .i64 0, .int .i64 0, .int .i64 0, .bool false, .bool false, .bool false] (r.W * 7)) 38) = wB ∧ wr.heap.size = b ∧ Flat wB b r.W (fun _ => ⟨0, 0, Pn.plain⟩) ∧ Below wr.heap.size wr wB ∧ wB.heap.size = b + 1 := ⟨_, _, rfl, rfl, made_flat wr r.W _, (Below.refl _ _).alloc (Nat.le_refl _) _, by simp⟩
      obtain ⟨wB, b, hwB, hbb, fB, belB, zB⟩ := hB
      have HW : Hid (wr.alloc (.cells (madeCells #[.int .i32 0, .int .i64 0, .int .i64 0, .int .i64 0, .bool false, .bool false, .bool false] (r.W * 7)) 38) = wB ∧ wr.heap.size = b) := ⟨hwB, hbb⟩
      have HB2 : Hid (PcW wB m0 po r.W r.H lb P y ∧ Below w.heap.size w wB ∧ Flat wB b r.W (fun _ => ⟨0, 0, Pn.plain⟩)) := ⟨HB.out.1.below belB, HB.out.2.trans (belB.mono HB.out.2.size), fB⟩
      have Hbb : Hid (b ≠ po ∧ m0 ≤ b ∧ ∀ j, j < y → b ≠ lb j) := by
        have h1 := HB.out.1.plt
        have h2 := HB.out.2.size
        have h3 := Hm0.out
        refine ⟨by omega, by omega, fun j hj => ?_⟩
        have := (HB.out.1.ne j hj).2.2
        omega
      obtain ⟨v0, hv0⟩ := Option.isSome_iff_exists.1 (HB2.out.1.has y Hy.out)
      have fv := HB2.out.1.free y
      clear hwB hbb fB belB zB
      go_wp2_with (at_make; go_must (refine wpList_make_as _ wB b rfl _ _ 120 rfl 38 _ 7 40 Tryz.underlying120 cellInfo r.W (by rfl) (by rfl) (by omega) (by omega) HW.out.1 HW.out.2 ?_))
      have hC : ∃ wC, wB.setCell ⟨po, y, none⟩ (.slice (some ⟨b, 0, none⟩) r.W r.W) = wC ∧ PcX wC m0 po b r.W r.H lb P y 0 ∧ Below w.heap.size w wC := by
        have k := (Keep.refl (fun i => i = po) wB).setCell ⟨po, y, none⟩ (.slice (some ⟨b, 0, none⟩) r.W r.W) (fun _ => rfl)
        obtain ⟨q1, q2, q3⟩ := HB2.out
        obtain ⟨n1, n2, n3⟩ := Hbb.out
        have hself : (wB.setCell ⟨po, y, none⟩ (.slice (some ⟨b, 0, none⟩) r.W r.W)).cell? ⟨po, y, none⟩ = some (.slice (some ⟨b, 0, none⟩) r.W r.W) := set_same _ _ _ _ _ hv0
        have hfar : ∀ j, j ≠ y → (wB.setCell ⟨po, y, none⟩ (.slice (some ⟨b, 0, none⟩) r.W r.W)).cell? ⟨po, j, none⟩ = wB.cell? ⟨po, j, none⟩ := fun j hj => set_far _ _ _ _ _ hj
        refine ⟨_, rfl, ⟨⟨q1.po0, by rw [set_size]; exact q1.plt, fun j hj => ?_, fun o => by rw [set_frozen]; exact q1.free o, fun j hj => by rw [hfar j (by omega)]; exact q1.row j hj, fun j x hj hx => (q1.cel j x hj hx).same (k.block _ (q1.ne j hj).2.2 (q1.ne j hj).1), fun j hj => by rw [set_size]; exact q1.ne j hj⟩, hself, by rw [rowF_zero]; exact q3.same (k.block _ (q3.cel 0 (by omega)).lt n1), ⟨n1, n2⟩, n3⟩, ?_⟩
        · by_cases e : j = y
          · rw [e, hself]; rfl
          · rw [hfar j e]; exact q1.has j hj
        · exact q2.trans (k.toBelow q2.size (fun i hi e => by have := q1.po0; have := Hm0.out; omega))
      obtain ⟨wC, hwC, pC, belC⟩ := hC
      rw [hwC]
      have HC : Hid (PcX wC m0 po b r.W r.H lb P y 0 ∧ Below w.heap.size w wC) := ⟨pC, belC⟩
      clear hwC pC belC hv0 fv HB2 HW HB
      go_loopw [37] (fun vi wi => ∃ x : Nat, vi = .int .i64 x ∧ x ≤ r.W ∧ PcX wi m0 po b r.W r.H lb P y x ∧ Below w.heap.size w wi) (fun vi _ => r.W - (intOf vi).toNat)
      case atStart => exact ⟨0, rfl, Nat.zero_le _, HC.out.1, HC.out.2⟩
      case round =>
        obtain ⟨x, rfl, hx, hpx, hbi⟩ := hrel
        have HBi : Hid (PcX wr m0 po b r.W r.H lb P y x ∧ Below w.heap.size w wr) := ⟨hpx, hbi⟩
        clear hpx hbi HC
        by_cases hxc : x < r.W
        · have hxc' : (x : Int) < (r.W : Int) := by omega
          have Hx : Hid (x < r.W) := hxc
          have q2 := HBi.out.1.row
          have lg := HBi.out.1.pw.plt
          obtain ⟨t0, t1, t2, t3, t4, t5, t6⟩ := HBi.out.1.fl.cel x hxc
          have lb2 : b < wr.heap.size := World.block_lt_of_cell? _ _ t0
          have fr := HBi.out.1.fl.free
          have nb1 : b ≠ po := HBi.out.1.nb.1
          have nb2 : po ≠ b := Ne.symm nb1
          clear hxc hx
          go_wp2_with fail
          go_region_held3 (fun w' => w'.cell? ⟨po, y, none⟩ = some (.slice (some ⟨b, 0, none⟩) r.W r.W) ∧ (w'.cell? ⟨b, x * 7, none⟩).isSome = true ∧ (w'.cell? ⟨b, x * 7 + 1, none⟩).isSome = true ∧ (w'.cell? ⟨b, x * 7 + 2, none⟩).isSome = true ∧ (w'.cell? ⟨b, x * 7 + 3, none⟩).isSome = true ∧ (w'.cell? ⟨b, x * 7 + 4, none⟩).isSome = true ∧ (w'.cell? ⟨b, x * 7 + 5, none⟩).isSome = true ∧ (w'.cell? ⟨b, x * 7 + 6, none⟩).isSome = true ∧ (∀ o, w'.frozen? ⟨b, o, none⟩ = false)) (simp [*, World.cell?_setCell_far, isSome_set]) (first | (go_at_call 43; refine (dCell HD.out.2.1 HD.out.2.2.1 _ (HD.out.1.below (by first | exact HBi.out.2 | exact HBi.out.2.drew)) r HD.out.2.2.2.1 HD.out.2.2.2.2 x y Hx.out Hy.out (P x y) (by rw [← HP.out])).mono ?_; rintro e w5 ⟨rfl, hb5⟩; have e1 := hb5.cells lg; have e3 := hb5.cells lb2; have e4 := hb5.marks lb2))
          have hb6 : Below wr.heap.size wr w5 := below_drew' hb5
          have hE : ∃ wE, put7 w5 b (x * 7) (P x y) = wE ∧ PcX wE m0 po b r.W r.H lb P y (x + 1) ∧ Below w.heap.size w wE := by
            have px := (HBi.out.1.below w1 hb6).put Hx.out
            refine ⟨_, rfl, px, ?_⟩
            have bb := HBi.out.2.trans (hb6.mono HBi.out.2.size)
            exact bb.trans (((Keep.refl (fun i => i = b) w5).put7 b (x * 7) (P x y) (fun _ => rfl)).toBelow bb.size (fun i hi e => by have := Hbb.out.2.1; have := Hm0.out; omega))
          obtain ⟨wE, hwE, pE, belE⟩ := hE
          unfold put7 at hwE
          rw [hwE]
          have HE : Hid (PcX wE m0 po b r.W r.H lb P y (x + 1) ∧ Below w.heap.size w wE) := ⟨pE, belE⟩
          rename_i hS
          clear hS hwE pE belE e1 e3 e4 q2 t0 t1 t2 t3 t4 t5 t6 fr hb5 hb6
          go_wp2_with fail
          go_roundw
          case rel => exact ⟨x + 1, by go_num, by have := Hx.out; omega, HE.out.1, HE.out.2⟩
          case measure => simp [intOf]; have := Hx.out; omega
        · have hxc' : ¬ ((x : Int) < (r.W : Int)) := by omega
          have ex : x = r.W := by omega
          have Hex : Hid (x = r.W) := ex
          clear ex hxc hx
          have Hnx : Hid (PcW wr m0 po r.W r.H (fun j => if j = y then b else lb j) P (y + 1)) := by
            obtain ⟨q1, q2, q3, q4, q5⟩ := HBi.out.1
            refine ⟨q1.po0, q1.plt, q1.has, q1.free, fun j hj => ?_, fun j a hj ha => ?_, fun j hj => ?_⟩
            · by_cases e : j = y
              · simp only [e, if_true]; exact q2
              · simp only [e, if_false]; exact q1.row j (by omega)
            · by_cases e : j = y
              · have := q3.cel a ha
                unfold rowF at this
                rw [if_pos (by rw [Hex.out]; exact ha)] at this
                simp only [e, if_true]; exact this
              · simp only [e, if_false]; exact q1.cel j a (by omega) ha
            · by_cases e : j = y
              · simp only [e, if_true]; exact ⟨q4.1, q4.2, (q3.cel 0 (by omega)).lt⟩
              · simp only [e, if_false]; exact q1.ne j (by omega)
          go_wp2_with fail
          go_roundw
          case rel => exact ⟨y + 1, by go_num, by have := Hy.out; omega, ⟨_, Hnx.out⟩, HBi.out.2⟩
          case measure => simp [intOf]; have := Hy.out; omega
    · have hc' : ¬ ((y : Int) < (r.H : Int)) := by omega
      have ey : y = r.H := by omega
      have Hey : Hid (y = r.H) := ey
      clear ey hc hy
      go_wp2_with fail
      go_ret
      refine ⟨po, rfl, ⟨lb, ⟨fun j hj => HB.out.1.row j (by rw [Hey.out]; exact hj), fun _ _ => Nat.le_refl _, fun j x hj hx => HB.out.1.cel j x (by rw [Hey.out]; exact hj) hx⟩⟩, HB.out.2⟩
end Go.Proofs.YtjlfibhbfdckpaaGreatDoor

/- Flush: a strings.Builder that lies within the painter. -/
namespace Go.Proofs.YtjlfibhbfdckpaaGreatDoor
open Go.RowKit
attribute [local go_sem ↓] Go.wp_at_zero Go.wp_at_succ
/-- What was told so far: the builder's two cells are the painter's last; from n1 on its bytes lie. -/
structure BdAt (w : World) (bp n1 : Nat) (c0 c1 : Value) (l : List UInt8) : Prop where
  ex : ∃ ap v, w.heap[bp]? = some (.cells #[c0, c1, ap, v] 194) ∧ (ap = .pointer none ∨ ap = .pointer (some ⟨bp, 2, none⟩)) ∧ w.ownsRow n1 5 1 v l.length (Lib.byteCells l) ∧ (v = .slice none 0 0 ↔ l = [])
  lt : bp < n1
  le : n1 ≤ w.heap.size
/-- Blocks of other cells than bytes stay, but for some. -/
def Alien (F : Nat → Prop) (w w' : World) : Prop := ∀ (i : Nat) (cs : Array Value) (T : TypeId) (fr : Nat × Nat), w.heap[i]? = some (.cells cs T fr) → T ≠ 5 → ¬ F i → w'.heap[i]? = w.heap[i]?
theorem bdSize : (Tryz.prog.info? 192).map (·.size) = some 2 := by kernel_rfl
theorem blies : liesAt Tryz.prog Tryz.prog.depth 194 (4 / Tryz.prog.cellsOf 194) 2 192 1 = true := by kernel_rfl
theorem u8info : (Tryz.prog.info? 5).map (fun i => (i.zero, i.size, i.bytes)) = some (some (.int .u8 0), 1, 1) := by kernel_rfl
theorem u8cells : Tryz.prog.cellsOf 5 = 1 := by kernel_rfl
set_option maxHeartbeats 1000000 in
set_option maxRecDepth 100000 in
theorem qCheckUsed (bp : Nat) (w : World) (h0 : w.cell? ⟨bp, 2, none⟩ = some (.pointer (some ⟨bp, 2, none⟩))) :
    Calls Tryz.prog 231 #[.pointer (some ⟨bp, 2, none⟩)] w fun e w' => e = .returned (.tuple #[]) ∧ w' = w := by
  obtain ⟨j, hj, _⟩ := Option.map_eq_some_iff.1 bdSize
  go_enter Tryz.func231, Tryz.ntmps231
  go_wp2_with fail
  rw [Lib.run_neq_ptr_same w _ Tryz.underlying190 hj]
  go_wp2_with fail
  go_end0
  exact ⟨rfl, rfl⟩
set_option maxHeartbeats 1000000 in
set_option maxRecDepth 100000 in
theorem qCheckFresh (bp : Nat) (w : World) (h0 : w.cell? ⟨bp, 2, none⟩ = some (.pointer none)) (hsh : w.shape? bp = some (194, 4)) (hfz : w.frozen? ⟨bp, 2, none⟩ = false) :
    Calls Tryz.prog 231 #[.pointer (some ⟨bp, 2, none⟩)] w fun e w' => e = .returned (.tuple #[]) ∧ w' = w.setCell ⟨bp, 2, none⟩ (.pointer (some ⟨bp, 2, none⟩)) := by
  obtain ⟨j, hj, hjs⟩ := Option.map_eq_some_iff.1 bdSize
  go_enter Tryz.func231, Tryz.ntmps231
  go_wp2_with fail
  rw [Lib.run_to_unsafe w ⟨bp, 2, none⟩ Tryz.underlying190 Tryz.underlying274 hj (by rw [hjs]; decide) hsh (show 2 < 4 by decide)]
  simp only [Result.andThen]
  rw [Oper.upon_value]
  go_wp2_with fail
  rw [run_callFunc_extern Tryz.func244 (by kernel_rfl) (by kernel_rfl) (by kernel_rfl) (e := Extern.AbiNoEscape.same) (by kernel_rfl)]
  rw [Lib.run_noEscape]
  simp only [Result.andThen]
  rw [Oper.upon_value]
  go_wp2_with fail
  rw [Lib.run_from_unsafe w ⟨bp, 2, none⟩ Tryz.underlying274 Tryz.underlying190 hj hsh blies]
  simp only [Result.andThen]
  rw [Oper.upon_value]
  go_wp2_with fail
  go_end0
  exact ⟨rfl, rfl⟩
theorem qCheck (bp n1 : Nat) (c0 c1 : Value) (l : List UInt8) (w : World) (h : BdAt w bp n1 c0 c1 l) :
    Calls Tryz.prog 231 #[.pointer (some ⟨bp, 2, none⟩)] w fun e w' => e = .returned (.tuple #[]) ∧ (∃ v, w'.heap[bp]? = some (.cells #[c0, c1, .pointer (some ⟨bp, 2, none⟩), v] 194) ∧ w'.ownsRow n1 5 1 v l.length (Lib.byteCells l) ∧ (v = .slice none 0 0 ↔ l = [])) ∧ Keep (fun i => i = bp) w w' := by
  obtain ⟨ap, v, hb, ha, hr, hl⟩ := h.ex
  rcases ha with rfl | rfl
  · refine (qCheckFresh bp w (cell_of_block hb 2) (by simp [World.shape?, hb]) (frozen_of_block hb 2)).mono ?_
    rintro e w' ⟨rfl, rfl⟩
    have k := (Keep.refl (fun i => i = bp) w).setCell ⟨bp, 2, none⟩ (.pointer (some ⟨bp, 2, none⟩)) (fun _ => rfl)
    refine ⟨rfl, ⟨v, heap_set_same hb 2 _, orow_same hr (fun i hi => k.block i (hr.lt i hi).2 ?_), hl⟩, k⟩
    have := (hr.lt i hi).1
    have := h.lt
    omega
  · refine (qCheckUsed bp w (cell_of_block hb 2)).mono ?_
    rintro e w' ⟨rfl, rfl⟩
    exact ⟨rfl, ⟨v, hb, hr, hl⟩, Keep.refl _ _⟩
set_option maxHeartbeats 2000000 in
set_option maxRecDepth 100000 in
theorem qWrites (bp n1 : Nat) (c0 c1 : Value) (l b : List UInt8) (w : World) (h : BdAt w bp n1 c0 c1 l) (hlen : l.length + b.length ≤ 1000000) :
    Calls Tryz.prog 215 #[.pointer (some ⟨bp, 2, none⟩), bstr b] w fun e w' => e = .returned (.tuple #[.int .i64 b.length, .nilIface]) ∧ BdAt w' bp n1 c0 c1 (l ++ b) ∧ Keep (fun i => i = bp ∨ n1 ≤ i) w w' ∧ Alien (fun i => i = bp) w w' := by
  obtain ⟨i0, hi, hz⟩ := Option.map_eq_some_iff.1 u8info
  have hz0 : i0.zero = some (.int .u8 0) := (Prod.mk.inj hz).1
  have hz1 : i0.size = 1 := (Prod.mk.inj (Prod.mk.inj hz).2).1
  have hz2 : i0.bytes = 1 := (Prod.mk.inj (Prod.mk.inj hz).2).2
  have HH : Hid (BdAt w bp n1 c0 c1 l) := h
  have hlt := h.lt
  have hle := h.le
  have hbz : (⟨b.toArray⟩ : ByteArray).size = b.length := rfl
  clear h hz
  go_enter Tryz.func215, Tryz.ntmps215
  go_wp2_with fail
  go_at_call 231
  refine (qCheck bp n1 c0 c1 l w HH.out).mono ?_
  rintro e w1 ⟨rfl, ⟨v, hbk, hown, hv⟩, hk⟩
  have hs1 := hk.size
  have HK1 : Hid (Keep (fun i => i = bp) w w1) := hk
  have Hv : Hid (v = .slice none 0 0 ↔ l = []) := hv
  have d2 : w1.cell? ⟨bp, 2, none⟩ = some (.pointer (some ⟨bp, 2, none⟩)) := cell_of_block hbk 2
  have d3 : w1.cell? ⟨bp, 3, none⟩ = some v := cell_of_block hbk 3
  clear hk hv
  go_wp2_with (at_builtin; refine Lib.wpList_append_own_string _ rfl _ _ 177 9 rfl n1 5 i0 Tryz.underlying177 Tryz.underlying9 hi hz0 hz1 hz2 _ _ _ rfl hown ⟨b.toArray⟩ rfl ?c3 ?c4 ?c5 ?_)
  case c3 => unfold maxLen; omega
  case c4 => omega
  case c5 => omega
  intro v' w2 hown' hgrow hnil
  have hbp1 : bp < w1.heap.size := by omega
  have hne : v.ownBlock ≠ some bp := fun e => by have := (hown.lt bp e).1; omega
  have hb2 : w2.heap[bp]? = some (.cells #[c0, c1, .pointer (some ⟨bp, 2, none⟩), v] 194) := (hgrow.block bp hbp1 (fun e => hne e.symm)).trans hbk
  have e3 : w2.cell? ⟨bp, 3, none⟩ = some v := cell_of_block hb2 3
  have f3 : w2.frozen? ⟨bp, 3, none⟩ = false := frozen_of_block hb2 3
  have hk3 := (Keep.refl (fun i => i = bp) w2).setCell ⟨bp, 3, none⟩ v' (fun _ => rfl)
  have hrow' : w2.ownsRow n1 5 1 v' (l ++ b).length (Lib.byteCells (l ++ b)) := by
    rw [Lib.byteCells_append, List.length_append]
    exact hown'
  have HP : Hid (BdAt (w2.setCell ⟨bp, 3, none⟩ v') bp n1 c0 c1 (l ++ b) ∧ Keep (fun i => i = bp ∨ n1 ≤ i) w (w2.setCell ⟨bp, 3, none⟩ v') ∧ Alien (fun i => i = bp) w (w2.setCell ⟨bp, 3, none⟩ v')) := by
    refine ⟨⟨⟨_, v', heap_set_same hb2 3 _, .inr rfl, orow_same hrow' (fun i hi => hk3.block i (hrow'.lt i hi).2 ?_), ?_⟩, hlt, ?_⟩, ?_, ?_⟩
    · have := (hrow'.lt i hi).1; omega
    · rw [hnil, Hv.out, List.append_eq_nil_iff]
    · have := hgrow.size; have := hk3.size; omega
    · refine ((HK1.out.mono (fun i hi => .inl hi)).grown hgrow (fun k hk _ => .inr (hown.lt k hk).1)).trans hk3 (fun i _ hi => .inl hi)
    · intro i cs T fr hi hT hF
      have hi0 : i < w.heap.size := (Array.getElem?_eq_some_iff.1 hi).1
      have b1 := HK1.out.block i hi0 hF
      have b2 := hgrow.block i (by omega) (fun e => Lib.ownBlock_ne hown (b1.trans hi) hT e.symm)
      have hs2 := hgrow.size
      exact (hk3.block i (by omega) hF).trans (b2.trans b1)
  obtain ⟨ao, n', cap, rfl⟩ : ∃ ao n' cap, v' = .slice ao n' cap := by
    rcases hown'.2 with ⟨hv, _⟩ | ⟨g, cap, cur, hv, _⟩
    · exact ⟨_, _, _, hv⟩
    · exact ⟨_, _, _, hv⟩
  clear hrow' hown' hgrow hnil hk3 hown
  go_wp2_with fail
  go_ret2
  exact ⟨rfl, HP.out⟩
set_option maxHeartbeats 2000000 in
set_option maxRecDepth 100000 in
theorem qString (bp n1 : Nat) (c0 c1 : Value) (l : List UInt8) (w : World) (h : BdAt w bp n1 c0 c1 l) :
    Calls Tryz.prog 179 #[.pointer (some ⟨bp, 2, none⟩)] w fun e w' => e = .returned (bstr l) ∧ Below n1 w w' := by
  obtain ⟨ap, v, hb, ha, hown, hl⟩ := h.ex
  have hUS := fun (W : World) (q : Option Addr) => Lib.run_unsafeString_none (P := Tryz.prog) W 212 3 9 q
  by_cases h0 : l = []
  · subst h0
    obtain rfl := hl.2 rfl
    have c1 : w.drew.cell? ⟨bp, 3, none⟩ = some (.slice none 0 0) := cell_of_block hb 3
    have hSD : (Builtin.unsafeSliceData_ #[177] 212 #[.slice none 0 0]).run Tryz.prog w.drew = .ok (.pointer none) w.drew := rfl
    clear hown hl ha h hb
    go_enter Tryz.func179, Tryz.ntmps179
    go_wp2_with fail
    go_region
    all_goals (go_wp2_with fail; go_ret; exact ⟨rfl, Below.drew (Below.refl n1 w)⟩)
  · have hl0 : l.length ≠ 0 := by simpa using h0
    obtain ⟨g, cap, cur, rfl, hbg, hg, hnc, hcm, hcs, htake⟩ : ∃ g cap cur, v = .slice (some ⟨g, 0, none⟩) l.length cap ∧ n1 ≤ g ∧ w.heap[g]? = some (.cells cur 5 (0, 0)) ∧ l.length ≤ cap ∧ cap ≤ maxLen ∧ cur.size = cap * 1 ∧ cur.toList.take (l.length * 1) = Lib.byteCells l := by
      rcases hown.2 with ⟨_, hz⟩ | ⟨g, cap, cur, hv, r⟩
      · exact absurd hz hl0
      · exact ⟨g, cap, cur, hv, r⟩
    have c1 : w.drew.cell? ⟨bp, 3, none⟩ = some (.slice (some ⟨g, 0, none⟩) l.length cap) := cell_of_block hb 3
    have hSD : (Builtin.unsafeSliceData_ #[177] 212 #[.slice (some ⟨g, 0, none⟩) l.length cap]).run Tryz.prog w.drew = .ok (.pointer (some ⟨g, 0, none⟩)) w.drew :=
      Lib.run_unsafeSliceData_row _ _ _ _ _ _ (by omega)
    have hUS : (Builtin.unsafeString_ #[212, 3] 9 #[.pointer (some ⟨g, 0, none⟩), .int .i64 l.length]).run Tryz.prog w.drew = .ok (.string ⟨l.toArray⟩) (w.drew.freeze ⟨g, 0, none⟩ l.length) := by
      refine Lib.run_unsafeString_row w.drew 212 3 9 5 Tryz.underlying212 u8cells g cur.size (by have hg' : w.drew.heap[g]? = some (.cells cur 5 (0, 0)) := hg; simp [World.shape?, hg']) l h0 (by omega) (by unfold maxLen at hcm; omega) ?_
      intro j x hx
      have := hown.cells (g := g) rfl j (.int .u8 x.toNat) (by simp [Lib.byteCells, hx])
      exact this
    clear hown hl ha h hb hg htake hcs hcm hnc hl0 h0
    go_enter Tryz.func179, Tryz.ntmps179
    go_wp2_with fail
    go_region
    all_goals (go_wp2_with fail; go_ret; exact ⟨rfl, Lib.below_freeze (Below.drew (Below.refl n1 w)) (p := ⟨g, 0, none⟩) hbg _⟩)
end Go.Proofs.YtjlfibhbfdckpaaGreatDoor

/- Flush: the painter whole; tell. -/
namespace Go.Proofs.YtjlfibhbfdckpaaGreatDoor
open Go.RowKit
attribute [local go_sem ↓] Go.wp_at_zero Go.wp_at_succ
/-- The painter, its screen (a copy of its own) and what it told: all that it changes lies from m0 on; its bytes from n1 on. -/
structure PaM (w : World) (m0 n1 bp po pc : Nat) (lb lc : Nat → Nat) (H : Nat) (P : Nat → Nat → Cel) (bs bg g N : Nat) (s : Rs) (l : List UInt8) : Prop where
  ex : ∃ t, PtM w bp po pc lb lc H P bs bg g N s t ∧ Tie s.B t
  bd : BdAt w bp n1 (.slice (some ⟨po, 0, none⟩) H pc) (.pointer (some ⟨bs, 0, none⟩)) l
  tab : Tabs w
  m2 : 2 ≤ m0
  po0 : po < m0
  lb0 : ∀ y, y < H → lb y < m0
  s0 : m0 ≤ bs ∧ bs < n1 ∧ bs ≠ bp
  g0 : m0 ≤ bg ∧ bg < n1 ∧ bg ≠ bp
  c0 : m0 ≤ g ∧ g < n1 ∧ g ≠ bp
  p0 : m0 ≤ bp
section
variable {w w' : World} {m0 n1 bp po pc : Nat} {lb lc : Nat → Nat} {H : Nat} {P : Nat → Nat → Cel} {bs bg g N : Nat} {s : Rs} {l : List UInt8}
theorem BdAt.keep {c0 c1 : Value} {F : Nat → Prop} (h : BdAt w bp n1 c0 c1 l) (k : Keep F w w') (hp : ¬ F bp) (hn : ∀ i, n1 ≤ i → ¬ F i) : BdAt w' bp n1 c0 c1 l := by
  obtain ⟨ap, v, hb, ha, hr, hl⟩ := h.ex
  have := h.lt
  have := h.le
  have := k.size
  exact ⟨⟨ap, v, (k.block bp (by omega) hp).trans hb, ha, orow_same hr (fun i hi => k.block i (hr.lt i hi).2 (hn i (hr.lt i hi).1)), hl⟩, h.lt, by omega⟩
theorem PaM.below (h : PaM w m0 n1 bp po pc lb lc H P bs bg g N s l) (hb : Below w.heap.size w w') : PaM w' m0 n1 bp po pc lb lc H P bs bg g N s l := by
  obtain ⟨t, pt, tie⟩ := h.ex
  exact ⟨⟨t, pt.below hb, tie⟩, h.bd.keep (Keep.below (fun _ => False) hb) (fun f => f) (fun _ _ f => f), h.tab.below hb, h.m2, h.po0, h.lb0, h.s0, h.g0, h.c0, h.p0⟩
theorem PcM.keep {W : Nat} {F : Nat → Prop} (h : PcM w po lb lc W H P) (k : Keep F w w') (hp : ¬ F po) (hl : ∀ y, y < H → ¬ F (lb y)) : PcM w' po lb lc W H P :=
  h.far (fun i hi hc => k.block i hi (by
    rcases hc with rfl | ⟨y, hy, rfl⟩
    · exact hp
    · exact hl y hy))
end
set_option maxHeartbeats 4000000 in
theorem qTell (m0 n1 bp po pc : Nat) (lb lc : Nat → Nat) (H : Nat) (P : Nat → Nat → Cel) (bs bg g N : Nat) (s : Rs) (l b : List UInt8) (w : World) (h : PaM w m0 n1 bp po pc lb lc H P bs bg g N s l) (ok : s.Ok) (hlen : l.length + b.length ≤ 1000000) (eW : (feedR s b).W = s.W) (eH : (feedR s b).H = s.H) :
    Calls Tryz.prog 198 #[.pointer (some ⟨bp, 0, none⟩), bstr b] w fun e w' => e = .returned (.tuple #[]) ∧ PaM w' m0 n1 bp po pc lb lc H P bs bg g N (feedR s b) (l ++ b) ∧ Below m0 w w' ∧ Alien (fun i => i = bp ∨ i = bs ∨ i = bg ∨ i = g) w w' := by
  have HH : Hid (PaM w m0 n1 bp po pc lb lc H P bs bg g N s l) := h
  have Hok : Hid (s.Ok ∧ l.length + b.length ≤ 1000000 ∧ (feedR s b).W = s.W ∧ (feedR s b).H = s.H) := ⟨ok, hlen, eW, eH⟩
  clear h ok hlen eW eH
  go_enter Tryz.func198, Tryz.ntmps198
  go_wp2_with fail
  go_at_call 215
  refine (qWrites bp n1 _ _ l b w HH.out.bd Hok.out.2.1).mono ?_
  rintro e w1 ⟨rfl, B1, K1, A1⟩
  have hm : n1 ≤ w.heap.size ∧ bp < n1 := ⟨HH.out.bd.le, HH.out.bd.lt⟩
  have H1 : Hid (∃ t, PtM w1 bp po pc lb lc H P bs bg g N s t ∧ Tie s.B t) := by
    obtain ⟨t, pt, tie⟩ := HH.out.ex
    obtain ⟨ap, v, hb, _⟩ := B1.ex
    have s0 := HH.out.s0
    have g0 := HH.out.g0
    have c0 := HH.out.c0
    have p0 := HH.out.p0
    have po0 := HH.out.po0
    refine ⟨t, ⟨cell_of_block hb 0, cell_of_block hb 1, pt.pic.keep K1 (by omega) (fun y hy => by have := HH.out.lb0 y hy; omega), pt.hs, pt.hpc, pt.scr.same (K1.block _ pt.scr.lt (by omega)) (K1.block _ pt.scr.gr.lt (by omega)) (K1.block _ pt.scr.gr.glt (by omega))⟩, tie⟩
  have T1 : Hid (Tabs w1) := by
    have := HH.out.m2
    have := HH.out.p0
    exact HH.out.tab.keep K1 (by omega) (by omega)
  have HB1 : Hid (BdAt w1 bp n1 (.slice (some ⟨po, 0, none⟩) H pc) (.pointer (some ⟨bs, 0, none⟩)) (l ++ b)) := B1
  have HK1 : Hid (Keep (fun i => i = bp ∨ n1 ≤ i) w w1) := K1
  have c1 : w1.cell? ⟨bp, 1, none⟩ = some (.pointer (some ⟨bs, 0, none⟩)) := by
    obtain ⟨t, pt, _⟩ := H1.out
    exact pt.c1
  have HA1 : Hid (Alien (fun i => i = bp) w w1) := A1
  clear B1 K1 hm A1
  go_wp2_with fail
  go_at_call 62
  obtain ⟨t, pt, tie⟩ := H1.out
  have s0 := HH.out.s0
  have g0 := HH.out.g0
  have k0 := HH.out.c0
  have m2 := HH.out.m2
  have p0 := HH.out.p0
  have po0 := HH.out.po0
  have n1l := HB1.out.lt
  refine (sFeed bs bg g N s t ⟨b.toArray⟩ w1 pt.scr Hok.out.1 T1.out tie (by omega) (by omega) (by omega) (by omega) (by omega) (by omega) (by have := Hok.out.2.1; show b.length ≤ _; omega)).mono ?_
  rintro e w2 ⟨rfl, ⟨t2, P2, tie2⟩, K2⟩
  have e2 : feedR s (⟨b.toArray⟩ : ByteArray).data.toList = feedR s b := by simp
  rw [e2] at P2 tie2
  have HF : Hid (PaM w2 m0 n1 bp po pc lb lc H P bs bg g N (feedR s b) (l ++ b) ∧ Below m0 w w2 ∧ Alien (fun i => i = bp ∨ i = bs ∨ i = bg ∨ i = g) w w2) := by
    have hb2 := HB1.out.keep K2 (by omega) (fun i hi => by omega)
    obtain ⟨ap, v, hbk, _⟩ := hb2.ex
    have hlb := HH.out.lb0
    refine ⟨⟨⟨t2, ⟨cell_of_block hbk 0, cell_of_block hbk 1, ?_, by rw [Hok.out.2.2.2]; exact pt.hs, pt.hpc, P2⟩, tie2⟩, hb2, T1.out.keep K2 (by omega) (by omega), m2, po0, hlb, s0, g0, k0, p0⟩, ?_, ?_⟩
    · rw [Hok.out.2.2.1]
      exact pt.pic.keep K2 (by omega) (fun y hy => by have := hlb y hy; omega)
    · have hle := HH.out.bd.le
      exact (HK1.out.toBelow (by omega) (fun i hi => by omega)).trans (K2.toBelow (by have := HK1.out.size; omega) (fun i hi => by omega))
    · intro i cs T fr hi hT hF
      have b1 := HA1.out i cs T fr hi hT (fun e => hF (.inl e))
      have hi0 : i < w.heap.size := (Array.getElem?_eq_some_iff.1 hi).1
      have hs := HK1.out.size
      exact (K2.block i (by omega) (fun e => hF (.inr e))).trans b1
  clear P2 K2 tie2 pt tie
  go_wp2_with fail
  go_end0
  exact ⟨rfl, HF.out⟩
end Go.Proofs.YtjlfibhbfdckpaaGreatDoor

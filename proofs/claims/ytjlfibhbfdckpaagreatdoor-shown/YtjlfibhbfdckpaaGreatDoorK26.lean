/- Texts of the proof, one behind the other: PuE, PuF, PuG. -/
import Derived.Test.YtjlfibhbfdckpaaGreatDoorK25
/- What Add does with a byte behind those that have come: the second, third, fourth. -/
namespace Go.Proofs.YtjlfibhbfdckpaaGreatDoor
open Go.RowKit Go.Lib
section
variable {w : World} {bs bg g N : Nat} {s : Rs} {t : Pt}
theorem byte_at {t : Pt} {n i : Nat} {c : Int} (h : PrAt w bs bg g N s (addT t n c)) (hi : i < 4) {v : Int} (hv : updI t.by4 n c i = v) : w.cell? ⟨bs, 12 + i, none⟩ = some (.int .u8 v) := by
  rw [← hv]; exact h.byte i hi
theorem upd_self (f : Nat → Int) (n : Nat) (c : Int) : updI f n c n = c := if_pos rfl
theorem upd_far (f : Nat → Int) {n i : Nat} (c : Int) (h : i ≠ n) : updI f n c i = f i := if_neg h
theorem lAdd2bad (a c : UInt8) (h : PrAt w bs bg g N s t) (T : Tabs w) (n0 : ¬ bs = 0) (n1 : ¬ bs = 1) (hn : t.bn = 1) (b0 : t.by4 0 = a.toNat) (a1 : 194 ≤ a.toNat) (a2 : a.toNat ≤ 244) (hg : goesOnB [a] c.toNat = false) :
    Calls Tryz.prog 212 #[.pointer (some ⟨bs, 12, none⟩), .int .u8 c.toNat] w (SPost bs bg g N w s { addT t 1 c.toNat with bn := 0 } (.tuple #[.int .i32 0, .int .i64 0])) := by
  have q := longR_val a.toNat
  have hg' : ¬ (lowR a.toNat ≤ c.toNat ∧ (c.toNat : Int) ≤ highR a.toNat) := by
    intro x; simp [goesOnB, x.1, x.2] at hg
  refine lAddRef bs bg g N s t 1 c.toNat w h (by simpa using hn) (by omega) (fun w' P K => ?_) (fun w' P K => ?_)
  · obtain ⟨X, i, lo, hi, sz, F, e1, e2, e3, e4⟩ := (T.keep K (fun e => n0 e.symm) (fun e => n1 e.symm)).cls a a1 a2
    have p0 := byte_at P (i := 0) (by omega) ((upd_far _ _ (by omega)).trans b0)
    have p1 := byte_at P (i := 1) (by omega) (upd_self _ _ _)
    by_cases hs : sz ≤ 2
    · exact uFullYes bs 12 4 a.toNat X i lo hi sz 2 w' F e1 hs (by omega) (by omega) p0
    · by_cases hl : c.toNat < lo
      · exact uFull2lo bs 12 4 a.toNat c.toNat X i lo hi sz w' F e1 (by omega) p0 p1 hl
      · exact uFull2hi bs 12 4 a.toNat c.toNat X i lo hi sz w' F e1 (by omega) p0 p1 hl (by omega)
  · obtain ⟨X, i, lo, hi, sz, F, e1, e2, e3, e4⟩ := (T.keep K (fun e => n0 e.symm) (fun e => n1 e.symm)).cls a a1 a2
    have p0 := byte_at P (i := 0) (by omega) ((upd_far _ _ (by omega)).trans b0)
    have p1 := byte_at P (i := 1) (by omega) (upd_self _ _ _)
    refine uDecodeOn bs 12 2 4 a.toNat w' _ _ _ (by omega) p0 (by omega) ?_
    by_cases hs : sz ≤ 2
    · by_cases hl : c.toNat < lo
      · exact uSlow1lo bs 12 4 a.toNat c.toNat X i lo hi sz 2 w' F e1 p0 p1 hs (by omega) hl
      · exact uSlow1hi bs 12 4 a.toNat c.toNat X i lo hi sz 2 w' F e1 p0 p1 hs (by omega) hl (by omega)
    · exact uSlowShort bs 12 4 a.toNat X i lo hi sz 2 w' F e1 p0 (by omega) (by omega)
theorem lAdd2open (a c : UInt8) (h : PrAt w bs bg g N s t) (T : Tabs w) (n0 : ¬ bs = 0) (n1 : ¬ bs = 1) (hn : t.bn = 1) (b0 : t.by4 0 = a.toNat) (a1 : 194 ≤ a.toNat) (a2 : a.toNat ≤ 244) (hg : goesOnB [a] c.toNat = true) (hl : ¬ longR a.toNat = 2) :
    Calls Tryz.prog 212 #[.pointer (some ⟨bs, 12, none⟩), .int .u8 c.toNat] w (SPost bs bg g N w s (addT t 1 c.toNat) (.tuple #[.int .i32 0, .int .i64 1])) := by
  have q := longR_val a.toNat
  have hg' : lowR a.toNat ≤ c.toNat ∧ (c.toNat : Int) ≤ highR a.toNat := by
    simpa [goesOnB] using hg
  refine lAddOpen bs bg g N s t 1 c.toNat w h (by simpa using hn) (by omega) (fun w' P K => ?_)
  obtain ⟨X, i, lo, hi, sz, F, e1, e2, e3, e4⟩ := (T.keep K (fun e => n0 e.symm) (fun e => n1 e.symm)).cls a a1 a2
  have p0 := byte_at P (i := 0) (by omega) ((upd_far _ _ (by omega)).trans b0)
  have p1 := byte_at P (i := 1) (by omega) (upd_self _ _ _)
  exact uFull2ok bs 12 4 a.toNat c.toNat X i lo hi sz w' F e1 (by omega) p0 p1 (by omega)
theorem lAdd2done (a c : UInt8) (h : PrAt w bs bg g N s t) (T : Tabs w) (n0 : ¬ bs = 0) (n1 : ¬ bs = 1) (hn : t.bn = 1) (b0 : t.by4 0 = a.toNat) (a1 : 194 ≤ a.toNat) (a2 : a.toNat ≤ 244) (hg : goesOnB [a] c.toNat = true) (hl : longR a.toNat = 2) :
    Calls Tryz.prog 212 #[.pointer (some ⟨bs, 12, none⟩), .int .u8 c.toNat] w (SPost bs bg g N w s { addT t 1 c.toNat with bn := 0 } (.tuple #[.int .i32 (letterR [a, c]), .int .i64 2])) := by
  have q := longR_val a.toNat
  have hg' : lowR a.toNat ≤ c.toNat ∧ (c.toNat : Int) ≤ highR a.toNat := by
    simpa [goesOnB] using hg
  have g1 := lowR_ge a.toNat
  have g2 := highR_le a.toNat
  refine lAddDone bs bg g N s t 1 c.toNat _ 2 w h (by simpa using hn) (by omega) (fun w' P K => ?_) (fun w' P K => ?_) (by omega)
  · obtain ⟨X, i, lo, hi, sz, F, e1, e2, e3, e4⟩ := (T.keep K (fun e => n0 e.symm) (fun e => n1 e.symm)).cls a a1 a2
    have p0 := byte_at P (i := 0) (by omega) ((upd_far _ _ (by omega)).trans b0)
    have p1 := byte_at P (i := 1) (by omega) (upd_self _ _ _)
    exact uFullYes bs 12 4 a.toNat X i lo hi sz 2 w' F e1 (by omega) (by omega) (by omega) p0
  · obtain ⟨X, i, lo, hi, sz, F, e1, e2, e3, e4⟩ := (T.keep K (fun e => n0 e.symm) (fun e => n1 e.symm)).cls a a1 a2
    have p0 := byte_at P (i := 0) (by omega) ((upd_far _ _ (by omega)).trans b0)
    have p1 := byte_at P (i := 1) (by omega) (upd_self _ _ _)
    have hv : letterR [a, c] = (a.toNat : Int) % 32 * 64 + (c.toNat : Int) % 64 := by show 64 * ((a.toNat : Int) - 192) + c.toNat - 128 = _; omega
    rw [hv]
    exact uDecodeOn bs 12 2 4 a.toNat w' _ _ _ (by omega) p0 (by omega) (uSlow2 bs 12 4 a.toNat c.toNat X i lo hi w' F (by omega) p0 p1 (by omega))
theorem lAdd3bad (a b c : UInt8) (h : PrAt w bs bg g N s t) (T : Tabs w) (n0 : ¬ bs = 0) (n1 : ¬ bs = 1) (hn : t.bn = 2) (b0 : t.by4 0 = a.toNat) (b1 : t.by4 1 = b.toNat) (a1 : 224 ≤ a.toNat) (a2 : a.toNat ≤ 244) (hb1 : lowR a.toNat ≤ b.toNat) (hb2 : (b.toNat : Int) ≤ highR a.toNat) (hg : c.toNat < 128 ∨ 191 < c.toNat) :
    Calls Tryz.prog 212 #[.pointer (some ⟨bs, 12, none⟩), .int .u8 c.toNat] w (SPost bs bg g N w s { addT t 2 c.toNat with bn := 0 } (.tuple #[.int .i32 0, .int .i64 0])) := by
  have q := longR_val a.toNat
  refine lAddRef bs bg g N s t 2 c.toNat w h (by simpa using hn) (by omega) (fun w' P K => ?_) (fun w' P K => ?_)
  · obtain ⟨X, i, lo, hi, sz, F, e1, e2, e3, e4⟩ := (T.keep K (fun e => n0 e.symm) (fun e => n1 e.symm)).cls a (by omega) a2
    have p0 := byte_at P (i := 0) (by omega) ((upd_far _ _ (by omega)).trans b0)
    have p1 := byte_at P (i := 1) (by omega) ((upd_far _ _ (by omega)).trans b1)
    have p2 := byte_at P (i := 2) (by omega) (upd_self _ _ _)
    by_cases hs : sz ≤ 3
    · exact uFullYes bs 12 4 a.toNat X i lo hi sz 3 w' F e1 hs (by omega) (by omega) p0
    · rcases hg with hl | hl
      · exact uFull3lo bs 12 4 a.toNat b.toNat c.toNat X i lo hi sz w' F e1 (by omega) p0 p1 p2 (by omega) hl
      · exact uFull3hi bs 12 4 a.toNat b.toNat c.toNat X i lo hi sz w' F e1 (by omega) p0 p1 p2 (by omega) hl
  · obtain ⟨X, i, lo, hi, sz, F, e1, e2, e3, e4⟩ := (T.keep K (fun e => n0 e.symm) (fun e => n1 e.symm)).cls a (by omega) a2
    have p0 := byte_at P (i := 0) (by omega) ((upd_far _ _ (by omega)).trans b0)
    have p1 := byte_at P (i := 1) (by omega) ((upd_far _ _ (by omega)).trans b1)
    have p2 := byte_at P (i := 2) (by omega) (upd_self _ _ _)
    refine uDecodeOn bs 12 3 4 a.toNat w' _ _ _ (by omega) p0 (by omega) ?_
    by_cases hs : sz ≤ 3
    · rcases hg with hl | hl
      · exact uSlow3lo bs 12 4 a.toNat b.toNat c.toNat X i lo hi w' F (by omega) p0 p1 p2 hl (by omega)
      · exact uSlow3hi bs 12 4 a.toNat b.toNat c.toNat X i lo hi w' F (by omega) p0 p1 p2 hl (by omega)
    · exact uSlowShort bs 12 4 a.toNat X i lo hi sz 3 w' F e1 p0 (by omega) (by omega)
theorem lAdd3open (a b c : UInt8) (h : PrAt w bs bg g N s t) (T : Tabs w) (n0 : ¬ bs = 0) (n1 : ¬ bs = 1) (hn : t.bn = 2) (b0 : t.by4 0 = a.toNat) (b1 : t.by4 1 = b.toNat) (a1 : 224 ≤ a.toNat) (a2 : a.toNat ≤ 244) (hb1 : lowR a.toNat ≤ b.toNat) (hb2 : (b.toNat : Int) ≤ highR a.toNat) (hg : 128 ≤ c.toNat ∧ c.toNat ≤ 191) (hl : ¬ longR a.toNat = 3) :
    Calls Tryz.prog 212 #[.pointer (some ⟨bs, 12, none⟩), .int .u8 c.toNat] w (SPost bs bg g N w s (addT t 2 c.toNat) (.tuple #[.int .i32 0, .int .i64 1])) := by
  have q := longR_val a.toNat
  refine lAddOpen bs bg g N s t 2 c.toNat w h (by simpa using hn) (by omega) (fun w' P K => ?_)
  obtain ⟨X, i, lo, hi, sz, F, e1, e2, e3, e4⟩ := (T.keep K (fun e => n0 e.symm) (fun e => n1 e.symm)).cls a (by omega) a2
  have p0 := byte_at P (i := 0) (by omega) ((upd_far _ _ (by omega)).trans b0)
  have p1 := byte_at P (i := 1) (by omega) ((upd_far _ _ (by omega)).trans b1)
  have p2 := byte_at P (i := 2) (by omega) (upd_self _ _ _)
  exact uFull3ok bs 12 4 a.toNat b.toNat c.toNat X i lo hi sz w' F e1 (by omega) p0 p1 p2 (by omega) hg
theorem lAdd3done (a b c : UInt8) (h : PrAt w bs bg g N s t) (T : Tabs w) (n0 : ¬ bs = 0) (n1 : ¬ bs = 1) (hn : t.bn = 2) (b0 : t.by4 0 = a.toNat) (b1 : t.by4 1 = b.toNat) (a1 : 224 ≤ a.toNat) (a2 : a.toNat ≤ 244) (hb1 : lowR a.toNat ≤ b.toNat) (hb2 : (b.toNat : Int) ≤ highR a.toNat) (hg : 128 ≤ c.toNat ∧ c.toNat ≤ 191) (hl : longR a.toNat = 3) :
    Calls Tryz.prog 212 #[.pointer (some ⟨bs, 12, none⟩), .int .u8 c.toNat] w (SPost bs bg g N w s { addT t 2 c.toNat with bn := 0 } (.tuple #[.int .i32 (letterR [a, b, c]), .int .i64 2])) := by
  have q := longR_val a.toNat
  have g1 := lowR_ge a.toNat
  have g2 := highR_le a.toNat
  refine lAddDone bs bg g N s t 2 c.toNat _ 3 w h (by simpa using hn) (by omega) (fun w' P K => ?_) (fun w' P K => ?_) (by omega)
  · obtain ⟨X, i, lo, hi, sz, F, e1, e2, e3, e4⟩ := (T.keep K (fun e => n0 e.symm) (fun e => n1 e.symm)).cls a (by omega) a2
    have p0 := byte_at P (i := 0) (by omega) ((upd_far _ _ (by omega)).trans b0)
    have p1 := byte_at P (i := 1) (by omega) ((upd_far _ _ (by omega)).trans b1)
    have p2 := byte_at P (i := 2) (by omega) (upd_self _ _ _)
    exact uFullYes bs 12 4 a.toNat X i lo hi sz 3 w' F e1 (by omega) (by omega) (by omega) p0
  · obtain ⟨X, i, lo, hi, sz, F, e1, e2, e3, e4⟩ := (T.keep K (fun e => n0 e.symm) (fun e => n1 e.symm)).cls a (by omega) a2
    have p0 := byte_at P (i := 0) (by omega) ((upd_far _ _ (by omega)).trans b0)
    have p1 := byte_at P (i := 1) (by omega) ((upd_far _ _ (by omega)).trans b1)
    have p2 := byte_at P (i := 2) (by omega) (upd_self _ _ _)
    have hv : letterR [a, b, c] = (a.toNat : Int) % 16 * 4096 + (b.toNat : Int) % 64 * 64 + (c.toNat : Int) % 64 := by show 64 * (64 * ((a.toNat : Int) - 224) + b.toNat - 128) + c.toNat - 128 = _; omega
    rw [hv]
    exact uDecodeOn bs 12 3 4 a.toNat w' _ _ _ (by omega) p0 (by omega) (uSlow3 bs 12 4 a.toNat b.toNat c.toNat X i lo hi w' F (by omega) p0 p1 p2 hg (by omega))
theorem lAdd4bad (a b d c : UInt8) (h : PrAt w bs bg g N s t) (T : Tabs w) (n0 : ¬ bs = 0) (n1 : ¬ bs = 1) (hn : t.bn = 3) (b0 : t.by4 0 = a.toNat) (b1 : t.by4 1 = b.toNat) (b2 : t.by4 2 = d.toNat) (a1 : 240 ≤ a.toNat) (a2 : a.toNat ≤ 244) (hb1 : lowR a.toNat ≤ b.toNat) (hb2 : (b.toNat : Int) ≤ highR a.toNat) (hd : 128 ≤ d.toNat ∧ d.toNat ≤ 191) (hg : c.toNat < 128 ∨ 191 < c.toNat) :
    Calls Tryz.prog 212 #[.pointer (some ⟨bs, 12, none⟩), .int .u8 c.toNat] w (SPost bs bg g N w s { addT t 3 c.toNat with bn := 0 } (.tuple #[.int .i32 0, .int .i64 0])) := by
  have q := longR_val a.toNat
  refine lAddRef bs bg g N s t 3 c.toNat w h (by simpa using hn) (by omega) (fun w' P K => ?_) (fun w' P K => ?_)
  · obtain ⟨X, i, lo, hi, sz, F, e1, e2, e3, e4⟩ := (T.keep K (fun e => n0 e.symm) (fun e => n1 e.symm)).cls a (by omega) a2
    have p0 := byte_at P (i := 0) (by omega) ((upd_far _ _ (by omega)).trans b0)
    have p1 := byte_at P (i := 1) (by omega) ((upd_far _ _ (by omega)).trans b1)
    have p2 := byte_at P (i := 2) (by omega) ((upd_far _ _ (by omega)).trans b2)
    have p3 := byte_at P (i := 3) (by omega) (upd_self _ _ _)
    exact uFullYes bs 12 4 a.toNat X i lo hi sz 4 w' F e1 (by omega) (by omega) (by omega) p0
  · obtain ⟨X, i, lo, hi, sz, F, e1, e2, e3, e4⟩ := (T.keep K (fun e => n0 e.symm) (fun e => n1 e.symm)).cls a (by omega) a2
    have p0 := byte_at P (i := 0) (by omega) ((upd_far _ _ (by omega)).trans b0)
    have p1 := byte_at P (i := 1) (by omega) ((upd_far _ _ (by omega)).trans b1)
    have p2 := byte_at P (i := 2) (by omega) ((upd_far _ _ (by omega)).trans b2)
    have p3 := byte_at P (i := 3) (by omega) (upd_self _ _ _)
    refine uDecodeOn bs 12 4 4 a.toNat w' _ _ _ (by omega) p0 (by omega) ?_
    rcases hg with hl | hl
    · exact uSlow4lo bs 12 4 a.toNat b.toNat d.toNat c.toNat X i lo hi w' F (by omega) p0 p1 p2 p3 hd hl (by omega)
    · exact uSlow4hi bs 12 4 a.toNat b.toNat d.toNat c.toNat X i lo hi w' F (by omega) p0 p1 p2 p3 hd hl (by omega)
theorem lAdd4done (a b d c : UInt8) (h : PrAt w bs bg g N s t) (T : Tabs w) (n0 : ¬ bs = 0) (n1 : ¬ bs = 1) (hn : t.bn = 3) (b0 : t.by4 0 = a.toNat) (b1 : t.by4 1 = b.toNat) (b2 : t.by4 2 = d.toNat) (a1 : 240 ≤ a.toNat) (a2 : a.toNat ≤ 244) (hb1 : lowR a.toNat ≤ b.toNat) (hb2 : (b.toNat : Int) ≤ highR a.toNat) (hd : 128 ≤ d.toNat ∧ d.toNat ≤ 191) (hg : 128 ≤ c.toNat ∧ c.toNat ≤ 191) :
    Calls Tryz.prog 212 #[.pointer (some ⟨bs, 12, none⟩), .int .u8 c.toNat] w (SPost bs bg g N w s { addT t 3 c.toNat with bn := 0 } (.tuple #[.int .i32 (letterR [a, b, d, c]), .int .i64 2])) := by
  have q := longR_val a.toNat
  have g1 := lowR_ge a.toNat
  have g2 := highR_le a.toNat
  refine lAddDone bs bg g N s t 3 c.toNat _ 4 w h (by simpa using hn) (by omega) (fun w' P K => ?_) (fun w' P K => ?_) (by omega)
  · obtain ⟨X, i, lo, hi, sz, F, e1, e2, e3, e4⟩ := (T.keep K (fun e => n0 e.symm) (fun e => n1 e.symm)).cls a (by omega) a2
    have p0 := byte_at P (i := 0) (by omega) ((upd_far _ _ (by omega)).trans b0)
    have p1 := byte_at P (i := 1) (by omega) ((upd_far _ _ (by omega)).trans b1)
    have p2 := byte_at P (i := 2) (by omega) ((upd_far _ _ (by omega)).trans b2)
    have p3 := byte_at P (i := 3) (by omega) (upd_self _ _ _)
    exact uFullYes bs 12 4 a.toNat X i lo hi sz 4 w' F e1 (by omega) (by omega) (by omega) p0
  · obtain ⟨X, i, lo, hi, sz, F, e1, e2, e3, e4⟩ := (T.keep K (fun e => n0 e.symm) (fun e => n1 e.symm)).cls a (by omega) a2
    have p0 := byte_at P (i := 0) (by omega) ((upd_far _ _ (by omega)).trans b0)
    have p1 := byte_at P (i := 1) (by omega) ((upd_far _ _ (by omega)).trans b1)
    have p2 := byte_at P (i := 2) (by omega) ((upd_far _ _ (by omega)).trans b2)
    have p3 := byte_at P (i := 3) (by omega) (upd_self _ _ _)
    have hv : letterR [a, b, d, c] = (a.toNat : Int) % 8 * 262144 + (b.toNat : Int) % 64 * 4096 + (d.toNat : Int) % 64 * 64 + (c.toNat : Int) % 64 := by show 64 * (64 * (64 * ((a.toNat : Int) - 240) + b.toNat - 128) + d.toNat - 128) + c.toNat - 128 = _; omega
    rw [hv]
    exact uDecodeOn bs 12 4 4 a.toNat w' _ _ _ (by omega) p0 (by omega) (uSlow4 bs 12 4 a.toNat b.toNat d.toNat c.toNat X i lo hi w' F (by omega) p0 p1 p2 p3 hd hg (by omega))
end
end Go.Proofs.YtjlfibhbfdckpaaGreatDoor

/- The program's screen: goesOn, and bytes in an escape. -/
namespace Go.Proofs.YtjlfibhbfdckpaaGreatDoor
open Go.RowKit Go.Lib
attribute [local go_sem ↓] Go.wp_at_zero Go.wp_at_succ
set_option maxHeartbeats 1000000 in
theorem sGoesOnRef (bs bg g N : Nat) (s : Rs) (t1 : Pt) (c : Int) (w : World)
    (hA : Calls Tryz.prog 212 #[.pointer (some ⟨bs, 12, none⟩), .int .u8 c] w (SPost bs bg g N w s t1 (.tuple #[.int .i32 0, .int .i64 0]))) :
    Calls Tryz.prog 185 #[.pointer (some ⟨bs, 0, none⟩), .int .u8 c] w (SPost bs bg g N w s t1 (.bool false)) := by
  have HA : Hid (Calls Tryz.prog 212 #[.pointer (some ⟨bs, 12, none⟩), .int .u8 c] w (SPost bs bg g N w s t1 (.tuple #[.int .i32 0, .int .i64 0]))) := hA
  clear hA
  go_enter Tryz.func185, Tryz.ntmps185
  go_wp2_with fail
  go_at_call 212
  refine HA.out.mono ?_
  rintro e wa ⟨rfl, P1, K1⟩
  have HP1 : Hid (PrAt wa bs bg g N s t1) := P1
  have HK1 : Hid (Keep (fun i => i = bs ∨ i = bg ∨ i = g) w wa) := K1
  clear P1 K1
  go_wp2_with fail
  go_ret
  exact ⟨rfl, HP1.out, HK1.out⟩
set_option maxHeartbeats 1000000 in
theorem sGoesOnOpen (bs bg g N : Nat) (s : Rs) (t1 : Pt) (c : Int) (w : World)
    (hA : Calls Tryz.prog 212 #[.pointer (some ⟨bs, 12, none⟩), .int .u8 c] w (SPost bs bg g N w s t1 (.tuple #[.int .i32 0, .int .i64 1]))) :
    Calls Tryz.prog 185 #[.pointer (some ⟨bs, 0, none⟩), .int .u8 c] w (SPost bs bg g N w s t1 (.bool true)) := by
  have HA : Hid (Calls Tryz.prog 212 #[.pointer (some ⟨bs, 12, none⟩), .int .u8 c] w (SPost bs bg g N w s t1 (.tuple #[.int .i32 0, .int .i64 1]))) := hA
  clear hA
  go_enter Tryz.func185, Tryz.ntmps185
  go_wp2_with fail
  go_at_call 212
  refine HA.out.mono ?_
  rintro e wa ⟨rfl, P1, K1⟩
  have HP1 : Hid (PrAt wa bs bg g N s t1) := P1
  have HK1 : Hid (Keep (fun i => i = bs ∨ i = bg ∨ i = g) w wa) := K1
  clear P1 K1
  go_wp2_with fail
  go_ret
  exact ⟨rfl, HP1.out, HK1.out⟩
set_option maxHeartbeats 1000000 in
theorem sGoesOnDone (bs bg g N : Nat) (s : Rs) (t1 : Pt) (c R : Int) (w : World) (ok : s.Ok)
    (hA : Calls Tryz.prog 212 #[.pointer (some ⟨bs, 12, none⟩), .int .u8 c] w (SPost bs bg g N w s t1 (.tuple #[.int .i32 R, .int .i64 2]))) :
    Calls Tryz.prog 185 #[.pointer (some ⟨bs, 0, none⟩), .int .u8 c] w (SPost bs bg g N w (putR s R) t1 (.bool true)) := by
  have HA : Hid (Calls Tryz.prog 212 #[.pointer (some ⟨bs, 12, none⟩), .int .u8 c] w (SPost bs bg g N w s t1 (.tuple #[.int .i32 R, .int .i64 2]))) := hA
  clear hA
  go_enter Tryz.func185, Tryz.ntmps185
  go_wp2_with fail
  go_at_call 212
  refine HA.out.mono ?_
  rintro e wa ⟨rfl, P1, K1⟩
  have HP1 : Hid (PrAt wa bs bg g N s t1) := P1
  have HK1 : Hid (Keep (fun i => i = bs ∨ i = bg ∨ i = g) w wa) := K1
  clear P1 K1
  go_wp2_with fail
  go_at_call 187
  refine (sPut bs bg g N s t1 R _ HP1.out ok).mono ?_
  rintro e wb ⟨rfl, P2, K2⟩
  go_wp2_with fail
  go_ret
  exact ⟨rfl, P2, HK1.out.trans K2 (fun _ _ h => h)⟩
/-- The sequence is empty. -/
def noT (t : Pt) : Pt := { t with mode := 2, nm := fun _ => 0, cn := 0, bad := false }
theorem PrAt.setNums {w : World} {bs bg g N : Nat} {s : Rs} {t : Pt} (h : PrAt w bs bg g N s t) : PrAt ((((((((((w.setCell ⟨bs, 17, none⟩ (.int .i64 0)).setCell ⟨bs, 18, none⟩ (.int .i64 0)).setCell ⟨bs, 19, none⟩ (.int .i64 0)).setCell ⟨bs, 20, none⟩ (.int .i64 0)).setCell ⟨bs, 21, none⟩ (.int .i64 0)).setCell ⟨bs, 22, none⟩ (.int .i64 0)).setCell ⟨bs, 23, none⟩ (.int .i64 0)).setCell ⟨bs, 24, none⟩ (.int .i64 0)).setCell ⟨bs, 25, none⟩ (.int .i64 0)).setCell ⟨bs, 26, none⟩ (.bool false)) bs bg g N s { t with nm := fun _ => 0, cn := 0, bad := false } := by
  have h0 := (((((((((h.setNum 0 (by omega) 0).setNum 1 (by omega) 0).setNum 2 (by omega) 0).setNum 3 (by omega) 0).setNum 4 (by omega) 0).setNum 5 (by omega) 0).setNum 6 (by omega) 0).setNum 7 (by omega) 0).setCn 0).setBad false
  exact ⟨h0.blk, h0.gr, h0.ne1, h0.ne2⟩
set_option maxHeartbeats 2000000 in
theorem sEsc91 (bs bg g N : Nat) (s : Rs) (t : Pt) (w : World) (h : PrAt w bs bg g N s t) :
    Calls Tryz.prog 159 #[.pointer (some ⟨bs, 0, none⟩), .int .u8 91] w (SPost bs bg g N w s (noT t) (.tuple #[])) := by
  have HP : Hid (PrAt w bs bg g N s t) := h
  have f11 := h.f11
  have f17 := h.f17
  have f18 := h.f18
  have f19 := h.f19
  have f20 := h.f20
  have f21 := h.f21
  have f22 := h.f22
  have f23 := h.f23
  have f24 := h.f24
  have f25 := h.f25
  have f26 := h.f26
  have fz := h.free
  clear h
  go_enter Tryz.func159, Tryz.ntmps159
  go_wp2_with fail
  go_end0
  exact ⟨rfl, (HP.out.setMode 2).setNums, ((((((((((((Keep.refl _ w).setCell ⟨bs, 11, none⟩ _ (fun _ => Or.inl rfl)).setCell ⟨bs, 17, none⟩ _ (fun _ => Or.inl rfl)).setCell ⟨bs, 18, none⟩ _ (fun _ => Or.inl rfl)).setCell ⟨bs, 19, none⟩ _ (fun _ => Or.inl rfl)).setCell ⟨bs, 20, none⟩ _ (fun _ => Or.inl rfl)).setCell ⟨bs, 21, none⟩ _ (fun _ => Or.inl rfl)).setCell ⟨bs, 22, none⟩ _ (fun _ => Or.inl rfl)).setCell ⟨bs, 23, none⟩ _ (fun _ => Or.inl rfl)).setCell ⟨bs, 24, none⟩ _ (fun _ => Or.inl rfl)).setCell ⟨bs, 25, none⟩ _ (fun _ => Or.inl rfl)).setCell ⟨bs, 26, none⟩ _ (fun _ => Or.inl rfl))⟩
theorem sEsc27 (bs bg g N : Nat) (s : Rs) (t : Pt) (w : World) (h : PrAt w bs bg g N s t) :
    Calls Tryz.prog 159 #[.pointer (some ⟨bs, 0, none⟩), .int .u8 27] w (SPost bs bg g N w s t (.tuple #[])) := by
  have HP : Hid (PrAt w bs bg g N s t) := h
  clear h
  go_enter Tryz.func159, Tryz.ntmps159
  go_wp2_with fail
  go_end0
  exact ⟨rfl, HP.out, Keep.refl _ _⟩
theorem sEscN (bs bg g N : Nat) (s : Rs) (t : Pt) (c : Int) (w : World) (h : PrAt w bs bg g N s t) (h1 : ¬ c = 91) (h2 : ¬ c = 27) :
    Calls Tryz.prog 159 #[.pointer (some ⟨bs, 0, none⟩), .int .u8 c] w (SPost bs bg g N w s { t with mode := 0 } (.tuple #[])) := by
  have HP : Hid (PrAt w bs bg g N s t) := h
  have f11 := h.f11
  have fz := h.free
  clear h
  go_enter Tryz.func159, Tryz.ntmps159
  go_wp2_with fail
  go_end0
  exact ⟨rfl, HP.out.setMode 0, (Keep.refl _ w).setCell ⟨bs, 11, none⟩ _ (fun _ => Or.inl rfl)⟩
end Go.Proofs.YtjlfibhbfdckpaaGreatDoor

/- The program's screen: bytes in a sequence. -/
namespace Go.Proofs.YtjlfibhbfdckpaaGreatDoor
open Go.RowKit Go.Lib
attribute [local go_sem ↓] Go.wp_at_zero Go.wp_at_succ
theorem sDo (bs bg g N : Nat) (s : Rs) (t : Pt) (l : List Int) (c : Int) (w : World) (h : PrAt w bs bg g N s t) (ok : s.Ok) (hl : NumsIs t l) (hs : Small l) :
    Calls Tryz.prog 184 #[.pointer (some ⟨bs, 0, none⟩), .int .u8 c] w (SPost bs bg g N w (doneR s l c) t (.tuple #[])) := by
  by_cases h65 : c = 65
  · subst h65; exact sDoA bs bg g N s t l w h ok hl hs
  by_cases h66 : c = 66
  · subst h66; exact sDoB bs bg g N s t l w h ok hl hs
  by_cases h67 : c = 67
  · subst h67; exact sDoC bs bg g N s t l w h ok hl hs
  by_cases h68 : c = 68
  · subst h68; exact sDoD bs bg g N s t l w h ok hl hs
  by_cases h72 : c = 72
  · subst h72; exact sDoH bs bg g N s t l w h ok hl hs
  by_cases h75 : c = 75
  · subst h75; exact sDoK bs bg g N s t l w h ok hl hs
  by_cases h74 : c = 74
  · subst h74; exact sDoJ bs bg g N s t l w h ok hl hs
  by_cases h88 : c = 88
  · subst h88; exact sDoX bs bg g N s t l w h ok hl hs
  by_cases h83 : c = 83
  · subst h83; exact sDoS bs bg g N s t l w h ok hl hs
  by_cases h84 : c = 84
  · subst h84; exact sDoT bs bg g N s t l w h ok hl hs
  by_cases h114 : c = 114
  · subst h114; exact sDoR bs bg g N s t l w h ok hl hs
  by_cases h109 : c = 109
  · subst h109; exact sDoM bs bg g N s t l w h hl
  exact sDoN bs bg g N s t l c w h ⟨h65, h66, h67, h68, h72, h75, h74, h88, h83, h84, h114, h109⟩
set_option maxHeartbeats 2000000 in
theorem sSeqDigit (bs bg g N : Nat) (s : Rs) (t : Pt) (c : Int) (w : World) (h : PrAt w bs bg g N s t) (hcn : t.bad = false → 0 ≤ t.cn ∧ t.cn ≤ 8) (hn : t.bad = false → ∀ i, i < 8 → 0 ≤ t.nm i ∧ t.nm i ≤ 9999) (c0 : 48 ≤ c) (c9 : c ≤ 57) :
    Calls Tryz.prog 160 #[.pointer (some ⟨bs, 0, none⟩), .int .u8 c] w (SPost bs bg g N w s (digT t (c - 48)) (.tuple #[])) := by
  have HP : Hid (PrAt w bs bg g N s t) := h
  have f11 := h.f11
  have f26 := h.f26
  have fz := h.free
  have b1 : Wd.inB c 48 57 = true := by simp [Wd.inB, c0, c9]
  have wc : IntKind.u8.wrap (c - 48) = c - 48 := by unfold IntKind.wrap; simp [IntKind.bits, IntKind.signed]; omega
  clear h
  go_enter Tryz.func160, Tryz.ntmps160
  go_wp2_with (first | (go_at_call 181; refine (pWithinByte _ _ _ _).mono ?_; rintro e w' ⟨rfl, hw'⟩; replace hw' := hw'.symm; subst hw'))
  go_at_call 182
  refine (qDigit bs bg g N s t (c - 48) _ HP.out hcn hn (by omega) (by omega)).mono ?_
  rintro e wa ⟨rfl, P1, K1⟩
  go_wp2_with fail
  go_end0
  exact ⟨rfl, P1, K1⟩
set_option maxHeartbeats 2000000 in
theorem sSeqSep (bs bg g N : Nat) (s : Rs) (t : Pt) (w : World) (h : PrAt w bs bg g N s t) (hcn : t.bad = false → 0 ≤ t.cn ∧ t.cn ≤ 8) :
    Calls Tryz.prog 160 #[.pointer (some ⟨bs, 0, none⟩), .int .u8 59] w (SPost bs bg g N w s (sepT t) (.tuple #[])) := by
  have HP : Hid (PrAt w bs bg g N s t) := h
  have f11 := h.f11
  have f26 := h.f26
  have fz := h.free
  have b1 : Wd.inB 59 48 57 = false := by decide
  clear h
  go_enter Tryz.func160, Tryz.ntmps160
  go_wp2_with (first | (go_at_call 181; refine (pWithinByte _ _ _ _).mono ?_; rintro e w' ⟨rfl, hw'⟩; replace hw' := hw'.symm; subst hw'))
  go_at_call 183
  refine (qSeparate bs bg g N s t _ HP.out hcn).mono ?_
  rintro e wa ⟨rfl, P1, K1⟩
  go_wp2_with fail
  go_end0
  exact ⟨rfl, P1, K1⟩
set_option maxHeartbeats 2000000 in
theorem sSeqBad (bs bg g N : Nat) (s : Rs) (t : Pt) (c : Int) (w : World) (h : PrAt w bs bg g N s t) (c0 : 64 ≤ c) (c9 : c ≤ 126) (hb : t.bad = true) :
    Calls Tryz.prog 160 #[.pointer (some ⟨bs, 0, none⟩), .int .u8 c] w (SPost bs bg g N w s { t with mode := 0 } (.tuple #[])) := by
  have HP : Hid (PrAt w bs bg g N s t) := h
  have f11 := h.f11
  have f26 := h.f26
  have fz := h.free
  have b1 : Wd.inB c 48 57 = false := by simp [Wd.inB]; omega
  have b2 : Wd.inB c 64 126 = true := by simp [Wd.inB]; omega
  have b3 : ¬ c = 59 := by omega
  rw [hb] at f26
  clear h
  go_enter Tryz.func160, Tryz.ntmps160
  go_wp2_with (first | (go_at_call 181; refine (pWithinByte _ _ _ _).mono ?_; rintro e w' ⟨rfl, hw'⟩; replace hw' := hw'.symm; subst hw'))
  go_end0
  exact ⟨rfl, HP.out.setMode 0, (Keep.refl _ w).setCell ⟨bs, 11, none⟩ _ (fun _ => Or.inl rfl)⟩
set_option maxHeartbeats 2000000 in
theorem sSeqDone (bs bg g N : Nat) (s : Rs) (t : Pt) (l : List Int) (c : Int) (w : World) (h : PrAt w bs bg g N s t) (ok : s.Ok) (hl : NumsIs t l) (hs : Small l) (c0 : 64 ≤ c) (c9 : c ≤ 126) (hb : t.bad = false) :
    Calls Tryz.prog 160 #[.pointer (some ⟨bs, 0, none⟩), .int .u8 c] w (SPost bs bg g N w (doneR s l c) { t with mode := 0 } (.tuple #[])) := by
  have HP : Hid (PrAt w bs bg g N s t) := h
  have f11 := h.f11
  have f26 := h.f26
  have fz := h.free
  have b1 : Wd.inB c 48 57 = false := by simp [Wd.inB]; omega
  have b2 : Wd.inB c 64 126 = true := by simp [Wd.inB]; omega
  have b3 : ¬ c = 59 := by omega
  rw [hb] at f26
  clear h
  go_enter Tryz.func160, Tryz.ntmps160
  go_wp2_with (first | (go_at_call 181; refine (pWithinByte _ _ _ _).mono ?_; rintro e w' ⟨rfl, hw'⟩; replace hw' := hw'.symm; subst hw'))
  go_at_call 184
  refine (sDo bs bg g N s { t with mode := 0 } l c _ (HP.out.setMode 0) ok ⟨hl.cn, hl.le, hl.nm⟩ hs).mono ?_
  rintro e wa ⟨rfl, P1, K1⟩
  go_wp2_with fail
  go_end0
  exact ⟨rfl, P1, ((Keep.refl _ w).setCell ⟨bs, 11, none⟩ _ (fun _ => Or.inl rfl)).trans K1 (fun _ _ h => h)⟩
set_option maxHeartbeats 2000000 in
theorem sSeqEsc (bs bg g N : Nat) (s : Rs) (t : Pt) (w : World) (h : PrAt w bs bg g N s t)  :
    Calls Tryz.prog 160 #[.pointer (some ⟨bs, 0, none⟩), .int .u8 27] w (SPost bs bg g N w s { t with mode := 1 } (.tuple #[])) := by
  have HP : Hid (PrAt w bs bg g N s t) := h
  have f11 := h.f11
  have f26 := h.f26
  have fz := h.free
  have b1 : Wd.inB 27 48 57 = false := by decide
  have b2 : Wd.inB 27 64 126 = false := by decide
  clear h
  go_enter Tryz.func160, Tryz.ntmps160
  go_wp2_with (first | (go_at_call 181; refine (pWithinByte _ _ _ _).mono ?_; rintro e w' ⟨rfl, hw'⟩; replace hw' := hw'.symm; subst hw'))
  go_end0
  exact ⟨rfl, HP.out.setMode 1, (Keep.refl _ w).setCell ⟨bs, 11, none⟩ _ (fun _ => Or.inl rfl)⟩
set_option maxHeartbeats 2000000 in
theorem sSeqOther (bs bg g N : Nat) (s : Rs) (t : Pt) (c : Int) (w : World) (h : PrAt w bs bg g N s t) (h1 : ¬ (48 ≤ c ∧ c ≤ 57)) (h2 : ¬ c = 59) (h3 : ¬ (64 ≤ c ∧ c ≤ 126)) (h4 : ¬ c = 27) :
    Calls Tryz.prog 160 #[.pointer (some ⟨bs, 0, none⟩), .int .u8 c] w (SPost bs bg g N w s { t with bad := true } (.tuple #[])) := by
  have HP : Hid (PrAt w bs bg g N s t) := h
  have f11 := h.f11
  have f26 := h.f26
  have fz := h.free
  have b1 : Wd.inB c 48 57 = false := by simp [Wd.inB]; omega
  have b2 : Wd.inB c 64 126 = false := by simp [Wd.inB]; omega
  clear h
  go_enter Tryz.func160, Tryz.ntmps160
  go_wp2_with (first | (go_at_call 181; refine (pWithinByte _ _ _ _).mono ?_; rintro e w' ⟨rfl, hw'⟩; replace hw' := hw'.symm; subst hw'))
  go_end0
  exact ⟨rfl, HP.out.setBad true, (Keep.refl _ w).setCell ⟨bs, 26, none⟩ _ (fun _ => Or.inl rfl)⟩
end Go.Proofs.YtjlfibhbfdckpaaGreatDoor

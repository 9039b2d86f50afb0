/- Texts of the proof, one behind the other: RfAG, RfAH, RfAI, RfAJ. -/
import Derived.Test.YtjlfibhbfdckpaaDoorK05
import Derived.Test.YtjlfibhbfdckpaaDoorK29
import Derived.Test.YtjlfibhbfdckpaaDoorK30
import Derived.Laws.IdiomStrings
import Derived.Laws.Concat
/- The document's screen: ground. -/
namespace Go.Proofs.YtjlfibhbfdckpaaDoor
open Go.RowKit
attribute [local go_sem ↓] Go.wp_at_zero Go.wp_at_succ
/-- string([]byte{c}). -/
theorem conv_one (c : UInt8) (w : World) (b : Nat) (hb : w.cell? ⟨b, 0, none⟩ = some (.int .u8 c.toNat)) :
    (convert 90 9 (.slice (some ⟨b, 0, none⟩) 1 1)).run Tryd.prog w = .ok (.string ⟨#[c]⟩) w :=
  run_convert_bytes_back w 90 9 5 ⟨b, 0, none⟩ 1 [c] Tryd.underlying90 Tryd.underlying5 Tryd.underlying9 (fun j hj => by
    obtain rfl : j = 0 := by simp at hj; exact hj
    rw [Addr.add_mid]; exact hb)
set_option maxRecDepth 100000 in
set_option maxHeartbeats 2000000 in
theorem ground13 (bs bc g cap N : Nat) (s : Rs) (c : UInt8) (w : World) (h : RefAt w bs bc g cap N s) (ok : s.Ok) (hc : (c.toNat : Int) = 13) :
    Calls Tryd.prog 53 #[.pointer (some ⟨bs, 0, none⟩), .int .u8 c.toNat] w (RPost bs bc g w (groundR s c) (.tuple #[])) := by
  have HD : Hid (groundR s c = goesR s 0 s.y) := by
    show groundR s c = goesR s 0 s.y
    unfold groundR
    rw [if_pos hc]
  have HR : Hid (RefAt w bs bc g cap N s) := h
  have Hok : Hid s.Ok := ok
  have hc256 : c.toNat < 256 := c.toNat_lt
  have x0 := ok.x0
  have x1 := ok.x1
  have w40 := ok.w2
  clear h ok
  have k13 : ((c.toNat : Int) == 13) = true := by simp; omega
  have f4 := HR.out.f4
  clear hc
  go_enter Tryd.func53, Tryd.ntmps53
  go_wp2_with fail
  go_at_call 35
  refine (refGoes bs bc g cap N s 0 s.y _ HR.out).mono ?_
  rintro e w5 ⟨rfl, R5, K5⟩
  have R9 : RefAt w5 bs bc g cap N (groundR s c) := by rw [HD.out]; exact R5
  have K6 : Keep (fun i => i = bs ∨ i = bc ∨ i = g) w w5 := K5.mono (fun i hi => .inl hi)
  clear R5 K5
  go_wp2_with fail
  go_end0
  exact rpost R9 K6 (.inl rfl)
set_option maxRecDepth 100000 in
set_option maxHeartbeats 2000000 in
theorem ground10 (bs bc g cap N : Nat) (s : Rs) (c : UInt8) (w : World) (h : RefAt w bs bc g cap N s) (ok : s.Ok) (hc : (c.toNat : Int) = 10) :
    Calls Tryd.prog 53 #[.pointer (some ⟨bs, 0, none⟩), .int .u8 c.toNat] w (RPost bs bc g w (groundR s c) (.tuple #[])) := by
  have HD : Hid (groundR s c = linefeedR s) := by
    show groundR s c = linefeedR s
    unfold groundR
    rw [if_neg (by omega), if_pos hc]
  have HR : Hid (RefAt w bs bc g cap N s) := h
  have Hok : Hid s.Ok := ok
  have hc256 : c.toNat < 256 := c.toNat_lt
  have x0 := ok.x0
  have x1 := ok.x1
  have w40 := ok.w2
  clear h ok
  have k13 : ((c.toNat : Int) == 13) = false := by simp; omega
  have k10 : ((c.toNat : Int) == 10) = true := by simp; omega
  clear hc
  go_enter Tryd.func53, Tryd.ntmps53
  go_wp2_with fail
  go_at_call 71
  refine (refLinefeed bs bc g cap N s _ HR.out (ok_pend Hok.out)).mono ?_
  rintro e w5 ⟨g5, cap5, N5, rfl, R5, K5, hg5⟩
  have R9 : RefAt w5 bs bc g5 cap5 N5 (groundR s c) := by rw [HD.out]; exact R5
  have Hg : Hid (g5 = g ∨ w.heap.size ≤ g5) := hg5
  clear R5 hg5
  go_wp2_with fail
  go_end0
  exact rpost R9 K5 Hg.out
set_option maxRecDepth 100000 in
set_option maxHeartbeats 2000000 in
theorem ground8 (bs bc g cap N : Nat) (s : Rs) (c : UInt8) (w : World) (h : RefAt w bs bc g cap N s) (ok : s.Ok) (hc : (c.toNat : Int) = 8) :
    Calls Tryd.prog 53 #[.pointer (some ⟨bs, 0, none⟩), .int .u8 c.toNat] w (RPost bs bc g w (groundR s c) (.tuple #[])) := by
  have HD : Hid (groundR s c = goesR s (s.x - 1) s.y) := by
    show groundR s c = goesR s (s.x - 1) s.y
    unfold groundR
    rw [if_neg (by omega), if_neg (by omega), if_pos hc]
  have HR : Hid (RefAt w bs bc g cap N s) := h
  have Hok : Hid s.Ok := ok
  have hc256 : c.toNat < 256 := c.toNat_lt
  have x0 := ok.x0
  have x1 := ok.x1
  have w40 := ok.w2
  clear h ok
  have k13 : ((c.toNat : Int) == 13) = false := by simp; omega
  have k10 : ((c.toNat : Int) == 10) = false := by simp; omega
  have k8 : ((c.toNat : Int) == 8) = true := by simp; omega
  have f3 := HR.out.f3
  have f4 := HR.out.f4
  have hwr : IntKind.i64.wrap (s.x - 1) = s.x - 1 := wrap_id _ (by omega) (by omega)
  clear hc
  go_enter Tryd.func53, Tryd.ntmps53
  go_wp2_with fail
  go_region_with (first | (go_at_call 35; refine (refGoes bs bc g cap N s (s.x - 1) s.y _ HR.out.drew).mono ?_; rintro e w5 ⟨rfl, R5, K5⟩))
  all_goals
    have R9 : RefAt w5 bs bc g cap N (groundR s c) := by rw [HD.out]; exact R5
    have K6 : Keep (fun i => i = bs ∨ i = bc ∨ i = g) w w5 := (⟨K5.os, K5.tape, K5.output, K5.size, K5.block⟩ : Keep (fun i => i = bs) w w5).mono (fun i hi => .inl hi)
    clear R5 K5
    go_wp2_with fail
    go_end0
    exact rpost R9 K6 (.inl rfl)
set_option maxRecDepth 100000 in
set_option maxHeartbeats 2000000 in
theorem ground27 (bs bc g cap N : Nat) (s : Rs) (c : UInt8) (w : World) (h : RefAt w bs bc g cap N s) (ok : s.Ok) (hc : (c.toNat : Int) = 27) :
    Calls Tryd.prog 53 #[.pointer (some ⟨bs, 0, none⟩), .int .u8 c.toNat] w (RPost bs bc g w (groundR s c) (.tuple #[])) := by
  have HD : Hid (groundR s c = { s with B := ⟨#[27]⟩ }) := by
    show groundR s c = { s with B := ⟨#[27]⟩ }
    unfold groundR
    rw [if_neg (by omega), if_neg (by omega), if_neg (by omega), if_pos hc]
  have HR : Hid (RefAt w bs bc g cap N s) := h
  have Hok : Hid s.Ok := ok
  have hc256 : c.toNat < 256 := c.toNat_lt
  have x0 := ok.x0
  have x1 := ok.x1
  have w40 := ok.w2
  clear h ok
  have k13 : ((c.toNat : Int) == 13) = false := by simp; omega
  have k10 : ((c.toNat : Int) == 10) = false := by simp; omega
  have k8 : ((c.toNat : Int) == 8) = false := by simp; omega
  have k27 : ((c.toNat : Int) == 27) = true := by simp; omega
  have f14 := HR.out.f14
  have fr := HR.out.free
  clear hc
  go_enter Tryd.func53, Tryd.ntmps53
  go_wp2_with fail
  go_end0
  have R9 : RefAt (w.setCell ⟨bs, 14, none⟩ (.string ⟨#[27]⟩)) bs bc g cap N (groundR s c) := by rw [HD.out]; exact HR.out.setB _
  exact rpost R9 ((Keep.refl _ w).setCell ⟨bs, 14, none⟩ _ (fun _ => .inl rfl)) (.inl rfl)
set_option maxRecDepth 100000 in
set_option maxHeartbeats 2000000 in
theorem groundPut (bs bc g cap N : Nat) (s : Rs) (c : UInt8) (w : World) (h : RefAt w bs bc g cap N s) (ok : s.Ok) (h1 : 32 ≤ (c.toNat : Int)) (h2 : (c.toNat : Int) ≤ 126) :
    Calls Tryd.prog 53 #[.pointer (some ⟨bs, 0, none⟩), .int .u8 c.toNat] w (RPost bs bc g w (groundR s c) (.tuple #[])) := by
  have HD : Hid (groundR s c = putR s c.toNat) := by
    show groundR s c = putR s c.toNat
    unfold groundR
    rw [if_neg (by omega), if_neg (by omega), if_neg (by omega), if_neg (by omega), if_pos ⟨h1, h2⟩]
  have HR : Hid (RefAt w bs bc g cap N s) := h
  have Hok : Hid s.Ok := ok
  have hc256 : c.toNat < 256 := c.toNat_lt
  have x0 := ok.x0
  have x1 := ok.x1
  have w40 := ok.w2
  clear h ok
  have k13 : ((c.toNat : Int) == 13) = false := by simp; omega
  have k10 : ((c.toNat : Int) == 10) = false := by simp; omega
  have k8 : ((c.toNat : Int) == 8) = false := by simp; omega
  have k27 : ((c.toNat : Int) == 27) = false := by simp; omega
  go_enter Tryd.func53, Tryd.ntmps53
  go_wp2_with fail
  go_at_call 57
  refine (refPut bs bc g cap N s c.toNat _ HR.out Hok.out (by omega) (by omega)).mono ?_
  rintro e w5 ⟨g5, cap5, N5, rfl, R5, K5, hg5⟩
  have R9 : RefAt w5 bs bc g5 cap5 N5 (groundR s c) := by rw [HD.out]; exact R5
  have Hg : Hid (g5 = g ∨ w.heap.size ≤ g5) := hg5
  clear R5 hg5
  go_wp2_with fail
  go_end0
  exact rpost R9 K5 Hg.out
set_option maxRecDepth 100000 in
set_option maxHeartbeats 2000000 in
theorem groundLong (bs bc g cap N : Nat) (s : Rs) (c : UInt8) (w : World) (h : RefAt w bs bc g cap N s) (ok : s.Ok) (h1 : 126 < (c.toNat : Int)) (h2 : 0 < longR c.toNat) :
    Calls Tryd.prog 53 #[.pointer (some ⟨bs, 0, none⟩), .int .u8 c.toNat] w (RPost bs bc g w (groundR s c) (.tuple #[])) := by
  have HD : Hid (groundR s c = { s with B := ⟨#[c]⟩ }) := by
    show groundR s c = { s with B := ⟨#[c]⟩ }
    unfold groundR
    rw [if_neg (by omega), if_neg (by omega), if_neg (by omega), if_neg (by omega), if_neg (by omega), if_pos h2]
  have HR : Hid (RefAt w bs bc g cap N s) := h
  have Hok : Hid s.Ok := ok
  have hc256 : c.toNat < 256 := c.toNat_lt
  have x0 := ok.x0
  have x1 := ok.x1
  have w40 := ok.w2
  clear h ok
  have k13 : ((c.toNat : Int) == 13) = false := by simp; omega
  have k10 : ((c.toNat : Int) == 10) = false := by simp; omega
  have k8 : ((c.toNat : Int) == 8) = false := by simp; omega
  have k27 : ((c.toNat : Int) == 27) = false := by simp; omega
  have f14 := HR.out.f14
  have fr := HR.out.free
  have l := HR.out.lt
  go_enter Tryd.func53, Tryd.ntmps53
  go_wp2_with fail
  go_at_call 55
  refine (refLong c.toNat _ (by omega) (by omega)).mono ?_
  rintro e w' ⟨rfl, hw'⟩
  replace hw' := hw'.symm
  subst hw'
  have hcv := conv_one c (w.alloc (.cells #[.int .u8 c.toNat] 5)) w.heap.size (cell_of_block (heap_new w _) 0)
  go_wp2_with fail
  go_end0
  have R9 : RefAt ((w.setCell ⟨bs, 14, none⟩ (.string ⟨#[c]⟩)).alloc (.cells #[.int .u8 c.toNat] 5)) bs bc g cap N (groundR s c) := by rw [HD.out]; exact (HR.out.setB _).below ((Below.refl _ _).alloc (Nat.le_refl _) _)
  exact rpost R9 (((Keep.refl _ w).setCell ⟨bs, 14, none⟩ _ (fun _ => .inl rfl)).alloc _) (.inl rfl)
set_option maxRecDepth 100000 in
set_option maxHeartbeats 2000000 in
theorem groundOdd1 (bs bc g cap N : Nat) (s : Rs) (c : UInt8) (w : World) (h : RefAt w bs bc g cap N s) (ok : s.Ok) (h1 : (c.toNat : Int) < 32) (n13 : (c.toNat : Int) ≠ 13) (n10 : (c.toNat : Int) ≠ 10) (n8 : (c.toNat : Int) ≠ 8) (n27 : (c.toNat : Int) ≠ 27) :
    Calls Tryd.prog 53 #[.pointer (some ⟨bs, 0, none⟩), .int .u8 c.toNat] w (RPost bs bc g w (groundR s c) (.tuple #[])) := by
  have HD : Hid (groundR s c = oddR s) := by
    show groundR s c = oddR s
    unfold groundR
    rw [if_neg n13, if_neg n10, if_neg n8, if_neg n27, if_neg (by omega), if_neg (by unfold longR; rw [if_neg (by omega), if_neg (by omega), if_neg (by omega)]; decide)]
  have HR : Hid (RefAt w bs bc g cap N s) := h
  have Hok : Hid s.Ok := ok
  have hc256 : c.toNat < 256 := c.toNat_lt
  have x0 := ok.x0
  have x1 := ok.x1
  have w40 := ok.w2
  clear h ok
  have k13 : ((c.toNat : Int) == 13) = false := by simp; omega
  have k10 : ((c.toNat : Int) == 10) = false := by simp; omega
  have k8 : ((c.toNat : Int) == 8) = false := by simp; omega
  have k27 : ((c.toNat : Int) == 27) = false := by simp; omega
  have f15 := HR.out.f15
  have fr := HR.out.free
  have l := HR.out.lt
  have hl : longR c.toNat = 0 := by unfold longR; rw [if_neg (by omega), if_neg (by omega), if_neg (by omega)]
  clear n13 n10 n8 n27
  go_enter Tryd.func53, Tryd.ntmps53
  go_wp2_with fail
  go_at_call 55
  refine (refLong c.toNat _ (by omega) (by omega)).mono ?_
  rintro e w' ⟨rfl, hw'⟩
  replace hw' := hw'.symm
  subst hw'
  go_wp2_with fail
  go_end0
  have R9 : RefAt (w.setCell ⟨bs, 15, none⟩ (.int .i64 (wrap64 (s.odd + 1)))) bs bc g cap N (groundR s c) := by rw [HD.out]; exact HR.out.setOdd _
  exact rpost R9 ((Keep.refl _ w).setCell ⟨bs, 15, none⟩ _ (fun _ => .inl rfl)) (.inl rfl)
set_option maxRecDepth 100000 in
set_option maxHeartbeats 2000000 in
theorem groundOdd2 (bs bc g cap N : Nat) (s : Rs) (c : UInt8) (w : World) (h : RefAt w bs bc g cap N s) (ok : s.Ok) (h1 : 126 < (c.toNat : Int)) (hl : longR c.toNat = 0) :
    Calls Tryd.prog 53 #[.pointer (some ⟨bs, 0, none⟩), .int .u8 c.toNat] w (RPost bs bc g w (groundR s c) (.tuple #[])) := by
  have HD : Hid (groundR s c = oddR s) := by
    show groundR s c = oddR s
    unfold groundR
    rw [if_neg (by omega), if_neg (by omega), if_neg (by omega), if_neg (by omega), if_neg (by omega), if_neg (by rw [hl]; decide)]
  have HR : Hid (RefAt w bs bc g cap N s) := h
  have Hok : Hid s.Ok := ok
  have hc256 : c.toNat < 256 := c.toNat_lt
  have x0 := ok.x0
  have x1 := ok.x1
  have w40 := ok.w2
  clear h ok
  have k13 : ((c.toNat : Int) == 13) = false := by simp; omega
  have k10 : ((c.toNat : Int) == 10) = false := by simp; omega
  have k8 : ((c.toNat : Int) == 8) = false := by simp; omega
  have k27 : ((c.toNat : Int) == 27) = false := by simp; omega
  have f15 := HR.out.f15
  have fr := HR.out.free
  have l := HR.out.lt
  go_enter Tryd.func53, Tryd.ntmps53
  go_wp2_with fail
  go_at_call 55
  refine (refLong c.toNat _ (by omega) (by omega)).mono ?_
  rintro e w' ⟨rfl, hw'⟩
  replace hw' := hw'.symm
  subst hw'
  go_wp2_with fail
  go_end0
  have R9 : RefAt (w.setCell ⟨bs, 15, none⟩ (.int .i64 (wrap64 (s.odd + 1)))) bs bc g cap N (groundR s c) := by rw [HD.out]; exact HR.out.setOdd _
  exact rpost R9 ((Keep.refl _ w).setCell ⟨bs, 15, none⟩ _ (fun _ => .inl rfl)) (.inl rfl)
theorem refGround (bs bc g cap N : Nat) (s : Rs) (c : UInt8) (w : World) (h : RefAt w bs bc g cap N s) (ok : s.Ok) :
    Calls Tryd.prog 53 #[.pointer (some ⟨bs, 0, none⟩), .int .u8 c.toNat] w (RPost bs bc g w (groundR s c) (.tuple #[])) := by
  have hc256 : c.toNat < 256 := c.toNat_lt
  by_cases h13 : (c.toNat : Int) = 13
  · exact ground13 bs bc g cap N s c w h ok h13
  by_cases h10 : (c.toNat : Int) = 10
  · exact ground10 bs bc g cap N s c w h ok h10
  by_cases h8 : (c.toNat : Int) = 8
  · exact ground8 bs bc g cap N s c w h ok h8
  by_cases h27 : (c.toNat : Int) = 27
  · exact ground27 bs bc g cap N s c w h ok h27
  by_cases h1 : (c.toNat : Int) < 32
  · exact groundOdd1 bs bc g cap N s c w h ok h1 h13 h10 h8 h27
  by_cases h2 : (c.toNat : Int) ≤ 126
  · exact groundPut bs bc g cap N s c w h ok (by omega) h2
  by_cases h3 : 0 < longR c.toNat
  · exact groundLong bs bc g cap N s c w h ok (by omega) h3
  · refine groundOdd2 bs bc g cap N s c w h ok (by omega) ?_
    unfold longR at h3 ⊢
    split at h3
    · omega
    · split at h3
      · omega
      · split at h3
        · omega
        · rw [if_neg (by assumption), if_neg (by assumption), if_neg (by assumption)]
end Go.Proofs.YtjlfibhbfdckpaaDoor

/- The document's screen: one. -/
namespace Go.Proofs.YtjlfibhbfdckpaaDoor
open Go.RowKit
attribute [local go_sem ↓] Go.wp_at_zero Go.wp_at_succ
set_option maxRecDepth 100000 in
set_option maxHeartbeats 2000000 in
theorem one0 (bs bc g cap N : Nat) (s : Rs) (c : UInt8) (w : World) (h : RefAt w bs bc g cap N s) (ok : s.Ok) (hB : s.B = ⟨#[]⟩) :
    Calls Tryd.prog 36 #[.pointer (some ⟨bs, 0, none⟩), .int .u8 c.toNat] w (RPost bs bc g w (groundR s c) (.tuple #[])) := by
  have HR : Hid (RefAt w bs bc g cap N s) := h
  have Hok : Hid s.Ok := ok
  have hc256 : c.toNat < 256 := c.toNat_lt
  have fr := HR.out.free
  have f15 := HR.out.f15
  have f14 := HR.out.f14
  have l := HR.out.lt
  clear h ok
  rw [hB] at f14
  clear hB
  go_enter Tryd.func36, Tryd.ntmps36
  go_wp2_with fail
  go_at_call 53
  refine (refGround bs bc g cap N s c _ HR.out Hok.out).mono ?_
  rintro e w5 ⟨g5, cap5, N5, rfl, R5, K5, hg5⟩
  have HR5 : Hid (RefAt w5 bs bc g5 cap5 N5 (groundR s c)) := R5
  have Hg : Hid (g5 = g ∨ w.heap.size ≤ g5) := hg5
  have K6 := K5
  clear R5 hg5
  go_wp2_with fail
  go_end0
  exact rpost HR5.out K6 Hg.out
set_option maxRecDepth 100000 in
set_option maxHeartbeats 2000000 in
theorem oneE91 (bs bc g cap N : Nat) (s : Rs) (c : UInt8) (w : World) (h : RefAt w bs bc g cap N s) (hB : s.B = ⟨#[27]⟩) (hc : (c.toNat : Int) = 91) :
    Calls Tryd.prog 36 #[.pointer (some ⟨bs, 0, none⟩), .int .u8 c.toNat] w (RPost bs bc g w ({ s with B := ⟨#[27, 91]⟩ }) (.tuple #[])) := by
  have HR : Hid (RefAt w bs bc g cap N s) := h
  have hc0 : c.toNat < 257 := by have := c.toNat_lt; omega
  have hc256 : c.toNat < 256 := c.toNat_lt
  have fr := HR.out.free
  have f15 := HR.out.f15
  have f14 := HR.out.f14
  have l := HR.out.lt
  clear h
  rw [hB] at f14
  clear hB
  have e0 : (({ data := #[27] } : ByteArray)[0]'(Nat.one_pos)).toNat = 27 := rfl
  have k91 : ((c.toNat : Int) == 91) = true := by simp; omega
  clear hc
  go_enter Tryd.func36, Tryd.ntmps36
  go_wp2_with fail
  go_end0
  exact rpost (HR.out.setB ⟨#[27, 91]⟩) ((Keep.refl _ w).setCell ⟨bs, 14, none⟩ _ (fun _ => .inl rfl)) (.inl rfl)
set_option maxRecDepth 100000 in
set_option maxHeartbeats 2000000 in
theorem oneE27 (bs bc g cap N : Nat) (s : Rs) (c : UInt8) (w : World) (h : RefAt w bs bc g cap N s) (hB : s.B = ⟨#[27]⟩) (hc : (c.toNat : Int) = 27) :
    Calls Tryd.prog 36 #[.pointer (some ⟨bs, 0, none⟩), .int .u8 c.toNat] w (RPost bs bc g w (oddR s) (.tuple #[])) := by
  have HR : Hid (RefAt w bs bc g cap N s) := h
  have hc0 : c.toNat < 257 := by have := c.toNat_lt; omega
  have hc256 : c.toNat < 256 := c.toNat_lt
  have fr := HR.out.free
  have f15 := HR.out.f15
  have f14 := HR.out.f14
  have l := HR.out.lt
  clear h
  rw [hB] at f14
  clear hB
  have e0 : (({ data := #[27] } : ByteArray)[0]'(Nat.one_pos)).toNat = 27 := rfl
  have k91 : ((c.toNat : Int) == 91) = false := by simp; omega
  have k27 : ((c.toNat : Int) == 27) = true := by simp; omega
  clear hc
  go_enter Tryd.func36, Tryd.ntmps36
  go_wp2_with fail
  go_end0
  exact rpost (s := oddR s) (HR.out.setOdd _) ((Keep.refl _ w).setCell ⟨bs, 15, none⟩ _ (fun _ => .inl rfl)) (.inl rfl)
set_option maxRecDepth 100000 in
set_option maxHeartbeats 2000000 in
theorem oneEo (bs bc g cap N : Nat) (s : Rs) (c : UInt8) (w : World) (h : RefAt w bs bc g cap N s) (hB : s.B = ⟨#[27]⟩) (hc : (c.toNat : Int) ≠ 91) (hc' : (c.toNat : Int) ≠ 27) :
    Calls Tryd.prog 36 #[.pointer (some ⟨bs, 0, none⟩), .int .u8 c.toNat] w (RPost bs bc g w (oddR { s with B := ⟨#[]⟩ }) (.tuple #[])) := by
  have HR : Hid (RefAt w bs bc g cap N s) := h
  have hc0 : c.toNat < 257 := by have := c.toNat_lt; omega
  have hc256 : c.toNat < 256 := c.toNat_lt
  have fr := HR.out.free
  have f15 := HR.out.f15
  have f14 := HR.out.f14
  have l := HR.out.lt
  clear h
  rw [hB] at f14
  clear hB
  have e0 : (({ data := #[27] } : ByteArray)[0]'(Nat.one_pos)).toNat = 27 := rfl
  have k91 : ((c.toNat : Int) == 91) = false := by simp; omega
  have k27 : ((c.toNat : Int) == 27) = false := by simp; omega
  clear hc hc'
  go_enter Tryd.func36, Tryd.ntmps36
  go_wp2_with fail
  go_end0
  exact rpost (s := oddR { s with B := ⟨#[]⟩ }) ((HR.out.setB ⟨#[]⟩).setOdd (wrap64 (s.odd + 1))) (((Keep.refl _ w).setCell ⟨bs, 14, none⟩ _ (fun _ => .inl rfl)).setCell ⟨bs, 15, none⟩ _ (fun _ => .inl rfl)) (.inl rfl)
end Go.Proofs.YtjlfibhbfdckpaaDoor

/- The document's screen: one, in a sequence. -/
namespace Go.Proofs.YtjlfibhbfdckpaaDoor
open Go.RowKit
attribute [local go_sem ↓] Go.wp_at_zero Go.wp_at_succ
set_option maxRecDepth 100000 in
set_option maxHeartbeats 2000000 in
theorem oneS27 (bs bc g cap N : Nat) (s : Rs) (c : UInt8) (bb : ByteArray) (w : World) (h : RefAt w bs bc g cap N s) (hB : s.B = bb) (h2 : 2 ≤ bb.size) (e0 : (bb[0]'(by omega)).toNat = 27) (hc : (c.toNat : Int) = 27) :
    Calls Tryd.prog 36 #[.pointer (some ⟨bs, 0, none⟩), .int .u8 c.toNat] w (RPost bs bc g w (oddR { s with B := ⟨#[27]⟩ }) (.tuple #[])) := by
  have HR : Hid (RefAt w bs bc g cap N s) := h
  have hc0 : c.toNat < 257 := by have := c.toNat_lt; omega
  have hc256 : c.toNat < 256 := c.toNat_lt
  have fr := HR.out.free
  have f15 := HR.out.f15
  have f14 := HR.out.f14
  have l := HR.out.lt
  clear h
  rw [hB] at f14
  clear hB
  have hsz : 0 < bb.size := by omega
  have hem : bb.toList.isEmpty = false := by
    rw [← Bool.not_eq_true, List.isEmpty_iff]
    intro e
    have := congrArg List.length e
    rw [ByteArray.toList_eq] at this
    simp at this
    rw [this] at h2
    exact absurd h2 (by decide)
  have h1 : ((bb.size : Int) == 1) = false := by simp; omega
  have hlen : (2 : Int) ≤ (bb.size : Int) := by omega
  have k27 : ((c.toNat : Int) == 27) = true := by simp; omega
  clear hc
  go_enter Tryd.func36, Tryd.ntmps36
  go_wp2_with fail
  go_end0
  exact rpost (s := oddR { s with B := ⟨#[27]⟩ }) ((HR.out.setB ⟨#[27]⟩).setOdd (wrap64 (s.odd + 1))) (((Keep.refl _ w).setCell ⟨bs, 14, none⟩ _ (fun _ => .inl rfl)).setCell ⟨bs, 15, none⟩ _ (fun _ => .inl rfl)) (.inl rfl)
set_option maxRecDepth 100000 in
set_option maxHeartbeats 2000000 in
theorem oneSd (bs bc g cap N : Nat) (s : Rs) (c : UInt8) (bb : ByteArray) (w : World) (h : RefAt w bs bc g cap N s) (ok : s.Ok) (hB : s.B = bb) (h2 : 2 ≤ bb.size) (e0 : (bb[0]'(by omega)).toNat = 27) (hb : bb.size ≤ 100000000000) (c1 : 64 ≤ (c.toNat : Int)) (c2 : (c.toNat : Int) ≤ 126) :
    Calls Tryd.prog 36 #[.pointer (some ⟨bs, 0, none⟩), .int .u8 c.toNat] w (RPost bs bc g w (seqR { s with B := ⟨#[]⟩ } (bb.extract 2 bb.size) c.toNat) (.tuple #[])) := by
  have HR : Hid (RefAt w bs bc g cap N s) := h
  have Hok : Hid s.Ok := ok
  have hc256 : c.toNat < 256 := c.toNat_lt
  have fr := HR.out.free
  have f15 := HR.out.f15
  have f14 := HR.out.f14
  have l := HR.out.lt
  clear h ok
  rw [hB] at f14
  clear hB
  have hsz : 0 < bb.size := by omega
  have hem : bb.toList.isEmpty = false := by
    rw [← Bool.not_eq_true, List.isEmpty_iff]
    intro e
    have := congrArg List.length e
    rw [ByteArray.toList_eq] at this
    simp at this
    rw [this] at h2
    exact absurd h2 (by decide)
  have h1 : ((bb.size : Int) == 1) = false := by simp; omega
  have hlen : (2 : Int) ≤ (bb.size : Int) := by omega
  have k27 : ((c.toNat : Int) == 27) = false := by simp; omega
  have ok2 : Hid (Rs.Ok { s with B := ⟨#[]⟩ }) := ⟨Hok.out.w1, Hok.out.w2, Hok.out.h1, Hok.out.h2, Hok.out.x0, Hok.out.x1, Hok.out.y0, Hok.out.y1, Hok.out.t0, Hok.out.tb, Hok.out.b1, Hok.out.pd, Hok.out.wf⟩
  go_enter Tryd.func36, Tryd.ntmps36
  go_wp2_with fail
  go_at_call 58
  refine (refSeq bs bc g cap N { s with B := ⟨#[]⟩ } (bb.extract 2 bb.size) c.toNat _ (HR.out.setB ⟨#[]⟩) ok2.out (by simp; omega)).mono ?_
  rintro e w5 ⟨g5, cap5, N5, rfl, R5, K5, hg5⟩
  have HR5 : Hid (RefAt w5 bs bc g5 cap5 N5 (seqR { s with B := ⟨#[]⟩ } (bb.extract 2 bb.size) c.toNat)) := R5
  have Hg : Hid (g5 = g ∨ w.heap.size ≤ g5) := hg5.imp id (fun q => by rw [set_size] at q; exact q)
  have K6 : Keep (fun i => i = bs ∨ i = bc ∨ i = g) w w5 := ((Keep.refl (fun i => i = bs ∨ i = bc ∨ i = g) w).setCell ⟨bs, 14, none⟩ (.string ⟨#[]⟩) (fun _ => .inl rfl)).trans K5 (fun _ _ h => h)
  clear R5 hg5 K5
  go_wp2_with fail
  go_end0
  exact rpost HR5.out K6 Hg.out
set_option maxRecDepth 100000 in
set_option maxHeartbeats 2000000 in
theorem oneSo (bs bc g cap N : Nat) (s : Rs) (c : UInt8) (bb : ByteArray) (w : World) (h : RefAt w bs bc g cap N s) (hB : s.B = bb) (h2 : 2 ≤ bb.size) (e0 : (bb[0]'(by omega)).toNat = 27) (hb : bb.size ≤ 100000000000) (hc : (c.toNat : Int) ≠ 27) (hcc : (c.toNat : Int) < 64 ∨ 126 < (c.toNat : Int)) :
    Calls Tryd.prog 36 #[.pointer (some ⟨bs, 0, none⟩), .int .u8 c.toNat] w (RPost bs bc g w ({ s with B := bb ++ ⟨#[c]⟩ }) (.tuple #[])) := by
  have HR : Hid (RefAt w bs bc g cap N s) := h
  have hc0 : c.toNat < 257 := by have := c.toNat_lt; omega
  have hc256 : c.toNat < 256 := c.toNat_lt
  have fr := HR.out.free
  have f15 := HR.out.f15
  have f14 := HR.out.f14
  have l := HR.out.lt
  clear h
  rw [hB] at f14
  clear hB
  have hsz : 0 < bb.size := by omega
  have hem : bb.toList.isEmpty = false := by
    rw [← Bool.not_eq_true, List.isEmpty_iff]
    intro e
    have := congrArg List.length e
    rw [ByteArray.toList_eq] at this
    simp at this
    rw [this] at h2
    exact absurd h2 (by decide)
  have h1 : ((bb.size : Int) == 1) = false := by simp; omega
  have hlen : (2 : Int) ≤ (bb.size : Int) := by omega
  have k27 : ((c.toNat : Int) == 27) = false := by simp; omega
  clear hc
  have hcv := conv_one c (w.alloc (.cells #[.int .u8 c.toNat] 5)).drew w.heap.size (cell_of_block (heap_new w _) 0)
  go_enter Tryd.func36, Tryd.ntmps36
  rcases hcc with hcc | hcc
  all_goals
    go_wp2_with fail
    go_region
    all_goals
      go_wp2_with fail
      go_end0
      have R9 : RefAt ((w.setCell ⟨bs, 14, none⟩ (.string (bb ++ ⟨#[c]⟩))).alloc (.cells #[.int .u8 c.toNat] 5)).drew bs bc g cap N { s with B := bb ++ ⟨#[c]⟩ } := ((HR.out.setB (bb ++ ⟨#[c]⟩)).below ((Below.refl _ _).alloc (Nat.le_refl _) _)).drew
      exact rpost R9 (((Keep.refl _ w).setCell ⟨bs, 14, none⟩ _ (fun _ => .inl rfl)).alloc _).drew (.inl rfl)
end Go.Proofs.YtjlfibhbfdckpaaDoor

/- The document's screen: one, in a letter. -/
namespace Go.Proofs.YtjlfibhbfdckpaaDoor
open Go.RowKit
attribute [local go_sem ↓] Go.wp_at_zero Go.wp_at_succ
set_option maxRecDepth 100000 in
set_option maxHeartbeats 2000000 in
theorem oneU1no (bs bc g cap N : Nat) (s : Rs) (c : UInt8) (a : UInt8) (w : World) (h : RefAt w bs bc g cap N s) (ok : s.Ok) (hB : s.B = ⟨#[a]⟩) (a1 : 194 ≤ a.toNat) (a2 : a.toNat ≤ 244) (hg : goesOnB [a] c.toNat = false) :
    Calls Tryd.prog 36 #[.pointer (some ⟨bs, 0, none⟩), .int .u8 c.toNat] w (RPost bs bc g w (groundR (oddR { s with B := ⟨#[]⟩ }) c) (.tuple #[])) := by
  have HR : Hid (RefAt w bs bc g cap N s) := h
  have Hok : Hid s.Ok := ok
  have hc256 : c.toNat < 256 := c.toNat_lt
  have fr := HR.out.free
  have f15 := HR.out.f15
  have f14 := HR.out.f14
  have l := HR.out.lt
  clear h ok
  rw [hB] at f14
  clear hB
  have e0 : (({ data := #[a] } : ByteArray)[0]'(show 0 < 1 by decide)).toNat = a.toNat := rfl
  have k27 : ((a.toNat : Int) == 27) = false := by simp; omega
  have kn27 : ((a.toNat : Int) != 27) = true := by simp; omega
  have ok2 : Hid (Rs.Ok (oddR { s with B := ⟨#[]⟩ })) := ⟨Hok.out.w1, Hok.out.w2, Hok.out.h1, Hok.out.h2, Hok.out.x0, Hok.out.x1, Hok.out.y0, Hok.out.y1, Hok.out.t0, Hok.out.tb, Hok.out.b1, Hok.out.pd, Hok.out.wf⟩
  go_enter Tryd.func36, Tryd.ntmps36
  go_wp2_with fail
  go_at_call 54
  refine (refGoesOn1 a c.toNat _ (by omega) (by omega)).mono ?_
  rintro e w' ⟨rfl, hw'⟩
  replace hw' := hw'.symm
  subst hw'
  go_wp2_with fail
  go_at_call 53
  refine (refGround bs bc g cap N (oddR { s with B := ⟨#[]⟩ }) c _ ((HR.out.setB ⟨#[]⟩).setOdd (wrap64 (s.odd + 1))) ok2.out).mono ?_
  rintro e w5 ⟨g5, cap5, N5, rfl, R5, K5, hg5⟩
  have HR5 : Hid (RefAt w5 bs bc g5 cap5 N5 (groundR (oddR { s with B := ⟨#[]⟩ }) c)) := R5
  have Hg : Hid (g5 = g ∨ w.heap.size ≤ g5) := hg5.imp id (fun q => by rw [set_size, set_size] at q; exact q)
  have K6 : Keep (fun i => i = bs ∨ i = bc ∨ i = g) w w5 := (((Keep.refl (fun i => i = bs ∨ i = bc ∨ i = g) w).setCell ⟨bs, 14, none⟩ (.string ⟨#[]⟩) (fun _ => .inl rfl)).setCell ⟨bs, 15, none⟩ (.int .i64 (wrap64 (s.odd + 1))) (fun _ => .inl rfl)).trans K5 (fun _ _ h => h)
  clear R5 hg5 K5
  go_wp2_with fail
  exact bodyPost_ret (v := .tuple #[]) (by simp [results, Tryd.results36, go_sem]) rfl (rpost HR5.out K6 Hg.out)
set_option maxRecDepth 100000 in
set_option maxHeartbeats 2000000 in
theorem oneU1more (bs bc g cap N : Nat) (s : Rs) (c : UInt8) (a : UInt8) (w : World) (h : RefAt w bs bc g cap N s) (ok : s.Ok) (hB : s.B = ⟨#[a]⟩) (a1 : 194 ≤ a.toNat) (a2 : a.toNat ≤ 244) (hg : goesOnB [a] c.toNat = true) (hl : longR a.toNat ≠ 2) :
    Calls Tryd.prog 36 #[.pointer (some ⟨bs, 0, none⟩), .int .u8 c.toNat] w (RPost bs bc g w ({ s with B := ⟨#[a, c]⟩ }) (.tuple #[])) := by
  have HR : Hid (RefAt w bs bc g cap N s) := h
  have Hok : Hid s.Ok := ok
  have hc256 : c.toNat < 256 := c.toNat_lt
  have fr := HR.out.free
  have f15 := HR.out.f15
  have f14 := HR.out.f14
  have l := HR.out.lt
  clear h ok
  rw [hB] at f14
  clear hB
  have e0 : (({ data := #[a] } : ByteArray)[0]'(show 0 < 1 by decide)).toNat = a.toNat := rfl
  have k27 : ((a.toNat : Int) == 27) = false := by simp; omega
  have kn27 : ((a.toNat : Int) != 27) = true := by simp; omega
  have hcv := conv_one c (w.alloc (.cells #[.int .u8 c.toNat] 5)).drew w.heap.size (cell_of_block (heap_new w _) 0)
  have hadd2 : ∀ w' : World, (Op.stringOp .add ⟨#[a]⟩ ⟨#[c]⟩).run Tryd.prog w' = .ok (.string ⟨#[a, c]⟩) w' := fun w' => run_string_add_sum (P := Tryd.prog) w' ⟨#[a]⟩ ⟨#[c]⟩ (by show 1 + 1 ≤ _; decide)
  have hl1 : ((2 : Int) == longR a.toNat) = false := by simp; omega
  clear hl
  go_enter Tryd.func36, Tryd.ntmps36
  go_wp2_with fail
  go_at_call 54
  refine (refGoesOn1 a c.toNat _ (by omega) (by omega)).mono ?_
  rintro e w' ⟨rfl, hw'⟩
  replace hw' := hw'.symm
  subst hw'
  go_wp2_with fail
  go_region
  all_goals
    have R2 : RefAt ((w.setCell ⟨bs, 14, none⟩ (.string ⟨#[a, c]⟩)).alloc (.cells #[.int .u8 c.toNat] 5)).drew bs bc g cap N { s with B := ⟨#[a, c]⟩ } := ((HR.out.setB ⟨#[a, c]⟩).below ((Below.refl _ _).alloc (Nat.le_refl _) _)).drew
    have K2 : Keep (fun i => i = bs ∨ i = bc ∨ i = g) w ((w.setCell ⟨bs, 14, none⟩ (.string ⟨#[a, c]⟩)).alloc (.cells #[.int .u8 c.toNat] 5)).drew := (((Keep.refl _ w).setCell ⟨bs, 14, none⟩ _ (fun _ => .inl rfl)).alloc _).drew
    generalize ((w.setCell ⟨bs, 14, none⟩ (.string ⟨#[a, c]⟩)).alloc (.cells #[.int .u8 c.toNat] 5)).drew = w2 at *
    have HR2 : Hid (RefAt w2 bs bc g cap N { s with B := ⟨#[a, c]⟩ }) := R2
    have g14 : w2.cell? ⟨bs, 14, none⟩ = some (.string ⟨#[a, c]⟩) := R2.f14
    have gfr := R2.free
    have e9 : (({ data := #[a, c] } : ByteArray)[0]'(show 0 < 2 by decide)).toNat = a.toNat := rfl
    clear R2 hcv hadd2 f14 fr f15 HR
    go_wp2_with fail
    go_quiet ((go_at_call 55; exact Calls.quiet_of_same (refLong _ _ (by omega) (by omega))))
    have HR3 : Hid (RefAt (w2.drewN nq) bs bc g cap N { s with B := ⟨#[a, c]⟩ }) := HR2.out.drewN nq
    have K3 : Keep (fun i => i = bs ∨ i = bc ∨ i = g) w (w2.drewN nq) := K2.drewN nq
    generalize w2.drewN nq = w3 at *
    have h14 : w3.cell? ⟨bs, 14, none⟩ = some (.string ⟨#[a, c]⟩) := HR3.out.f14
    have hfr := HR3.out.free
    clear g14 gfr HR2 K2
    go_wp2_with fail
    go_end0
    exact rpost HR3.out K3 (.inl rfl)
set_option maxRecDepth 100000 in
set_option maxHeartbeats 2000000 in
theorem oneU1put (bs bc g cap N : Nat) (s : Rs) (c : UInt8) (a : UInt8) (w : World) (h : RefAt w bs bc g cap N s) (ok : s.Ok) (hB : s.B = ⟨#[a]⟩) (a1 : 194 ≤ a.toNat) (a2 : a.toNat ≤ 223) (lc : 128 ≤ c.toNat) (uc : c.toNat ≤ 191) (hg : goesOnB [a] c.toNat = true) :
    Calls Tryd.prog 36 #[.pointer (some ⟨bs, 0, none⟩), .int .u8 c.toNat] w (RPost bs bc g w (putR { s with B := ⟨#[]⟩ } (letterR [a, c])) (.tuple #[])) := by
  have HR : Hid (RefAt w bs bc g cap N s) := h
  have Hok : Hid s.Ok := ok
  have hc256 : c.toNat < 256 := c.toNat_lt
  have fr := HR.out.free
  have f15 := HR.out.f15
  have f14 := HR.out.f14
  have l := HR.out.lt
  clear h ok
  rw [hB] at f14
  clear hB
  have e0 : (({ data := #[a] } : ByteArray)[0]'(show 0 < 1 by decide)).toNat = a.toNat := rfl
  have k27 : ((a.toNat : Int) == 27) = false := by simp; omega
  have kn27 : ((a.toNat : Int) != 27) = true := by simp; omega
  have hcv := conv_one c (w.alloc (.cells #[.int .u8 c.toNat] 5)).drew w.heap.size (cell_of_block (heap_new w _) 0)
  have hadd2 : ∀ w' : World, (Op.stringOp .add ⟨#[a]⟩ ⟨#[c]⟩).run Tryd.prog w' = .ok (.string ⟨#[a, c]⟩) w' := fun w' => run_string_add_sum (P := Tryd.prog) w' ⟨#[a]⟩ ⟨#[c]⟩ (by show 1 + 1 ≤ _; decide)
  have hl : longR a.toNat = 2 := by unfold longR; rw [if_pos (by omega)]
  have ok2 : Hid (Rs.Ok { s with B := ⟨#[]⟩ }) := ⟨Hok.out.w1, Hok.out.w2, Hok.out.h1, Hok.out.h2, Hok.out.x0, Hok.out.x1, Hok.out.y0, Hok.out.y1, Hok.out.t0, Hok.out.tb, Hok.out.b1, Hok.out.pd, Hok.out.wf⟩
  have hr0 : Hid (-2147483648 ≤ letterR [a, c] ∧ letterR [a, c] ≤ 2147483647) := by
    show -2147483648 ≤ letterR [a, c] ∧ letterR [a, c] ≤ 2147483647
    unfold letterR
    simp only
    omega
  go_enter Tryd.func36, Tryd.ntmps36
  go_wp2_with fail
  go_at_call 54
  refine (refGoesOn1 a c.toNat _ (by omega) (by omega)).mono ?_
  rintro e w' ⟨rfl, hw'⟩
  replace hw' := hw'.symm
  subst hw'
  go_wp2_with fail
  go_region
  all_goals
    have R2 : RefAt ((w.setCell ⟨bs, 14, none⟩ (.string ⟨#[a, c]⟩)).alloc (.cells #[.int .u8 c.toNat] 5)).drew bs bc g cap N { s with B := ⟨#[a, c]⟩ } := ((HR.out.setB ⟨#[a, c]⟩).below ((Below.refl _ _).alloc (Nat.le_refl _) _)).drew
    have K2 : Keep (fun i => i = bs ∨ i = bc ∨ i = g) w ((w.setCell ⟨bs, 14, none⟩ (.string ⟨#[a, c]⟩)).alloc (.cells #[.int .u8 c.toNat] 5)).drew := (((Keep.refl _ w).setCell ⟨bs, 14, none⟩ _ (fun _ => .inl rfl)).alloc _).drew
    generalize ((w.setCell ⟨bs, 14, none⟩ (.string ⟨#[a, c]⟩)).alloc (.cells #[.int .u8 c.toNat] 5)).drew = w2 at *
    have HR2 : Hid (RefAt w2 bs bc g cap N { s with B := ⟨#[a, c]⟩ }) := R2
    have g14 : w2.cell? ⟨bs, 14, none⟩ = some (.string ⟨#[a, c]⟩) := R2.f14
    have gfr := R2.free
    have e9 : (({ data := #[a, c] } : ByteArray)[0]'(show 0 < 2 by decide)).toNat = a.toNat := rfl
    clear R2 hcv hadd2 f14 fr f15 HR
    go_wp2_with fail
    go_quiet ((go_at_call 55; exact Calls.quiet_of_same (refLong _ _ (by omega) (by omega))))
    have HR3 : Hid (RefAt (w2.drewN nq) bs bc g cap N { s with B := ⟨#[a, c]⟩ }) := HR2.out.drewN nq
    have K3 : Keep (fun i => i = bs ∨ i = bc ∨ i = g) w (w2.drewN nq) := K2.drewN nq
    generalize w2.drewN nq = w3 at *
    have h14 : w3.cell? ⟨bs, 14, none⟩ = some (.string ⟨#[a, c]⟩) := HR3.out.f14
    have hfr := HR3.out.free
    clear g14 gfr HR2 K2
    go_wp2_with fail
    go_at_call 56
    refine (refLetter2 a c _ a1 a2 lc uc).mono ?_
    rintro e w' ⟨rfl, hw'⟩
    replace hw' := hw'.symm
    subst hw'
    generalize hle : letterR [a, c] = r at *
    go_wp2_with fail
    go_at_call 57
    refine (refPut bs bc g cap N { s with B := ⟨#[]⟩ } r _ (HR3.out.setB ⟨#[]⟩) ok2.out hr0.out.1 hr0.out.2).mono ?_
    rintro e w5 ⟨g5, cap5, N5, rfl, R5, K5, hg5⟩
    have HR5 : Hid (RefAt w5 bs bc g5 cap5 N5 (putR { s with B := ⟨#[]⟩ } r)) := R5
    have sz3 := K3.size
    have Hg : Hid (g5 = g ∨ w.heap.size ≤ g5) := hg5.imp id (fun q => by rw [set_size] at q; omega)
    have K6 : Keep (fun i => i = bs ∨ i = bc ∨ i = g) w w5 := (K3.setCell ⟨bs, 14, none⟩ (.string ⟨#[]⟩) (fun _ => .inl rfl)).trans K5 (fun _ _ h => h)
    clear R5 hg5 K5 hle
    go_wp2_with fail
    go_end0
    exact rpost HR5.out K6 Hg.out
end Go.Proofs.YtjlfibhbfdckpaaDoor

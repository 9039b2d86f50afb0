/- Texts of the proof, one behind the other: RfN, RfAG. -/
import Derived.Test.YtknhohbepkapdaaDoorK45
import Derived.Test.YtknhohbepkapdaaDoorChecked
import Derived.WalkSpells
import Derived.WalkLawsBesides
import Derived.Laws.IdiomStrings
/- The document's letters in bytes: long, goesOn, letter. -/
namespace Go.Proofs.YtknhohbepkapdaaDoor
open Go.RowKit
theorem refLong (c : Int) (w : World) (c0 : 0 ≤ c) (c1 : c ≤ 255) :
    Calls Tryd.prog 55 #[.int .u8 c] w fun e w' => e = .returned (.int .i64 (longR c)) ∧ w' = w := by
  rcases (by omega : c < 194 ∨ (194 ≤ c ∧ c ≤ 223) ∨ (224 ≤ c ∧ c ≤ 239) ∨ (240 ≤ c ∧ c ≤ 244) ∨ 245 ≤ c) with h | ⟨h, h'⟩ | ⟨h, h'⟩ | ⟨h, h'⟩ | h
  · rw [show longR c = 0 from by unfold longR; rw [if_neg (by omega), if_neg (by omega), if_neg (by omega)]]
    go_enter Tryd.func55, Tryd.ntmps55
    go_wp2
    go_ret
    exact ⟨rfl, rfl⟩
  · rw [show longR c = 2 from by unfold longR; rw [if_pos (by omega)]]
    go_enter Tryd.func55, Tryd.ntmps55
    go_wp2
    go_ret
    exact ⟨rfl, rfl⟩
  · rw [show longR c = 3 from by unfold longR; rw [if_neg (by omega), if_pos (by omega)]]
    go_enter Tryd.func55, Tryd.ntmps55
    go_wp2
    go_ret
    exact ⟨rfl, rfl⟩
  · rw [show longR c = 4 from by unfold longR; rw [if_neg (by omega), if_neg (by omega), if_pos (by omega)]]
    go_enter Tryd.func55, Tryd.ntmps55
    go_wp2
    go_ret
    exact ⟨rfl, rfl⟩
  · rw [show longR c = 0 from by unfold longR; rw [if_neg (by omega), if_neg (by omega), if_neg (by omega)]]
    go_enter Tryd.func55, Tryd.ntmps55
    go_wp2
    go_ret
    exact ⟨rfl, rfl⟩
set_option maxHeartbeats 4000000 in
theorem refGoesOn1 (a : UInt8) (c : Int) (w : World) (c0 : 0 ≤ c) (c1 : c ≤ 255) :
    Calls Tryd.prog 54 #[.string ⟨#[a]⟩, .int .u8 c] w fun e w' => e = .returned (.bool (goesOnB [a] c)) ∧ w' = w := by
  have ha : a.toNat < 256 := a.toNat_lt
  have e0 : (({ data := #[a] } : ByteArray)[0]'(Nat.one_pos)).toNat = a.toNat := rfl
  rcases (by omega : (a.toNat : Int) = 224 ∨ (a.toNat : Int) = 237 ∨ (a.toNat : Int) = 240 ∨ (a.toNat : Int) = 244 ∨ ((a.toNat : Int) ≠ 224 ∧ (a.toNat : Int) ≠ 237 ∧ (a.toNat : Int) ≠ 240 ∧ (a.toNat : Int) ≠ 244)) with q | q | q | q | ⟨q1, q2, q3, q4⟩
  · have hg : goesOnB [a] c = (decide (160 ≤ c) && decide (c ≤ 191)) := by simp only [goesOnB, lowR, highR, q]; simp
    rw [hg]; clear hg
    rcases (by omega : c < 160 ∨ (160 ≤ c ∧ c ≤ 191) ∨ 191 < c) with h | ⟨h, h'⟩ | h
    · rw [show (decide (160 ≤ c) && decide (c ≤ 191)) = false from by simp; omega]
      go_enter Tryd.func54, Tryd.ntmps54
      go_wp2
      go_ret
      exact ⟨by first | rfl | (simp; omega), rfl⟩
    · rw [show (decide (160 ≤ c) && decide (c ≤ 191)) = true from by simp; omega]
      go_enter Tryd.func54, Tryd.ntmps54
      go_wp2
      go_ret
      exact ⟨by first | rfl | (simp; omega), rfl⟩
    · rw [show (decide (160 ≤ c) && decide (c ≤ 191)) = false from by simp; omega]
      go_enter Tryd.func54, Tryd.ntmps54
      go_wp2
      go_ret
      exact ⟨by first | rfl | (simp; omega), rfl⟩
  · have hg : goesOnB [a] c = (decide (128 ≤ c) && decide (c ≤ 159)) := by simp only [goesOnB, lowR, highR, q]; simp
    rw [hg]; clear hg
    rcases (by omega : c < 128 ∨ (128 ≤ c ∧ c ≤ 159) ∨ 159 < c) with h | ⟨h, h'⟩ | h
    · rw [show (decide (128 ≤ c) && decide (c ≤ 159)) = false from by simp; omega]
      go_enter Tryd.func54, Tryd.ntmps54
      go_wp2
      go_ret
      exact ⟨by first | rfl | (simp; omega), rfl⟩
    · rw [show (decide (128 ≤ c) && decide (c ≤ 159)) = true from by simp; omega]
      go_enter Tryd.func54, Tryd.ntmps54
      go_wp2
      go_ret
      exact ⟨by first | rfl | (simp; omega), rfl⟩
    · rw [show (decide (128 ≤ c) && decide (c ≤ 159)) = false from by simp; omega]
      go_enter Tryd.func54, Tryd.ntmps54
      go_wp2
      go_ret
      exact ⟨by first | rfl | (simp; omega), rfl⟩
  · have hg : goesOnB [a] c = (decide (144 ≤ c) && decide (c ≤ 191)) := by simp only [goesOnB, lowR, highR, q]; simp
    rw [hg]; clear hg
    rcases (by omega : c < 144 ∨ (144 ≤ c ∧ c ≤ 191) ∨ 191 < c) with h | ⟨h, h'⟩ | h
    · rw [show (decide (144 ≤ c) && decide (c ≤ 191)) = false from by simp; omega]
      go_enter Tryd.func54, Tryd.ntmps54
      go_wp2
      go_ret
      exact ⟨by first | rfl | (simp; omega), rfl⟩
    · rw [show (decide (144 ≤ c) && decide (c ≤ 191)) = true from by simp; omega]
      go_enter Tryd.func54, Tryd.ntmps54
      go_wp2
      go_ret
      exact ⟨by first | rfl | (simp; omega), rfl⟩
    · rw [show (decide (144 ≤ c) && decide (c ≤ 191)) = false from by simp; omega]
      go_enter Tryd.func54, Tryd.ntmps54
      go_wp2
      go_ret
      exact ⟨by first | rfl | (simp; omega), rfl⟩
  · have hg : goesOnB [a] c = (decide (128 ≤ c) && decide (c ≤ 143)) := by simp only [goesOnB, lowR, highR, q]; simp
    rw [hg]; clear hg
    rcases (by omega : c < 128 ∨ (128 ≤ c ∧ c ≤ 143) ∨ 143 < c) with h | ⟨h, h'⟩ | h
    · rw [show (decide (128 ≤ c) && decide (c ≤ 143)) = false from by simp; omega]
      go_enter Tryd.func54, Tryd.ntmps54
      go_wp2
      go_ret
      exact ⟨by first | rfl | (simp; omega), rfl⟩
    · rw [show (decide (128 ≤ c) && decide (c ≤ 143)) = true from by simp; omega]
      go_enter Tryd.func54, Tryd.ntmps54
      go_wp2
      go_ret
      exact ⟨by first | rfl | (simp; omega), rfl⟩
    · rw [show (decide (128 ≤ c) && decide (c ≤ 143)) = false from by simp; omega]
      go_enter Tryd.func54, Tryd.ntmps54
      go_wp2
      go_ret
      exact ⟨by first | rfl | (simp; omega), rfl⟩
  · have hg : goesOnB [a] c = (decide (128 ≤ c) && decide (c ≤ 191)) := by simp only [goesOnB, lowR, highR, q1, q2, q3, q4, if_false]
    rw [hg]; clear hg
    have b1 : ((a.toNat : Int) == 224) = false := by simpa using q1
    have b2 : ((a.toNat : Int) == 237) = false := by simpa using q2
    have b3 : ((a.toNat : Int) == 240) = false := by simpa using q3
    have b4 : ((a.toNat : Int) == 244) = false := by simpa using q4
    clear q1 q2 q3 q4
    rcases (by omega : c < 128 ∨ (128 ≤ c ∧ c ≤ 191) ∨ 191 < c) with h | ⟨h, h'⟩ | h
    · rw [show (decide (128 ≤ c) && decide (c ≤ 191)) = false from by simp; omega]
      go_enter Tryd.func54, Tryd.ntmps54
      go_wp2
      go_ret
      exact ⟨by first | rfl | (simp; omega), rfl⟩
    · rw [show (decide (128 ≤ c) && decide (c ≤ 191)) = true from by simp; omega]
      go_enter Tryd.func54, Tryd.ntmps54
      go_wp2
      go_ret
      exact ⟨by first | rfl | (simp; omega), rfl⟩
    · rw [show (decide (128 ≤ c) && decide (c ≤ 191)) = false from by simp; omega]
      go_enter Tryd.func54, Tryd.ntmps54
      go_wp2
      go_ret
      exact ⟨by first | rfl | (simp; omega), rfl⟩
set_option maxHeartbeats 1000000 in
theorem refGoesOn2 (a b : UInt8) (c : Int) (w : World) (c0 : 0 ≤ c) (c1 : c ≤ 255) :
    Calls Tryd.prog 54 #[.string ⟨#[a, b]⟩, .int .u8 c] w fun e w' => e = .returned (.bool (goesOnB [a, b] c)) ∧ w' = w := by
  have hg : goesOnB [a, b] c = (decide (128 ≤ c) && decide (c ≤ 191)) := rfl
  rw [hg]; clear hg
  rcases (by omega : c < 128 ∨ (128 ≤ c ∧ c ≤ 191) ∨ 191 < c) with h | ⟨h, h'⟩ | h
  · rw [show (decide (128 ≤ c) && decide (c ≤ 191)) = false from by simp; omega]
    go_enter Tryd.func54, Tryd.ntmps54
    go_wp2
    go_ret
    exact ⟨by first | rfl | (simp; omega), rfl⟩
  · rw [show (decide (128 ≤ c) && decide (c ≤ 191)) = true from by simp; omega]
    go_enter Tryd.func54, Tryd.ntmps54
    go_wp2
    go_ret
    exact ⟨by first | rfl | (simp; omega), rfl⟩
  · rw [show (decide (128 ≤ c) && decide (c ≤ 191)) = false from by simp; omega]
    go_enter Tryd.func54, Tryd.ntmps54
    go_wp2
    go_ret
    exact ⟨by first | rfl | (simp; omega), rfl⟩
set_option maxHeartbeats 1000000 in
theorem refGoesOn3 (a b d : UInt8) (c : Int) (w : World) (c0 : 0 ≤ c) (c1 : c ≤ 255) :
    Calls Tryd.prog 54 #[.string ⟨#[a, b, d]⟩, .int .u8 c] w fun e w' => e = .returned (.bool (goesOnB [a, b, d] c)) ∧ w' = w := by
  have hg : goesOnB [a, b, d] c = (decide (128 ≤ c) && decide (c ≤ 191)) := rfl
  rw [hg]; clear hg
  rcases (by omega : c < 128 ∨ (128 ≤ c ∧ c ≤ 191) ∨ 191 < c) with h | ⟨h, h'⟩ | h
  · rw [show (decide (128 ≤ c) && decide (c ≤ 191)) = false from by simp; omega]
    go_enter Tryd.func54, Tryd.ntmps54
    go_wp2
    go_ret
    exact ⟨by first | rfl | (simp; omega), rfl⟩
  · rw [show (decide (128 ≤ c) && decide (c ≤ 191)) = true from by simp; omega]
    go_enter Tryd.func54, Tryd.ntmps54
    go_wp2
    go_ret
    exact ⟨by first | rfl | (simp; omega), rfl⟩
  · rw [show (decide (128 ≤ c) && decide (c ≤ 191)) = false from by simp; omega]
    go_enter Tryd.func54, Tryd.ntmps54
    go_wp2
    go_ret
    exact ⟨by first | rfl | (simp; omega), rfl⟩
set_option maxHeartbeats 2000000 in
theorem refLetter2 (a b : UInt8) (w : World) (h1 : 194 ≤ a.toNat) (h2 : a.toNat ≤ 223) (l1 : 128 ≤ b.toNat) (u1 : b.toNat ≤ 191) :
    Calls Tryd.prog 56 #[.string ⟨#[a, b]⟩] w fun e w' => e = .returned (.int .i32 (letterR [a, b])) ∧ w' = w := by
  have e0 : (({ data := #[a, b] } : ByteArray)[0]'(show 0 < 2 by decide)).toNat = a.toNat := rfl
  have e1 : (({ data := #[a, b] } : ByteArray)[1]'(show 1 < 2 by decide)).toNat = b.toNat := rfl
  go_enter Tryd.func56, Tryd.ntmps56
  go_wp2_with fail
  refine wp_loop_rounds 2 ?_
  rw [rounds_succ]
  go_wp2_with fail
  rw [rounds_succ]
  go_wp2_with fail
  go_ret
  exact ⟨rfl, rfl⟩
set_option maxHeartbeats 2000000 in
theorem refLetter3 (a b c : UInt8) (w : World) (h1 : 224 ≤ a.toNat) (h2 : a.toNat ≤ 239) (l1 : 128 ≤ b.toNat) (u1 : b.toNat ≤ 191) (l2 : 128 ≤ c.toNat) (u2 : c.toNat ≤ 191) :
    Calls Tryd.prog 56 #[.string ⟨#[a, b, c]⟩] w fun e w' => e = .returned (.int .i32 (letterR [a, b, c])) ∧ w' = w := by
  have e0 : (({ data := #[a, b, c] } : ByteArray)[0]'(show 0 < 3 by decide)).toNat = a.toNat := rfl
  have e1 : (({ data := #[a, b, c] } : ByteArray)[1]'(show 1 < 3 by decide)).toNat = b.toNat := rfl
  have e2 : (({ data := #[a, b, c] } : ByteArray)[2]'(show 2 < 3 by decide)).toNat = c.toNat := rfl
  go_enter Tryd.func56, Tryd.ntmps56
  go_wp2_with fail
  refine wp_loop_rounds 3 ?_
  rw [rounds_succ]
  go_wp2_with fail
  rw [rounds_succ]
  go_wp2_with fail
  rw [rounds_succ]
  go_wp2_with fail
  go_ret
  exact ⟨rfl, rfl⟩
set_option maxHeartbeats 2000000 in
theorem refLetter4 (a b c d : UInt8) (w : World) (h1 : 240 ≤ a.toNat) (h2 : a.toNat ≤ 244) (l1 : 128 ≤ b.toNat) (u1 : b.toNat ≤ 191) (l2 : 128 ≤ c.toNat) (u2 : c.toNat ≤ 191) (l3 : 128 ≤ d.toNat) (u3 : d.toNat ≤ 191) :
    Calls Tryd.prog 56 #[.string ⟨#[a, b, c, d]⟩] w fun e w' => e = .returned (.int .i32 (letterR [a, b, c, d])) ∧ w' = w := by
  have e0 : (({ data := #[a, b, c, d] } : ByteArray)[0]'(show 0 < 4 by decide)).toNat = a.toNat := rfl
  have e1 : (({ data := #[a, b, c, d] } : ByteArray)[1]'(show 1 < 4 by decide)).toNat = b.toNat := rfl
  have e2 : (({ data := #[a, b, c, d] } : ByteArray)[2]'(show 2 < 4 by decide)).toNat = c.toNat := rfl
  have e3 : (({ data := #[a, b, c, d] } : ByteArray)[3]'(show 3 < 4 by decide)).toNat = d.toNat := rfl
  go_enter Tryd.func56, Tryd.ntmps56
  go_wp2_with fail
  refine wp_loop_rounds 4 ?_
  rw [rounds_succ]
  go_wp2_with fail
  rw [rounds_succ]
  go_wp2_with fail
  rw [rounds_succ]
  go_wp2_with fail
  rw [rounds_succ]
  go_wp2_with fail
  go_ret
  exact ⟨rfl, rfl⟩
end Go.Proofs.YtknhohbepkapdaaDoor

/- The document's screen: ground. -/
namespace Go.Proofs.YtknhohbepkapdaaDoor
open Go.RowKit
attribute [local go_sem ↓] Go.wp_at_zero Go.wp_at_succ
/-- string([]byte{c}). -/
theorem conv_one (c : UInt8) (w : World) (b : Nat) (hb : w.cell? ⟨b, 0, none⟩ = some (.int .u8 c.toNat)) :
    (convert 90 9 (.slice (some ⟨b, 0, none⟩) 1 1)).run Tryd.prog w = .ok (.string ⟨#[c]⟩) w :=
  run_convert_bytes_back w 90 9 5 ⟨b, 0, none⟩ 1 [c] Tryd.underlying90 Tryd.underlying5 Tryd.underlying9 (fun j hj => by
    obtain rfl : j = 0 := by simp at hj; exact hj
    rw [Addr.add_mid]; exact hb)
set_option maxRecDepth 100000 in
set_option maxHeartbeats 2000000 in
theorem ground13 (bs bc g cap N : Nat) (s : Rs) (c : UInt8) (w : World) (h : RefAt w bs bc g cap N s) (ok : s.Ok) (hc : (c.toNat : Int) = 13) :
    Calls Tryd.prog 53 #[.pointer (some ⟨bs, 0, none⟩), .int .u8 c.toNat] w (RPost bs bc g w (groundR s c) (.tuple #[])) := by
  have HD : Hid (groundR s c = goesR s 0 s.y) := by
    show groundR s c = goesR s 0 s.y
    unfold groundR
    rw [if_pos hc]
  have HR : Hid (RefAt w bs bc g cap N s) := h
  have Hok : Hid s.Ok := ok
  have hc256 : c.toNat < 256 := c.toNat_lt
  have x0 := ok.x0
  have x1 := ok.x1
  have w40 := ok.w2
  clear h ok
  have k13 : ((c.toNat : Int) == 13) = true := by simp; omega
  have f4 := HR.out.f4
  clear hc
  go_enter Tryd.func53, Tryd.ntmps53
  go_wp2_with fail
  go_at_call 35
  refine (refGoes bs bc g cap N s 0 s.y _ HR.out).mono ?_
  rintro e w5 ⟨rfl, R5, K5⟩
  have R9 : RefAt w5 bs bc g cap N (groundR s c) := by rw [HD.out]; exact R5
  have K6 : Keep (fun i => i = bs ∨ i = bc ∨ i = g) w w5 := K5.mono (fun i hi => .inl hi)
  clear R5 K5
  go_wp2_with fail
  go_end0
  exact rpost R9 K6 (.inl rfl)
set_option maxRecDepth 100000 in
set_option maxHeartbeats 2000000 in
theorem ground10 (bs bc g cap N : Nat) (s : Rs) (c : UInt8) (w : World) (h : RefAt w bs bc g cap N s) (ok : s.Ok) (hc : (c.toNat : Int) = 10) :
    Calls Tryd.prog 53 #[.pointer (some ⟨bs, 0, none⟩), .int .u8 c.toNat] w (RPost bs bc g w (groundR s c) (.tuple #[])) := by
  have HD : Hid (groundR s c = linefeedR s) := by
    show groundR s c = linefeedR s
    unfold groundR
    rw [if_neg (by omega), if_pos hc]
  have HR : Hid (RefAt w bs bc g cap N s) := h
  have Hok : Hid s.Ok := ok
  have hc256 : c.toNat < 256 := c.toNat_lt
  have x0 := ok.x0
  have x1 := ok.x1
  have w40 := ok.w2
  clear h ok
  have k13 : ((c.toNat : Int) == 13) = false := by simp; omega
  have k10 : ((c.toNat : Int) == 10) = true := by simp; omega
  clear hc
  go_enter Tryd.func53, Tryd.ntmps53
  go_wp2_with fail
  go_at_call 71
  refine (refLinefeed bs bc g cap N s _ HR.out (ok_pend Hok.out)).mono ?_
  rintro e w5 ⟨g5, cap5, N5, rfl, R5, K5, hg5⟩
  have R9 : RefAt w5 bs bc g5 cap5 N5 (groundR s c) := by rw [HD.out]; exact R5
  have Hg : Hid (g5 = g ∨ w.heap.size ≤ g5) := hg5
  clear R5 hg5
  go_wp2_with fail
  go_end0
  exact rpost R9 K5 Hg.out
set_option maxRecDepth 100000 in
set_option maxHeartbeats 2000000 in
theorem ground8 (bs bc g cap N : Nat) (s : Rs) (c : UInt8) (w : World) (h : RefAt w bs bc g cap N s) (ok : s.Ok) (hc : (c.toNat : Int) = 8) :
    Calls Tryd.prog 53 #[.pointer (some ⟨bs, 0, none⟩), .int .u8 c.toNat] w (RPost bs bc g w (groundR s c) (.tuple #[])) := by
  have HD : Hid (groundR s c = goesR s (s.x - 1) s.y) := by
    show groundR s c = goesR s (s.x - 1) s.y
    unfold groundR
    rw [if_neg (by omega), if_neg (by omega), if_pos hc]
  have HR : Hid (RefAt w bs bc g cap N s) := h
  have Hok : Hid s.Ok := ok
  have hc256 : c.toNat < 256 := c.toNat_lt
  have x0 := ok.x0
  have x1 := ok.x1
  have w40 := ok.w2
  clear h ok
  have k13 : ((c.toNat : Int) == 13) = false := by simp; omega
  have k10 : ((c.toNat : Int) == 10) = false := by simp; omega
  have k8 : ((c.toNat : Int) == 8) = true := by simp; omega
  have f3 := HR.out.f3
  have f4 := HR.out.f4
  have hwr : IntKind.i64.wrap (s.x - 1) = s.x - 1 := wrap_id _ (by omega) (by omega)
  clear hc
  go_enter Tryd.func53, Tryd.ntmps53
  go_wp2_with fail
  go_region_with (first | (go_at_call 35; refine (refGoes bs bc g cap N s (s.x - 1) s.y _ HR.out.drew).mono ?_; rintro e w5 ⟨rfl, R5, K5⟩))
  all_goals
    have R9 : RefAt w5 bs bc g cap N (groundR s c) := by rw [HD.out]; exact R5
    have K6 : Keep (fun i => i = bs ∨ i = bc ∨ i = g) w w5 := (⟨K5.os, K5.tape, K5.output, K5.size, K5.block⟩ : Keep (fun i => i = bs) w w5).mono (fun i hi => .inl hi)
    clear R5 K5
    go_wp2_with fail
    go_end0
    exact rpost R9 K6 (.inl rfl)
set_option maxRecDepth 100000 in
set_option maxHeartbeats 2000000 in
theorem ground27 (bs bc g cap N : Nat) (s : Rs) (c : UInt8) (w : World) (h : RefAt w bs bc g cap N s) (ok : s.Ok) (hc : (c.toNat : Int) = 27) :
    Calls Tryd.prog 53 #[.pointer (some ⟨bs, 0, none⟩), .int .u8 c.toNat] w (RPost bs bc g w (groundR s c) (.tuple #[])) := by
  have HD : Hid (groundR s c = { s with B := ⟨#[27]⟩ }) := by
    show groundR s c = { s with B := ⟨#[27]⟩ }
    unfold groundR
    rw [if_neg (by omega), if_neg (by omega), if_neg (by omega), if_pos hc]
  have HR : Hid (RefAt w bs bc g cap N s) := h
  have Hok : Hid s.Ok := ok
  have hc256 : c.toNat < 256 := c.toNat_lt
  have x0 := ok.x0
  have x1 := ok.x1
  have w40 := ok.w2
  clear h ok
  have k13 : ((c.toNat : Int) == 13) = false := by simp; omega
  have k10 : ((c.toNat : Int) == 10) = false := by simp; omega
  have k8 : ((c.toNat : Int) == 8) = false := by simp; omega
  have k27 : ((c.toNat : Int) == 27) = true := by simp; omega
  have f14 := HR.out.f14
  have fr := HR.out.free
  clear hc
  go_enter Tryd.func53, Tryd.ntmps53
  go_wp2_with fail
  go_end0
  have R9 : RefAt (w.setCell ⟨bs, 14, none⟩ (.string ⟨#[27]⟩)) bs bc g cap N (groundR s c) := by rw [HD.out]; exact HR.out.setB _
  exact rpost R9 ((Keep.refl _ w).setCell ⟨bs, 14, none⟩ _ (fun _ => .inl rfl)) (.inl rfl)
set_option maxRecDepth 100000 in
set_option maxHeartbeats 2000000 in
theorem groundPut (bs bc g cap N : Nat) (s : Rs) (c : UInt8) (w : World) (h : RefAt w bs bc g cap N s) (ok : s.Ok) (h1 : 32 ≤ (c.toNat : Int)) (h2 : (c.toNat : Int) ≤ 126) :
    Calls Tryd.prog 53 #[.pointer (some ⟨bs, 0, none⟩), .int .u8 c.toNat] w (RPost bs bc g w (groundR s c) (.tuple #[])) := by
  have HD : Hid (groundR s c = putR s c.toNat) := by
    show groundR s c = putR s c.toNat
    unfold groundR
    rw [if_neg (by omega), if_neg (by omega), if_neg (by omega), if_neg (by omega), if_pos ⟨h1, h2⟩]
  have HR : Hid (RefAt w bs bc g cap N s) := h
  have Hok : Hid s.Ok := ok
  have hc256 : c.toNat < 256 := c.toNat_lt
  have x0 := ok.x0
  have x1 := ok.x1
  have w40 := ok.w2
  clear h ok
  have k13 : ((c.toNat : Int) == 13) = false := by simp; omega
  have k10 : ((c.toNat : Int) == 10) = false := by simp; omega
  have k8 : ((c.toNat : Int) == 8) = false := by simp; omega
  have k27 : ((c.toNat : Int) == 27) = false := by simp; omega
  go_enter Tryd.func53, Tryd.ntmps53
  go_wp2_with fail
  go_at_call 57
  refine (refPut bs bc g cap N s c.toNat _ HR.out Hok.out (by omega) (by omega)).mono ?_
  rintro e w5 ⟨g5, cap5, N5, rfl, R5, K5, hg5⟩
  have R9 : RefAt w5 bs bc g5 cap5 N5 (groundR s c) := by rw [HD.out]; exact R5
  have Hg : Hid (g5 = g ∨ w.heap.size ≤ g5) := hg5
  clear R5 hg5
  go_wp2_with fail
  go_end0
  exact rpost R9 K5 Hg.out
set_option maxRecDepth 100000 in
set_option maxHeartbeats 2000000 in
theorem groundLong (bs bc g cap N : Nat) (s : Rs) (c : UInt8) (w : World) (h : RefAt w bs bc g cap N s) (ok : s.Ok) (h1 : 126 < (c.toNat : Int)) (h2 : 0 < longR c.toNat) :
    Calls Tryd.prog 53 #[.pointer (some ⟨bs, 0, none⟩), .int .u8 c.toNat] w (RPost bs bc g w (groundR s c) (.tuple #[])) := by
  have HD : Hid (groundR s c = { s with B := ⟨#[c]⟩ }) := by
    show groundR s c = { s with B := ⟨#[c]⟩ }
    unfold groundR
    rw [if_neg (by omega), if_neg (by omega), if_neg (by omega), if_neg (by omega), if_neg (by omega), if_pos h2]
  have HR : Hid (RefAt w bs bc g cap N s) := h
  have Hok : Hid s.Ok := ok
  have hc256 : c.toNat < 256 := c.toNat_lt
  have x0 := ok.x0
  have x1 := ok.x1
  have w40 := ok.w2
  clear h ok
  have k13 : ((c.toNat : Int) == 13) = false := by simp; omega
  have k10 : ((c.toNat : Int) == 10) = false := by simp; omega
  have k8 : ((c.toNat : Int) == 8) = false := by simp; omega
  have k27 : ((c.toNat : Int) == 27) = false := by simp; omega
  have f14 := HR.out.f14
  have fr := HR.out.free
  have l := HR.out.lt
  go_enter Tryd.func53, Tryd.ntmps53
  go_wp2_with fail
  go_at_call 55
  refine (refLong c.toNat _ (by omega) (by omega)).mono ?_
  rintro e w' ⟨rfl, hw'⟩
  replace hw' := hw'.symm
  subst hw'
  have hcv := conv_one c (w.alloc (.cells #[.int .u8 c.toNat] 5)) w.heap.size (cell_of_block (heap_new w _) 0)
  go_wp2_with fail
  go_end0
  have R9 : RefAt ((w.setCell ⟨bs, 14, none⟩ (.string ⟨#[c]⟩)).alloc (.cells #[.int .u8 c.toNat] 5)) bs bc g cap N (groundR s c) := by rw [HD.out]; exact (HR.out.setB _).below ((Below.refl _ _).alloc (Nat.le_refl _) _)
  exact rpost R9 (((Keep.refl _ w).setCell ⟨bs, 14, none⟩ _ (fun _ => .inl rfl)).alloc _) (.inl rfl)
set_option maxRecDepth 100000 in
set_option maxHeartbeats 2000000 in
theorem groundOdd1 (bs bc g cap N : Nat) (s : Rs) (c : UInt8) (w : World) (h : RefAt w bs bc g cap N s) (ok : s.Ok) (h1 : (c.toNat : Int) < 32) (n13 : (c.toNat : Int) ≠ 13) (n10 : (c.toNat : Int) ≠ 10) (n8 : (c.toNat : Int) ≠ 8) (n27 : (c.toNat : Int) ≠ 27) :
    Calls Tryd.prog 53 #[.pointer (some ⟨bs, 0, none⟩), .int .u8 c.toNat] w (RPost bs bc g w (groundR s c) (.tuple #[])) := by
  have HD : Hid (groundR s c = oddR s) := by
    show groundR s c = oddR s
    unfold groundR
    rw [if_neg n13, if_neg n10, if_neg n8, if_neg n27, if_neg (by omega), if_neg (by unfold longR; rw [if_neg (by omega), if_neg (by omega), if_neg (by omega)]; decide)]
  have HR : Hid (RefAt w bs bc g cap N s) := h
  have Hok : Hid s.Ok := ok
  have hc256 : c.toNat < 256 := c.toNat_lt
  have x0 := ok.x0
  have x1 := ok.x1
  have w40 := ok.w2
  clear h ok
  have k13 : ((c.toNat : Int) == 13) = false := by simp; omega
  have k10 : ((c.toNat : Int) == 10) = false := by simp; omega
  have k8 : ((c.toNat : Int) == 8) = false := by simp; omega
  have k27 : ((c.toNat : Int) == 27) = false := by simp; omega
  have f15 := HR.out.f15
  have fr := HR.out.free
  have l := HR.out.lt
  have hl : longR c.toNat = 0 := by unfold longR; rw [if_neg (by omega), if_neg (by omega), if_neg (by omega)]
  clear n13 n10 n8 n27
  go_enter Tryd.func53, Tryd.ntmps53
  go_wp2_with fail
  go_at_call 55
  refine (refLong c.toNat _ (by omega) (by omega)).mono ?_
  rintro e w' ⟨rfl, hw'⟩
  replace hw' := hw'.symm
  subst hw'
  go_wp2_with fail
  go_end0
  have R9 : RefAt (w.setCell ⟨bs, 15, none⟩ (.int .i64 (wrap64 (s.odd + 1)))) bs bc g cap N (groundR s c) := by rw [HD.out]; exact HR.out.setOdd _
  exact rpost R9 ((Keep.refl _ w).setCell ⟨bs, 15, none⟩ _ (fun _ => .inl rfl)) (.inl rfl)
set_option maxRecDepth 100000 in
set_option maxHeartbeats 2000000 in
theorem groundOdd2 (bs bc g cap N : Nat) (s : Rs) (c : UInt8) (w : World) (h : RefAt w bs bc g cap N s) (ok : s.Ok) (h1 : 126 < (c.toNat : Int)) (hl : longR c.toNat = 0) :
    Calls Tryd.prog 53 #[.pointer (some ⟨bs, 0, none⟩), .int .u8 c.toNat] w (RPost bs bc g w (groundR s c) (.tuple #[])) := by
  have HD : Hid (groundR s c = oddR s) := by
    show groundR s c = oddR s
    unfold groundR
    rw [if_neg (by omega), if_neg (by omega), if_neg (by omega), if_neg (by omega), if_neg (by omega), if_neg (by rw [hl]; decide)]
  have HR : Hid (RefAt w bs bc g cap N s) := h
  have Hok : Hid s.Ok := ok
  have hc256 : c.toNat < 256 := c.toNat_lt
  have x0 := ok.x0
  have x1 := ok.x1
  have w40 := ok.w2
  clear h ok
  have k13 : ((c.toNat : Int) == 13) = false := by simp; omega
  have k10 : ((c.toNat : Int) == 10) = false := by simp; omega
  have k8 : ((c.toNat : Int) == 8) = false := by simp; omega
  have k27 : ((c.toNat : Int) == 27) = false := by simp; omega
  have f15 := HR.out.f15
  have fr := HR.out.free
  have l := HR.out.lt
  go_enter Tryd.func53, Tryd.ntmps53
  go_wp2_with fail
  go_at_call 55
  refine (refLong c.toNat _ (by omega) (by omega)).mono ?_
  rintro e w' ⟨rfl, hw'⟩
  replace hw' := hw'.symm
  subst hw'
  go_wp2_with fail
  go_end0
  have R9 : RefAt (w.setCell ⟨bs, 15, none⟩ (.int .i64 (wrap64 (s.odd + 1)))) bs bc g cap N (groundR s c) := by rw [HD.out]; exact HR.out.setOdd _
  exact rpost R9 ((Keep.refl _ w).setCell ⟨bs, 15, none⟩ _ (fun _ => .inl rfl)) (.inl rfl)
theorem refGround (bs bc g cap N : Nat) (s : Rs) (c : UInt8) (w : World) (h : RefAt w bs bc g cap N s) (ok : s.Ok) :
    Calls Tryd.prog 53 #[.pointer (some ⟨bs, 0, none⟩), .int .u8 c.toNat] w (RPost bs bc g w (groundR s c) (.tuple #[])) := by
  have hc256 : c.toNat < 256 := c.toNat_lt
  by_cases h13 : (c.toNat : Int) = 13
  · exact ground13 bs bc g cap N s c w h ok h13
  by_cases h10 : (c.toNat : Int) = 10
  · exact ground10 bs bc g cap N s c w h ok h10
  by_cases h8 : (c.toNat : Int) = 8
  · exact ground8 bs bc g cap N s c w h ok h8
  by_cases h27 : (c.toNat : Int) = 27
  · exact ground27 bs bc g cap N s c w h ok h27
  by_cases h1 : (c.toNat : Int) < 32
  · exact groundOdd1 bs bc g cap N s c w h ok h1 h13 h10 h8 h27
  by_cases h2 : (c.toNat : Int) ≤ 126
  · exact groundPut bs bc g cap N s c w h ok (by omega) h2
  by_cases h3 : 0 < longR c.toNat
  · exact groundLong bs bc g cap N s c w h ok (by omega) h3
  · refine groundOdd2 bs bc g cap N s c w h ok (by omega) ?_
    unfold longR at h3 ⊢
    split at h3
    · omega
    · split at h3
      · omega
      · split at h3
        · omega
        · rw [if_neg (by assumption), if_neg (by assumption), if_neg (by assumption)]
end Go.Proofs.YtknhohbepkapdaaDoor

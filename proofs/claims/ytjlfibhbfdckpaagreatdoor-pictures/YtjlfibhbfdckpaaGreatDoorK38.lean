/- Texts of the proof, one behind the other: Dc, RfN, RdM. -/
import Derived.Test.YtjlfibhbfdckpaaGreatDoorK08
import Derived.Test.YtjlfibhbfdckpaaGreatDoorK15
import Derived.Test.YtjlfibhbfdckpaaGreatDoorK28
import Derived.Test.YtjlfibhbfdckpaaGreatDoorChecked
import Derived.WalkSpells
import Derived.WalkLawsBesides
import Derived.Deep.AppendLies
/- A text's letters as the document reads them: plain. -/
namespace Go.Proofs.YtjlfibhbfdckpaaGreatDoor
theorem longR_cases (a : UInt8) (h : 128 ≤ a.toNat) : (longR a.toNat = 0 ∧ (a.toNat < 194 ∨ 244 < a.toNat)) ∨ (longR a.toNat = 2 ∧ 194 ≤ a.toNat ∧ a.toNat ≤ 223) ∨ (longR a.toNat = 3 ∧ 224 ≤ a.toNat ∧ a.toNat ≤ 239) ∨ (longR a.toNat = 4 ∧ 240 ≤ a.toNat ∧ a.toNat ≤ 244) := by
  unfold longR
  have := a.toNat_lt
  repeat' split
  all_goals omega
/-- Decode, as a plain function of the bytes. -/
def decN (n : Nat) (b0 b1 b2 b3 : Nat) : Nat × Nat :=
  if b0 < 128 then (b0, 1)
  else if 1 < n ∧ b0 / 32 = 6 ∧ b1 / 64 = 2 then (if 128 ≤ (b0 % 32) * 64 + b1 % 64 then ((b0 % 32) * 64 + b1 % 64, 2) else (65533, 1))
  else if 2 < n ∧ b0 / 16 = 14 ∧ b1 / 64 = 2 ∧ b2 / 64 = 2 then (if 2048 ≤ (b0 % 16) * 4096 + (b1 % 64) * 64 + b2 % 64 ∧ ¬ (55296 ≤ (b0 % 16) * 4096 + (b1 % 64) * 64 + b2 % 64 ∧ (b0 % 16) * 4096 + (b1 % 64) * 64 + b2 % 64 < 57344) then ((b0 % 16) * 4096 + (b1 % 64) * 64 + b2 % 64, 3) else (65533, 1))
  else if 3 < n ∧ b0 / 8 = 30 ∧ b1 / 64 = 2 ∧ b2 / 64 = 2 ∧ b3 / 64 = 2 then (if 65536 ≤ (b0 % 8) * 262144 + (b1 % 64) * 4096 + (b2 % 64) * 64 + b3 % 64 ∧ (b0 % 8) * 262144 + (b1 % 64) * 4096 + (b2 % 64) * 64 + b3 % 64 < 1114112 then ((b0 % 8) * 262144 + (b1 % 64) * 4096 + (b2 % 64) * 64 + b3 % 64, 4) else (65533, 1))
  else (65533, 1)
set_option maxRecDepth 20000 in
theorem decode_decN (s : ByteArray) (i : Nat) : Utf8.decode s i = decN (s.size - i) (s.get! i).toNat (s.get! (i + 1)).toNat (s.get! (i + 2)).toNat (s.get! (i + 3)).toNat := by
  have e1 : (i + 1 < s.size) ↔ 1 < s.size - i := by omega
  have e2 : (i + 2 < s.size) ↔ 2 < s.size - i := by omega
  have e3 : (i + 3 < s.size) ↔ 3 < s.size - i := by omega
  obtain ⟨b0, hb0⟩ : ∃ b, (s.get! i).toNat = b := ⟨_, rfl⟩
  obtain ⟨b1, hb1⟩ : ∃ b, (s.get! (i + 1)).toNat = b := ⟨_, rfl⟩
  obtain ⟨b2, hb2⟩ : ∃ b, (s.get! (i + 2)).toNat = b := ⟨_, rfl⟩
  obtain ⟨b3, hb3⟩ : ∃ b, (s.get! (i + 3)).toNat = b := ⟨_, rfl⟩
  obtain ⟨n, hn⟩ : ∃ n, s.size - i = n := ⟨_, rfl⟩
  simp only [Utf8.decode, Nat.add_zero, e1, e2, e3, hb0, hb1, hb2, hb3, hn]
  clear e1 e2 e3 hb0 hb1 hb2 hb3 hn
  unfold decN
  by_cases h0 : b0 < 128
  · rw [if_pos h0, if_pos h0]
  rw [if_neg h0, if_neg h0]
  have c1 : ((b0 / 32 == 6 && (decide (1 < n) && b1 / 64 == 2)) = true) ↔ (1 < n ∧ b0 / 32 = 6 ∧ b1 / 64 = 2) := by simp; omega
  have c2 : ((b0 / 16 == 14 && (decide (1 < n) && b1 / 64 == 2) && (decide (2 < n) && b2 / 64 == 2)) = true) ↔ (2 < n ∧ b0 / 16 = 14 ∧ b1 / 64 = 2 ∧ b2 / 64 = 2) := by simp; omega
  have c3 : ((b0 / 8 == 30 && (decide (1 < n) && b1 / 64 == 2) && (decide (2 < n) && b2 / 64 == 2) && (decide (3 < n) && b3 / 64 == 2)) = true) ↔ (3 < n ∧ b0 / 8 = 30 ∧ b1 / 64 = 2 ∧ b2 / 64 = 2 ∧ b3 / 64 = 2) := by simp; omega
  have hre : Utf8.runeError = 65533 := rfl
  have v3 : ∀ c : Nat, ((decide (c ≥ 2048) && Utf8.valid c) = true) ↔ (2048 ≤ c ∧ ¬ (55296 ≤ c ∧ c < 57344) ∧ c < 1114112) := fun c => by unfold Utf8.valid; simp only [Bool.and_eq_true, Bool.or_eq_true, decide_eq_true_eq]; omega
  have v4 : ∀ c : Nat, ((decide (c ≥ 65536) && Utf8.valid c) = true) ↔ (65536 ≤ c ∧ c < 1114112) := fun c => by unfold Utf8.valid; simp only [Bool.and_eq_true, Bool.or_eq_true, decide_eq_true_eq]; omega
  simp only [c1, c2, c3, hre, v3, v4]
  by_cases d1 : 1 < n ∧ b0 / 32 = 6 ∧ b1 / 64 = 2
  · rw [if_pos d1, if_pos d1]
  rw [if_neg d1, if_neg d1]
  by_cases d2 : 2 < n ∧ b0 / 16 = 14 ∧ b1 / 64 = 2 ∧ b2 / 64 = 2
  · rw [if_pos d2, if_pos d2]
    have e : ∀ c : Nat, c < 1114112 → ((2048 ≤ c ∧ ¬ (55296 ≤ c ∧ c < 57344) ∧ c < 1114112) ↔ (2048 ≤ c ∧ ¬ (55296 ≤ c ∧ c < 57344))) := fun c h => by omega
    simp only [e _ (by omega : b0 % 16 * 4096 + b1 % 64 * 64 + b2 % 64 < 1114112)]
  rw [if_neg d2, if_neg d2]
/-- What a text's next letter is, and how long: as the document says. -/
theorem dec_ascii {n b0 b1 b2 b3 : Nat} (h : b0 < 128) : decN n b0 b1 b2 b3 = (b0, 1) := by unfold decN; rw [if_pos h]
theorem dec_none {n b0 b1 b2 b3 : Nat} (h : 128 ≤ b0) (h2 : b0 < 194 ∨ 244 < b0) (h3 : b0 < 256) : decN n b0 b1 b2 b3 = (65533, 1) := by
  unfold decN
  repeat' split
  all_goals first | rfl | (exfalso; omega)
theorem dec_short2 {n b0 b1 b2 b3 : Nat} (h : 194 ≤ b0) (h2 : b0 ≤ 223) (h3 : n < 2 ∨ b1 < 128 ∨ 191 < b1) : decN n b0 b1 b2 b3 = (65533, 1) := by
  unfold decN
  repeat' split
  all_goals first | rfl | (exfalso; omega)
theorem dec_two {n b0 b1 b2 b3 : Nat} (h : 194 ≤ b0) (h2 : b0 ≤ 223) (h3 : 2 ≤ n) (h4 : 128 ≤ b1) (h5 : b1 ≤ 191) : decN n b0 b1 b2 b3 = (64 * (b0 - 192) + (b1 - 128), 2) := by
  unfold decN
  rw [if_neg (by omega), if_pos (by omega), if_pos (by omega)]
  exact congrArg (·, 2) (by omega)
theorem dec_short3 {n b0 b1 b2 b3 : Nat} (h : 224 ≤ b0) (h2 : b0 ≤ 239) (h3 : n < 3 ∨ b1 < (if b0 = 224 then 160 else 128) ∨ (if b0 = 237 then 159 else 191) < b1 ∨ b2 < 128 ∨ 191 < b2) : decN n b0 b1 b2 b3 = (65533, 1) := by
  unfold decN
  rw [if_neg (by omega), if_neg (by omega)]
  split
  · rw [if_neg]
    split at h3 <;> split at h3 <;> omega
  · rw [if_neg (by omega)]
theorem dec_three {n b0 b1 b2 b3 : Nat} (h : 224 ≤ b0) (h2 : b0 ≤ 239) (h3 : 3 ≤ n) (h4 : (if b0 = 224 then 160 else 128) ≤ b1) (h5 : b1 ≤ (if b0 = 237 then 159 else 191)) (h6 : 128 ≤ b2) (h7 : b2 ≤ 191) : decN n b0 b1 b2 b3 = (4096 * (b0 - 224) + 64 * (b1 - 128) + (b2 - 128), 3) := by
  unfold decN
  have a : b1 / 64 = 2 := by split at h4 <;> split at h5 <;> omega
  rw [if_neg (by omega), if_neg (by omega), if_pos (by omega), if_pos]
  · exact congrArg (·, 3) (by omega)
  · split at h4 <;> split at h5 <;> omega
theorem dec_short4 {n b0 b1 b2 b3 : Nat} (h : 240 ≤ b0) (h2 : b0 ≤ 244) (h3 : n < 4 ∨ b1 < (if b0 = 240 then 144 else 128) ∨ (if b0 = 244 then 143 else 191) < b1 ∨ b2 < 128 ∨ 191 < b2 ∨ b3 < 128 ∨ 191 < b3) : decN n b0 b1 b2 b3 = (65533, 1) := by
  unfold decN
  rw [if_neg (by omega), if_neg (by omega), if_neg (by omega)]
  split
  · rw [if_neg]
    split at h3 <;> split at h3 <;> omega
  · rfl
theorem dec_four {n b0 b1 b2 b3 : Nat} (h : 240 ≤ b0) (h2 : b0 ≤ 244) (h3 : 4 ≤ n) (h4 : (if b0 = 240 then 144 else 128) ≤ b1) (h5 : b1 ≤ (if b0 = 244 then 143 else 191)) (h6 : 128 ≤ b2) (h7 : b2 ≤ 191) (h8 : 128 ≤ b3) (h9 : b3 ≤ 191) : decN n b0 b1 b2 b3 = (262144 * (b0 - 240) + 4096 * (b1 - 128) + 64 * (b2 - 128) + (b3 - 128), 4) := by
  unfold decN
  have a : b1 / 64 = 2 := by split at h4 <;> split at h5 <;> omega
  rw [if_neg (by omega), if_neg (by omega), if_neg (by omega), if_pos (by omega), if_pos]
  · exact congrArg (·, 4) (by omega)
  · split at h4 <;> split at h5 <;> omega

end Go.Proofs.YtjlfibhbfdckpaaGreatDoor

/- The document's letters in bytes: long, goesOn, letter. -/
namespace Go.Proofs.YtjlfibhbfdckpaaGreatDoor
open Go.RowKit
theorem refLong (c : Int) (w : World) (c0 : 0 ≤ c) (c1 : c ≤ 255) :
    Calls Tryz.prog 134 #[.int .u8 c] w fun e w' => e = .returned (.int .i64 (longR c)) ∧ w' = w := by
  rcases (by omega : c < 194 ∨ (194 ≤ c ∧ c ≤ 223) ∨ (224 ≤ c ∧ c ≤ 239) ∨ (240 ≤ c ∧ c ≤ 244) ∨ 245 ≤ c) with h | ⟨h, h'⟩ | ⟨h, h'⟩ | ⟨h, h'⟩ | h
  · rw [show longR c = 0 from by unfold longR; rw [if_neg (by omega), if_neg (by omega), if_neg (by omega)]]
    go_enter Tryz.func134, Tryz.ntmps134
    go_wp2
    go_ret
    exact ⟨rfl, rfl⟩
  · rw [show longR c = 2 from by unfold longR; rw [if_pos (by omega)]]
    go_enter Tryz.func134, Tryz.ntmps134
    go_wp2
    go_ret
    exact ⟨rfl, rfl⟩
  · rw [show longR c = 3 from by unfold longR; rw [if_neg (by omega), if_pos (by omega)]]
    go_enter Tryz.func134, Tryz.ntmps134
    go_wp2
    go_ret
    exact ⟨rfl, rfl⟩
  · rw [show longR c = 4 from by unfold longR; rw [if_neg (by omega), if_neg (by omega), if_pos (by omega)]]
    go_enter Tryz.func134, Tryz.ntmps134
    go_wp2
    go_ret
    exact ⟨rfl, rfl⟩
  · rw [show longR c = 0 from by unfold longR; rw [if_neg (by omega), if_neg (by omega), if_neg (by omega)]]
    go_enter Tryz.func134, Tryz.ntmps134
    go_wp2
    go_ret
    exact ⟨rfl, rfl⟩
set_option maxHeartbeats 4000000 in
theorem refGoesOn1 (a : UInt8) (c : Int) (w : World) (c0 : 0 ≤ c) (c1 : c ≤ 255) :
    Calls Tryz.prog 135 #[.string ⟨#[a]⟩, .int .u8 c] w fun e w' => e = .returned (.bool (goesOnB [a] c)) ∧ w' = w := by
  have ha : a.toNat < 256 := a.toNat_lt
  have e0 : (({ data := #[a] } : ByteArray)[0]'(Nat.one_pos)).toNat = a.toNat := rfl
  rcases (by omega : (a.toNat : Int) = 224 ∨ (a.toNat : Int) = 237 ∨ (a.toNat : Int) = 240 ∨ (a.toNat : Int) = 244 ∨ ((a.toNat : Int) ≠ 224 ∧ (a.toNat : Int) ≠ 237 ∧ (a.toNat : Int) ≠ 240 ∧ (a.toNat : Int) ≠ 244)) with q | q | q | q | ⟨q1, q2, q3, q4⟩
  · have hg : goesOnB [a] c = (decide (160 ≤ c) && decide (c ≤ 191)) := by simp only [goesOnB, lowR, highR, q]; simp
    rw [hg]; clear hg
    rcases (by omega : c < 160 ∨ (160 ≤ c ∧ c ≤ 191) ∨ 191 < c) with h | ⟨h, h'⟩ | h
    · rw [show (decide (160 ≤ c) && decide (c ≤ 191)) = false from by simp; omega]
      go_enter Tryz.func135, Tryz.ntmps135
      go_wp2
      go_ret
      exact ⟨by first | rfl | (simp; omega), rfl⟩
    · rw [show (decide (160 ≤ c) && decide (c ≤ 191)) = true from by simp; omega]
      go_enter Tryz.func135, Tryz.ntmps135
      go_wp2
      go_ret
      exact ⟨by first | rfl | (simp; omega), rfl⟩
    · rw [show (decide (160 ≤ c) && decide (c ≤ 191)) = false from by simp; omega]
      go_enter Tryz.func135, Tryz.ntmps135
      go_wp2
      go_ret
      exact ⟨by first | rfl | (simp; omega), rfl⟩
  · have hg : goesOnB [a] c = (decide (128 ≤ c) && decide (c ≤ 159)) := by simp only [goesOnB, lowR, highR, q]; simp
    rw [hg]; clear hg
    rcases (by omega : c < 128 ∨ (128 ≤ c ∧ c ≤ 159) ∨ 159 < c) with h | ⟨h, h'⟩ | h
    · rw [show (decide (128 ≤ c) && decide (c ≤ 159)) = false from by simp; omega]
      go_enter Tryz.func135, Tryz.ntmps135
      go_wp2
      go_ret
      exact ⟨by first | rfl | (simp; omega), rfl⟩
    · rw [show (decide (128 ≤ c) && decide (c ≤ 159)) = true from by simp; omega]
      go_enter Tryz.func135, Tryz.ntmps135
      go_wp2
      go_ret
      exact ⟨by first | rfl | (simp; omega), rfl⟩
    · rw [show (decide (128 ≤ c) && decide (c ≤ 159)) = false from by simp; omega]
      go_enter Tryz.func135, Tryz.ntmps135
      go_wp2
      go_ret
      exact ⟨by first | rfl | (simp; omega), rfl⟩
  · have hg : goesOnB [a] c = (decide (144 ≤ c) && decide (c ≤ 191)) := by simp only [goesOnB, lowR, highR, q]; simp
    rw [hg]; clear hg
    rcases (by omega : c < 144 ∨ (144 ≤ c ∧ c ≤ 191) ∨ 191 < c) with h | ⟨h, h'⟩ | h
    · rw [show (decide (144 ≤ c) && decide (c ≤ 191)) = false from by simp; omega]
      go_enter Tryz.func135, Tryz.ntmps135
      go_wp2
      go_ret
      exact ⟨by first | rfl | (simp; omega), rfl⟩
    · rw [show (decide (144 ≤ c) && decide (c ≤ 191)) = true from by simp; omega]
      go_enter Tryz.func135, Tryz.ntmps135
      go_wp2
      go_ret
      exact ⟨by first | rfl | (simp; omega), rfl⟩
    · rw [show (decide (144 ≤ c) && decide (c ≤ 191)) = false from by simp; omega]
      go_enter Tryz.func135, Tryz.ntmps135
      go_wp2
      go_ret
      exact ⟨by first | rfl | (simp; omega), rfl⟩
  · have hg : goesOnB [a] c = (decide (128 ≤ c) && decide (c ≤ 143)) := by simp only [goesOnB, lowR, highR, q]; simp
    rw [hg]; clear hg
    rcases (by omega : c < 128 ∨ (128 ≤ c ∧ c ≤ 143) ∨ 143 < c) with h | ⟨h, h'⟩ | h
    · rw [show (decide (128 ≤ c) && decide (c ≤ 143)) = false from by simp; omega]
      go_enter Tryz.func135, Tryz.ntmps135
      go_wp2
      go_ret
      exact ⟨by first | rfl | (simp; omega), rfl⟩
    · rw [show (decide (128 ≤ c) && decide (c ≤ 143)) = true from by simp; omega]
      go_enter Tryz.func135, Tryz.ntmps135
      go_wp2
      go_ret
      exact ⟨by first | rfl | (simp; omega), rfl⟩
    · rw [show (decide (128 ≤ c) && decide (c ≤ 143)) = false from by simp; omega]
      go_enter Tryz.func135, Tryz.ntmps135
      go_wp2
      go_ret
      exact ⟨by first | rfl | (simp; omega), rfl⟩
  · have hg : goesOnB [a] c = (decide (128 ≤ c) && decide (c ≤ 191)) := by simp only [goesOnB, lowR, highR, q1, q2, q3, q4, if_false]
    rw [hg]; clear hg
    have b1 : ((a.toNat : Int) == 224) = false := by simpa using q1
    have b2 : ((a.toNat : Int) == 237) = false := by simpa using q2
    have b3 : ((a.toNat : Int) == 240) = false := by simpa using q3
    have b4 : ((a.toNat : Int) == 244) = false := by simpa using q4
    clear q1 q2 q3 q4
    rcases (by omega : c < 128 ∨ (128 ≤ c ∧ c ≤ 191) ∨ 191 < c) with h | ⟨h, h'⟩ | h
    · rw [show (decide (128 ≤ c) && decide (c ≤ 191)) = false from by simp; omega]
      go_enter Tryz.func135, Tryz.ntmps135
      go_wp2
      go_ret
      exact ⟨by first | rfl | (simp; omega), rfl⟩
    · rw [show (decide (128 ≤ c) && decide (c ≤ 191)) = true from by simp; omega]
      go_enter Tryz.func135, Tryz.ntmps135
      go_wp2
      go_ret
      exact ⟨by first | rfl | (simp; omega), rfl⟩
    · rw [show (decide (128 ≤ c) && decide (c ≤ 191)) = false from by simp; omega]
      go_enter Tryz.func135, Tryz.ntmps135
      go_wp2
      go_ret
      exact ⟨by first | rfl | (simp; omega), rfl⟩
set_option maxHeartbeats 1000000 in
theorem refGoesOn2 (a b : UInt8) (c : Int) (w : World) (c0 : 0 ≤ c) (c1 : c ≤ 255) :
    Calls Tryz.prog 135 #[.string ⟨#[a, b]⟩, .int .u8 c] w fun e w' => e = .returned (.bool (goesOnB [a, b] c)) ∧ w' = w := by
  have hg : goesOnB [a, b] c = (decide (128 ≤ c) && decide (c ≤ 191)) := rfl
  rw [hg]; clear hg
  rcases (by omega : c < 128 ∨ (128 ≤ c ∧ c ≤ 191) ∨ 191 < c) with h | ⟨h, h'⟩ | h
  · rw [show (decide (128 ≤ c) && decide (c ≤ 191)) = false from by simp; omega]
    go_enter Tryz.func135, Tryz.ntmps135
    go_wp2
    go_ret
    exact ⟨by first | rfl | (simp; omega), rfl⟩
  · rw [show (decide (128 ≤ c) && decide (c ≤ 191)) = true from by simp; omega]
    go_enter Tryz.func135, Tryz.ntmps135
    go_wp2
    go_ret
    exact ⟨by first | rfl | (simp; omega), rfl⟩
  · rw [show (decide (128 ≤ c) && decide (c ≤ 191)) = false from by simp; omega]
    go_enter Tryz.func135, Tryz.ntmps135
    go_wp2
    go_ret
    exact ⟨by first | rfl | (simp; omega), rfl⟩
set_option maxHeartbeats 1000000 in
theorem refGoesOn3 (a b d : UInt8) (c : Int) (w : World) (c0 : 0 ≤ c) (c1 : c ≤ 255) :
    Calls Tryz.prog 135 #[.string ⟨#[a, b, d]⟩, .int .u8 c] w fun e w' => e = .returned (.bool (goesOnB [a, b, d] c)) ∧ w' = w := by
  have hg : goesOnB [a, b, d] c = (decide (128 ≤ c) && decide (c ≤ 191)) := rfl
  rw [hg]; clear hg
  rcases (by omega : c < 128 ∨ (128 ≤ c ∧ c ≤ 191) ∨ 191 < c) with h | ⟨h, h'⟩ | h
  · rw [show (decide (128 ≤ c) && decide (c ≤ 191)) = false from by simp; omega]
    go_enter Tryz.func135, Tryz.ntmps135
    go_wp2
    go_ret
    exact ⟨by first | rfl | (simp; omega), rfl⟩
  · rw [show (decide (128 ≤ c) && decide (c ≤ 191)) = true from by simp; omega]
    go_enter Tryz.func135, Tryz.ntmps135
    go_wp2
    go_ret
    exact ⟨by first | rfl | (simp; omega), rfl⟩
  · rw [show (decide (128 ≤ c) && decide (c ≤ 191)) = false from by simp; omega]
    go_enter Tryz.func135, Tryz.ntmps135
    go_wp2
    go_ret
    exact ⟨by first | rfl | (simp; omega), rfl⟩
set_option maxHeartbeats 2000000 in
theorem refLetter2 (a b : UInt8) (w : World) (h1 : 194 ≤ a.toNat) (h2 : a.toNat ≤ 223) (l1 : 128 ≤ b.toNat) (u1 : b.toNat ≤ 191) :
    Calls Tryz.prog 136 #[.string ⟨#[a, b]⟩] w fun e w' => e = .returned (.int .i32 (letterR [a, b])) ∧ w' = w := by
  have e0 : (({ data := #[a, b] } : ByteArray)[0]'(show 0 < 2 by decide)).toNat = a.toNat := rfl
  have e1 : (({ data := #[a, b] } : ByteArray)[1]'(show 1 < 2 by decide)).toNat = b.toNat := rfl
  go_enter Tryz.func136, Tryz.ntmps136
  go_wp2_with fail
  refine wp_loop_rounds 2 ?_
  rw [rounds_succ]
  go_wp2_with fail
  rw [rounds_succ]
  go_wp2_with fail
  go_ret
  exact ⟨rfl, rfl⟩
set_option maxHeartbeats 2000000 in
theorem refLetter3 (a b c : UInt8) (w : World) (h1 : 224 ≤ a.toNat) (h2 : a.toNat ≤ 239) (l1 : 128 ≤ b.toNat) (u1 : b.toNat ≤ 191) (l2 : 128 ≤ c.toNat) (u2 : c.toNat ≤ 191) :
    Calls Tryz.prog 136 #[.string ⟨#[a, b, c]⟩] w fun e w' => e = .returned (.int .i32 (letterR [a, b, c])) ∧ w' = w := by
  have e0 : (({ data := #[a, b, c] } : ByteArray)[0]'(show 0 < 3 by decide)).toNat = a.toNat := rfl
  have e1 : (({ data := #[a, b, c] } : ByteArray)[1]'(show 1 < 3 by decide)).toNat = b.toNat := rfl
  have e2 : (({ data := #[a, b, c] } : ByteArray)[2]'(show 2 < 3 by decide)).toNat = c.toNat := rfl
  go_enter Tryz.func136, Tryz.ntmps136
  go_wp2_with fail
  refine wp_loop_rounds 3 ?_
  rw [rounds_succ]
  go_wp2_with fail
  rw [rounds_succ]
  go_wp2_with fail
  rw [rounds_succ]
  go_wp2_with fail
  go_ret
  exact ⟨rfl, rfl⟩
set_option maxHeartbeats 2000000 in
theorem refLetter4 (a b c d : UInt8) (w : World) (h1 : 240 ≤ a.toNat) (h2 : a.toNat ≤ 244) (l1 : 128 ≤ b.toNat) (u1 : b.toNat ≤ 191) (l2 : 128 ≤ c.toNat) (u2 : c.toNat ≤ 191) (l3 : 128 ≤ d.toNat) (u3 : d.toNat ≤ 191) :
    Calls Tryz.prog 136 #[.string ⟨#[a, b, c, d]⟩] w fun e w' => e = .returned (.int .i32 (letterR [a, b, c, d])) ∧ w' = w := by
  have e0 : (({ data := #[a, b, c, d] } : ByteArray)[0]'(show 0 < 4 by decide)).toNat = a.toNat := rfl
  have e1 : (({ data := #[a, b, c, d] } : ByteArray)[1]'(show 1 < 4 by decide)).toNat = b.toNat := rfl
  have e2 : (({ data := #[a, b, c, d] } : ByteArray)[2]'(show 2 < 4 by decide)).toNat = c.toNat := rfl
  have e3 : (({ data := #[a, b, c, d] } : ByteArray)[3]'(show 3 < 4 by decide)).toNat = d.toNat := rfl
  go_enter Tryz.func136, Tryz.ntmps136
  go_wp2_with fail
  refine wp_loop_rounds 4 ?_
  rw [rounds_succ]
  go_wp2_with fail
  rw [rounds_succ]
  go_wp2_with fail
  rw [rounds_succ]
  go_wp2_with fail
  rw [rounds_succ]
  go_wp2_with fail
  go_ret
  exact ⟨rfl, rfl⟩
end Go.Proofs.YtjlfibhbfdckpaaGreatDoor

/- The document's desk: the letters of a text. -/
namespace Go.Proofs.YtjlfibhbfdckpaaGreatDoor
open Go.RowKit
open Wd (wd)
attribute [local go_sem ↓] Go.wp_at_zero Go.wp_at_succ
theorem ext_of (s : ByteArray) (i n : Nat) (l : List UInt8) (hl : l.length = n) (_h : i + n ≤ s.size) (hv : ∀ k (hk : k < n), s[i + k]? = some (l[k]'(by omega))) : s.extract i (i + n) = ⟨l.toArray⟩ := by
  apply ByteArray.ext
  rw [ByteArray.data_extract]
  apply Array.toList_inj.1
  have hs : s.data.toList.length = s.size := rfl
  rw [Array.toList_extract, List.extract_eq_take_drop, show i + n - i = n by omega]
  apply List.ext_getElem?
  intro k
  by_cases hk : k < n
  · rw [List.getElem?_take_of_lt hk, List.getElem?_drop]
    have := hv k hk
    have e : s[i + k]? = s.data.toList[i + k]? := by
      rw [Array.getElem?_toList]
      rfl
    rw [← e, this]
    simp [hl, hk]
  · rw [List.getElem?_eq_none (by simp; omega), List.getElem?_eq_none (by simp; omega)]
theorem ext1 (s : ByteArray) (i : Nat) (h : i < s.size) : s.extract i (i + 1) = ⟨#[s[i]]⟩ := by
  refine ext_of s i 1 [s[i]] rfl (by omega) (fun k hk => ?_)
  obtain rfl : k = 0 := by omega
  simp [getElem?_pos, h]
theorem ext2 (s : ByteArray) (i : Nat) (h : i + 1 < s.size) : s.extract i (i + 2) = ⟨#[s[i], s[i + 1]]⟩ := by
  refine ext_of s i 2 [s[i], s[i + 1]] rfl (by omega) (fun k hk => ?_)
  match k, hk with
  | 0, _ => simp [getElem?_pos, show i < s.size by omega]
  | 1, _ => simp [getElem?_pos, h]
theorem ext3 (s : ByteArray) (i : Nat) (h : i + 2 < s.size) : s.extract i (i + 3) = ⟨#[s[i], s[i + 1], s[i + 2]]⟩ := by
  refine ext_of s i 3 [s[i], s[i + 1], s[i + 2]] rfl (by omega) (fun k hk => ?_)
  match k, hk with
  | 0, _ => simp [getElem?_pos, show i < s.size by omega]
  | 1, _ => simp [getElem?_pos, show i + 1 < s.size by omega]
  | 2, _ => simp [getElem?_pos, h]
theorem ext4 (s : ByteArray) (i : Nat) (h : i + 3 < s.size) : s.extract i (i + 4) = ⟨#[s[i], s[i + 1], s[i + 2], s[i + 3]]⟩ := by
  refine ext_of s i 4 [s[i], s[i + 1], s[i + 2], s[i + 3]] rfl (by omega) (fun k hk => ?_)
  match k, hk with
  | 0, _ => simp [getElem?_pos, show i < s.size by omega]
  | 1, _ => simp [getElem?_pos, show i + 1 < s.size by omega]
  | 2, _ => simp [getElem?_pos, show i + 2 < s.size by omega]
  | 3, _ => simp [getElem?_pos, h]
theorem get_bang (s : ByteArray) (i : Nat) (h : i < s.size) : s.get! i = s[i] := by
  unfold ByteArray.get!
  exact getElem!_pos s.data i h

theorem info_rune_zero : (Tryz.prog.info? 21).bind (·.zero) = some (.int .i32 0) := by kernel_rfl
theorem info_rune_size : (Tryz.prog.info? 21).map (·.size) = some 1 := by kernel_rfl
theorem info_rune_bytes : (Tryz.prog.info? 21).map (·.bytes) = some 4 := by kernel_rfl
theorem info_rune : ∃ i : TypeInfo, Tryz.prog.info? 21 = some i ∧ i.zero = some (.int .i32 0) ∧ i.size = 1 ∧ i.bytes = 4 := by
  have h1 := info_rune_zero
  have h2 := info_rune_size
  have h3 := info_rune_bytes
  cases h : Tryz.prog.info? 21 with
  | none => rw [h] at h2; simp at h2
  | some i => rw [h] at h1 h2 h3; exact ⟨i, rfl, by simpa using h1, by simpa using h2, by simpa using h3⟩
def rvals (l : List Int) : List Value := l.map (Value.int .i32)
theorem list_append_rune {ops : Array Oper} {rest : List Oper} {o : Oper} {a : Act} {Q : Exit → Act → World → Prop} (w : World) (hgd : o.guard = none) (s x : Operand)
    (ho : o.op = .call { callee := .builtin .append, args := #[s, x], argTypes := #[63, 63] }) (base : Nat) (v : Value) (l : List Int) (c : Int) (k : Nat) (hk : l.length = k) (hs : a.eval s = v)
    (hown : w.ownsRow base 21 1 v k (rvals l)) (b : Nat) (hx : a.eval x = .slice (some ⟨b, 0, none⟩) 1 1) (hb : w.heap[b]? = some (.cells #[.int .i32 c] 21)) (hL : k ≤ 1000000000000) (hbase : base ≤ w.heap.size)
    (h : ∀ g cap w', w'.ownsRow base 21 1 (.slice (some ⟨g, 0, none⟩) (k + 1) cap) (k + 1) (rvals (l ++ [c])) → w.grownBy w' v.ownBlock → (v.ownBlock = some g ∨ g = w.heap.size) → g < w'.heap.size → wpList Tryz.prog ops Q rest (a.put o.dst (.slice (some ⟨g, 0, none⟩) (k + 1) cap)) w') :
    wpList Tryz.prog ops Q (o :: rest) a w := by
  obtain ⟨ti, i1, i2, i3, i4⟩ := info_rune
  refine wpList_append_lies w hgd s x 63 ho base 21 ti _ 1 4 Tryz.underlying63 i1 i2 i3 i4 rfl (by decide) v k (rvals l) hs hown ⟨b, 0, none⟩ 1 1 [.int .i32 c] hx rfl (World.news_of_block hb) (by simp [Value.oneCell']) (by decide) (by unfold maxLen; omega) (by omega) hbase w.heap.size rfl ?_
  intro g cap w' h1 h2 h3 h4
  have e : rvals l ++ [.int .i32 c] = rvals (l ++ [c]) := by simp [rvals]
  rw [e] at h1
  exact h g cap w' h1 h2 h3 h4
theorem rrow_cell {w : World} {base g n cap : Nat} {l : List Int} {t : TypeId} (h : w.ownsRow base t 1 (.slice (some ⟨g, 0, none⟩) n cap) n (rvals l)) (i : Nat) (c : Int) (hi : l[i]? = some c) : w.cell? ⟨g, i, none⟩ = some (.int .i32 c) := by
  obtain ⟨hl, h | ⟨g', cap', cur, hv, hb, hg, hn, hm, hs, ht⟩⟩ := h
  · simp at h
  · obtain ⟨rfl, rfl⟩ : g = g' ∧ cap = cap' := by simpa using hv
    have hil : i < l.length := (List.getElem?_eq_some_iff.1 hi).1
    have hll : (rvals l).length = l.length := by simp [rvals]
    rw [cell_of_block hg]
    have e : (rvals l)[i]? = some (.int .i32 c) := by unfold rvals; rw [List.getElem?_map, hi]; rfl
    rw [← ht, List.getElem?_take_of_lt (by omega), Array.getElem?_toList] at e
    exact e
/-- What the loop of letters knows. -/
structure Let (s : ByteArray) (w : World) (u : Value) (pos f : Nat) (rs : List Int) (w' : World) : Prop where
  le : pos ≤ s.size
  row : w'.ownsRow w.heap.size 21 1 u rs.length (rvals rs)
  all : rs ++ runesG s f pos = runesG s s.size 0
  fuel : s.size ≤ pos + f
  short : rs.length ≤ pos
  bel : Below w.heap.size w w'
/-- The letter that is written. -/
def seenR (r : Int) : Int := if wd r = 0 then 65533 else r
theorem Let.step {s : ByteArray} {w w' w2 : World} {u u2 : Value} {pos f : Nat} {rs : List Int} (h : Let s w u pos f rs w') (hlt : pos < s.size) {r : Int} {n : Nat} (hd : ((Utf8.decode s pos).1 : Int) = r ∧ (Utf8.decode s pos).2 = n)
    (hr : w2.ownsRow w.heap.size 21 1 u2 (rs.length + 1) (rvals (rs ++ [seenR r]))) (hb : Below w.heap.size w w2) (hn : pos + n ≤ s.size) : ∃ f' rs', Let s w u2 (pos + n) f' rs' w2 := by
  obtain ⟨f, rfl⟩ : ∃ f', f = f' + 1 := ⟨f - 1, by have := h.fuel; omega⟩
  have hn1 := width_pos s pos hlt
  rw [hd.2] at hn1
  have e := h.all
  rw [runesG_cons s f hlt, hd.1, hd.2] at e
  refine ⟨f, rs ++ [seenR r], hn, by rw [List.length_append]; exact hr, ?_, by have := h.fuel; omega, by rw [List.length_append]; have := h.short; simp; omega, hb⟩
  rw [List.append_assoc]
  exact e
theorem dec_at (s : ByteArray) (pos n b0 b1 b2 b3 : Nat) (hn : s.size - pos = n) (h0 : (s.get! pos).toNat = b0) (h1 : (s.get! (pos + 1)).toNat = b1) (h2 : (s.get! (pos + 2)).toNat = b2) (h3 : (s.get! (pos + 3)).toNat = b3) : Utf8.decode s pos = decN n b0 b1 b2 b3 := by
  rw [decode_decN, hn, h0, h1, h2, h3]
end Go.Proofs.YtjlfibhbfdckpaaGreatDoor

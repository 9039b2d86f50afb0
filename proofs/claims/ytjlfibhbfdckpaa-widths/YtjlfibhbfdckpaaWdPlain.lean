/- The width of a letter: plain mathematics. -/
import Derived.WalkKit
namespace Go.Proofs.Ytjlfibhbfdckpaa.Wd
/-- Is n from a to b? -/
def inB (n a b : Int) : Bool := decide (a ≤ n) && decide (n ≤ b)
theorem inB_t {n a b : Int} (h1 : a ≤ n) (h2 : n ≤ b) : inB n a b = true := by simp [inB, h1, h2]
theorem inB_l {n a b : Int} (h1 : n < a) : inB n a b = false := by simp [inB]; omega
theorem inB_r {n a b : Int} (h1 : b < n) : inB n a b = false := by simp [inB]; omega
theorem inB_iff {n a b : Int} : inB n a b = true ↔ a ≤ n ∧ n ≤ b := by simp [inB]
theorem inB_not {n a b : Int} : inB n a b = false ↔ n < a ∨ b < n := by simp [inB]; omega
def validB (n : Int) : Bool := inB n 0 55295 || inB n 57344 1114111
def zeroB (n : Int) : Bool := !validB n || decide (n < 32) || inB n 127 159 || inB n 768 879 || inB n 8203 8207
def wideB (n : Int) : Bool := inB n 4352 4447 || inB n 11904 42191 || inB n 44032 55203 || inB n 63744 64255 || inB n 65072 65103 || inB n 65280 65376 || inB n 65504 65510 || inB n 127744 128591 || inB n 131072 262141
/-- The width. -/
def wd (n : Int) : Int := if zeroB n then 0 else if wideB n then 2 else 1
theorem wd_cases (n : Int) : wd n = 0 ∨ wd n = 1 ∨ wd n = 2 := by
  unfold wd
  cases zeroB n <;> cases wideB n <;> simp
theorem valid_cases (n : Int) : (0 ≤ n ∧ n < 55296 ∧ validB n = true) ∨ (57343 < n ∧ n ≤ 1114111 ∧ validB n = true) ∨ (n < 0 ∧ validB n = false) ∨ (55296 ≤ n ∧ n ≤ 57343 ∧ validB n = false) ∨ (1114111 < n ∧ validB n = false) := by
  have a := @inB_iff n 0 55295
  have b := @inB_iff n 57344 1114111
  unfold validB
  cases h1 : inB n 0 55295 <;> cases h2 : inB n 57344 1114111 <;> simp [h1, h2] at a b ⊢ <;> omega
theorem zero_cases (n : Int) : (validB n = false ∧ zeroB n = true) ∨ (validB n = true ∧ n < 32 ∧ zeroB n = true) ∨ (validB n = true ∧ 32 ≤ n ∧ inB n 127 159 = true ∧ zeroB n = true)
    ∨ (validB n = true ∧ 32 ≤ n ∧ inB n 127 159 = false ∧ inB n 768 879 = true ∧ zeroB n = true) ∨ (validB n = true ∧ 32 ≤ n ∧ inB n 127 159 = false ∧ inB n 768 879 = false ∧ inB n 8203 8207 = true ∧ zeroB n = true)
    ∨ (validB n = true ∧ 32 ≤ n ∧ inB n 127 159 = false ∧ inB n 768 879 = false ∧ inB n 8203 8207 = false ∧ zeroB n = false) := by
  unfold zeroB
  by_cases h0 : n < 32
  · cases validB n <;> simp [h0]
  · have h0' : 32 ≤ n := by omega
    cases validB n <;> cases inB n 127 159 <;> cases inB n 768 879 <;> cases inB n 8203 8207 <;> simp [h0, h0']
theorem wide_cases (n : Int) : (inB n 4352 4447 = true ∧ wideB n = true)
    ∨ (inB n 4352 4447 = false ∧ inB n 11904 42191 = true ∧ wideB n = true)
    ∨ (inB n 4352 4447 = false ∧ inB n 11904 42191 = false ∧ inB n 44032 55203 = true ∧ wideB n = true)
    ∨ (inB n 4352 4447 = false ∧ inB n 11904 42191 = false ∧ inB n 44032 55203 = false ∧ inB n 63744 64255 = true ∧ wideB n = true)
    ∨ (inB n 4352 4447 = false ∧ inB n 11904 42191 = false ∧ inB n 44032 55203 = false ∧ inB n 63744 64255 = false ∧ inB n 65072 65103 = true ∧ wideB n = true)
    ∨ (inB n 4352 4447 = false ∧ inB n 11904 42191 = false ∧ inB n 44032 55203 = false ∧ inB n 63744 64255 = false ∧ inB n 65072 65103 = false ∧ inB n 65280 65376 = true ∧ wideB n = true)
    ∨ (inB n 4352 4447 = false ∧ inB n 11904 42191 = false ∧ inB n 44032 55203 = false ∧ inB n 63744 64255 = false ∧ inB n 65072 65103 = false ∧ inB n 65280 65376 = false ∧ inB n 65504 65510 = true ∧ wideB n = true)
    ∨ (inB n 4352 4447 = false ∧ inB n 11904 42191 = false ∧ inB n 44032 55203 = false ∧ inB n 63744 64255 = false ∧ inB n 65072 65103 = false ∧ inB n 65280 65376 = false ∧ inB n 65504 65510 = false ∧ inB n 127744 128591 = true ∧ wideB n = true)
    ∨ (inB n 4352 4447 = false ∧ inB n 11904 42191 = false ∧ inB n 44032 55203 = false ∧ inB n 63744 64255 = false ∧ inB n 65072 65103 = false ∧ inB n 65280 65376 = false ∧ inB n 65504 65510 = false ∧ inB n 127744 128591 = false ∧ inB n 131072 262141 = true ∧ wideB n = true)
    ∨ (inB n 4352 4447 = false ∧ inB n 11904 42191 = false ∧ inB n 44032 55203 = false ∧ inB n 63744 64255 = false ∧ inB n 65072 65103 = false ∧ inB n 65280 65376 = false ∧ inB n 65504 65510 = false ∧ inB n 127744 128591 = false ∧ inB n 131072 262141 = false ∧ wideB n = false) := by
  cases h0 : inB n 4352 4447 with
  | true => simp [wideB, h0]
  | false =>
   cases h1 : inB n 11904 42191 with
   | true => simp [wideB, h0, h1]
   | false =>
    cases h2 : inB n 44032 55203 with
    | true => simp [wideB, h0, h1, h2]
    | false =>
     cases h3 : inB n 63744 64255 with
     | true => simp [wideB, h0, h1, h2, h3]
     | false =>
      cases h4 : inB n 65072 65103 with
      | true => simp [wideB, h0, h1, h2, h3, h4]
      | false =>
       cases h5 : inB n 65280 65376 with
       | true => simp [wideB, h0, h1, h2, h3, h4, h5]
       | false =>
        cases h6 : inB n 65504 65510 with
        | true => simp [wideB, h0, h1, h2, h3, h4, h5, h6]
        | false =>
         cases h7 : inB n 127744 128591 with
         | true => simp [wideB, h0, h1, h2, h3, h4, h5, h6, h7]
         | false =>
          cases h8 : inB n 131072 262141 with
          | true => simp [wideB, h0, h1, h2, h3, h4, h5, h6, h7, h8]
          | false =>
           simp [wideB, h0, h1, h2, h3, h4, h5, h6, h7, h8]
/-- The document's two tables. -/
def zeroL : List (Int × Int) := [(127, 159), (768, 879), (8203, 8207), (55296, 57343)]
def wideL : List (Int × Int) := [(4352, 4447), (11904, 42191), (44032, 55203), (63744, 64255), (65072, 65103), (65280, 65376), (65504, 65510), (127744, 128591), (131072, 262141)]
def anyB (n : Int) (l : List (Int × Int)) : Bool := l.any fun p => inB n p.1 p.2
theorem wide_any (n : Int) : anyB n wideL = wideB n := by
  simp [anyB, wideL, wideB, Bool.or_assoc]
theorem zero_any (n : Int) : zeroB n = (decide (n < 32) || decide (1114111 < n) || anyB n zeroL) := by
  rw [Bool.eq_iff_iff]
  simp [anyB, zeroL, zeroB, validB, inB]
  omega
theorem any_step (n : Int) (l : List (Int × Int)) (k : Nat) (a b : Int) (h : l[k]? = some (a, b)) (h1 : anyB n (l.take k) = false) (h2 : inB n a b = false) : anyB n (l.take (k + 1)) = false := by
  rw [List.take_add_one, h]
  simp only [anyB, List.any_append, Option.toList, List.any_cons, List.any_nil, Bool.or_false] at *
  simp [h1, h2]
theorem any_hit (n : Int) (l : List (Int × Int)) (k : Nat) (a b : Int) (h : l[k]? = some (a, b)) (h2 : inB n a b = true) : anyB n l = true := by
  simp only [anyB, List.any_eq_true]
  exact ⟨(a, b), List.mem_of_getElem? h, h2⟩
theorem wd_zero (n : Int) (h : anyB n zeroL = true) : wd n = 0 := by simp [wd, zero_any, h]
theorem wd_two (n : Int) (h1 : 32 ≤ n) (h2 : n ≤ 1114111) (h : anyB n zeroL = false) (h3 : anyB n wideL = true) : wd n = 2 := by
  have a : ¬ n < 32 := by omega
  have b : ¬ 1114111 < n := by omega
  rw [wide_any] at h3
  simp [wd, zero_any, h, a, b, h3]
theorem wd_one (n : Int) (h1 : 32 ≤ n) (h2 : n ≤ 1114111) (h : anyB n zeroL = false) (h3 : anyB n wideL = false) : wd n = 1 := by
  have a : ¬ n < 32 := by omega
  have b : ¬ 1114111 < n := by omega
  rw [wide_any] at h3
  simp [wd, zero_any, h, a, b, h3]
end Go.Proofs.Ytjlfibhbfdckpaa.Wd

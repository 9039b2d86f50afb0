/- Texts of the proof, one behind the other: FwB, FwC, FwD, FwE. -/
import Derived.Test.YtjlfibhbfdckpaaGreatDoorK02
import Derived.Test.YtjlfibhbfdckpaaGreatDoorK04
import Derived.Test.YtjlfibhbfdckpaaGreatDoorK06
import Derived.Test.YtjlfibhbfdckpaaGreatDoorK18
import Derived.Deep.RegionLaw
import Derived.Deep.AppendLies
import Derived.Deep.RegionHeld3
/- Flush: sequences: count, sequence, along, place. -/
namespace Go.Proofs.YtjlfibhbfdckpaaGreatDoor
open Go.RowKit
attribute [local go_sem ↓] Go.wp_at_zero Go.wp_at_succ
/-- Bytes as a string. -/
abbrev bstr (l : List UInt8) : Value := .string ⟨l.toArray⟩
theorem qCount1 (w : World) : Calls Tryz.prog 218 #[.int .i64 1] w fun e w' => e = .returned (bstr (tokB (cntT 1))) ∧ w' = w := by
  go_enter Tryz.func218, Tryz.ntmps218
  go_wp2
  go_ret
  exact ⟨rfl, rfl⟩
theorem qCount (n : Int) (h0 : 0 ≤ n) (h1 : n < 100) (w : World) : Calls Tryz.prog 218 #[.int .i64 n] w fun e w' => e = .returned (bstr (tokB (cntT n))) ∧ w' = w := by
  by_cases h : n = 1
  · subst h; exact qCount1 w
  · obtain ⟨m, rfl⟩ := Int.eq_ofNat_of_zero_le h0
    have hm : m < 100 := by omega
    have hc := Tryz.strconv_Itoa_small m hm
    have ht : tokB (cntT (m : Int)) = Lib.decDigits m := by unfold cntT; rw [if_neg h]; rfl
    rw [ht]
    go_enter Tryz.func218, Tryz.ntmps218
    go_wp2_with (go_at_call 236; refine (hc _).mono ?_; rintro e w' ⟨rfl, hw'⟩; replace hw' := hw'.symm; subst hw')
    go_ret
    exact ⟨rfl, rfl⟩
theorem bytes_app (a b : List UInt8) : (⟨a.toArray⟩ : ByteArray) ++ ⟨b.toArray⟩ = ⟨(a ++ b).toArray⟩ := by
  ext1; simp
set_option maxHeartbeats 1000000 in
theorem qSequence (c : UInt8) (ts : List (Option Nat)) (bk o cap : Nat) (w : World) (ht : Toks ts) (hl : ts.length ≤ 8) (hcap : ts.length ≤ cap) (hne : ts ≠ [])
    (hc : ∀ (j : Nat) t, ts[j]? = some t → w.cell? ⟨bk, o + j, none⟩ = some (bstr (tokB t))) :
    Calls Tryz.prog 216 #[bstr [c], .slice (some ⟨bk, o, none⟩) ts.length cap] w fun e w' => e = .returned (bstr (seqL c ts)) ∧ Below w.heap.size w w' := by
  have hbk : bk < w.heap.size := by
    cases ts with
    | nil => exact absurd rfl hne
    | cons t r => exact World.block_lt_of_cell? _ _ (hc 0 t rfl)
  have hlen : (Lib.join (ts.map tokB) [59]).length ≤ 1000 := by
    cases ts with
    | nil => exact absurd rfl hne
    | cons t r =>
      have := seq_len c t r ht
      simp only [seqL, List.length_append, List.length_cons, List.length_nil] at this hl
      omega
  have hj := Tryz.strings_Join bk o cap (ts.map (fun t => (⟨(tokB t).toArray⟩ : ByteArray))) ⟨#[59]⟩ w (by
    intro j x hx
    rw [List.getElem?_map] at hx
    cases ht' : ts[j]? with
    | none => rw [ht'] at hx; cases hx
    | some t => rw [ht'] at hx; simp at hx; rw [← hx]; exact hc j t ht') hbk (by simp; omega) (by simpa using hcap)
  have em : (ts.map (fun t => (⟨(tokB t).toArray⟩ : ByteArray))).map (·.data.toList) = ts.map tokB := by simp
  rw [em, List.length_map] at hj
  have es : (⟨#[59]⟩ : ByteArray).data.toList = [59] := rfl
  rw [es] at hj
  have hj' := hj (by omega)
  have HJ : Hid (Calls Tryz.prog 232 #[.slice (some ⟨bk, o, none⟩) ts.length cap, .string ⟨#[59]⟩] w fun e w' => e = .returned (bstr (Lib.join (ts.map tokB) [59])) ∧ Below w.heap.size w w') := hj'
  have HL : Hid ((Lib.join (ts.map tokB) [59]).length ≤ 1000) := hlen
  clear hj hj' em es hc hlen
  have hs1 : (⟨#[27, 91]⟩ : ByteArray) ++ ⟨(Lib.join (ts.map tokB) [59]).toArray⟩ = ⟨([27, 91] ++ Lib.join (ts.map tokB) [59]).toArray⟩ := bytes_app [27, 91] _
  have hs2 : (⟨([27, 91] ++ Lib.join (ts.map tokB) [59]).toArray⟩ : ByteArray) ++ ⟨#[c]⟩ = ⟨(seqL c ts).toArray⟩ := bytes_app ([27, 91] ++ Lib.join (ts.map tokB) [59]) [c]
  have HS : Hid ((⟨#[27, 91]⟩ : ByteArray) ++ ⟨(Lib.join (ts.map tokB) [59]).toArray⟩ ++ ⟨#[c]⟩ = ⟨(seqL c ts).toArray⟩) := hs1 ▸ hs2
  clear hs1 hs2
  go_enter Tryz.func216, Tryz.ntmps216
  go_wp2_with fail
  go_at_call 232
  refine HJ.out.mono ?_
  rintro e w1 ⟨rfl, hb⟩
  have HB : Hid (Below w.heap.size w w1) := hb
  clear hb
  have hz := HL.out
  generalize Lib.join (ts.map tokB) [59] = J at *
  go_wp2_with fail
  go_ret
  refine ⟨?_, HB.out⟩
  rw [HS.out]
  rfl
theorem seq1 (w : World) (c : UInt8) (t : Option Nat) (ht : Toks [t]) :
    Calls Tryz.prog 216 #[bstr [c], .slice (some ⟨w.heap.size, 0, none⟩) 1 1] (w.alloc (.cells #[bstr (tokB t)] 9)) fun e w' => e = .returned (bstr (seqL c [t])) ∧ Below w.heap.size w w' := by
  refine (qSequence c [t] w.heap.size 0 1 _ ht (by simp) (by simp) (by simp) ?_).mono ?_
  · intro j u h
    rw [cell_of_block (heap_new w _)]
    match j with
    | 0 => simp at h; simp [h]
    | j + 1 => simp at h
  · rintro e w' ⟨he, hb⟩
    exact ⟨he, ((Below.refl _ _).alloc (Nat.le_refl _) _).trans (hb.mono (by simp))⟩
theorem seq2 (w : World) (c : UInt8) (t u : Option Nat) (ht : Toks [t, u]) :
    Calls Tryz.prog 216 #[bstr [c], .slice (some ⟨w.heap.size, 0, none⟩) 2 2] (w.alloc (.cells #[bstr (tokB t), bstr (tokB u)] 9)) fun e w' => e = .returned (bstr (seqL c [t, u])) ∧ Below w.heap.size w w' := by
  refine (qSequence c [t, u] w.heap.size 0 2 _ ht (by simp) (by simp) (by simp) ?_).mono ?_
  · intro j v h
    rw [cell_of_block (heap_new w _)]
    match j with
    | 0 => simp at h; simp [h]
    | 1 => simp at h; simp [h]
    | j + 2 => simp at h
  · rintro e w' ⟨he, hb⟩
    exact ⟨he, ((Below.refl _ _).alloc (Nat.le_refl _) _).trans (hb.mono (by simp))⟩
theorem seq0 (w : World) (c : UInt8) :
    Calls Tryz.prog 216 #[bstr [c], .slice none 0 0] w fun e w' => e = .returned (bstr (seqL c [])) ∧ w' = w := by
  have hj := Tryz.strings_Join_none none 0 ⟨#[59]⟩
  go_enter Tryz.func216, Tryz.ntmps216
  go_wp2_with (go_at_call 232; refine (hj _).mono ?_; rintro e w' ⟨rfl, hw'⟩; replace hw' := hw'.symm; subst hw')
  go_ret
  exact ⟨rfl, rfl⟩
set_option maxHeartbeats 1000000 in
theorem qAlong (n : Int) (a b : UInt8) (w : World) (h1 : -100 < n) (h2 : n < 100) :
    Calls Tryz.prog 201 #[.int .i64 n, bstr [a], bstr [b]] w fun e w' => e = .returned (bstr (alongL n a b)) ∧ Below w.heap.size w w' := by
  by_cases hn : n < 0
  · have e : alongL n a b = seqL b [cntT (-n)] := by unfold alongL; rw [if_pos hn]
    rw [e]
    have hs := seq1 w b (cntT (-n)) (toks_cnt (by omega) toks_nil)
    go_enter Tryz.func201, Tryz.ntmps201
    go_wp2_with (first | (go_at_call 218; refine (qCount (-n) (by omega) (by omega) _).mono ?_; rintro e w' ⟨rfl, hw'⟩; replace hw' := hw'.symm; subst hw') | (go_at_call 216; refine hs.mono ?_; rintro e w1 ⟨rfl, hb⟩))
    go_ret
    exact ⟨rfl, hb⟩
  · have e : alongL n a b = seqL a [cntT n] := by unfold alongL; rw [if_neg hn]
    rw [e]
    have hs := seq1 w a (cntT n) (toks_cnt (by omega) toks_nil)
    go_enter Tryz.func201, Tryz.ntmps201
    go_wp2_with (first | (go_at_call 218; refine (qCount n (by omega) (by omega) _).mono ?_; rintro e w' ⟨rfl, hw'⟩; replace hw' := hw'.symm; subst hw') | (go_at_call 216; refine hs.mono ?_; rintro e w1 ⟨rfl, hb⟩))
    go_ret
    exact ⟨rfl, hb⟩
set_option maxHeartbeats 1000000 in
theorem qPlace (x y : Int) (w : World) (x0 : 0 ≤ x) (x1 : x < 40) (y0 : 0 ≤ y) (y1 : y < 20) :
    Calls Tryz.prog 222 #[.int .i64 x, .int .i64 y] w fun e w' => e = .returned (bstr (placeL x y)) ∧ Below w.heap.size w w' := by
  by_cases hx : x = 0
  · have e : placeL x y = seqL 72 [cntT (y + 1)] := by unfold placeL; rw [if_pos hx]
    rw [e]
    have hs := seq1 w 72 (cntT (y + 1)) (toks_cnt (by omega) toks_nil)
    go_enter Tryz.func222, Tryz.ntmps222
    go_wp2_with (first | (go_at_call 218; refine (qCount (y + 1) (by omega) (by omega) _).mono ?_; rintro e w' ⟨rfl, hw'⟩; replace hw' := hw'.symm; subst hw') | (go_at_call 216; refine hs.mono ?_; rintro e w1 ⟨rfl, hb⟩))
    go_ret
    exact ⟨rfl, hb⟩
  · have e : placeL x y = seqL 72 [cntT (y + 1), cntT (x + 1)] := by unfold placeL; rw [if_neg hx]
    rw [e]
    have hs := seq2 w 72 (cntT (y + 1)) (cntT (x + 1)) (toks_cnt (by omega) (toks_cnt (by omega) toks_nil))
    go_enter Tryz.func222, Tryz.ntmps222
    go_wp2_with (first | (go_at_call 218; refine (qCount _ (by omega) (by omega) _).mono ?_; rintro e w' ⟨rfl, hw'⟩; replace hw' := hw'.symm; subst hw') | (go_at_call 216; refine hs.mono ?_; rintro e w1 ⟨rfl, hb⟩))
    go_ret
    exact ⟨rfl, hb⟩
end Go.Proofs.YtjlfibhbfdckpaaGreatDoor

/- Flush: the changes of a pen: closures. -/
namespace Go.Proofs.YtjlfibhbfdckpaaGreatDoor
open Go.RowKit
attribute [local go_sem ↓] Go.wp_at_zero Go.wp_at_succ
theorem sinfo_zero : (Tryz.prog.info? 9).bind (·.zero) = some (.string ⟨#[]⟩) := by kernel_rfl
theorem sinfo_size : (Tryz.prog.info? 9).map (·.size) = some 1 := by kernel_rfl
theorem sinfo_bytes : (Tryz.prog.info? 9).map (·.bytes) = some 16 := by kernel_rfl
theorem info_string : ∃ i : TypeInfo, Tryz.prog.info? 9 = some i ∧ i.zero = some (.string ⟨#[]⟩) ∧ i.size = 1 ∧ i.bytes = 16 := by
  have h1 := sinfo_zero
  have h2 := sinfo_size
  have h3 := sinfo_bytes
  cases h : Tryz.prog.info? 9 with
  | none => rw [h] at h2; simp at h2
  | some i => rw [h] at h1 h2 h3; exact ⟨i, rfl, by simpa using h1, by simpa using h2, by simpa using h3⟩
/-- Numbers of a sequence as values. -/
def tvals (ts : List (Option Nat)) : List Value := ts.map (fun t => bstr (tokB t))
theorem tvals_app (a b : List (Option Nat)) : tvals (a ++ b) = tvals a ++ tvals b := by simp [tvals]
/-- What a variable of such numbers holds: box TB; own0: the row that it had at first; from n1 on lies what was made later. -/
structure ToldAt (w : World) (TB base n1 : Nat) (own0 : Option Nat) (ts : List (Option Nat)) : Prop where
  box : ∃ v, w.heap[TB]? = some (.cells #[v] 229) ∧ w.ownsRow base 9 1 v ts.length (tvals ts) ∧ (v.ownBlock = own0 ∨ ∃ g, v.ownBlock = some g ∧ n1 ≤ g) ∧ v.ownBlock ≠ some TB
  hn : n1 ≤ w.heap.size
  hb : base ≤ TB
  tb : TB < n1
  len : ts.length ≤ 8
  toks : Toks ts
/-- What stays. -/
abbrev TKeep (TB n1 : Nat) (own0 : Option Nat) (w w' : World) : Prop := Keep (fun i => i = TB ∨ own0 = some i ∨ n1 ≤ i) w w'
theorem orow_same {w w' : World} {base : Nat} {e : TypeId} {size : Nat} {v : Value} {n : Nat} {xs : List Value} (h : w.ownsRow base e size v n xs) (hs : ∀ i, v.ownBlock = some i → w'.heap[i]? = w.heap[i]?) : w'.ownsRow base e size v n xs := by
  refine ⟨h.1, ?_⟩
  rcases h.2 with h0 | ⟨g, cap, cur, rfl, h1, h2, h3⟩
  · exact .inl h0
  · exact .inr ⟨g, cap, cur, rfl, h1, by rw [hs g rfl]; exact h2, h3⟩
theorem told_push {w W w7 : World} {TB base n1 g7 cap7 : Nat} {own0 : Option Nat} {ts : List (Option Nat)} {v : Value} {n : Nat} (hn : n < 100) (HT : ToldAt w TB base n1 own0 ts) (hl : ts.length < 8)
    (hb : w7.heap[TB]? = some (.cells #[v] 229)) (hown : v.ownBlock = own0 ∨ ∃ g, v.ownBlock = some g ∧ n1 ≤ g) (hne : v.ownBlock ≠ some TB)
    (hK : TKeep TB n1 own0 w W) (hW : w.heap.size ≤ W.heap.size) (hg : W.grownBy w7 v.ownBlock) (hr : w7.ownsRow base 9 1 (.slice (some ⟨g7, 0, none⟩) (ts.length + 1) cap7) (ts.length + 1) (tvals ts ++ [bstr (Lib.decDigits n)])) (ho : v.ownBlock = some g7 ∨ g7 = W.heap.size) :
    ToldAt (w7.setCell ⟨TB, 0, none⟩ (.slice (some ⟨g7, 0, none⟩) (ts.length + 1) cap7)) TB base n1 own0 (ts ++ [some n]) ∧ TKeep TB n1 own0 w (w7.setCell ⟨TB, 0, none⟩ (.slice (some ⟨g7, 0, none⟩) (ts.length + 1) cap7)) := by
  have hg7 : g7 ≠ TB := by
    rcases ho with e | e
    · intro q; exact hne (by rw [e, q])
    · have := HT.tb; have := HT.hn; omega
  refine ⟨⟨⟨.slice (some ⟨g7, 0, none⟩) (ts.length + 1) cap7, heap_set_same hb 0 _, ?_, ?_, ?_⟩, ?_, HT.hb, HT.tb, by simp; omega, ?_⟩, ?_⟩
  · rw [tvals_app, List.length_append]
    exact orow_same hr (fun i hi => Below.heap_setCell _ _ _ _ (by obtain rfl : g7 = i := by simpa [Value.ownBlock] using hi
                                                                   exact hg7))
  · rcases ho with e | e
    · rcases hown with q | ⟨g, q, h1⟩
      · exact .inl (by rw [← q, e]; rfl)
      · exact .inr ⟨g7, rfl, by rw [e] at q; cases q; exact h1⟩
    · exact .inr ⟨g7, rfl, by have := HT.hn; omega⟩
  · simp [Value.ownBlock]; exact hg7
  · have : (w7.setCell ⟨TB, 0, none⟩ (.slice (some ⟨g7, 0, none⟩) (ts.length + 1) cap7)).heap.size = w7.heap.size := by simp [World.setCell]
    rw [this]; have := hg.size; have := HT.hn; omega
  · intro m hm
    rcases List.mem_append.1 hm with e | e
    · exact HT.toks m e
    · simp at e; omega
  · refine (hK.grown hg (fun k hk _ => ?_)).setCell _ _ (fun _ => .inl rfl)
    rcases hown with q | ⟨g, q, h1⟩
    · exact .inr (.inl (by rw [← q, hk]))
    · rw [hk] at q; cases q; exact .inr (.inr h1)
set_option maxHeartbeats 2000000 in
theorem qAdd (n : Nat) (TB base n1 : Nat) (own0 : Option Nat) (ts : List (Option Nat)) (w : World) (hn : n < 100) (h : ToldAt w TB base n1 own0 ts) (hl : ts.length < 8) :
    Calls Tryz.prog 235 #[.int .i64 n, .pointer (some ⟨TB, 0, none⟩)] w fun e w' => e = .returned (.tuple #[]) ∧ ToldAt w' TB base n1 own0 (ts ++ [some n]) ∧ TKeep TB n1 own0 w w' := by
  obtain ⟨v, hb, hrow, hown, hne⟩ := h.box
  obtain ⟨ti, i1, i2, i3, i4⟩ := info_string
  have hc := Tryz.strconv_Itoa_small n hn
  have c0 : w.cell? ⟨TB, 0, none⟩ = some v := by rw [cell_of_block hb]; rfl
  have fr : ∀ o, w.frozen? ⟨TB, o, none⟩ = false := frozen_of_block hb
  have htb : TB < w.heap.size := Nat.lt_of_lt_of_le h.tb h.hn
  have hbs := h.hb
  have Hrow : Hid (w.ownsRow base 9 1 v ts.length (tvals ts)) := hrow
  have Hb : Hid (w.heap[TB]? = some (.cells #[v] 229)) := hb
  have HT : Hid (ToldAt w TB base n1 own0 ts) := h
  have Hown : Hid (v.ownBlock = own0 ∨ ∃ g, v.ownBlock = some g ∧ n1 ≤ g) := hown
  have Hne : Hid (v.ownBlock ≠ some TB) := hne
  clear hrow hb hown hne h
  go_enter Tryz.func235, Tryz.ntmps235
  go_wp2_with fail
  go_region_law (first | (go_simp; go_at_call 236; refine (hc _).mono ?_; rintro e w' ⟨rfl, hw'⟩; subst hw') | (refine step_append_lies _ (by rfl) (.tmp 3) (.tmp 6) 229 (by rfl) base 9 ti _ 1 16 Tryz.underlying229 i1 i2 i3 i4 rfl (by decide) v ts.length (tvals ts) (by simp [Act.eval]) (orow_same Hrow.out (fun i hi => Below.heap_alloc w _ _ (Hrow.out.lt i hi).2)) ⟨w.heap.size, 0, none⟩ 1 1 [bstr (Lib.decDigits n)] (by simp [Act.eval]) rfl (World.news_of_block (heap_new w _)) (by simp [Value.oneCell']) (by decide) (by unfold maxLen; omega) (by omega) (by simp; omega) _ rfl ?_; intro g7 cap7 w7 hr7 hg7 ho7 hl7; have hbk : w7.heap[TB]? = some (.cells #[v] 229) := (hg7.block _ (by simp; omega) (fun e => Hne.out e.symm)).trans ((Below.heap_alloc w _ _ htb).trans Hb.out); have c7 : w7.cell? ⟨TB, 0, none⟩ = some v := cell_of_block hbk 0; have f7 : w7.frozen? ⟨TB, 0, none⟩ = false := frozen_of_block hbk 0))
  all_goals
    obtain ⟨T8, K8⟩ := told_push (W := (w.alloc (.cells #[bstr (Lib.decDigits n)] 9)).drew) hn HT.out hl hbk Hown.out Hne.out ((Keep.refl _ w).alloc _).drew (by simp) hg7 hr7 ho7
    have HT8 : Hid (ToldAt (w7.setCell ⟨TB, 0, none⟩ (.slice (some ⟨g7, 0, none⟩) (ts.length + 1) cap7)) TB base n1 own0 (ts ++ [some n])) := T8
    have HK8 : Hid (TKeep TB n1 own0 w (w7.setCell ⟨TB, 0, none⟩ (.slice (some ⟨g7, 0, none⟩) (ts.length + 1) cap7))) := K8
    clear T8 K8 hg7 hr7 ho7
    go_wp2_with fail
    go_end0
    exact ⟨rfl, HT8.out, HK8.out⟩
end Go.Proofs.YtjlfibhbfdckpaaGreatDoor

/- Flush: the changes of a pen: flag, colour. -/
namespace Go.Proofs.YtjlfibhbfdckpaaGreatDoor
open Go.RowKit
attribute [local go_sem ↓] Go.wp_at_zero Go.wp_at_succ
/-- The function that adds a number. -/
abbrev addF (TB : Nat) : Value := .func (.func 235) #[] #[.pointer (some ⟨TB, 0, none⟩)]
/-- What a change leaves. -/
def TPost' (TB base n1 : Nat) (own0 : Option Nat) (ts : List (Option Nat)) (w : World) (e : Ending) (w' : World) : Prop :=
  e = .returned (.tuple #[]) ∧ ToldAt w' TB base n1 own0 ts ∧ TKeep TB n1 own0 w w'
set_option maxHeartbeats 1000000 in
theorem qFlag1 (was is : Bool) (on off : Nat) (bw bi bo bf : Nat) (TB base n1 : Nat) (own0 : Option Nat) (ts : List (Option Nat)) (w : World) (hon : on < 100) (hoff : off < 100) (h : ToldAt w TB base n1 own0 ts) (hl : ts.length < 8)
    (cw : w.cell? ⟨bw, 0, none⟩ = some (.bool was)) (ci : w.cell? ⟨bi, 0, none⟩ = some (.bool is)) (co : w.cell? ⟨bo, 0, none⟩ = some (.int .i64 on)) (cf : w.cell? ⟨bf, 0, none⟩ = some (.int .i64 off)) :
    Calls Tryz.prog 246 #[addF TB, .pointer (some ⟨bi, 0, none⟩), .pointer (some ⟨bw, 0, none⟩), .pointer (some ⟨bo, 0, none⟩), .pointer (some ⟨bf, 0, none⟩)] w (TPost' TB base n1 own0 (ts ++ flagT was is on off) w) := by
  have HT : Hid (ToldAt w TB base n1 own0 ts) := h
  have Ha : Hid (∀ n : Nat, n < 100 → Calls Tryz.prog 235 #[.int .i64 n, .pointer (some ⟨TB, 0, none⟩)] w (TPost' TB base n1 own0 (ts ++ [some n]) w)) := fun n hn => qAdd n TB base n1 own0 ts w hn HT.out hl
  clear h
  cases was <;> cases is
  · have e : ts ++ flagT false false on off = ts := by simp [flagT]
    rw [e]
    go_enter Tryz.func246, Tryz.ntmps246
    go_wp2_with fail
    go_end0
    exact ⟨rfl, HT.out, Keep.refl _ _⟩
  · have e : ts ++ flagT false true on off = ts ++ [some on] := by simp [flagT]
    rw [e]
    go_enter Tryz.func246, Tryz.ntmps246
    go_wp2_with fail
    go_at_call 235
    refine (Ha.out on hon).mono ?_
    rintro e w1 ⟨rfl, h1, h2⟩
    have H1 : Hid (TPost' TB base n1 own0 (ts ++ [some on]) w (.returned (.tuple #[])) w1) := ⟨rfl, h1, h2⟩
    clear h1 h2
    go_wp2_with fail
    go_end0
    exact H1.out
  · have e : ts ++ flagT true false on off = ts ++ [some off] := by simp [flagT]
    rw [e]
    go_enter Tryz.func246, Tryz.ntmps246
    go_wp2_with fail
    go_at_call 235
    refine (Ha.out off hoff).mono ?_
    rintro e w1 ⟨rfl, h1, h2⟩
    have H1 : Hid (TPost' TB base n1 own0 (ts ++ [some off]) w (.returned (.tuple #[])) w1) := ⟨rfl, h1, h2⟩
    clear h1 h2
    go_wp2_with fail
    go_end0
    exact H1.out
  · have e : ts ++ flagT true true on off = ts := by simp [flagT]
    rw [e]
    go_enter Tryz.func246, Tryz.ntmps246
    go_wp2_with fail
    go_end0
    exact ⟨rfl, HT.out, Keep.refl _ _⟩
set_option maxHeartbeats 1000000 in
theorem qColour1 (was is : Int) (first : Nat) (bw bi bf : Nat) (TB base n1 : Nat) (own0 : Option Nat) (ts : List (Option Nat)) (w : World) (h0 : 0 ≤ is) (h8 : is ≤ 8) (hf : first < 50) (hf1 : 1 ≤ first) (h : ToldAt w TB base n1 own0 ts) (hl : ts.length < 8)
    (cw : w.cell? ⟨bw, 0, none⟩ = some (.int .i64 was)) (ci : w.cell? ⟨bi, 0, none⟩ = some (.int .i64 is)) (cf : w.cell? ⟨bf, 0, none⟩ = some (.int .i64 first)) :
    Calls Tryz.prog 247 #[addF TB, .pointer (some ⟨bi, 0, none⟩), .pointer (some ⟨bw, 0, none⟩), .pointer (some ⟨bf, 0, none⟩)] w (TPost' TB base n1 own0 (ts ++ colT was is first) w) := by
  have HT : Hid (ToldAt w TB base n1 own0 ts) := h
  have Ha : Hid (∀ n : Nat, n < 100 → Calls Tryz.prog 235 #[.int .i64 n, .pointer (some ⟨TB, 0, none⟩)] w (TPost' TB base n1 own0 (ts ++ [some n]) w)) := fun n hn => qAdd n TB base n1 own0 ts w hn HT.out hl
  clear h
  by_cases e1 : is = was
  · have e : ts ++ colT was is first = ts := by simp [colT, e1]
    rw [e]
    go_enter Tryz.func247, Tryz.ntmps247
    go_wp2_with fail
    go_end0
    exact ⟨rfl, HT.out, Keep.refl _ _⟩
  · by_cases e2 : is = 0
    · have e : ts ++ colT was is first = ts ++ [some (first + 9)] := by unfold colT; rw [if_neg e1, if_pos e2]
      rw [e]
      have ec : ((first : Int) + 9) = ((first + 9 : Nat) : Int) := by omega
      have HA : Hid (Calls Tryz.prog 235 #[.int .i64 ((first : Int) + 9), .pointer (some ⟨TB, 0, none⟩)] w (TPost' TB base n1 own0 (ts ++ [some (first + 9)]) w)) := by rw [ec]; exact Ha.out (first + 9) (by omega)
      clear ec e
      go_enter Tryz.func247, Tryz.ntmps247
      go_wp2_with fail
      go_at_call 235
      refine HA.out.mono ?_
      rintro e w1 ⟨rfl, h1, h2⟩
      have H1 : Hid (TPost' TB base n1 own0 (ts ++ [some (first + 9)]) w (.returned (.tuple #[])) w1) := ⟨rfl, h1, h2⟩
      clear h1 h2
      go_wp2_with fail
      go_end0
      exact H1.out
    · have e : ts ++ colT was is first = ts ++ [some (first + is.toNat - 1)] := by unfold colT; rw [if_neg e1, if_neg e2]
      rw [e]
      have ec : ((first : Int) + is - 1) = ((first + is.toNat - 1 : Nat) : Int) := by omega
      have HA : Hid (Calls Tryz.prog 235 #[.int .i64 ((first : Int) + is - 1), .pointer (some ⟨TB, 0, none⟩)] w (TPost' TB base n1 own0 (ts ++ [some (first + is.toNat - 1)]) w)) := by rw [ec]; exact Ha.out (first + is.toNat - 1) (by omega)
      clear ec e
      go_enter Tryz.func247, Tryz.ntmps247
      go_wp2_with fail
      go_at_call 235
      refine HA.out.mono ?_
      rintro e w1 ⟨rfl, h1, h2⟩
      have H1 : Hid (TPost' TB base n1 own0 (ts ++ [some (first + is.toNat - 1)]) w (.returned (.tuple #[])) w1) := ⟨rfl, h1, h2⟩
      clear h1 h2
      go_wp2_with fail
      go_end0
      exact H1.out
/-- Four boxes, and the closure over them. -/
structure FlagAt (w : World) (b : Nat) (was is : Bool) (on off : Int) : Prop where
  w0 : w.heap[b]? = some (.cells #[.bool was] 4)
  w1 : w.heap[b + 1]? = some (.cells #[.bool is] 4)
  w2 : w.heap[b + 2]? = some (.cells #[.int .i64 on] 3)
  w3 : w.heap[b + 3]? = some (.cells #[.int .i64 off] 3)
abbrev flagV (b : Nat) : Value := .func (.func 246) #[] #[.pointer (some ⟨b + 1, 0, none⟩), .pointer (some ⟨b, 0, none⟩), .pointer (some ⟨b + 2, 0, none⟩), .pointer (some ⟨b + 3, 0, none⟩)]
structure ColAt (w : World) (b : Nat) (was is : Int) (first : Int) : Prop where
  w0 : w.heap[b]? = some (.cells #[.int .i64 was] 3)
  w1 : w.heap[b + 1]? = some (.cells #[.int .i64 is] 3)
  w2 : w.heap[b + 2]? = some (.cells #[.int .i64 first] 3)
abbrev colV (b : Nat) : Value := .func (.func 247) #[] #[.pointer (some ⟨b + 1, 0, none⟩), .pointer (some ⟨b, 0, none⟩), .pointer (some ⟨b + 2, 0, none⟩)]
theorem heap_next (w : World) (o : Obj) {i : Nat} (h : i < w.heap.size) : (w.alloc o).heap[i]? = w.heap[i]? := Below.heap_alloc w o _ h
theorem heap_top (w : World) (o : Obj) {i : Nat} (h : i = w.heap.size) : (w.alloc o).heap[i]? = some o := by rw [h]; exact heap_new w o
set_option maxHeartbeats 1000000 in
theorem qFlag (was is : Bool) (on off : Int) (w : World) :
    Calls Tryz.prog 233 #[.bool was, .bool is, .int .i64 on, .int .i64 off] w fun e w' => ∃ b, e = .returned (flagV b) ∧ FlagAt w' b was is on off ∧ w.heap.size = b ∧ w'.heap.size = b + 4 ∧ Below w.heap.size w w' := by
  go_enter Tryz.func233, Tryz.ntmps233
  go_wp2_with fail
  go_ret
  refine ⟨w.heap.size, rfl, ⟨?_, ?_, ?_, ?_⟩, rfl, by simp, ((((Below.refl _ _).alloc (Nat.le_refl _) _).alloc (by simp) _).alloc (by simp; omega) _).alloc (by simp; omega) _⟩
  · rw [heap_next _ _ (by first | (simp; done) | (simp; omega)), heap_next _ _ (by first | (simp; done) | (simp; omega)), heap_next _ _ (by first | (simp; done) | (simp; omega)), heap_top _ _ rfl]
  · rw [heap_next _ _ (by first | (simp; done) | (simp; omega)), heap_next _ _ (by first | (simp; done) | (simp; omega)), heap_top _ _ (by first | (simp; done) | (simp; omega))]
  · rw [heap_next _ _ (by first | (simp; done) | (simp; omega)), heap_top _ _ (by first | (simp; done) | (simp; omega))]
  · rw [heap_top _ _ (by first | (simp; done) | (simp; omega))]
set_option maxHeartbeats 1000000 in
theorem qColour (was is : Int) (first : Int) (w : World) :
    Calls Tryz.prog 234 #[.int .i64 was, .int .i64 is, .int .i64 first] w fun e w' => ∃ b, e = .returned (colV b) ∧ ColAt w' b was is first ∧ w.heap.size = b ∧ w'.heap.size = b + 3 ∧ Below w.heap.size w w' := by
  go_enter Tryz.func234, Tryz.ntmps234
  go_wp2_with fail
  go_ret
  refine ⟨w.heap.size, rfl, ⟨?_, ?_, ?_⟩, rfl, by simp, (((Below.refl _ _).alloc (Nat.le_refl _) _).alloc (by first | (simp; done) | (simp; omega)) _).alloc (by first | (simp; done) | (simp; omega)) _⟩
  · rw [heap_next _ _ (by first | (simp; done) | (simp; omega)), heap_next _ _ (by first | (simp; done) | (simp; omega)), heap_top _ _ rfl]
  · rw [heap_next _ _ (by first | (simp; done) | (simp; omega)), heap_top _ _ (by first | (simp; done) | (simp; omega))]
  · rw [heap_top _ _ (by first | (simp; done) | (simp; omega))]
end Go.Proofs.YtjlfibhbfdckpaaGreatDoor

/- Flush: numbers, penChange. -/
namespace Go.Proofs.YtjlfibhbfdckpaaGreatDoor
open Go.RowKit
attribute [local go_sem ↓] Go.wp_at_zero Go.wp_at_succ
section
variable {w w' : World} {TB base n1 b : Nat} {own0 : Option Nat} {ts : List (Option Nat)}
theorem FlagAt.same {was is : Bool} {on off : Int} (h : FlagAt w b was is on off) (h0 : w'.heap[b]? = w.heap[b]?) (h1 : w'.heap[b + 1]? = w.heap[b + 1]?) (h2 : w'.heap[b + 2]? = w.heap[b + 2]?) (h3 : w'.heap[b + 3]? = w.heap[b + 3]?) : FlagAt w' b was is on off :=
  ⟨h0.trans h.w0, h1.trans h.w1, h2.trans h.w2, h3.trans h.w3⟩
theorem FlagAt.lt {was is : Bool} {on off : Int} (h : FlagAt w b was is on off) : b + 3 < w.heap.size := (Array.getElem?_eq_some_iff.1 h.w3).1
theorem ColAt.lt {was is : Int} {first : Int} (h : ColAt w b was is first) : b + 2 < w.heap.size := (Array.getElem?_eq_some_iff.1 h.w2).1
theorem FlagAt.below {was is : Bool} {on off : Int} (h : FlagAt w b was is on off) (hb : Below w.heap.size w w') : FlagAt w' b was is on off := by
  have := h.lt
  exact h.same (hb.block _ (by omega)) (hb.block _ (by omega)) (hb.block _ (by omega)) (hb.block _ (by omega))
theorem ColAt.below {was is : Int} {first : Int} (h : ColAt w b was is first) (hb : Below w.heap.size w w') : ColAt w' b was is first := by
  have := h.lt
  exact ⟨(hb.block _ (by omega)).trans h.w0, (hb.block _ (by omega)).trans h.w1, (hb.block _ (by omega)).trans h.w2⟩
end
/-- The five changes, and the row of closures. -/
structure ChAt (w : World) (b1 b2 b3 b4 b5 g lo n1 : Nat) (p q : Pn) : Prop where
  f1 : FlagAt w b1 p.bo q.bo 1 22
  f2 : FlagAt w b2 p.un q.un 4 24
  f3 : FlagAt w b3 p.re q.re 7 27
  c1 : ColAt w b4 p.f q.f 30
  c2 : ColAt w b5 p.b q.b 40
  row : w.heap[g]? = some (.cells #[flagV b1, flagV b2, flagV b3, colV b4, colV b5] 254)
  ins : lo ≤ b1 ∧ b1 + 3 < n1 ∧ lo ≤ b2 ∧ b2 + 3 < n1 ∧ lo ≤ b3 ∧ b3 + 3 < n1 ∧ lo ≤ b4 ∧ b4 + 2 < n1 ∧ lo ≤ b5 ∧ b5 + 2 < n1 ∧ lo ≤ g ∧ g < n1
theorem ChAt.keep {w w' : World} {b1 b2 b3 b4 b5 g lo n1 TB : Nat} {own0 : Option Nat} {p q : Pn} (h : ChAt w b1 b2 b3 b4 b5 g lo n1 p q) (k : TKeep TB n1 own0 w w') (hTB : TB < lo) (ho : ∀ i, own0 = some i → i < lo) (hn : n1 ≤ w.heap.size) : ChAt w' b1 b2 b3 b4 b5 g lo n1 p q := by
  have hlt : ∀ i, lo ≤ i → i < n1 → w'.heap[i]? = w.heap[i]? := fun i h1 h2 => k.block i (by omega) (by
    rintro (e | e | e)
    · omega
    · have := ho i e; omega
    · omega)
  have hi := h.ins
  refine ⟨h.f1.same (hlt _ (by omega) (by omega)) (hlt _ (by omega) (by omega)) (hlt _ (by omega) (by omega)) (hlt _ (by omega) (by omega)), h.f2.same (hlt _ (by omega) (by omega)) (hlt _ (by omega) (by omega)) (hlt _ (by omega) (by omega)) (hlt _ (by omega) (by omega)), h.f3.same (hlt _ (by omega) (by omega)) (hlt _ (by omega) (by omega)) (hlt _ (by omega) (by omega)) (hlt _ (by omega) (by omega)), ⟨(hlt _ (by omega) (by omega)).trans h.c1.w0, (hlt _ (by omega) (by omega)).trans h.c1.w1, (hlt _ (by omega) (by omega)).trans h.c1.w2⟩, ⟨(hlt _ (by omega) (by omega)).trans h.c2.w0, (hlt _ (by omega) (by omega)).trans h.c2.w1, (hlt _ (by omega) (by omega)).trans h.c2.w2⟩, (hlt _ (by omega) (by omega)).trans h.row, hi⟩
/-- While the changes are told. -/
structure Telling (wB w : World) (b1 b2 b3 b4 b5 g lo n1 TB base : Nat) (own0 : Option Nat) (p q : Pn) (ts : List (Option Nat)) : Prop where
  ch : ChAt w b1 b2 b3 b4 b5 g lo n1 p q
  told : ToldAt w TB base n1 own0 ts
  kp : TKeep TB n1 own0 wB w
  hlo : TB < lo
  hown : ∀ i, own0 = some i → i < lo
section
variable {wB w : World} {b1 b2 b3 b4 b5 g lo n1 TB base : Nat} {own0 : Option Nat} {p q : Pn} {ts : List (Option Nat)}
theorem Telling.step (h : Telling wB w b1 b2 b3 b4 b5 g lo n1 TB base own0 p q ts) {ts' : List (Option Nat)} {e : Ending} {w' : World} (hp : TPost' TB base n1 own0 ts' w e w') : e = .returned (.tuple #[]) ∧ Telling wB w' b1 b2 b3 b4 b5 g lo n1 TB base own0 p q ts' := by
  obtain ⟨rfl, T, K⟩ := hp
  exact ⟨rfl, h.ch.keep K h.hlo h.hown h.told.hn, T, h.kp.trans K (fun _ _ q => q), h.hlo, h.hown⟩
theorem Telling.row (h : Telling wB w b1 b2 b3 b4 b5 g lo n1 TB base own0 p q ts) : w.cell? ⟨g, 0, none⟩ = some (flagV b1) ∧ w.cell? ⟨g, 1, none⟩ = some (flagV b2) ∧ w.cell? ⟨g, 2, none⟩ = some (flagV b3) ∧ w.cell? ⟨g, 3, none⟩ = some (colV b4) ∧ w.cell? ⟨g, 4, none⟩ = some (colV b5) :=
  ⟨cell_of_block h.ch.row 0, cell_of_block h.ch.row 1, cell_of_block h.ch.row 2, cell_of_block h.ch.row 3, cell_of_block h.ch.row 4⟩
theorem Telling.t1 (h : Telling wB w b1 b2 b3 b4 b5 g lo n1 TB base own0 p q ts) (hl : ts.length < 8) :
    Calls Tryz.prog 246 #[addF TB, .pointer (some ⟨b1 + 1, 0, none⟩), .pointer (some ⟨b1, 0, none⟩), .pointer (some ⟨b1 + 2, 0, none⟩), .pointer (some ⟨b1 + 3, 0, none⟩)] w fun e w' => e = .returned (.tuple #[]) ∧ Telling wB w' b1 b2 b3 b4 b5 g lo n1 TB base own0 p q (ts ++ flagT p.bo q.bo 1 22) :=
  (qFlag1 p.bo q.bo 1 22 b1 (b1 + 1) (b1 + 2) (b1 + 3) TB base n1 own0 ts w (by omega) (by omega) h.told hl (cell_of_block h.ch.f1.w0 0) (cell_of_block h.ch.f1.w1 0) (cell_of_block h.ch.f1.w2 0) (cell_of_block h.ch.f1.w3 0)).mono (fun _ _ hp => h.step hp)
theorem Telling.t2 (h : Telling wB w b1 b2 b3 b4 b5 g lo n1 TB base own0 p q ts) (hl : ts.length < 8) :
    Calls Tryz.prog 246 #[addF TB, .pointer (some ⟨b2 + 1, 0, none⟩), .pointer (some ⟨b2, 0, none⟩), .pointer (some ⟨b2 + 2, 0, none⟩), .pointer (some ⟨b2 + 3, 0, none⟩)] w fun e w' => e = .returned (.tuple #[]) ∧ Telling wB w' b1 b2 b3 b4 b5 g lo n1 TB base own0 p q (ts ++ flagT p.un q.un 4 24) :=
  (qFlag1 p.un q.un 4 24 b2 (b2 + 1) (b2 + 2) (b2 + 3) TB base n1 own0 ts w (by omega) (by omega) h.told hl (cell_of_block h.ch.f2.w0 0) (cell_of_block h.ch.f2.w1 0) (cell_of_block h.ch.f2.w2 0) (cell_of_block h.ch.f2.w3 0)).mono (fun _ _ hp => h.step hp)
theorem Telling.t3 (h : Telling wB w b1 b2 b3 b4 b5 g lo n1 TB base own0 p q ts) (hl : ts.length < 8) :
    Calls Tryz.prog 246 #[addF TB, .pointer (some ⟨b3 + 1, 0, none⟩), .pointer (some ⟨b3, 0, none⟩), .pointer (some ⟨b3 + 2, 0, none⟩), .pointer (some ⟨b3 + 3, 0, none⟩)] w fun e w' => e = .returned (.tuple #[]) ∧ Telling wB w' b1 b2 b3 b4 b5 g lo n1 TB base own0 p q (ts ++ flagT p.re q.re 7 27) :=
  (qFlag1 p.re q.re 7 27 b3 (b3 + 1) (b3 + 2) (b3 + 3) TB base n1 own0 ts w (by omega) (by omega) h.told hl (cell_of_block h.ch.f3.w0 0) (cell_of_block h.ch.f3.w1 0) (cell_of_block h.ch.f3.w2 0) (cell_of_block h.ch.f3.w3 0)).mono (fun _ _ hp => h.step hp)
theorem Telling.t4 (h : Telling wB w b1 b2 b3 b4 b5 g lo n1 TB base own0 p q ts) (hq : q.Ok) (hl : ts.length < 8) :
    Calls Tryz.prog 247 #[addF TB, .pointer (some ⟨b4 + 1, 0, none⟩), .pointer (some ⟨b4, 0, none⟩), .pointer (some ⟨b4 + 2, 0, none⟩)] w fun e w' => e = .returned (.tuple #[]) ∧ Telling wB w' b1 b2 b3 b4 b5 g lo n1 TB base own0 p q (ts ++ colT p.f q.f 30) :=
  (qColour1 p.f q.f 30 b4 (b4 + 1) (b4 + 2) TB base n1 own0 ts w hq.1 hq.2.1 (by omega) (by omega) h.told hl (cell_of_block h.ch.c1.w0 0) (cell_of_block h.ch.c1.w1 0) (cell_of_block h.ch.c1.w2 0)).mono (fun _ _ hp => h.step hp)
theorem Telling.t5 (h : Telling wB w b1 b2 b3 b4 b5 g lo n1 TB base own0 p q ts) (hq : q.Ok) (hl : ts.length < 8) :
    Calls Tryz.prog 247 #[addF TB, .pointer (some ⟨b5 + 1, 0, none⟩), .pointer (some ⟨b5, 0, none⟩), .pointer (some ⟨b5 + 2, 0, none⟩)] w fun e w' => e = .returned (.tuple #[]) ∧ Telling wB w' b1 b2 b3 b4 b5 g lo n1 TB base own0 p q (ts ++ colT p.b q.b 40) :=
  (qColour1 p.b q.b 40 b5 (b5 + 1) (b5 + 2) TB base n1 own0 ts w hq.2.2.1 hq.2.2.2 (by omega) (by omega) h.told hl (cell_of_block h.ch.c2.w0 0) (cell_of_block h.ch.c2.w1 0) (cell_of_block h.ch.c2.w2 0)).mono (fun _ _ hp => h.step hp)
end
theorem cell_old (w : World) (o : Obj) (b k : Nat) (h : b < w.heap.size) : (w.alloc o).cell? ⟨b, k, none⟩ = w.cell? ⟨b, k, none⟩ := World.cell?_of_block (heap_next w o h)
/-- So many of the changes are made. -/
structure Acc (k : Nat) (wA w : World) (N : Nat) (p q : Pn) : Prop where
  bel : Below wA.heap.size wA w
  sz : w.heap.size = N + 3 + (if k ≤ 3 then 4 * k else 12 + 3 * (k - 3))
  a1 : 1 ≤ k → FlagAt w (N + 3) p.bo q.bo 1 22
  a2 : 2 ≤ k → FlagAt w (N + 7) p.un q.un 4 24
  a3 : 3 ≤ k → FlagAt w (N + 11) p.re q.re 7 27
  a4 : 4 ≤ k → ColAt w (N + 15) p.f q.f 30
  a5 : 5 ≤ k → ColAt w (N + 18) p.b q.b 40
section
variable {wA w w' : World} {N b : Nat} {p q : Pn}
theorem Acc.next {k : Nat} (h : Acc k wA w N p q) (hs : w.heap.size = b) (hz : w'.heap.size = b + (if k < 3 then 4 else 3)) (hb : Below w.heap.size w w') (hk : k ≤ 4)
    (n1 : k = 0 → FlagAt w' b p.bo q.bo 1 22) (n2 : k = 1 → FlagAt w' b p.un q.un 4 24) (n3 : k = 2 → FlagAt w' b p.re q.re 7 27) (n4 : k = 3 → ColAt w' b p.f q.f 30) (n5 : k = 4 → ColAt w' b p.b q.b 40) : Acc (k + 1) wA w' N p q := by
  have hsz := h.sz
  have hwz := h.bel.size
  refine ⟨h.bel.trans (hb.mono hwz), ?_, fun _ => ?_, fun q1 => ?_, fun q1 => ?_, fun q1 => ?_, fun q1 => ?_⟩
  · rw [hz, ← hs, hsz]
    match k, hk with
    | 0, _ => rfl
    | 1, _ => rfl
    | 2, _ => rfl
    | 3, _ => rfl
    | 4, _ => rfl
  · by_cases e : k = 0
    · have : b = N + 3 := by subst e; simp at hsz; omega
      rw [← this]; exact n1 e
    · exact (h.a1 (by omega)).below hb
  · by_cases e : k = 1
    · have : b = N + 7 := by subst e; simp at hsz; omega
      rw [← this]; exact n2 e
    · exact (h.a2 (by omega)).below hb
  · by_cases e : k = 2
    · have : b = N + 11 := by subst e; simp at hsz; omega
      rw [← this]; exact n3 e
    · exact (h.a3 (by omega)).below hb
  · by_cases e : k = 3
    · have : b = N + 15 := by subst e; simp at hsz; omega
      rw [← this]; exact n4 e
    · exact (h.a4 (by omega)).below hb
  · by_cases e : k = 4
    · have : b = N + 18 := by subst e; simp at hsz; omega
      rw [← this]; exact n5 e
    · exact (h.a5 (by omega)).below hb
theorem Acc.n0 (h : Acc 0 wA w N p q) (hs : w.heap.size = b) (hz : w'.heap.size = b + 4) (hb : Below w.heap.size w w') (hF : FlagAt w' b p.bo q.bo 1 22) : Acc 1 wA w' N p q :=
  h.next hs hz hb (by omega) (fun _ => hF) (fun e => by cases e) (fun e => by cases e) (fun e => by cases e) (fun e => by cases e)
theorem Acc.n1 (h : Acc 1 wA w N p q) (hs : w.heap.size = b) (hz : w'.heap.size = b + 4) (hb : Below w.heap.size w w') (hF : FlagAt w' b p.un q.un 4 24) : Acc 2 wA w' N p q :=
  h.next hs hz hb (by omega) (fun e => by cases e) (fun _ => hF) (fun e => by cases e) (fun e => by cases e) (fun e => by cases e)
theorem Acc.n2 (h : Acc 2 wA w N p q) (hs : w.heap.size = b) (hz : w'.heap.size = b + 4) (hb : Below w.heap.size w w') (hF : FlagAt w' b p.re q.re 7 27) : Acc 3 wA w' N p q :=
  h.next hs hz hb (by omega) (fun e => by cases e) (fun e => by cases e) (fun _ => hF) (fun e => by cases e) (fun e => by cases e)
theorem Acc.n3 (h : Acc 3 wA w N p q) (hs : w.heap.size = b) (hz : w'.heap.size = b + 3) (hb : Below w.heap.size w w') (hF : ColAt w' b p.f q.f 30) : Acc 4 wA w' N p q :=
  h.next hs hz hb (by omega) (fun e => by cases e) (fun e => by cases e) (fun e => by cases e) (fun _ => hF) (fun e => by cases e)
theorem Acc.n4 (h : Acc 4 wA w N p q) (hs : w.heap.size = b) (hz : w'.heap.size = b + 3) (hb : Below w.heap.size w w') (hF : ColAt w' b p.b q.b 40) : Acc 5 wA w' N p q :=
  h.next hs hz hb (by omega) (fun e => by cases e) (fun e => by cases e) (fun e => by cases e) (fun e => by cases e) (fun _ => hF)
end
end Go.Proofs.YtjlfibhbfdckpaaGreatDoor

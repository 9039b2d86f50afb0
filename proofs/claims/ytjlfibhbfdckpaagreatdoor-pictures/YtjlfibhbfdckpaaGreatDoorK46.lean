/- Texts of the proof, one behind the other: RdM. -/
import Derived.Test.YtjlfibhbfdckpaaGreatDoorK09
import Derived.Test.YtjlfibhbfdckpaaGreatDoorK34
import Derived.Test.YtjlfibhbfdckpaaGreatDoorK45
import Derived.Deep.AppendLies
/- The document's desk: the letters of a text. -/
namespace Go.Proofs.YtjlfibhbfdckpaaGreatDoor
open Go.RowKit
open Wd (wd)
attribute [local go_sem ↓] Go.wp_at_zero Go.wp_at_succ
theorem ext_of (s : ByteArray) (i n : Nat) (l : List UInt8) (hl : l.length = n) (_h : i + n ≤ s.size) (hv : ∀ k (hk : k < n), s[i + k]? = some (l[k]'(by omega))) : s.extract i (i + n) = ⟨l.toArray⟩ := by
  apply ByteArray.ext
  rw [ByteArray.data_extract]
  apply Array.toList_inj.1
  have hs : s.data.toList.length = s.size := rfl
  rw [Array.toList_extract, List.extract_eq_take_drop, show i + n - i = n by omega]
  apply List.ext_getElem?
  intro k
  by_cases hk : k < n
  · rw [List.getElem?_take_of_lt hk, List.getElem?_drop]
    have := hv k hk
    have e : s[i + k]? = s.data.toList[i + k]? := by
      rw [Array.getElem?_toList]
      rfl
    rw [← e, this]
    simp [hl, hk]
  · rw [List.getElem?_eq_none (by simp; omega), List.getElem?_eq_none (by simp; omega)]
theorem ext1 (s : ByteArray) (i : Nat) (h : i < s.size) : s.extract i (i + 1) = ⟨#[s[i]]⟩ := by
  refine ext_of s i 1 [s[i]] rfl (by omega) (fun k hk => ?_)
  obtain rfl : k = 0 := by omega
  simp [getElem?_pos, h]
theorem ext2 (s : ByteArray) (i : Nat) (h : i + 1 < s.size) : s.extract i (i + 2) = ⟨#[s[i], s[i + 1]]⟩ := by
  refine ext_of s i 2 [s[i], s[i + 1]] rfl (by omega) (fun k hk => ?_)
  match k, hk with
  | 0, _ => simp [getElem?_pos, show i < s.size by omega]
  | 1, _ => simp [getElem?_pos, h]
theorem ext3 (s : ByteArray) (i : Nat) (h : i + 2 < s.size) : s.extract i (i + 3) = ⟨#[s[i], s[i + 1], s[i + 2]]⟩ := by
  refine ext_of s i 3 [s[i], s[i + 1], s[i + 2]] rfl (by omega) (fun k hk => ?_)
  match k, hk with
  | 0, _ => simp [getElem?_pos, show i < s.size by omega]
  | 1, _ => simp [getElem?_pos, show i + 1 < s.size by omega]
  | 2, _ => simp [getElem?_pos, h]
theorem ext4 (s : ByteArray) (i : Nat) (h : i + 3 < s.size) : s.extract i (i + 4) = ⟨#[s[i], s[i + 1], s[i + 2], s[i + 3]]⟩ := by
  refine ext_of s i 4 [s[i], s[i + 1], s[i + 2], s[i + 3]] rfl (by omega) (fun k hk => ?_)
  match k, hk with
  | 0, _ => simp [getElem?_pos, show i < s.size by omega]
  | 1, _ => simp [getElem?_pos, show i + 1 < s.size by omega]
  | 2, _ => simp [getElem?_pos, show i + 2 < s.size by omega]
  | 3, _ => simp [getElem?_pos, h]
theorem get_bang (s : ByteArray) (i : Nat) (h : i < s.size) : s.get! i = s[i] := by
  unfold ByteArray.get!
  exact getElem!_pos s.data i h

theorem info_rune_zero : (Tryz.prog.info? 21).bind (·.zero) = some (.int .i32 0) := by kernel_rfl
theorem info_rune_size : (Tryz.prog.info? 21).map (·.size) = some 1 := by kernel_rfl
theorem info_rune_bytes : (Tryz.prog.info? 21).map (·.bytes) = some 4 := by kernel_rfl
theorem info_rune : ∃ i : TypeInfo, Tryz.prog.info? 21 = some i ∧ i.zero = some (.int .i32 0) ∧ i.size = 1 ∧ i.bytes = 4 := by
  have h1 := info_rune_zero
  have h2 := info_rune_size
  have h3 := info_rune_bytes
  cases h : Tryz.prog.info? 21 with
  | none => rw [h] at h2; simp at h2
  | some i => rw [h] at h1 h2 h3; exact ⟨i, rfl, by simpa using h1, by simpa using h2, by simpa using h3⟩
def rvals (l : List Int) : List Value := l.map (Value.int .i32)
theorem list_append_rune {ops : Array Oper} {rest : List Oper} {o : Oper} {a : Act} {Q : Exit → Act → World → Prop} (w : World) (hgd : o.guard = none) (s x : Operand)
    (ho : o.op = .call { callee := .builtin .append, args := #[s, x], argTypes := #[63, 63] }) (base : Nat) (v : Value) (l : List Int) (c : Int) (k : Nat) (hk : l.length = k) (hs : a.eval s = v)
    (hown : w.ownsRow base 21 1 v k (rvals l)) (b : Nat) (hx : a.eval x = .slice (some ⟨b, 0, none⟩) 1 1) (hb : w.heap[b]? = some (.cells #[.int .i32 c] 21)) (hL : k ≤ 1000000000000) (hbase : base ≤ w.heap.size)
    (h : ∀ g cap w', w'.ownsRow base 21 1 (.slice (some ⟨g, 0, none⟩) (k + 1) cap) (k + 1) (rvals (l ++ [c])) → w.grownBy w' v.ownBlock → (v.ownBlock = some g ∨ g = w.heap.size) → g < w'.heap.size → wpList Tryz.prog ops Q rest (a.put o.dst (.slice (some ⟨g, 0, none⟩) (k + 1) cap)) w') :
    wpList Tryz.prog ops Q (o :: rest) a w := by
  obtain ⟨ti, i1, i2, i3, i4⟩ := info_rune
  refine wpList_append_lies w hgd s x 63 ho base 21 ti _ 1 4 Tryz.underlying63 i1 i2 i3 i4 rfl (by decide) v k (rvals l) hs hown ⟨b, 0, none⟩ 1 1 [.int .i32 c] hx rfl (World.news_of_block hb) (by simp [Value.oneCell']) (by decide) (by unfold maxLen; omega) (by omega) hbase w.heap.size rfl ?_
  intro g cap w' h1 h2 h3 h4
  have e : rvals l ++ [.int .i32 c] = rvals (l ++ [c]) := by simp [rvals]
  rw [e] at h1
  exact h g cap w' h1 h2 h3 h4
theorem rrow_cell {w : World} {base g n cap : Nat} {l : List Int} {t : TypeId} (h : w.ownsRow base t 1 (.slice (some ⟨g, 0, none⟩) n cap) n (rvals l)) (i : Nat) (c : Int) (hi : l[i]? = some c) : w.cell? ⟨g, i, none⟩ = some (.int .i32 c) := by
  obtain ⟨hl, h | ⟨g', cap', cur, hv, hb, hg, hn, hm, hs, ht⟩⟩ := h
  · simp at h
  · obtain ⟨rfl, rfl⟩ : g = g' ∧ cap = cap' := by simpa using hv
    have hil : i < l.length := (List.getElem?_eq_some_iff.1 hi).1
    have hll : (rvals l).length = l.length := by simp [rvals]
    rw [cell_of_block hg]
    have e : (rvals l)[i]? = some (.int .i32 c) := by unfold rvals; rw [List.getElem?_map, hi]; rfl
    rw [← ht, List.getElem?_take_of_lt (by omega), Array.getElem?_toList] at e
    exact e
/-- What the loop of letters knows. -/
structure Let (s : ByteArray) (w : World) (u : Value) (pos f : Nat) (rs : List Int) (w' : World) : Prop where
  le : pos ≤ s.size
  row : w'.ownsRow w.heap.size 21 1 u rs.length (rvals rs)
  all : rs ++ runesG s f pos = runesG s s.size 0
  fuel : s.size ≤ pos + f
  short : rs.length ≤ pos
  bel : Below w.heap.size w w'
/-- The letter that is written. -/
def seenR (r : Int) : Int := if wd r = 0 then 65533 else r
theorem Let.step {s : ByteArray} {w w' w2 : World} {u u2 : Value} {pos f : Nat} {rs : List Int} (h : Let s w u pos f rs w') (hlt : pos < s.size) {r : Int} {n : Nat} (hd : ((Utf8.decode s pos).1 : Int) = r ∧ (Utf8.decode s pos).2 = n)
    (hr : w2.ownsRow w.heap.size 21 1 u2 (rs.length + 1) (rvals (rs ++ [seenR r]))) (hb : Below w.heap.size w w2) (hn : pos + n ≤ s.size) : ∃ f' rs', Let s w u2 (pos + n) f' rs' w2 := by
  obtain ⟨f, rfl⟩ : ∃ f', f = f' + 1 := ⟨f - 1, by have := h.fuel; omega⟩
  have hn1 := width_pos s pos hlt
  rw [hd.2] at hn1
  have e := h.all
  rw [runesG_cons s f hlt, hd.1, hd.2] at e
  refine ⟨f, rs ++ [seenR r], hn, by rw [List.length_append]; exact hr, ?_, by have := h.fuel; omega, by rw [List.length_append]; have := h.short; simp; omega, hb⟩
  rw [List.append_assoc]
  exact e
theorem dec_at (s : ByteArray) (pos n b0 b1 b2 b3 : Nat) (hn : s.size - pos = n) (h0 : (s.get! pos).toNat = b0) (h1 : (s.get! (pos + 1)).toNat = b1) (h2 : (s.get! (pos + 2)).toNat = b2) (h3 : (s.get! (pos + 3)).toNat = b3) : Utf8.decode s pos = decN n b0 b1 b2 b3 := by
  rw [decode_decN, hn, h0, h1, h2, h3]
end Go.Proofs.YtjlfibhbfdckpaaGreatDoor

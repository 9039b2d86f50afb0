/- Texts of the proof, one behind the other: RfV, RfP. -/
import Derived.Test.YtjlfibhbfdckpaaDoorK05
import Derived.Test.YtjlfibhbfdckpaaDoorK15
import Derived.Test.YtjlfibhbfdckpaaDoorK19
import Derived.Deep.AppendLies
/- The document's screen: numbers. -/
namespace Go.Proofs.YtjlfibhbfdckpaaDoor
open Go.RowKit
attribute [local go_sem ↓] Go.wp_at_zero Go.wp_at_succ
theorem info_int_zero : (Tryd.prog.info? 3).bind (·.zero) = some (.int .i64 0) := by kernel_rfl
theorem info_int_size : (Tryd.prog.info? 3).map (·.size) = some 1 := by kernel_rfl
theorem info_int_bytes : (Tryd.prog.info? 3).map (·.bytes) = some 8 := by kernel_rfl
theorem info_int : ∃ i : TypeInfo, Tryd.prog.info? 3 = some i ∧ i.zero = some (.int .i64 0) ∧ i.size = 1 ∧ i.bytes = 8 := by
  have h1 := info_int_zero
  have h2 := info_int_size
  have h3 := info_int_bytes
  cases h : Tryd.prog.info? 3 with
  | none => rw [h] at h2; simp at h2
  | some i => rw [h] at h1 h2 h3; exact ⟨i, rfl, by simpa using h1, by simpa using h2, by simpa using h3⟩
theorem list_append_int {ops : Array Oper} {rest : List Oper} {o : Oper} {a : Act} {Q : Exit → Act → World → Prop} (w : World) (hgd : o.guard = none) (s x : Operand)
    (ho : o.op = .call { callee := .builtin .append, args := #[s, x], argTypes := #[37, 37] }) (base : Nat) (v : Value) (l : List Int) (c : Int) (k : Nat) (hk : l.length = k) (hs : a.eval s = v)
    (hown : w.ownsRow base 3 1 v k (ivals l)) (b : Nat) (hx : a.eval x = .slice (some ⟨b, 0, none⟩) 1 1) (hb : w.heap[b]? = some (.cells #[.int .i64 c] 3)) (hL : k ≤ 1000000000000) (hbase : base ≤ w.heap.size)
    (h : ∀ g cap w', w'.ownsRow base 3 1 (.slice (some ⟨g, 0, none⟩) (k + 1) cap) (k + 1) (ivals (l ++ [c])) → w.grownBy w' v.ownBlock → (v.ownBlock = some g ∨ g = w.heap.size) → g < w'.heap.size → wpList Tryd.prog ops Q rest (a.put o.dst (.slice (some ⟨g, 0, none⟩) (k + 1) cap)) w') :
    wpList Tryd.prog ops Q (o :: rest) a w := by
  obtain ⟨ti, i1, i2, i3, i4⟩ := info_int
  refine wpList_append_lies w hgd s x 37 ho base 3 ti _ 1 8 Tryd.underlying37 i1 i2 i3 i4 rfl (by decide) v k (ivals l) hs hown ⟨b, 0, none⟩ 1 1 [.int .i64 c] hx rfl (World.news_of_block hb) (by simp [Value.oneCell']) (by decide) (by unfold maxLen; omega) (by omega) hbase w.heap.size rfl ?_
  intro g cap w' h1 h2 h3 h4
  have e : ivals l ++ [.int .i64 c] = ivals (l ++ [c]) := by simp [ivals]
  rw [e] at h1
  exact h g cap w' h1 h2 h3 h4
/-- What numbers answers. -/
def NumPost (b : ByteArray) (w : World) (e : Ending) (w' : World) : Prop := Below w.heap.size w w' ∧ match nums b with
  | none => e = .returned (.tuple #[.slice none 0 0, .bool false])
  | some l => ∃ v, e = .returned (.tuple #[v, .bool (decide (l.length ≤ 8))]) ∧ w'.ownsRow w.heap.size 3 1 v l.length (ivals l) ∧ Small l
set_option maxRecDepth 100000 in
set_option maxHeartbeats 8000000 in
theorem refNumbers (b : ByteArray) (w : World) (hb : b.size ≤ 100000000000) :
    Calls Tryd.prog 74 #[.string b] w (NumPost b w) := by
  go_enter Tryd.func74, Tryd.ntmps74
  go_wp2_with fail
  go_loopw [4, 5] (fun v i w' => ∃ (k : Nat) (l : List Int), k ≤ b.size ∧ i = .int .i64 k ∧ Hid (numsTo (b.data.toList.take k) [] = some l) ∧ Hid (Small l ∧ l.length ≤ k + 1 ∧ (l = [] → v = .slice none 0 0)) ∧ w'.ownsRow w.heap.size 3 1 v l.length (ivals l) ∧ Below w.heap.size w w') (fun _ i _ => b.size - (intOf i).toNat)
  case atStart => exact ⟨0, [], by omega, rfl, rfl, ⟨small_nil, by simp, fun _ => rfl⟩, World.ownsRow_nil _ _ _ _, Below.refl _ _⟩
  case round =>
    obtain ⟨k, l, hk, rfl, hn, hs, hr, hB⟩ := hrel
    have HR : Hid (wr.ownsRow w.heap.size 3 1 u4 l.length (ivals l)) := hr
    clear hr
    by_cases hlt : k < b.size
    · by_cases hl0 : l = []
      · have hu := hs.out.2.2 hl0
        subst hu
        have hbk : b[k].toNat < 256 := b[k].toNat_lt
        have Hn0 : Hid (numsTo (b.data.toList.take k) [] = some []) := by rw [hl0] at hn; exact hn
        have hne : begunL [] = [0] := rfl
        have Hne : Hid (begunL [] = [0]) := hne
        clear hne
        by_cases hc : (b[k].toNat : Int) = 59
        · have c59 : ((b[k].toNat : Int) == 59) = true := by simp [hc]
          have Hst : Hid (numsTo (b.data.toList.take (k + 1)) [] = some ([0] ++ [0])) := by
            show numsTo _ _ = _
            rw [take_snoc b k hlt, numsTo_snoc _ _ _ _ Hn0.out]
            unfold numStep
            rw [if_pos hc, Hne.out]
          clear hc hl0 HR
          go_wp2_with (first | (at_builtin; refine list_append_int _ (by rfl) (.tmp 17) (.tmp 18) (by rfl) w.heap.size (.slice none 0 0) [] 0 0 rfl (by rfl) (World.ownsRow_nil _ _ _ _) wr.heap.size (by rfl) (heap_new' _ _ _ (by simp)) (by omega) (by have := hB.size; simp; omega) ?_; intro g7 cap7 w7 hr7 hg7 ho7 hl7; have c7 : w7.cell? ⟨g7, 0, none⟩ = some (.int .i64 0) := irow_cell hr7 0 (by simp); have fr7 := irow_free hr7; have B7 : Below w.heap.size w w7 := (hB.alloc hB.size _).grown hg7 (by have := hB.size; simp; omega) (fun i hi => by cases hi); have HR7 : Hid (w7.ownsRow w.heap.size 3 1 (.slice (some ⟨g7, 0, none⟩) 1 cap7) 1 (ivals [0])) := hr7; clear hr7 hg7 ho7) | (at_builtin; refine list_append_int _ (by rfl) (.tmp 26) (.tmp 27) (by rfl) w.heap.size (.slice (some ⟨g7, 0, none⟩) 1 cap7) [0] 0 1 rfl (by rfl) (irow_same HR7.out (fun i hi => Below.heap_alloc _ _ _ (HR7.out.lt i hi).2)) w7.heap.size (by rfl) (heap_new' _ _ _ (by simp)) (by omega) (by have := B7.size; simp; omega) ?_; intro g9 cap9 w9 hr9 hg9 ho9 hl9))
          have B9 : Below w.heap.size w w9 := (B7.alloc B7.size _).grown hg9 (by have := B7.size; simp; omega) (fun i hi => (HR7.out.lt i hi).1)
          have HR9 : Hid (w9.ownsRow w.heap.size 3 1 (.slice (some ⟨g9, 0, none⟩) (1 + 1) cap9) (1 + 1) (ivals ([0] ++ [0]))) := hr9
          clear hr9 hg9 ho9
          go_wp2_with fail
          go_roundw
          case rel => exact ⟨k + 1, [0] ++ [0], by omega, by go_num, Hst.out, ⟨small_snoc (l := [0]) (small_begun small_nil), by simp, fun e => by simp at e⟩, HR9.out, B9⟩
          case measure => simp [intOf]; omega
        by_cases hd : 48 ≤ (b[k].toNat : Int) ∧ (b[k].toNat : Int) ≤ 57
        · obtain ⟨hd1, hd2⟩ := hd
          have c59 : ((b[k].toNat : Int) == 59) = false := by simp; omega
          have Hst : Hid (numsTo (b.data.toList.take (k + 1)) [] = some [(b[k].toNat : Int) - 48]) := by
            show numsTo _ _ = _
            rw [take_snoc b k hlt, numsTo_snoc _ _ _ _ Hn0.out]
            unfold numStep
            rw [if_neg (by omega), if_pos (by omega), Hne.out]
            unfold capN
            rw [if_neg (by simp [lastOf]; omega)]
            simp [setLast, lastOf]
          clear hl0 HR
          go_wp2_with (first | (at_builtin; refine list_append_int _ (by rfl) (.tmp 17) (.tmp 18) (by rfl) w.heap.size (.slice none 0 0) [] 0 0 rfl (by rfl) (World.ownsRow_nil _ _ _ _) wr.heap.size (by rfl) (heap_new' _ _ _ (by simp)) (by omega) (by have := hB.size; simp; omega) ?_; intro g7 cap7 w7 hr7 hg7 ho7 hl7; have c7 : w7.cell? ⟨g7, 0, none⟩ = some (.int .i64 0) := irow_cell hr7 0 (by simp); have fr7 := irow_free hr7; have B7 : Below w.heap.size w w7 := (hB.alloc hB.size _).grown hg7 (by have := hB.size; simp; omega) (fun i hi => by cases hi); have HR7 : Hid (w7.ownsRow w.heap.size 3 1 (.slice (some ⟨g7, 0, none⟩) 1 cap7) 1 (ivals [0])) := hr7; clear hr7 hg7 ho7))
          go_roundw
          case rel =>
            refine ⟨k + 1, [(b[k].toNat : Int) - 48], by omega, by go_num, Hst.out, ⟨small_set (l := [0]) (small_begun small_nil) 0 _ (by omega) (by omega), by simp, fun e => by simp at e⟩, irow_set HR7.out 0 _, B7.setCell (p := ⟨g7, 0, none⟩) (HR7.out.lt g7 rfl).1 _⟩
          case measure => simp [intOf]; omega
        · have c59 : ((b[k].toNat : Int) == 59) = false := by simp; omega
          have Hbad : Hid (nums b = none) := nums_bad b k hlt [] Hn0.out (by unfold numStep; rw [if_neg (by omega), if_neg (by omega)])
          have hcc : (b[k].toNat : Int) < 48 ∨ 57 < (b[k].toNat : Int) := by omega
          clear hd hl0 HR
          rcases hcc with hcc | hcc
          all_goals
            go_wp2_with (first | (at_builtin; refine list_append_int _ (by rfl) (.tmp 17) (.tmp 18) (by rfl) w.heap.size (.slice none 0 0) [] 0 0 rfl (by rfl) (World.ownsRow_nil _ _ _ _) wr.heap.size (by rfl) (heap_new' _ _ _ (by simp)) (by omega) (by have := hB.size; simp; omega) ?_; intro g7 cap7 w7 hr7 hg7 ho7 hl7; have c7 : w7.cell? ⟨g7, 0, none⟩ = some (.int .i64 0) := irow_cell hr7 0 (by simp); have fr7 := irow_free hr7; have B7 : Below w.heap.size w w7 := (hB.alloc hB.size _).grown hg7 (by have := hB.size; simp; omega) (fun i hi => by cases hi); have HR7 : Hid (w7.ownsRow w.heap.size 3 1 (.slice (some ⟨g7, 0, none⟩) 1 cap7) 1 (ivals [0])) := hr7; clear hr7 hg7 ho7))
            go_ret2
            refine ⟨B7, ?_⟩
            rw [Hbad.out]
            rfl
      · obtain ⟨r, hr1⟩ : ∃ r, l.length = r + 1 := ⟨l.length - 1, by cases l with | nil => exact absurd rfl hl0 | cons => simp⟩
        have Hr1 : Hid (l.length = r + 1) := hr1
        rw [hr1] at HR
        obtain ⟨g, cap, rfl⟩ := row_slice HR (by omega)
        have Hl0 : Hid (¬ l = []) := hl0
        have hll : r + 1 ≤ k + 1 := by rw [← hr1]; exact hs.out.2.1
        have c0 : wr.cell? ⟨g, r, none⟩ = some (.int .i64 (lastOf l)) := by
          have := irow_cell HR r (by omega)
          unfold lastOf
          rw [hr1]; exact this
        have fr := irow_free HR
        have hs0 := hs.out.1 (l.length - 1)
        have hl1 : 0 ≤ lastOf l := hs0.1
        have hl2 : lastOf l ≤ 9999 := hs0.2
        have hbk : b[k].toNat < 256 := b[k].toNat_lt
        have HR : Hid (wr.ownsRow w.heap.size 3 1 (.slice (some ⟨g, 0, none⟩) (r + 1) cap) (r + 1) (ivals l)) := HR
        clear hs0 hr1 hl0
        by_cases hc : (b[k].toNat : Int) = 59
        · have c59 : ((b[k].toNat : Int) == 59) = true := by simp [hc]
          have Hst : Hid (numsTo (b.data.toList.take (k + 1)) [] = some (l ++ [0])) := by
            show numsTo _ _ = _
            rw [take_snoc b k hlt, numsTo_snoc _ _ _ _ hn.out]
            unfold numStep
            rw [if_pos hc]
            simp [begunL, Hl0.out]
          clear hc
          go_wp2_with ((at_builtin; refine list_append_int _ (by rfl) (.tmp 26) (.tmp 27) (by rfl) w.heap.size (.slice (some ⟨g, 0, none⟩) (r + 1) cap) l 0 (r + 1) Hr1.out (by rfl) (irow_same HR.out (fun i hi => Below.heap_alloc _ _ _ (HR.out.lt i hi).2)) _ (by rfl) (heap_new' _ _ _ (by simp)) (by omega) (by have := hB.size; simp; omega) ?_; intro g9 cap9 w9 hr9 hg9 ho9 hl9))
          have B9 : Below w.heap.size w w9 := (hB.alloc hB.size _).grown hg9 (by have := hB.size; simp; omega) (fun i hi => (HR.out.lt i hi).1)
          have HR9 : Hid (w9.ownsRow w.heap.size 3 1 (.slice (some ⟨g9, 0, none⟩) ((r + 1) + 1) cap9) ((r + 1) + 1) (ivals (l ++ [0]))) := hr9
          clear hr9 hg9 ho9
          go_wp2_with fail
          go_roundw
          case rel =>
            refine ⟨k + 1, l ++ [0], by omega, by go_num, Hst.out, ⟨small_snoc hs.out.1, by have := hs.out.2.1; have := Hr1.out; simp; omega, fun e => by simp at e⟩, ?_, B9⟩
            have e : (l ++ [0]).length = (r + 1) + 1 := by have := Hr1.out; simp; omega
            rw [e]; exact HR9.out
          case measure => simp [intOf]; omega
        by_cases hd : 48 ≤ (b[k].toNat : Int) ∧ (b[k].toNat : Int) ≤ 57
        · obtain ⟨hd1, hd2⟩ := hd
          by_cases hbig : 9999 < 10 * lastOf l + ((b[k].toNat : Int) - 48)
          · have hbig' := hbig
            have c59 : ((b[k].toNat : Int) == 59) = false := by simp; omega
            have Hst : Hid (numsTo (b.data.toList.take (k + 1)) [] = some (setLast l (9999))) := by
              show numsTo _ _ = _
              rw [take_snoc b k hlt, numsTo_snoc _ _ _ _ hn.out]
              unfold numStep
              rw [if_neg (by omega), if_pos (by omega)]
              simp [begunL, Hl0.out]
              unfold capN
              rw [if_pos (by omega)]
            go_wp2_with (fail)
            go_roundw
            case rel =>
              refine ⟨k + 1, setLast l (9999), by omega, by go_num, Hst.out, ⟨small_set hs.out.1 _ _ (by omega) (by omega), by unfold setLast; rw [List.length_set]; have := hs.out.2.1; omega, fun e => by have q := congrArg List.length e; unfold setLast at q; rw [List.length_set, Hr1.out] at q; simp at q⟩, ?_, hB.setCell (p := ⟨g, r, none⟩) (HR.out.lt g rfl).1 _⟩
              have e : (setLast l (9999)).length = (r + 1) := by unfold setLast; rw [List.length_set]; exact Hr1.out
              have e2 : l.length - 1 = r := by have := Hr1.out; omega
              rw [e]
              unfold setLast
              rw [e2]
              exact irow_set HR.out r _
            case measure => simp [intOf]; omega
          · have hbig' : 10 * lastOf l + ((b[k].toNat : Int) - 48) ≤ 9999 := by omega
            have c59 : ((b[k].toNat : Int) == 59) = false := by simp; omega
            have Hst : Hid (numsTo (b.data.toList.take (k + 1)) [] = some (setLast l (10 * lastOf l + ((b[k].toNat : Int) - 48)))) := by
              show numsTo _ _ = _
              rw [take_snoc b k hlt, numsTo_snoc _ _ _ _ hn.out]
              unfold numStep
              rw [if_neg (by omega), if_pos (by omega)]
              simp [begunL, Hl0.out]
              unfold capN
              rw [if_neg (by omega)]
            go_wp2_with (fail)
            go_roundw
            case rel =>
              refine ⟨k + 1, setLast l (10 * lastOf l + ((b[k].toNat : Int) - 48)), by omega, by go_num, Hst.out, ⟨small_set hs.out.1 _ _ (by omega) (by omega), by unfold setLast; rw [List.length_set]; have := hs.out.2.1; omega, fun e => by have q := congrArg List.length e; unfold setLast at q; rw [List.length_set, Hr1.out] at q; simp at q⟩, ?_, hB.setCell (p := ⟨g, r, none⟩) (HR.out.lt g rfl).1 _⟩
              have e : (setLast l (10 * lastOf l + ((b[k].toNat : Int) - 48))).length = (r + 1) := by unfold setLast; rw [List.length_set]; exact Hr1.out
              have e2 : l.length - 1 = r := by have := Hr1.out; omega
              rw [e]
              unfold setLast
              rw [e2]
              exact irow_set HR.out r _
            case measure => simp [intOf]; omega
        · have c59 : ((b[k].toNat : Int) == 59) = false := by simp; omega
          have Hbad : Hid (nums b = none) := nums_bad b k hlt l hn.out (by unfold numStep; rw [if_neg (by omega), if_neg (by omega)])
          have hcc : (b[k].toNat : Int) < 48 ∨ 57 < (b[k].toNat : Int) := by omega
          clear hd
          rcases hcc with hcc | hcc
          all_goals
            go_wp2_with (fail)
            go_ret2
            refine ⟨hB, ?_⟩
            rw [Hbad.out]
            rfl
    · obtain hke : k = b.size := by omega
      have Hn : Hid (nums b = some l) := by
        show nums b = some l
        unfold nums
        rw [← hn.out, hke, List.take_of_length_le (by simp)]
      clear hke
      obtain ⟨q, hq⟩ : ∃ q, l.length = q := ⟨_, rfl⟩
      have Hq : Hid (l.length = q) := hq
      have HR' : Hid (wr.ownsRow w.heap.size 3 1 u4 q (ivals l)) := by show wr.ownsRow w.heap.size 3 1 u4 q (ivals l); rw [← hq]; exact HR.out
      clear hq HR
      rcases HR'.out.2 with ⟨rfl, h0⟩ | ⟨g, cap, cur, rfl, _⟩
      · have h0' : Hid (q = 0) := h0
        clear h0
        go_wp2_with fail
        go_ret2
        refine ⟨hB, ?_⟩
        rw [Hn.out]
        refine ⟨.slice none 0 0, ?_, by rw [Hq.out]; exact HR'.out, hs.out.1⟩
        have : l.length = 0 := by rw [Hq.out]; exact h0'.out
        simp [this]
      · go_wp2_with fail
        go_ret2
        refine ⟨hB, ?_⟩
        rw [Hn.out]
        refine ⟨.slice (some ⟨g, 0, none⟩) q cap, ?_, by rw [Hq.out]; exact HR'.out, hs.out.1⟩
        rw [Hq.out]
        have e : decide ((q : Int) ≤ 8) = decide (q ≤ 8) := by rw [decide_eq_decide]; omega
        rw [← e]
        rfl
end Go.Proofs.YtjlfibhbfdckpaaDoor

/- The document's screen: pen. -/
namespace Go.Proofs.YtjlfibhbfdckpaaDoor
open Go.RowKit
attribute [local go_sem ↓] Go.wp_at_zero Go.wp_at_succ
set_option maxHeartbeats 4000000 in
theorem refPen (bs bc g cap N : Nat) (s : Rs) (n : Int) (w : World) (h : RefAt w bs bc g cap N s) :
    Calls Tryd.prog 79 #[.pointer (some ⟨bs, 0, none⟩), .int .i64 n] w (RPost bs bc g w (penR s n) (.tuple #[])) := by
  have f6 := h.f6
  have f7 := h.f7
  have f8 := h.f8
  have f9 := h.f9
  have f10 := h.f10
  have fr := h.free
  have l := h.lt
  have HR : Hid (RefAt w bs bc g cap N s) := h
  clear h
  by_cases h0 : n = 0
  · subst h0
    go_enter Tryd.func79, Tryd.ntmps79
    go_wp2_with fail
    go_end0
    exact pen_done HR.out 0 Pn.plain rfl _ _
  by_cases h1 : n = 1
  · subst h1
    go_enter Tryd.func79, Tryd.ntmps79
    go_wp2_with fail
    go_end0
    exact pen_done HR.out 1 { s.pen with bo := true } rfl _ _
  by_cases h22 : n = 22
  · subst h22
    go_enter Tryd.func79, Tryd.ntmps79
    go_wp2_with fail
    go_end0
    exact pen_done HR.out 22 { s.pen with bo := false } rfl _ _
  by_cases h4 : n = 4
  · subst h4
    go_enter Tryd.func79, Tryd.ntmps79
    go_wp2_with fail
    go_end0
    exact pen_done HR.out 4 { s.pen with un := true } rfl _ _
  by_cases h24 : n = 24
  · subst h24
    go_enter Tryd.func79, Tryd.ntmps79
    go_wp2_with fail
    go_end0
    exact pen_done HR.out 24 { s.pen with un := false } rfl _ _
  by_cases h7 : n = 7
  · subst h7
    go_enter Tryd.func79, Tryd.ntmps79
    go_wp2_with fail
    go_end0
    exact pen_done HR.out 7 { s.pen with re := true } rfl _ _
  by_cases h27 : n = 27
  · subst h27
    go_enter Tryd.func79, Tryd.ntmps79
    go_wp2_with fail
    go_end0
    exact pen_done HR.out 27 { s.pen with re := false } rfl _ _
  by_cases h39 : n = 39
  · subst h39
    go_enter Tryd.func79, Tryd.ntmps79
    go_wp2_with fail
    go_end0
    exact pen_done HR.out 39 { s.pen with f := 0 } rfl _ _
  by_cases h49 : n = 49
  · subst h49
    go_enter Tryd.func79, Tryd.ntmps79
    go_wp2_with fail
    go_end0
    exact pen_done HR.out 49 { s.pen with b := 0 } rfl _ _
  have b0 : (n == 0) = false := by simpa using h0
  have b1 : (n == 1) = false := by simpa using h1
  have b22 : (n == 22) = false := by simpa using h22
  have b4 : (n == 4) = false := by simpa using h4
  have b24 : (n == 24) = false := by simpa using h24
  have b7 : (n == 7) = false := by simpa using h7
  have b27 : (n == 27) = false := by simpa using h27
  have b39 : (n == 39) = false := by simpa using h39
  have b49 : (n == 49) = false := by simpa using h49
  have HP : Hid (penN s.pen n = if 30 ≤ n ∧ n ≤ 37 then { s.pen with f := n - 29 } else if 40 ≤ n ∧ n ≤ 47 then { s.pen with b := n - 39 } else s.pen) := by
    show penN s.pen n = _
    unfold penN
    rw [if_neg h0, if_neg h1, if_neg h22, if_neg h4, if_neg h24, if_neg h7, if_neg h27, if_neg h39, if_neg h49]
  clear h0 h1 h22 h4 h24 h7 h27 h39 h49 
  rcases (by omega : n < 30 ∨ (30 ≤ n ∧ n ≤ 37) ∨ (37 < n ∧ n < 40) ∨ (40 ≤ n ∧ n ≤ 47) ∨ 47 < n) with a | ⟨a, a'⟩ | ⟨a, a'⟩ | ⟨a, a'⟩ | a
  · have hp := HP.out
    rw [if_neg (by omega), if_neg (by omega)] at hp
    have HQ : Hid (penN s.pen n = s.pen) := hp
    clear hp
    go_enter Tryd.func79, Tryd.ntmps79
    go_wp2_with fail
    go_end0
    exact pen_done HR.out n s.pen HQ.out _ _
  · have hp := HP.out
    rw [if_pos (by omega)] at hp
    have HQ : Hid (penN s.pen n = { s.pen with f := n - 29 }) := hp
    clear hp
    go_enter Tryd.func79, Tryd.ntmps79
    go_wp2_with fail
    go_end0
    exact pen_done HR.out n { s.pen with f := n - 29 } HQ.out _ _
  · have hp := HP.out
    rw [if_neg (by omega), if_neg (by omega)] at hp
    have HQ : Hid (penN s.pen n = s.pen) := hp
    clear hp
    go_enter Tryd.func79, Tryd.ntmps79
    go_wp2_with fail
    go_end0
    exact pen_done HR.out n s.pen HQ.out _ _
  · have hp := HP.out
    rw [if_neg (by omega), if_pos (by omega)] at hp
    have HQ : Hid (penN s.pen n = { s.pen with b := n - 39 }) := hp
    clear hp
    go_enter Tryd.func79, Tryd.ntmps79
    go_wp2_with fail
    go_end0
    exact pen_done HR.out n { s.pen with b := n - 39 } HQ.out _ _
  · have hp := HP.out
    rw [if_neg (by omega), if_neg (by omega)] at hp
    have HQ : Hid (penN s.pen n = s.pen) := hp
    clear hp
    go_enter Tryd.func79, Tryd.ntmps79
    go_wp2_with fail
    go_end0
    exact pen_done HR.out n s.pen HQ.out _ _
end Go.Proofs.YtjlfibhbfdckpaaDoor

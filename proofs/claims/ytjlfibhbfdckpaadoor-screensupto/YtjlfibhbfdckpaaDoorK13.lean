/- Texts of the proof, one behind the other: PuK, PuL, PuM, PlO, PnA, PuN, PuP, PuQ, PuR. -/
import Derived.Test.YtjlfibhbfdckpaaDoorK05
import Derived.Test.YtjlfibhbfdckpaaDoorK06
import Derived.Test.YtjlfibhbfdckpaaDoorK12
/- The program's screen: a byte comes. -/
namespace Go.Proofs.YtjlfibhbfdckpaaDoor
open Go.RowKit Go.Lib
attribute [local go_sem ↓] Go.wp_at_zero Go.wp_at_succ
theorem sTakeG (bs bg g N : Nat) (s s' : Rs) (t : Pt) (c : Int) (w : World) (h : PrAt w bs bg g N s t) (hm : t.mode = 0) (hQ : Calls Tryd.prog 63 #[.pointer (some ⟨bs, 0, none⟩), .int .u8 c] w (TPost bs bg g N w s')) :
    Calls Tryd.prog 41 #[.pointer (some ⟨bs, 0, none⟩), .int .u8 c] w (TPost bs bg g N w s') := by
  have f11 := h.f11
  rw [hm] at f11
  have HQ : Hid (Calls Tryd.prog 63 #[.pointer (some ⟨bs, 0, none⟩), .int .u8 c] w (TPost bs bg g N w s')) := hQ
  clear h hQ
  go_enter Tryd.func41, Tryd.ntmps41
  go_wp2_with fail
  go_at_call 63
  refine HQ.out.mono ?_
  rintro e w' ⟨rfl, P, K⟩
  go_wp2_with fail
  go_end0
  exact ⟨rfl, P, K⟩
theorem sTakeE (bs bg g N : Nat) (s s' : Rs) (t : Pt) (c : Int) (w : World) (h : PrAt w bs bg g N s t) (hm : t.mode = 1) (hQ : Calls Tryd.prog 61 #[.pointer (some ⟨bs, 0, none⟩), .int .u8 c] w (TPost bs bg g N w s')) :
    Calls Tryd.prog 41 #[.pointer (some ⟨bs, 0, none⟩), .int .u8 c] w (TPost bs bg g N w s') := by
  have f11 := h.f11
  rw [hm] at f11
  have HQ : Hid (Calls Tryd.prog 61 #[.pointer (some ⟨bs, 0, none⟩), .int .u8 c] w (TPost bs bg g N w s')) := hQ
  clear h hQ
  go_enter Tryd.func41, Tryd.ntmps41
  go_wp2_with fail
  go_at_call 61
  refine HQ.out.mono ?_
  rintro e w' ⟨rfl, P, K⟩
  go_wp2_with fail
  go_end0
  exact ⟨rfl, P, K⟩
theorem sTakeS (bs bg g N : Nat) (s s' : Rs) (t : Pt) (c : Int) (w : World) (h : PrAt w bs bg g N s t) (hm : t.mode = 2) (hQ : Calls Tryd.prog 62 #[.pointer (some ⟨bs, 0, none⟩), .int .u8 c] w (TPost bs bg g N w s')) :
    Calls Tryd.prog 41 #[.pointer (some ⟨bs, 0, none⟩), .int .u8 c] w (TPost bs bg g N w s') := by
  have f11 := h.f11
  rw [hm] at f11
  have HQ : Hid (Calls Tryd.prog 62 #[.pointer (some ⟨bs, 0, none⟩), .int .u8 c] w (TPost bs bg g N w s')) := hQ
  clear h hQ
  go_enter Tryd.func41, Tryd.ntmps41
  go_wp2_with fail
  go_at_call 62
  refine HQ.out.mono ?_
  rintro e w' ⟨rfl, P, K⟩
  go_wp2_with fail
  go_end0
  exact ⟨rfl, P, K⟩
section
variable {w : World} {bs bg g N : Nat} {s : Rs} {t : Pt}
theorem PrAt.noB (h : PrAt w bs bg g N s t) (B : ByteArray) : PrAt w bs bg g N { s with B := B } t := h.congr _ rfl rfl rfl (fun _ _ _ _ => rfl)
theorem PrAt.noO (h : PrAt w bs bg g N s t) : PrAt w bs bg g N (oddR s) t := h.congr _ rfl rfl rfl (fun _ _ _ _ => rfl)
theorem sEscB (c : UInt8) (h : PrAt w bs bg g N s t) (hB : s.B = ⟨#[27]⟩) (hm : t.mode = 1) (h0 : t.bn = 0) :
    Calls Tryd.prog 61 #[.pointer (some ⟨bs, 0, none⟩), .int .u8 c.toNat] w (TPost bs bg g N w (escR s c)) := by
  unfold escR
  by_cases e91 : (c.toNat : Int) = 91
  · rw [if_pos e91, e91]
    refine call_tp (sEsc91 bs bg g N s t w h) rfl rfl rfl rfl (.inr (.inr (.inl ⟨[], rfl, rfl, h0, .inl ⟨[], rfl, rfl, rfl, by decide, fun i _ => by show (0 : Int) = _; simp⟩⟩)))
  rw [if_neg e91]
  by_cases e27 : (c.toNat : Int) = 27
  · rw [if_pos e27, e27]
    exact call_tp (sEsc27 bs bg g N s t w h) rfl rfl rfl rfl (.inr (.inl ⟨hB, hm, h0⟩))
  rw [if_neg e27]
  exact call_tp (sEscN bs bg g N s t c.toNat w h e91 e27) rfl rfl rfl rfl (tie0 rfl h0)
theorem sSeqB (l : List UInt8) (c : UInt8) (h : PrAt w bs bg g N s t) (ok : s.Ok) (hm : t.mode = 2) (h0 : t.bn = 0) (hs : SeqIs t l) :
    Calls Tryd.prog 62 #[.pointer (some ⟨bs, 0, none⟩), .int .u8 c.toNat] w (TPost bs bg g N w (inSeqR s l c)) := by
  unfold inSeqR
  by_cases e27 : (c.toNat : Int) = 27
  · rw [if_pos e27, e27]
    exact call_tp (sSeqEsc bs bg g N s t w h) rfl rfl rfl rfl (.inr (.inl ⟨rfl, rfl, h0⟩))
  rw [if_neg e27]
  by_cases ef : 64 ≤ (c.toNat : Int) ∧ (c.toNat : Int) ≤ 126
  · rw [if_pos ef]
    have hn : nums ⟨l.toArray⟩ = numsTo l [] := by unfold nums; simp
    unfold seqR
    rw [hn]
    rcases hs with ⟨L, e, hb, hL⟩ | ⟨hb, e⟩
    · rw [e]
      show Calls _ _ _ _ (TPost bs bg g N w (if L.length ≤ 8 then doneR _ L c.toNat else oddR _))
      rw [if_pos hL.le]
      refine call_tp (sSeqDone bs bg g N { s with B := ⟨#[]⟩ } t L c.toNat w (h.noB _) (ok.setB _) hL (numsTo_small l [] L small_nil e) ef.1 ef.2 hb) rfl rfl rfl rfl ?_
      rw [done_B]
      exact tie0 rfl h0
    · have P := sSeqBad bs bg g N s t c.toNat w h ef.1 ef.2 hb
      rcases e with e | ⟨L, e, h8⟩
      · rw [e]
        exact call_tp P rfl rfl rfl rfl (tie0 rfl h0)
      · rw [e]
        show Calls _ _ _ _ (TPost bs bg g N w (if L.length ≤ 8 then doneR _ L c.toNat else oddR _))
        rw [if_neg (by omega)]
        exact call_tp P rfl rfl rfl rfl (tie0 rfl h0)
  rw [if_neg ef]
  by_cases ed : 48 ≤ (c.toNat : Int) ∧ (c.toNat : Int) ≤ 57
  · exact call_tp (sSeqDigit bs bg g N s t c.toNat w h hs.cn hs.small ed.1 ed.2) rfl rfl rfl rfl (.inr (.inr (.inl ⟨l ++ [c], rfl, by rw [(digT_mode _ _).1]; exact hm, by rw [(digT_mode _ _).2]; exact h0, seq_digit hs c ed.1 ed.2⟩)))
  by_cases e59 : (c.toNat : Int) = 59
  · have := call_tp (s' := { s with B := ⟨(27 :: 91 :: l ++ [c]).toArray⟩ }) (sSeqSep bs bg g N s t w h hs.cn) rfl rfl rfl rfl (.inr (.inr (.inl ⟨l ++ [c], rfl, by rw [(sepT_mode _).1]; exact hm, by rw [(sepT_mode _).2]; exact h0, seq_sep hs c e59⟩)))
    rw [← e59] at this
    exact this
  exact call_tp (sSeqOther bs bg g N s t c.toNat w h ed e59 ef e27) rfl rfl rfl rfl (.inr (.inr (.inl ⟨l ++ [c], rfl, hm, h0, seq_other hs c ed e59⟩)))
end
end Go.Proofs.YtjlfibhbfdckpaaDoor

/- The program's screen: a byte comes, behind those of a letter; Feed. -/
namespace Go.Proofs.YtjlfibhbfdckpaaDoor
open Go.RowKit Go.Lib
attribute [local go_sem ↓] Go.wp_at_zero Go.wp_at_succ
section
variable {w : World} {bs bg g N : Nat} {s : Rs} {t : Pt}
theorem addT_far (t : Pt) (c : Int) {n i : Nat} (h : i ≠ n) : (addT t n c).by4 i = t.by4 i := if_neg h
theorem addT_self (t : Pt) (n : Nat) (c : Int) : (addT t n c).by4 n = c := if_pos rfl
theorem sLet1 (a c : UInt8) (h : PrAt w bs bg g N s t) (ok : s.Ok) (T : Tabs w) (hm : t.mode = 0) (hn : t.bn = 1) (b0 : t.by4 0 = a.toNat) (a1 : 194 ≤ a.toNat) (a2 : a.toNat ≤ 244) (n0 : ¬ bs = 0) (n1 : ¬ bs = 1) (m0 : ¬ bg = 0) (m1 : ¬ bg = 1) (k0 : ¬ g = 0) (k1 : ¬ g = 1) :
    Calls Tryd.prog 63 #[.pointer (some ⟨bs, 0, none⟩), .int .u8 c.toNat] w (TPost bs bg g N w (letR s a [] c)) := by
  have hne : ¬ t.bn = 0 := by omega
  have q := longR_val a.toNat
  unfold letR
  cases hg : goesOnB (a :: []) c.toNat with
  | false =>
    rw [if_pos rfl]
    exact sGroundR { addT t 1 c.toNat with bn := 0 } c ((h.noB _).noO) ((ok.setB _).odd) T rfl hne hm rfl (sGoesOnRef bs bg g N _ _ c.toNat w (lAdd2bad a c ((h.noB _).noO) T n0 n1 hn b0 a1 a2 hg)) n0 n1 m0 m1 k0 k1
  | true =>
    rw [if_neg (by decide)]
    have hlo : lowR a.toNat ≤ c.toNat := by simp [goesOnB] at hg; exact hg.1
    have hhi : (c.toNat : Int) ≤ highR a.toNat := by simp [goesOnB] at hg; exact hg.2
    by_cases hl : longR a.toNat = 2
    · rw [if_pos (show longR a.toNat = ((([] : List UInt8).length + 2 : Nat) : Int) from hl)]
      exact call_tp (sGrOn bs bg g N { s with B := ⟨#[]⟩ } _ t _ c.toNat w (h.noB _) hne (sGoesOnDone bs bg g N { s with B := ⟨#[]⟩ } _ c.toNat _ w (ok.setB _) (lAdd2done a c (h.noB _) T n0 n1 hn b0 a1 a2 hg hl))) rfl rfl rfl rfl (by rw [put_B]; exact tie0 hm rfl)
    · rw [if_neg (show ¬ longR a.toNat = ((([] : List UInt8).length + 2 : Nat) : Int) from hl)]
      exact call_tp (sGrOn bs bg g N s _ t _ c.toNat w h hne (sGoesOnOpen bs bg g N s _ c.toNat w (lAdd2open a c h T n0 n1 hn b0 a1 a2 hg hl))) rfl rfl rfl rfl (.inr (.inr (.inr (.inr (.inl ⟨a, c, rfl, hm, by show (1 : Int) + 1 = 2; rfl, (addT_far _ _ (by decide)).trans b0, addT_self _ _ _, by omega, a2, hlo, hhi⟩)))))
theorem sLet2 (a b c : UInt8) (h : PrAt w bs bg g N s t) (ok : s.Ok) (T : Tabs w) (hm : t.mode = 0) (hn : t.bn = 2) (b0 : t.by4 0 = a.toNat) (b1 : t.by4 1 = b.toNat) (a1 : 224 ≤ a.toNat) (a2 : a.toNat ≤ 244) (hb1 : lowR a.toNat ≤ b.toNat) (hb2 : (b.toNat : Int) ≤ highR a.toNat) (n0 : ¬ bs = 0) (n1 : ¬ bs = 1) (m0 : ¬ bg = 0) (m1 : ¬ bg = 1) (k0 : ¬ g = 0) (k1 : ¬ g = 1) :
    Calls Tryd.prog 63 #[.pointer (some ⟨bs, 0, none⟩), .int .u8 c.toNat] w (TPost bs bg g N w (letR s a [b] c)) := by
  have hne : ¬ t.bn = 0 := by omega
  have q := longR_val a.toNat
  have gdef : goesOnB (a :: [b]) c.toNat = (decide (128 ≤ (c.toNat : Int)) && decide ((c.toNat : Int) ≤ 191)) := rfl
  unfold letR
  cases hg : goesOnB (a :: [b]) c.toNat with
  | false =>
    rw [if_pos rfl]
    have hgn : c.toNat < 128 ∨ 191 < c.toNat := by rw [gdef] at hg; simp at hg; omega
    exact sGroundR { addT t 2 c.toNat with bn := 0 } c ((h.noB _).noO) ((ok.setB _).odd) T rfl hne hm rfl (sGoesOnRef bs bg g N _ _ c.toNat w (lAdd3bad a b c ((h.noB _).noO) T n0 n1 hn b0 b1 a1 a2 hb1 hb2 hgn)) n0 n1 m0 m1 k0 k1
  | true =>
    rw [if_neg (by decide)]
    have hgy : 128 ≤ c.toNat ∧ c.toNat ≤ 191 := by rw [gdef] at hg; simp at hg; omega
    by_cases hl : longR a.toNat = 3
    · rw [if_pos (show longR a.toNat = ((([b] : List UInt8).length + 2 : Nat) : Int) from hl)]
      exact call_tp (sGrOn bs bg g N { s with B := ⟨#[]⟩ } _ t _ c.toNat w (h.noB _) hne (sGoesOnDone bs bg g N { s with B := ⟨#[]⟩ } _ c.toNat _ w (ok.setB _) (lAdd3done a b c (h.noB _) T n0 n1 hn b0 b1 a1 a2 hb1 hb2 hgy hl))) rfl rfl rfl rfl (by rw [put_B]; exact tie0 hm rfl)
    · rw [if_neg (show ¬ longR a.toNat = ((([b] : List UInt8).length + 2 : Nat) : Int) from hl)]
      exact call_tp (sGrOn bs bg g N s _ t _ c.toNat w h hne (sGoesOnOpen bs bg g N s _ c.toNat w (lAdd3open a b c h T n0 n1 hn b0 b1 a1 a2 hb1 hb2 hgy hl))) rfl rfl rfl rfl (.inr (.inr (.inr (.inr (.inr ⟨a, b, c, rfl, hm, by show (2 : Int) + 1 = 3; rfl, (addT_far _ _ (by decide)).trans b0, (addT_far _ _ (by decide)).trans b1, addT_self _ _ _, by omega, a2, hb1, hb2, hgy.1, hgy.2⟩)))))
theorem sLet3 (a b d c : UInt8) (h : PrAt w bs bg g N s t) (ok : s.Ok) (T : Tabs w) (hm : t.mode = 0) (hn : t.bn = 3) (b0 : t.by4 0 = a.toNat) (b1 : t.by4 1 = b.toNat) (b2 : t.by4 2 = d.toNat) (a1 : 240 ≤ a.toNat) (a2 : a.toNat ≤ 244) (hb1 : lowR a.toNat ≤ b.toNat) (hb2 : (b.toNat : Int) ≤ highR a.toNat) (hd : 128 ≤ d.toNat ∧ d.toNat ≤ 191) (n0 : ¬ bs = 0) (n1 : ¬ bs = 1) (m0 : ¬ bg = 0) (m1 : ¬ bg = 1) (k0 : ¬ g = 0) (k1 : ¬ g = 1) :
    Calls Tryd.prog 63 #[.pointer (some ⟨bs, 0, none⟩), .int .u8 c.toNat] w (TPost bs bg g N w (letR s a [b, d] c)) := by
  have hne : ¬ t.bn = 0 := by omega
  have q := longR_val a.toNat
  have gdef : goesOnB (a :: [b, d]) c.toNat = (decide (128 ≤ (c.toNat : Int)) && decide ((c.toNat : Int) ≤ 191)) := rfl
  unfold letR
  cases hg : goesOnB (a :: [b, d]) c.toNat with
  | false =>
    rw [if_pos rfl]
    have hgn : c.toNat < 128 ∨ 191 < c.toNat := by rw [gdef] at hg; simp at hg; omega
    exact sGroundR { addT t 3 c.toNat with bn := 0 } c ((h.noB _).noO) ((ok.setB _).odd) T rfl hne hm rfl (sGoesOnRef bs bg g N _ _ c.toNat w (lAdd4bad a b d c ((h.noB _).noO) T n0 n1 hn b0 b1 b2 a1 a2 hb1 hb2 hd hgn)) n0 n1 m0 m1 k0 k1
  | true =>
    rw [if_neg (by decide)]
    have hgy : 128 ≤ c.toNat ∧ c.toNat ≤ 191 := by rw [gdef] at hg; simp at hg; omega
    have hl : longR a.toNat = 4 := by omega
    rw [if_pos (show longR a.toNat = ((([b, d] : List UInt8).length + 2 : Nat) : Int) from hl)]
    exact call_tp (sGrOn bs bg g N { s with B := ⟨#[]⟩ } _ t _ c.toNat w (h.noB _) hne (sGoesOnDone bs bg g N { s with B := ⟨#[]⟩ } _ c.toNat _ w (ok.setB _) (lAdd4done a b d c (h.noB _) T n0 n1 hn b0 b1 b2 a1 a2 hb1 hb2 hd hgy))) rfl rfl rfl rfl (by rw [put_B]; exact tie0 hm rfl)
theorem sTake (c : UInt8) (h : PrAt w bs bg g N s t) (ok : s.Ok) (T : Tabs w) (tie : Tie s.B t) (n0 : ¬ bs = 0) (n1 : ¬ bs = 1) (m0 : ¬ bg = 0) (m1 : ¬ bg = 1) (k0 : ¬ g = 0) (k1 : ¬ g = 1) :
    Calls Tryd.prog 41 #[.pointer (some ⟨bs, 0, none⟩), .int .u8 c.toNat] w (TPost bs bg g N w (oneR s c)) := by
  unfold oneR
  rcases tie with ⟨e, hm, h0⟩ | ⟨e, hm, h0⟩ | ⟨l, e, hm, h0, hs⟩ | ⟨a, e, hm, h0, b0, a1, a2⟩ | ⟨a, b, e, hm, h0, b0, b1, a1, a2, l1, l2⟩ | ⟨a, b, d, e, hm, h0, b0, b1, b2, a1, a2, l1, l2, d1, d2⟩
  · rw [e]
    exact sTakeG bs bg g N s _ t c.toNat w h hm (sGroundE c h ok T e hm h0 n0 n1 m0 m1 k0 k1)
  · rw [e]
    exact sTakeE bs bg g N s _ t c.toNat w h hm (sEscB c h e hm h0)
  · rw [e]
    exact sTakeS bs bg g N s _ t c.toNat w h hm (sSeqB l c h ok hm h0 hs)
  · have hne : a ≠ 27 := fun q => by rw [q] at a1; exact absurd a1 (by decide)
    rw [e]
    show Calls _ _ _ _ (TPost bs bg g N w (if a = 27 then _ else letR s a [] c))
    rw [if_neg hne]
    exact sTakeG bs bg g N s _ t c.toNat w h hm (sLet1 a c h ok T hm h0 b0 a1 a2 n0 n1 m0 m1 k0 k1)
  · have hne : a ≠ 27 := fun q => by rw [q] at a1; exact absurd a1 (by decide)
    rw [e]
    show Calls _ _ _ _ (TPost bs bg g N w (if a = 27 then _ else letR s a [b] c))
    rw [if_neg hne]
    exact sTakeG bs bg g N s _ t c.toNat w h hm (sLet2 a b c h ok T hm h0 b0 b1 a1 a2 l1 l2 n0 n1 m0 m1 k0 k1)
  · have hne : a ≠ 27 := fun q => by rw [q] at a1; exact absurd a1 (by decide)
    rw [e]
    show Calls _ _ _ _ (TPost bs bg g N w (if a = 27 then _ else letR s a [b, d] c))
    rw [if_neg hne]
    exact sTakeG bs bg g N s _ t c.toNat w h hm (sLet3 a b d c h ok T hm h0 b0 b1 b2 a1 a2 l1 l2 ⟨d1, d2⟩ n0 n1 m0 m1 k0 k1)
end
end Go.Proofs.YtjlfibhbfdckpaaDoor

/- The program's screen: Feed. -/
namespace Go.Proofs.YtjlfibhbfdckpaaDoor
open Go.RowKit
attribute [local go_sem ↓] Go.wp_at_zero Go.wp_at_succ
set_option maxHeartbeats 2000000 in
theorem sFeed (bs bg g N : Nat) (s : Rs) (t : Pt) (b : ByteArray) (w : World) (h : PrAt w bs bg g N s t) (ok : s.Ok) (T : Tabs w) (tie : Tie s.B t) (n0 : ¬ bs = 0) (n1 : ¬ bs = 1) (m0 : ¬ bg = 0) (m1 : ¬ bg = 1) (k0 : ¬ g = 0) (k1 : ¬ g = 1) (hb : b.size ≤ 9223372036854775807) :
    Calls Tryd.prog 26 #[.pointer (some ⟨bs, 0, none⟩), .string b] w (TPost bs bg g N w (feedR s b.data.toList)) := by
  have HP : Hid (∃ t, PrAt w bs bg g N s t ∧ Tie s.B t) := ⟨t, h, tie⟩
  have Hok : Hid s.Ok := ok
  have HT : Hid (Tabs w) := T
  clear h ok tie T
  go_enter Tryd.func26, Tryd.ntmps26
  go_wp2_with fail
  go_loopw [7] (fun i w' => ∃ k : Nat, k ≤ b.size ∧ i = .int .i64 k ∧ (∃ t, PrAt w' bs bg g N (feedR s (b.data.toList.take k)) t ∧ Tie (feedR s (b.data.toList.take k)).B t) ∧ Keep (fun i => i = bs ∨ i = bg ∨ i = g) w w' ∧ (feedR s (b.data.toList.take k)).Ok) (fun i _ => b.size - (intOf i).toNat)
  case atStart => exact ⟨0, by omega, rfl, HP.out, Keep.refl _ _, Hok.out⟩
  case round =>
    obtain ⟨k, hk, rfl, hR, hK, hO⟩ := hrel
    have HR5 : Hid (∃ t, PrAt wr bs bg g N (feedR s (b.data.toList.take k)) t ∧ Tie (feedR s (b.data.toList.take k)).B t) := hR
    have HO5 : Hid (feedR s (b.data.toList.take k)).Ok := hO
    have HK5 : Hid (Keep (fun i => i = bs ∨ i = bg ∨ i = g) w wr) := hK
    clear hR hO hK HP Hok
    by_cases hlt : k < b.size
    · have hnx : feedR s (b.data.toList.take (k + 1)) = oneR (feedR s (b.data.toList.take k)) b[k] := by
        unfold feedR
        rw [take_snoc b k hlt, List.foldl_append]; rfl
      have Hnx : Hid (feedR s (b.data.toList.take (k + 1)) = oneR (feedR s (b.data.toList.take k)) b[k]) := hnx
      clear hnx
      have hlt' : (k : Int) < (b.size : Int) := by omega
      go_wp2_with fail
      go_at_call 41
      obtain ⟨t5, P5, T5⟩ := HR5.out
      refine (sTake b[k] P5 HO5.out (HT.out.keep HK5.out (by omega) (by omega)) T5 n0 n1 m0 m1 k0 k1).mono ?_
      rintro e w6 ⟨rfl, R6, K6⟩
      have HR6 : Hid (∃ t, PrAt w6 bs bg g N (feedR s (b.data.toList.take (k + 1))) t ∧ Tie (feedR s (b.data.toList.take (k + 1))).B t) := by
        show ∃ t, PrAt w6 bs bg g N (feedR s (b.data.toList.take (k + 1))) t ∧ Tie (feedR s (b.data.toList.take (k + 1))).B t
        rw [Hnx.out]; exact R6
      have HK6 : Hid (Keep (fun i => i = bs ∨ i = bg ∨ i = g) w w6) := HK5.out.trans K6 (fun _ _ h => h)
      have HO6 : Hid (feedR s (b.data.toList.take (k + 1))).Ok := by show (feedR s (b.data.toList.take (k + 1))).Ok; rw [Hnx.out]; exact HO5.out.one _
      clear R6 K6 P5 T5
      go_wp2_with fail
      exact ⟨⟨k + 1, by omega, by simp, HR6.out, HK6.out, HO6.out⟩, by simp only [intOf]; omega⟩
    · have hke : Hid (b.data.toList.take k = b.data.toList) := List.take_of_length_le (by show b.size ≤ k; omega)
      have hlt' : (b.size : Int) ≤ (k : Int) := by omega
      go_wp2_with fail
      go_end0
      have q := HR5.out
      rw [hke.out] at q
      exact ⟨rfl, q, HK5.out⟩
end Go.Proofs.YtjlfibhbfdckpaaDoor

/- A screen's sizes, beginnings, states: plain mathematics. -/
namespace Go.Proofs.YtjlfibhbfdckpaaDoor
open Wd (wd)
/-- May a size be? -/
def sizeB (x y : Int) : Bool := Wd.inB x 1 40 && Wd.inB y 1 20
theorem sizeB_iff {x y : Int} : sizeB x y = true ↔ 1 ≤ x ∧ x ≤ 40 ∧ 1 ≤ y ∧ y ≤ 20 := by simp [sizeB, Wd.inB, and_assoc]
/-- A new screen. -/
def newR (W H : Nat) : Rs := ⟨W, H, 0, 0, false, Pn.plain, 0, (H : Int) - 1, ⟨#[]⟩, 0, fun _ _ => blk Pn.plain⟩
theorem newR_ok {W H : Nat} (w1 : 1 ≤ W) (w2 : W ≤ 40) (h1 : 1 ≤ H) (h2 : H ≤ 20) : (newR W H).Ok :=
  ⟨w1, w2, h1, h2, Int.le_refl 0, by show (0 : Int) < W; omega, Int.le_refl 0, by show (0 : Int) < H; omega, Int.le_refl 0, by show (0 : Int) ≤ (H : Int) - 1; omega, by show (H : Int) - 1 < H; omega, (fun q => by cases q), wf_plain W H⟩
/-- The state, as a value. -/
abbrev stAgg (W H : Nat) (x y : Int) (pend : Bool) (n : Pn) (top bot : Int) (ground : Bool) : Value := .agg #[.int .i64 W, .int .i64 H, .int .i64 x, .int .i64 y, .bool pend, .int .i64 n.f, .int .i64 n.b, .bool n.bo, .bool n.un, .bool n.re, .int .i64 top, .int .i64 bot, .bool ground]
def groundB (s : Rs) : Bool := s.B.toList.isEmpty
/-- The empty cell. -/
def noCel : Cel := ⟨0, 0, Pn.plain⟩
/-- Another size. -/
def resizeR (s : Rs) (W H : Nat) : Rs := goesR { s with W := W, H := H, top := 0, bot := (H : Int) - 1, G := sizedG s.W s.H W s.G } s.x s.y
theorem resizeR_ok {s : Rs} (h : s.Ok) {W H : Nat} (w1 : 1 ≤ W) (w2 : W ≤ 40) (h1 : 1 ≤ H) (h2 : H ≤ 20) : (resizeR s W H).Ok := by
  have a := clampI_in s.x W w1
  have b := clampI_in s.y H h1
  exact ⟨w1, w2, h1, h2, a.1, a.2, b.1, b.2, Int.le_refl 0, by show (0 : Int) ≤ (H : Int) - 1; omega, by show (H : Int) - 1 < H; omega, (fun q => by cases q), h.wf.sized⟩
end Go.Proofs.YtjlfibhbfdckpaaDoor

/- The program's screen: New; which sizes may be. -/
namespace Go.Proofs.YtjlfibhbfdckpaaDoor
open Go.RowKit
attribute [local go_sem ↓] Go.wp_at_zero Go.wp_at_succ
theorem pMayBe (x y : Int) (w : World) :
    Calls Tryd.prog 28 #[.int .i64 x, .int .i64 y] w fun e w' => e = .returned (.bool (sizeB x y)) ∧ w' = w := by
  cases h1 : Wd.inB x 1 40 <;> cases h2 : Wd.inB y 1 20
  all_goals
    go_enter Tryd.func28, Tryd.ntmps28
    go_wp2_with (first | (go_at_call 43; refine (pWithin _ _ _ _).mono ?_; rintro e w' ⟨rfl, hw'⟩; replace hw' := hw'.symm; subst hw'))
    go_ret
    exact ⟨by simp [sizeB, h1, h2], rfl⟩
def newT : Pt := ⟨0, fun _ => 0, 0, fun _ => 0, 0, false⟩
theorem sNew (W H : Nat) (w : World) (w1 : 1 ≤ W) (w2 : W ≤ 40) (h1 : 1 ≤ H) (h2 : H ≤ 20) :
    Calls Tryd.prog 31 #[.int .i64 W, .int .i64 H] w fun e w' => ∃ bs bg g, e = .returned (.pointer (some ⟨bs, 0, none⟩)) ∧ PrAt w' bs bg g (H * W) (newR W H) newT ∧ Below w.heap.size w w' ∧ w.heap.size ≤ bs ∧ w.heap.size ≤ bg ∧ w.heap.size ≤ g := by
  go_enter Tryd.func31, Tryd.ntmps31
  go_wp2_with fail
  go_at_call 49
  refine (pNew W H _ w1 w2 h1 h2).mono ?_
  rintro e wa ⟨bg, g, rfl, G1, b1, lb, lg⟩
  have HG1 : Hid (GrAt wa bg g W H (H * W) (fun _ _ => blk Pn.plain)) := G1
  have HB1 : Hid (Below w.heap.size w wa) := b1
  clear G1 b1
  go_wp2_with fail
  go_ret
  have hl := HG1.out.lt
  have hgl := HG1.out.glt
  have hbl : Below wa.heap.size wa (wa.alloc (.cells (prArr bg (newR W H) newT) 82)) := (Below.refl _ _).alloc (Nat.le_refl _) _
  exact ⟨wa.heap.size, bg, g, rfl, ⟨heap_new wa _, HG1.out.below hbl, by omega, by omega⟩, HB1.out.trans (hbl.mono HB1.out.size), HB1.out.size, lb, lg⟩
end Go.Proofs.YtjlfibhbfdckpaaDoor

/- The program's screen: New, Has, Cell, State, Resize. -/
namespace Go.Proofs.YtjlfibhbfdckpaaDoor
open Go.RowKit
attribute [local go_sem ↓] Go.wp_at_zero Go.wp_at_succ
theorem sHas (bs bg g N : Nat) (s : Rs) (t : Pt) (x y : Int) (w : World) (h : PrAt w bs bg g N s t) :
    Calls Tryd.prog 37 #[.pointer (some ⟨bs, 0, none⟩), .int .i64 x, .int .i64 y] w fun e w' => e = .returned (.bool (inG s.W s.H x y)) ∧ w' = w := by
  have HP : Hid (PrAt w bs bg g N s t) := h
  have c0 := h.f0
  clear h
  go_enter Tryd.func37, Tryd.ntmps37
  go_wp2_with (first | (go_at_call 59; refine (pHas bg g s.W s.H N s.G x y _ HP.out.gr).mono ?_; rintro e w' ⟨rfl, hw'⟩; replace hw' := hw'.symm; subst hw'))
  go_ret
  exact ⟨rfl, rfl⟩
set_option maxHeartbeats 1000000 in
theorem sCell (bs bg g N : Nat) (s : Rs) (t : Pt) (x y : Nat) (w : World) (h : PrAt w bs bg g N s t) (hx : x < s.W) (hy : y < s.H) :
    Calls Tryd.prog 38 #[.pointer (some ⟨bs, 0, none⟩), .int .i64 x, .int .i64 y] w fun e w' => e = .returned (s.G x y).agg ∧ Below w.heap.size w w' := by
  have HP : Hid (PrAt w bs bg g N s t) := h
  have c0 := h.f0
  have l := h.lt
  clear h
  go_enter Tryd.func38, Tryd.ntmps38
  go_wp2_with fail
  go_at_call 60
  refine (pCell bg g s.W s.H N s.G x y _ (HP.out.gr.below ((Below.refl _ _).alloc (Nat.le_refl _) _)) hx hy).mono ?_
  rintro e w2 ⟨rfl, hb2⟩
  have hz : w.heap.size < w2.heap.size := by have := hb2.size; simp at this; omega
  have hc := hb2.cells (b := w.heap.size) (by simp)
  have hf := hb2.marks (b := w.heap.size) (by simp)
  have hB : Below w.heap.size w w2 := ((Below.refl _ _).alloc (Nat.le_refl _) _).trans (hb2.mono (by simp))
  clear hb2
  go_wp2_with fail
  exact bodyPost_ret (v := (s.G x y).agg) (by simp [results, Tryd.results38, go_sem, hc]) rfl ⟨rfl, ((Keep.below (fun i => i = w.heap.size) hB).put7 w.heap.size 0 (s.G x y) (fun _ => rfl)).toBelow (Nat.le_refl _) (fun i hi => by omega)⟩
end Go.Proofs.YtjlfibhbfdckpaaDoor

/- The program's screen: Resize. -/
namespace Go.Proofs.YtjlfibhbfdckpaaDoor
open Go.RowKit
attribute [local go_sem ↓] Go.wp_at_zero Go.wp_at_succ
set_option maxHeartbeats 1000000 in
theorem sResize (bs bg g N : Nat) (s : Rs) (t : Pt) (W H : Nat) (w : World) (h : PrAt w bs bg g N s t) (ok : s.Ok) (w1 : 1 ≤ W) (w2 : W ≤ 40) (h1 : 1 ≤ H) (h2 : H ≤ 20) :
    Calls Tryd.prog 29 #[.pointer (some ⟨bs, 0, none⟩), .int .i64 W, .int .i64 H] w (PPost bs bg g w (resizeR s W H) t (.tuple #[])) := by
  have HP : Hid (PrAt w bs bg g N s t) := h
  have Hok : Hid s.Ok := ok
  have c0 := h.f0
  clear h ok
  go_enter Tryd.func29, Tryd.ntmps29
  go_wp2_with fail
  go_at_call 44
  refine (pSize bg g s.W s.H N W H s.G _ HP.out.gr Hok.out.wf w1 w2 h1 h2).mono ?_
  rintro e wa ⟨g1, rfl, G1, K1, hg1⟩
  have hlt := HP.out.lt
  have hne : bs ≠ bg ∧ bs ≠ g := ⟨HP.out.ne1, HP.out.ne2⟩
  have HP1 : Hid (PrAt wa bs bg g1 (H * W) { s with W := W, H := H, G := sizedG s.W s.H W s.G } t) := HP.out.cells _ (K1.block _ hlt (by omega)) G1 rfl (by omega)
  have HK1 : Hid (Keep (fun i => i = bs ∨ i = bg ∨ i = g) w wa) := K1.mono (fun _ h => Or.inr h)
  clear G1 K1 HP c0
  have c9 := HP1.out.f9
  have c10 := HP1.out.f10
  have fz := HP1.out.free
  go_wp2_with fail
  have HP2 : Hid (PrAt ((wa.setCell ⟨bs, 9, none⟩ (.int .i64 0)).setCell ⟨bs, 10, none⟩ (.int .i64 ((H : Int) - 1))) bs bg g1 (H * W) { s with W := W, H := H, top := 0, bot := (H : Int) - 1, G := sizedG s.W s.H W s.G } t) := (HP1.out.setTop 0).setBot _
  have HK2 : Hid (Keep (fun i => i = bs ∨ i = bg ∨ i = g) w ((wa.setCell ⟨bs, 9, none⟩ (.int .i64 0)).setCell ⟨bs, 10, none⟩ (.int .i64 ((H : Int) - 1)))) := (HK1.out.setCell ⟨bs, 9, none⟩ _ (fun _ => Or.inl rfl)).setCell ⟨bs, 10, none⟩ _ (fun _ => Or.inl rfl)
  generalize (wa.setCell ⟨bs, 9, none⟩ (.int .i64 0)).setCell ⟨bs, 10, none⟩ (.int .i64 ((H : Int) - 1)) = wb at *
  clear HP1 HK1 c9 c10 fz
  have c1 : wb.cell? ⟨bs, 1, none⟩ = some (.int .i64 s.x) := HP2.out.f1
  have c2 : wb.cell? ⟨bs, 2, none⟩ = some (.int .i64 s.y) := HP2.out.f2
  go_region_with (first | (go_at_call 45; refine (sGoTo bs bg g1 (H * W) { s with W := W, H := H, top := 0, bot := (H : Int) - 1, G := sizedG s.W s.H W s.G } t s.x s.y _ HP2.out.drew).mono ?_; rintro e w5 ⟨rfl, R5, K5⟩))
  all_goals
    go_end0
    refine ⟨g1, H * W, rfl, R5, (HK2.out.drew).trans K5 (fun i hi h => by omega), Or.inr hg1⟩
end Go.Proofs.YtjlfibhbfdckpaaDoor

/- The program's calls: NewScreen, Feed, Resize, Cell. -/
namespace Go.Proofs.YtjlfibhbfdckpaaDoor
open Go.RowKit
attribute [local go_sem ↓] Go.wp_at_zero Go.wp_at_succ
/-- The program's screen, as its calls have it: a block with a pointer to the inner one; no block is one of the tables'. -/
structure CsAt (w : World) (pc bs bg g N : Nat) (s : Rs) : Prop where
  blk : w.heap[pc]? = some (.cells #[.pointer (some ⟨bs, 0, none⟩)] 61)
  pr : ∃ t, PrAt w bs bg g N s t ∧ Tie s.B t
  ok : s.Ok
  ne1 : pc ≠ bs
  ne2 : pc ≠ bg
  ne3 : pc ≠ g
  l1 : 2 ≤ bs
  l2 : 2 ≤ bg
  l3 : 2 ≤ g
section
variable {w w' : World} {pc bs bg g N : Nat} {s : Rs}
theorem CsAt.lt (h : CsAt w pc bs bg g N s) : pc < w.heap.size := (Array.getElem?_eq_some_iff.1 h.blk).1
theorem CsAt.c0 (h : CsAt w pc bs bg g N s) : w.cell? ⟨pc, 0, none⟩ = some (.pointer (some ⟨bs, 0, none⟩)) := cell_of_block h.blk 0
theorem CsAt.same (h : CsAt w pc bs bg g N s) (h0 : w'.heap[pc]? = w.heap[pc]?) (h1 : w'.heap[bs]? = w.heap[bs]?) (h2 : w'.heap[bg]? = w.heap[bg]?) (h3 : w'.heap[g]? = w.heap[g]?) : CsAt w' pc bs bg g N s := by
  obtain ⟨t, P, T⟩ := h.pr
  exact ⟨by rw [h0]; exact h.blk, ⟨t, P.same h1 h2 h3, T⟩, h.ok, h.ne1, h.ne2, h.ne3, h.l1, h.l2, h.l3⟩
theorem CsAt.keep {F : Nat → Prop} (h : CsAt w pc bs bg g N s) (k : Keep F w w') (h0 : ¬ F pc) (h1 : ¬ F bs) (h2 : ¬ F bg) (h3 : ¬ F g) : CsAt w' pc bs bg g N s := by
  obtain ⟨t, P, T⟩ := h.pr
  exact h.same (k.block _ h.lt h0) (k.block _ P.lt h1) (k.block _ P.gr.lt h2) (k.block _ P.gr.glt h3)
theorem CsAt.below (h : CsAt w pc bs bg g N s) (hb : Below w.heap.size w w') : CsAt w' pc bs bg g N s :=
  h.keep (Keep.below (fun _ => False) hb) id id id id
end
def CPost (pc bs bg g : Nat) (w : World) (s : Rs) (r : Value) (e : Ending) (w' : World) : Prop :=
  ∃ g' N', e = .returned r ∧ CsAt w' pc bs bg g' N' s ∧ Keep (fun i => i = bs ∨ i = bg ∨ i = g) w w' ∧ (g' = g ∨ w.heap.size ≤ g')
theorem cNone (pc bs bg g N : Nat) (s : Rs) (w : World) (h : CsAt w pc bs bg g N s) :
    Calls Tryd.prog 25 #[.pointer (some ⟨pc, 0, none⟩)] w fun e w' => e = .returned (.bool false) ∧ w' = w := by
  have c := h.c0
  clear h
  go_enter Tryd.func25, Tryd.ntmps25
  go_wp2
  go_ret
  exact ⟨rfl, rfl⟩
theorem cNoneNil (w : World) :
    Calls Tryd.prog 25 #[.pointer none] w fun e w' => e = .returned (.bool true) ∧ w' = w := by
  go_enter Tryd.func25, Tryd.ntmps25
  go_wp2
  go_ret
  exact ⟨rfl, rfl⟩
set_option maxHeartbeats 1000000 in
theorem cNewNo (x y : Int) (w : World) (hs : sizeB x y = false) :
    Calls Tryd.prog 18 #[.int .i64 x, .int .i64 y] w fun e w' => e = .returned (.tuple #[.pointer none, .int .i64 3]) ∧ w' = w := by
  go_enter Tryd.func18, Tryd.ntmps18
  go_wp2_with (first | (go_at_call 28; refine (pMayBe _ _ _).mono ?_; rintro e w' ⟨rfl, hw'⟩; replace hw' := hw'.symm; subst hw'))
  go_ret2
  exact ⟨rfl, rfl⟩
set_option maxHeartbeats 1000000 in
theorem cNewYes (W H : Nat) (w : World) (w1 : 1 ≤ W) (w2 : W ≤ 40) (h1 : 1 ≤ H) (h2 : H ≤ 20) (hw : 2 ≤ w.heap.size) :
    Calls Tryd.prog 18 #[.int .i64 W, .int .i64 H] w fun e w' => ∃ pc bs bg g, e = .returned (.tuple #[.pointer (some ⟨pc, 0, none⟩), .int .i64 0]) ∧ CsAt w' pc bs bg g (H * W) (newR W H) ∧ Below w.heap.size w w' ∧ w.heap.size ≤ pc ∧ w.heap.size ≤ bs ∧ w.heap.size ≤ bg ∧ w.heap.size ≤ g := by
  have hs : sizeB W H = true := sizeB_iff.2 (by omega)
  go_enter Tryd.func18, Tryd.ntmps18
  go_wp2_with (first | (go_at_call 28; refine (pMayBe _ _ _).mono ?_; rintro e w' ⟨rfl, hw'⟩; replace hw' := hw'.symm; subst hw'))
  go_at_call 31
  refine (sNew W H _ w1 w2 h1 h2).mono ?_
  rintro e wa ⟨bs, bg, g, rfl, P1, b1, l1, l2, l3⟩
  have HP1 : Hid (PrAt wa bs bg g (H * W) (newR W H) newT) := P1
  have HB1 : Hid (Below w.heap.size w wa) := b1
  clear P1 b1
  go_wp2_with fail
  go_ret2
  have p := HP1.out
  have hbl : Below wa.heap.size wa (wa.alloc (.cells #[.pointer (some ⟨bs, 0, none⟩)] 61)) := (Below.refl _ _).alloc (Nat.le_refl _) _
  have q1 := p.lt
  have q2 := p.gr.lt
  have q3 := p.gr.glt
  exact ⟨wa.heap.size, bs, bg, g, rfl, ⟨heap_new wa _, ⟨newT, p.below hbl, tie0 rfl rfl⟩, newR_ok w1 w2 h1 h2, by omega, by omega, by omega, by omega, by omega, by omega⟩, HB1.out.trans (hbl.mono HB1.out.size), HB1.out.size, l1, l2, l3⟩
theorem cFeedNil (b : ByteArray) (w : World) :
    Calls Tryd.prog 12 #[.pointer none, .string b] w fun e w' => e = .returned (.tuple #[]) ∧ w' = w := by
  go_enter Tryd.func12, Tryd.ntmps12
  go_wp2_with (first | (go_at_call 25; refine (cNoneNil _).mono ?_; rintro e w' ⟨rfl, hw'⟩; replace hw' := hw'.symm; subst hw'))
  go_end0
  exact ⟨rfl, rfl⟩
theorem feed_ok (l : List UInt8) : ∀ {s : Rs}, s.Ok → (feedR s l).Ok := by
  induction l with
  | nil => intro s h; exact h
  | cons c r ih => intro s h; exact ih (h.one c)
set_option maxHeartbeats 1000000 in
theorem cFeed (pc bs bg g N : Nat) (s : Rs) (b : ByteArray) (w : World) (h : CsAt w pc bs bg g N s) (T : Tabs w) (hb : b.size ≤ 9223372036854775807) :
    Calls Tryd.prog 12 #[.pointer (some ⟨pc, 0, none⟩), .string b] w (CPost pc bs bg g w (feedR s b.data.toList) (.tuple #[])) := by
  have HC : Hid (CsAt w pc bs bg g N s) := h
  have HT : Hid (Tabs w) := T
  have c0 := h.c0
  clear h T
  go_enter Tryd.func12, Tryd.ntmps12
  go_wp2_with (first | (go_at_call 25; refine (cNone pc bs bg g N s _ HC.out).mono ?_; rintro e w' ⟨rfl, hw'⟩; replace hw' := hw'.symm; subst hw'))
  go_at_call 26
  obtain ⟨t, P, tie⟩ := HC.out.pr
  have l1 := HC.out.l1
  have l2 := HC.out.l2
  have l3 := HC.out.l3
  refine (sFeed bs bg g N s t b _ P HC.out.ok HT.out tie (by omega) (by omega) (by omega) (by omega) (by omega) (by omega) hb).mono ?_
  rintro e wa ⟨rfl, P1, K1⟩
  have HP1 : Hid (∃ t, PrAt wa bs bg g N (feedR s b.data.toList) t ∧ Tie (feedR s b.data.toList).B t) := P1
  clear P tie P1
  go_wp2_with fail
  go_end0
  have q := HC.out
  exact ⟨g, N, rfl, ⟨by rw [K1.block _ q.lt (fun h => by have := q.ne1; have := q.ne2; have := q.ne3; omega)]; exact q.blk, HP1.out, feed_ok _ q.ok, q.ne1, q.ne2, q.ne3, l1, l2, l3⟩, K1, Or.inl rfl⟩
theorem cResizeNil (x y : Int) (w : World) :
    Calls Tryd.prog 15 #[.pointer none, .int .i64 x, .int .i64 y] w fun e w' => e = .returned (.int .i64 1) ∧ w' = w := by
  go_enter Tryd.func15, Tryd.ntmps15
  go_wp2_with (first | (go_at_call 25; refine (cNoneNil _).mono ?_; rintro e w' ⟨rfl, hw'⟩; replace hw' := hw'.symm; subst hw'))
  go_ret
  exact ⟨rfl, rfl⟩
theorem cResizeNo (pc bs bg g N : Nat) (s : Rs) (x y : Int) (w : World) (h : CsAt w pc bs bg g N s) (hs : sizeB x y = false) :
    Calls Tryd.prog 15 #[.pointer (some ⟨pc, 0, none⟩), .int .i64 x, .int .i64 y] w (CPost pc bs bg g w s (.int .i64 3)) := by
  have HC : Hid (CsAt w pc bs bg g N s) := h
  clear h
  go_enter Tryd.func15, Tryd.ntmps15
  go_wp2_with (first | (go_at_call 25; refine (cNone pc bs bg g N s _ HC.out).mono ?_; rintro e w' ⟨rfl, hw'⟩; replace hw' := hw'.symm; subst hw') | (go_at_call 28; refine (pMayBe _ _ _).mono ?_; rintro e w' ⟨rfl, hw'⟩; replace hw' := hw'.symm; subst hw'))
  go_ret
  exact ⟨g, N, rfl, HC.out, Keep.refl _ _, Or.inl rfl⟩
set_option maxHeartbeats 1000000 in
theorem cResizeYes (pc bs bg g N : Nat) (s : Rs) (W H : Nat) (w : World) (h : CsAt w pc bs bg g N s) (w1 : 1 ≤ W) (w2 : W ≤ 40) (h1 : 1 ≤ H) (h2 : H ≤ 20) :
    Calls Tryd.prog 15 #[.pointer (some ⟨pc, 0, none⟩), .int .i64 W, .int .i64 H] w (CPost pc bs bg g w (resizeR s W H) (.int .i64 0)) := by
  have hs : sizeB W H = true := sizeB_iff.2 (by omega)
  have HC : Hid (CsAt w pc bs bg g N s) := h
  have c0 := h.c0
  clear h
  go_enter Tryd.func15, Tryd.ntmps15
  go_wp2_with (first | (go_at_call 25; refine (cNone pc bs bg g N s _ HC.out).mono ?_; rintro e w' ⟨rfl, hw'⟩; replace hw' := hw'.symm; subst hw') | (go_at_call 28; refine (pMayBe _ _ _).mono ?_; rintro e w' ⟨rfl, hw'⟩; replace hw' := hw'.symm; subst hw'))
  go_at_call 29
  obtain ⟨t, P, tie⟩ := HC.out.pr
  have hlt := HC.out.lt
  have l3 := HC.out.l3
  refine (sResize bs bg g N s t W H _ P HC.out.ok w1 w2 h1 h2).mono ?_
  rintro e wa ⟨g1, N1, rfl, P1, K1, hg⟩
  have HP1 : Hid (∃ t, PrAt wa bs bg g1 N1 (resizeR s W H) t ∧ Tie (resizeR s W H).B t) := ⟨t, P1, tie⟩
  clear P tie P1
  go_wp2_with fail
  go_ret
  have q := HC.out
  have := q.ne1
  have := q.ne2
  have := q.ne3
  have hsz := K1.size
  have hp : 2 ≤ w.heap.size := by have := q.l1; obtain ⟨t, P, _⟩ := q.pr; have := P.lt; omega
  exact ⟨g1, N1, rfl, ⟨by rw [K1.block _ q.lt (fun h => by omega)]; exact q.blk, HP1.out, resizeR_ok q.ok w1 w2 h1 h2, q.ne1, q.ne2, by omega, q.l1, q.l2, by omega⟩, K1, hg⟩
end Go.Proofs.YtjlfibhbfdckpaaDoor

/- The program's calls: Cell. -/
namespace Go.Proofs.YtjlfibhbfdckpaaDoor
open Go.RowKit
attribute [local go_sem ↓] Go.wp_at_zero Go.wp_at_succ
theorem cCellNil (x y : Int) (w : World) :
    Calls Tryd.prog 23 #[.pointer none, .int .i64 x, .int .i64 y] w fun e w' => e = .returned (.tuple #[noCel.agg, .int .i64 1]) ∧ Below w.heap.size w w' := by
  go_enter Tryd.func23, Tryd.ntmps23
  go_wp2_with (first | (go_at_call 25; refine (cNoneNil _).mono ?_; rintro e w' ⟨rfl, hw'⟩; replace hw' := hw'.symm; subst hw'))
  exact bodyPost_ret (v := .tuple #[noCel.agg, .int .i64 1]) (by simp [results, Tryd.results23, go_sem, noCel, Pn.plain]) rfl ⟨rfl, (Below.refl _ _).alloc (Nat.le_refl _) _⟩
set_option maxHeartbeats 1000000 in
theorem cCellNo (pc bs bg g N : Nat) (s : Rs) (x y : Int) (w : World) (h : CsAt w pc bs bg g N s) (hin : inG s.W s.H x y = false) :
    Calls Tryd.prog 23 #[.pointer (some ⟨pc, 0, none⟩), .int .i64 x, .int .i64 y] w fun e w' => e = .returned (.tuple #[noCel.agg, .int .i64 4]) ∧ Below w.heap.size w w' := by
  have hbl : Below w.heap.size w (w.alloc (.cells #[.int .i32 0, .int .i64 0, .int .i64 0, .int .i64 0, .bool false, .bool false, .bool false] 56)) := (Below.refl _ _).alloc (Nat.le_refl _) _
  have HC : Hid (CsAt (w.alloc (.cells #[.int .i32 0, .int .i64 0, .int .i64 0, .int .i64 0, .bool false, .bool false, .bool false] 56)) pc bs bg g N s) := h.below hbl
  have c0 := h.c0
  have l := h.lt
  clear h hbl
  go_enter Tryd.func23, Tryd.ntmps23
  go_wp2_with fail
  go_at_call 25
  refine (cNone pc bs bg g N s _ HC.out).mono ?_
  rintro e w' ⟨rfl, hw'⟩
  replace hw' := hw'.symm
  subst hw'
  go_wp2_with fail
  go_at_call 37
  obtain ⟨t, P, tie⟩ := HC.out.pr
  refine (sHas bs bg g N s t x y _ P).mono ?_
  rintro e w' ⟨rfl, hw'⟩
  replace hw' := hw'.symm
  subst hw'
  rw [hin]
  clear P tie
  go_wp2_with fail
  exact bodyPost_ret (v := .tuple #[noCel.agg, .int .i64 4]) (by simp [results, Tryd.results23, go_sem, noCel, Pn.plain]) rfl ⟨rfl, (Below.refl _ _).alloc (Nat.le_refl _) _⟩
set_option maxHeartbeats 1000000 in
theorem cCellYes (pc bs bg g N : Nat) (s : Rs) (x y : Int) (w : World) (h : CsAt w pc bs bg g N s) (hin : inG s.W s.H x y = true) :
    Calls Tryd.prog 23 #[.pointer (some ⟨pc, 0, none⟩), .int .i64 x, .int .i64 y] w fun e w' => e = .returned (.tuple #[(s.G x.toNat y.toNat).agg, .int .i64 0]) ∧ Below w.heap.size w w' := by
  obtain ⟨x0, x1, y0, y1⟩ := inG_iff.1 hin
  obtain ⟨x, rfl⟩ := Int.eq_ofNat_of_zero_le x0
  obtain ⟨y, rfl⟩ := Int.eq_ofNat_of_zero_le y0
  rw [Int.toNat_natCast, Int.toNat_natCast]
  have hbl : Below w.heap.size w (w.alloc (.cells #[.int .i32 0, .int .i64 0, .int .i64 0, .int .i64 0, .bool false, .bool false, .bool false] 56)) := (Below.refl _ _).alloc (Nat.le_refl _) _
  have HC : Hid (CsAt (w.alloc (.cells #[.int .i32 0, .int .i64 0, .int .i64 0, .int .i64 0, .bool false, .bool false, .bool false] 56)) pc bs bg g N s) := h.below hbl
  have c0 := h.c0
  have l := h.lt
  clear h hbl
  go_enter Tryd.func23, Tryd.ntmps23
  go_wp2_with fail
  go_at_call 25
  refine (cNone pc bs bg g N s _ HC.out).mono ?_
  rintro e w' ⟨rfl, hw'⟩
  replace hw' := hw'.symm
  subst hw'
  go_wp2_with fail
  go_at_call 37
  obtain ⟨t, P, tie⟩ := HC.out.pr
  refine (sHas bs bg g N s t x y _ P).mono ?_
  rintro e w' ⟨rfl, hw'⟩
  replace hw' := hw'.symm
  subst hw'
  rw [hin]
  go_wp2_with fail
  go_at_call 38
  refine (sCell bs bg g N s t x y _ P (by omega) (by omega)).mono ?_
  rintro e w2 ⟨rfl, hb2⟩
  have hz : w.heap.size < w2.heap.size := by have := hb2.size; simp at this; omega
  have hc := hb2.cells (b := w.heap.size) (by simp)
  have hf := hb2.marks (b := w.heap.size) (by simp)
  have hB : Below w.heap.size w w2 := ((Below.refl _ _).alloc (Nat.le_refl _) _).trans (hb2.mono (by simp))
  clear hb2 P tie
  go_wp2_with fail
  exact bodyPost_ret (v := .tuple #[(s.G x y).agg, .int .i64 0]) (by simp [results, Tryd.results23, go_sem, hc]) rfl ⟨rfl, ((Keep.below (fun i => i = w.heap.size) hB).put7 w.heap.size 0 (s.G x y) (fun _ => rfl)).toBelow (Nat.le_refl _) (fun i hi => by omega)⟩
end Go.Proofs.YtjlfibhbfdckpaaDoor

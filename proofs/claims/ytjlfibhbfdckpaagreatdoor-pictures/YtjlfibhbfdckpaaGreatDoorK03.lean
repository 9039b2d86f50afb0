/- Texts of the proof, one behind the other: Gr4, Dk, PgA, PgB. -/
import Derived.Test.YtjlfibhbfdckpaaGreatDoorK01
import Derived.Test.YtjlfibhbfdckpaaGreatDoorK02
import Derived.Test.YtjlfibhbfdckpaaGreatDoorChecked
import Derived.WalkSpells
import Derived.WalkLawsBesides
import Derived.Deep.RegionHeld3
import Derived.Deep.DrawnRows
/- Grids of cells: what is broken by sizing. -/
namespace Go.Proofs.YtjlfibhbfdckpaaGreatDoor
open Wd (wd)
/-- Wf, but heads may have been cut off at the last column. -/
structure Aw (W H : Nat) (G : Nat → Nat → Cel) : Prop where
  head : ∀ x y, x + 1 < W → y < H → (G x y).p = 1 → (G (x + 1) y).p = 2
  tail : ∀ x y, x < W → y < H → (G x y).p = 2 → 1 ≤ x ∧ (G (x - 1) y).p = 1
/-- The first m cells have been looked at. -/
def bk (W : Nat) (G : Nat → Nat → Cel) (m : Nat) : Nat → Nat → Cel := fun a b => if b * W + a < m ∧ a + 1 = W ∧ (G a b).p = 1 then blk (G a b).n else G a b
theorem bk_at (W : Nat) (G : Nat → Nat → Cel) (x y : Nat) : bk W G (y * W + x) x y = G x y := by
  unfold bk; exact if_neg (by omega)
theorem bk_right (W : Nat) (G : Nat → Nat → Cel) (x y : Nat) : bk W G (y * W + x) (x + 1) y = G (x + 1) y := by
  unfold bk; exact if_neg (by omega)
theorem bk_left (W : Nat) (G : Nat → Nat → Cel) (x y : Nat) (hx : x < W) (_h1 : 1 ≤ x) : bk W G (y * W + x) (x - 1) y = G (x - 1) y := by
  unfold bk; exact if_neg (by omega)
theorem bk_next (W H : Nat) (G : Nat → Nat → Cel) (x y : Nat) (hx : x < W) (h : ¬ (x + 1 = W ∧ (G x y).p = 1)) : EqOn W H (bk W G (y * W + x)) (bk W G (y * W + x + 1)) := by
  intro a b ha _
  unfold bk
  by_cases e : b * W + a = y * W + x
  · obtain ⟨rfl, rfl⟩ := place_inj ha hx e
    rw [if_neg (by omega), if_neg (by omega)]
  · by_cases c : b * W + a < y * W + x ∧ a + 1 = W ∧ (G a b).p = 1
    · rw [if_pos c, if_pos ⟨by omega, c.2⟩]
    · rw [if_neg c, if_neg (fun q => c ⟨by omega, q.2⟩)]
theorem bk_put (W H : Nat) (G : Nat → Nat → Cel) (x y : Nat) (hx : x < W) (h : x + 1 = W ∧ (G x y).p = 1) : EqOn W H (upd (bk W G (y * W + x)) x y (blk (G x y).n)) (bk W G (y * W + x + 1)) := by
  intro a b ha _
  unfold bk upd
  by_cases e : a = x ∧ b = y
  · obtain ⟨rfl, rfl⟩ := e
    rw [if_pos ⟨rfl, rfl⟩, if_pos ⟨by omega, h⟩]
  · have e' : b * W + a ≠ y * W + x := fun q => e (place_inj ha hx q)
    rw [if_neg e]
    show (if b * W + a < y * W + x ∧ a + 1 = W ∧ (G a b).p = 1 then blk (G a b).n else G a b) = _
    by_cases c : b * W + a < y * W + x ∧ a + 1 = W ∧ (G a b).p = 1
    · rw [if_pos c, if_pos ⟨by omega, c.2⟩]
    · rw [if_neg c, if_neg (fun q => c ⟨by omega, q.2⟩)]
/-- Heads at the last column are broken. -/
def lastG (W : Nat) (G : Nat → Nat → Cel) : Nat → Nat → Cel := fun a b => if a + 1 = W ∧ (G a b).p = 1 then blk (G a b).n else G a b
theorem bk_all (W H : Nat) (G : Nat → Nat → Cel) : EqOn W H (bk W G (H * W)) (lastG W G) := by
  intro a b ha hb
  unfold bk lastG
  have := place_lt ha hb
  by_cases c : a + 1 = W ∧ (G a b).p = 1
  · rw [if_pos ⟨this, c⟩, if_pos c]
  · rw [if_neg (fun q => c q.2), if_neg c]
/-- Another size. -/
def sizedG (W H W' : Nat) (G : Nat → Nat → Cel) : Nat → Nat → Cel := lastG W' (fun a b => if a < W ∧ b < H then G a b else blk Pn.plain)
theorem aw_sized {W H W' H' : Nat} {G : Nat → Nat → Cel} (h : Wf W H G) : Aw W' H' (fun a b => if a < W ∧ b < H then G a b else blk Pn.plain) := by
  refine ⟨fun x y hx hy hp => ?_, fun x y hx hy hp => ?_⟩
  · by_cases c : x < W ∧ y < H
    · rw [if_pos c] at hp
      obtain ⟨a, b⟩ := h.head x y c.1 c.2 hp
      show (if x + 1 < W ∧ y < H then G (x + 1) y else blk Pn.plain).p = 2
      rw [if_pos ⟨a, c.2⟩, b]
    · rw [if_neg c] at hp; simp [blk] at hp
  · by_cases c : x < W ∧ y < H
    · rw [if_pos c] at hp
      obtain ⟨a, b⟩ := h.tail x y c.1 c.2 hp
      refine ⟨a, ?_⟩
      show (if x - 1 < W ∧ y < H then G (x - 1) y else blk Pn.plain).p = 1
      rw [if_pos ⟨by omega, c.2⟩, b]
    · rw [if_neg c] at hp; simp [blk] at hp
theorem Wf.sized {W H W' H' : Nat} {G : Nat → Nat → Cel} (h : Wf W H G) : Wf W' H' (sizedG W H W' G) := by
  unfold sizedG lastG
  refine ⟨fun x y hx hy => ?_, fun x y hx hy hp => ?_, fun x y hx hy hp => ?_⟩
  · by_cases c : x < W ∧ y < H
    · simp only [if_pos c]
      split
      · exact .inl ⟨rfl, wd_32⟩
      · exact h.part x y c.1 c.2
    · simp only [if_neg c]
      split <;> exact .inl ⟨rfl, wd_32⟩
  · by_cases c : x < W ∧ y < H
    · simp only [if_pos c] at hp ⊢
      by_cases q : x + 1 = W' ∧ (G x y).p = 1
      · rw [if_pos q] at hp; simp [Go.Proofs.YtjlfibhbfdckpaaGreatDoor.blk] at hp
      · rw [if_neg q] at hp ⊢
        obtain ⟨a, b⟩ := h.head x y c.1 c.2 hp
        refine ⟨by omega, ?_⟩
        simp only [if_pos (show x + 1 < W ∧ y < H from ⟨a, c.2⟩), b]
        simp
    · simp only [if_neg c] at hp; simp [Go.Proofs.YtjlfibhbfdckpaaGreatDoor.blk] at hp
  · by_cases c : x < W ∧ y < H
    · simp only [if_pos c] at hp ⊢
      by_cases q : x + 1 = W' ∧ (G x y).p = 1
      · rw [if_pos q] at hp; simp [Go.Proofs.YtjlfibhbfdckpaaGreatDoor.blk] at hp
      · rw [if_neg q] at hp ⊢
        obtain ⟨a, b⟩ := h.tail x y c.1 c.2 hp
        refine ⟨a, ?_⟩
        simp only [if_pos (show x - 1 < W ∧ y < H from ⟨by omega, c.2⟩), b]
        have : ¬ (x - 1 + 1 = W') := by omega
        simp [this]
    · simp only [if_neg c] at hp; simp [Go.Proofs.YtjlfibhbfdckpaaGreatDoor.blk] at hp
theorem wf_plain (W H : Nat) : Wf W H (fun _ _ => blk Pn.plain) :=
  ⟨fun _ _ _ _ => .inl ⟨rfl, wd_32⟩, fun _ _ _ _ h => by simp [blk] at h, fun _ _ _ _ h => by simp [blk] at h⟩
end Go.Proofs.YtjlfibhbfdckpaaGreatDoor

/- Desks: windows in windows: the plain model, the tree. -/
namespace Go.Proofs.YtjlfibhbfdckpaaGreatDoor
structure Wn where
  n : Int
  par : Int
  x : Int
  y : Int
  sh : Bool
  W : Nat
  H : Nat
  G : Nat → Nat → Cel
/-- The windows of one parent, the lowest first. -/
def kids (L : List Wn) (n : Int) : List Wn := L.filter (fun v => decide (v.par = n))
theorem mem_kids {L : List Wn} {n : Int} {v : Wn} : v ∈ kids L n ↔ v ∈ L ∧ v.par = n := by simp [kids]
/-- A window lies in another one, or is it. -/
inductive Sub (L : List Wn) (n : Int) : Int → Prop
  | refl : Sub L n n
  | step {v : Wn} : v ∈ L → Sub L n v.par → Sub L n v.n
/-- What the windows of a desk are; rk says how deep each lies at least. -/
structure Tree (L : List Wn) (rk : Int → Nat) (K : Nat) : Prop where
  head : ∃ r T, L = r :: T ∧ r.n = 0 ∧ r.par = -1 ∧ ∀ v ∈ T, 1 ≤ v.n ∧ 0 ≤ v.par
  nd : (L.map Wn.n).Nodup
  up : ∀ v ∈ L, 0 ≤ v.par → (∃ u ∈ L, u.n = v.par) ∧ rk v.par < rk v.n
  le : ∀ v ∈ L, rk v.n ≤ K
theorem nd_inj {L : List Wn} (h : (L.map Wn.n).Nodup) : ∀ {u v : Wn}, u ∈ L → v ∈ L → u.n = v.n → u = v := by
  induction L with
  | nil => intro u v hu; simp at hu
  | cons a t ih =>
    intro u v hu hv e
    rw [List.map_cons, List.nodup_cons] at h
    rcases List.mem_cons.1 hu with rfl | hu'
    · rcases List.mem_cons.1 hv with rfl | hv'
      · rfl
      · exact absurd (List.mem_map.2 ⟨v, hv', e.symm⟩) h.1
    · rcases List.mem_cons.1 hv with rfl | hv'
      · exact absurd (List.mem_map.2 ⟨u, hu', e⟩) h.1
      · exact ih h.2 hu' hv' e
theorem Sub.trans {L : List Wn} {a b c : Int} (h : Sub L a b) (k : Sub L b c) : Sub L a c := by
  induction k with
  | refl => exact h
  | step hv _ ih => exact .step hv ih
theorem Sub.kid {L : List Wn} {a b : Int} (h : Sub L a b) : b = a ∨ ∃ u ∈ kids L a, Sub L u.n b := by
  induction h with
  | refl => exact .inl rfl
  | step hv _ ih =>
    rename_i v _
    rcases ih with e | ⟨u, hu, hs⟩
    · exact .inr ⟨v, mem_kids.2 ⟨hv, e⟩, .refl⟩
    · exact .inr ⟨u, hu, .step hv hs⟩
theorem Sub.last {L : List Wn} {a b : Int} (h : Sub L a b) : b = a ∨ ∃ v ∈ L, v.n = b ∧ Sub L a v.par := by
  cases h with
  | refl => exact .inl rfl
  | step hv hs => exact .inr ⟨_, hv, rfl, hs⟩
section
variable {L : List Wn} {rk : Int → Nat} {K : Nat}
theorem Tree.pos (h : Tree L rk K) {v : Wn} (hv : v ∈ L) : 0 ≤ v.n := by
  obtain ⟨r, T, rfl, h0, _, hT⟩ := h.head
  rcases List.mem_cons.1 hv with rfl | hv'
  · omega
  · have := (hT v hv').1; omega
theorem Tree.parNot (h : Tree L rk K) {v : Wn} (hv : v ∈ L) : v.par = -1 ∨ 0 ≤ v.par := by
  obtain ⟨r, T, rfl, h0, h1, hT⟩ := h.head
  rcases List.mem_cons.1 hv with rfl | hv'
  · exact .inl h1
  · exact .inr (hT v hv').2
theorem Tree.rootIn (h : Tree L rk K) : ∃ v ∈ L, v.n = 0 ∧ v.par = -1 := by
  obtain ⟨r, T, rfl, h0, h1, hT⟩ := h.head
  exact ⟨r, List.mem_cons_self, h0, h1⟩
theorem Tree.zero (h : Tree L rk K) {v : Wn} (hv : v ∈ L) : v.n = 0 ↔ v.par = -1 := by
  obtain ⟨r, T, rfl, h0, h1, hT⟩ := h.head
  rcases List.mem_cons.1 hv with rfl | hv'
  · simp [h0, h1]
  · have := hT v hv'; omega
theorem Sub.rank (h : Tree L rk K) {a b : Int} (ha : 0 ≤ a) (hs : Sub L a b) : rk a ≤ rk b ∧ 0 ≤ b := by
  induction hs with
  | refl => exact ⟨Nat.le_refl _, ha⟩
  | step hv _ ih => exact ⟨by have := (h.up _ hv ih.2).2; omega, h.pos hv⟩
theorem Tree.all (h : Tree L rk K) : ∀ (k : Nat) (v : Wn), v ∈ L → rk v.n ≤ k → Sub L 0 v.n := by
  intro k
  induction k with
  | zero =>
    intro v hv hk
    rcases h.parNot hv with e | e
    · rw [(h.zero hv).2 e]; exact .refl
    · have := (h.up v hv e).2; omega
  | succ k ih =>
    intro v hv hk
    rcases h.parNot hv with e | e
    · rw [(h.zero hv).2 e]; exact .refl
    · obtain ⟨⟨u, hu, hun⟩, hr⟩ := h.up v hv e
      refine .step hv ?_
      rw [← hun]
      exact ih u hu (by rw [hun]; omega)
/-- Is there a window of this number in one, or is it? As find goes. -/
def hasP (L : List Wn) : Nat → Int → Int → Bool
  | 0, v, m => decide (v = m)
  | f + 1, v, m => decide (v = m) || (kids L v).any (fun u => hasP L f u.n m)
theorem Tree.noKids (h : Tree L rk K) {a : Int} (ha : 0 ≤ a) (hk : K ≤ rk a) : kids L a = [] := by
  refine List.eq_nil_iff_forall_not_mem.2 (fun u hu => ?_)
  obtain ⟨hL, hp⟩ := mem_kids.1 hu
  have := (h.up u hL (by omega)).2
  have := h.le u hL
  rw [hp] at *
  omega
theorem Tree.has (h : Tree L rk K) (m : Int) : ∀ (f : Nat) (a : Int), 0 ≤ a → K ≤ rk a + f → (hasP L f a m = true ↔ Sub L a m) := by
  intro f
  induction f with
  | zero =>
    intro a ha hk
    have hn := h.noKids ha (by omega)
    simp only [hasP, decide_eq_true_eq]
    refine ⟨fun e => e ▸ .refl, fun hs => ?_⟩
    rcases hs.kid with e | ⟨u, hu, _⟩
    · exact e.symm
    · rw [hn] at hu; simp at hu
  | succ f ih =>
    intro a ha hk
    simp only [hasP, Bool.or_eq_true, decide_eq_true_eq, List.any_eq_true]
    constructor
    · rintro (e | ⟨u, hu, hs⟩)
      · exact e ▸ .refl
      · obtain ⟨hL, hp⟩ := mem_kids.1 hu
        have hr := (h.up u hL (by omega)).2
        rw [hp] at hr
        refine Sub.trans (.step hL ?_) ((ih u.n (h.pos hL) (by omega)).1 hs)
        rw [hp]; exact .refl
    · intro hs
      rcases hs.kid with e | ⟨u, hu, hs'⟩
      · exact .inl e.symm
      · obtain ⟨hL, hp⟩ := mem_kids.1 hu
        have hr := (h.up u hL (by omega)).2
        rw [hp] at hr
        exact .inr ⟨u, hu, (ih u.n (h.pos hL) (by omega)).2 hs'⟩
theorem Tree.hasRoot (h : Tree L rk K) (m : Int) : hasP L K 0 m = true ↔ ∃ v ∈ L, v.n = m := by
  rw [h.has m K 0 (by omega) (by omega)]
  constructor
  · intro hs
    rcases hs.last with e | ⟨v, hv, e, _⟩
    · obtain ⟨r, hr, h0, _⟩ := h.rootIn
      exact ⟨r, hr, by omega⟩
    · exact ⟨v, hv, e⟩
  · rintro ⟨v, hv, rfl⟩
    exact h.all K v hv (h.le v hv)
/-- How many windows there are, as count goes. -/
def cntP (L : List Wn) : Nat → Int → Nat
  | 0, _ => 1
  | f + 1, v => 1 + ((kids L v).map (fun u => cntP L f u.n)).sum
theorem Sub.chain (h : Tree L rk K) {a b c : Int} (hs : Sub L a c) (ht : Sub L b c) : Sub L a b ∨ Sub L b a := by
  induction hs with
  | refl => exact .inr ht
  | step hv hs' ih =>
    rename_i v
    rcases ht.last with e | ⟨u, hu, e, hs2⟩
    · rw [← e]; exact .inl (.step hv hs')
    · obtain rfl := nd_inj h.nd hu hv e
      exact ih hs2
theorem sum_swap {α β : Type} (l : List α) (m : List β) (f : α → β → Nat) : (l.map (fun a => (m.map (f a)).sum)).sum = (m.map (fun b => (l.map (fun a => f a b)).sum)).sum := by
  induction l with
  | nil => induction m with
    | nil => rfl
    | cons b s ih => simpa using ih
  | cons a t ih =>
    simp only [List.map_cons, List.sum_cons, ih]
    clear ih
    induction m with
    | nil => simp
    | cons b s ih2 => simp only [List.map_cons, List.sum_cons]; omega
theorem sum_one {l : List Wn} (hn : (l.map Wn.n).Nodup) {p : Wn → Prop} [DecidablePred p] {u : Wn} (hu : u ∈ l) (hp : p u) (h1 : ∀ v ∈ l, p v → v.n = u.n) : (l.map (fun v => if p v then 1 else 0)).sum = 1 := by
  induction l with
  | nil => simp at hu
  | cons a t ih =>
    rw [List.map_cons, List.nodup_cons] at hn
    simp only [List.map_cons, List.sum_cons]
    by_cases ha : p a
    · have e := h1 a List.mem_cons_self ha
      have hz : (t.map (fun v => if p v then 1 else 0)).sum = 0 := by
        have : ∀ v ∈ t, (if p v then 1 else 0) = (fun _ => 0) v := by
          intro v hv
          rw [if_neg]
          intro hpv
          have := h1 v (List.mem_cons_of_mem _ hv) hpv
          exact hn.1 (List.mem_map.2 ⟨v, hv, by omega⟩)
        rw [List.map_congr_left this]
        clear this ih hn h1 hu
        induction t with
        | nil => rfl
        | cons _ _ ih => simpa using ih
      rw [if_pos ha, hz]
    · rw [if_neg ha]
      rcases List.mem_cons.1 hu with rfl | hu'
      · exact absurd hp ha
      · rw [ih hn.2 hu' (fun v hv => h1 v (List.mem_cons_of_mem _ hv)), Nat.zero_add]
theorem sum_zero {α : Type} (l : List α) (f : α → Nat) (h : ∀ a ∈ l, f a = 0) : (l.map f).sum = 0 := by
  induction l with
  | nil => rfl
  | cons a t ih => rw [List.map_cons, List.sum_cons, h a List.mem_cons_self, ih (fun b hb => h b (List.mem_cons_of_mem _ hb))]
theorem sum_ones {α : Type} (l : List α) : (l.map (fun _ => 1)).sum = l.length := by
  induction l with
  | nil => rfl
  | cons a t ih => rw [List.map_cons, List.sum_cons, List.length_cons, ih]; omega
theorem sum_le_len {α : Type} (l : List α) (f : α → Nat) (h : ∀ a, f a ≤ 1) : (l.map f).sum ≤ l.length := by
  induction l with
  | nil => exact Nat.le_refl _
  | cons a t ih => rw [List.map_cons, List.sum_cons, List.length_cons]; have := h a; omega
theorem sum_add {α : Type} (l : List α) (f g : α → Nat) : (l.map (fun a => f a + g a)).sum = (l.map f).sum + (l.map g).sum := by
  induction l with
  | nil => rfl
  | cons a t ih => simp only [List.map_cons, List.sum_cons, ih]; omega
theorem nd_kids (h : (L.map Wn.n).Nodup) (a : Int) : ((kids L a).map Wn.n).Nodup := List.Nodup.sublist (List.Sublist.map _ List.filter_sublist) h
open Classical in
theorem Tree.part (h : Tree L rk K) {a : Int} (ha : 0 ≤ a) (u : Wn) : (if Sub L a u.n then 1 else 0) = (if u.n = a then 1 else 0) + ((kids L a).map (fun k => if Sub L k.n u.n then 1 else 0)).sum := by
  have hk : ∀ k ∈ kids L a, ¬ Sub L k.n a := by
    intro k hk hs
    obtain ⟨hL, hp⟩ := mem_kids.1 hk
    have h1 := (h.up k hL (by omega)).2
    have h2 := (Sub.rank h (h.pos hL) hs).1
    rw [hp] at h1
    omega
  by_cases e : u.n = a
  · rw [if_pos e, if_pos (e ▸ .refl), sum_zero]
    intro k hkk
    rw [if_neg]
    rw [e]
    exact hk k hkk
  · rw [if_neg e]
    by_cases hs : Sub L a u.n
    · rw [if_pos hs]
      rcases hs.kid with e' | ⟨k, hkk, hs'⟩
      · exact absurd e' e
      · rw [sum_one (p := fun k => Sub L k.n u.n) (nd_kids h.nd a) hkk hs']
        intro v hv hsv
        have hvk : ∀ {c d : Wn}, c ∈ kids L a → d ∈ kids L a → Sub L c.n d.n → d.n = c.n := by
          intro c d hc hd hcd
          rcases hcd.last with e2 | ⟨x, hx, e2, hs2⟩
          · exact e2
          · obtain rfl := nd_inj h.nd hx (mem_kids.1 hd).1 e2
            rw [(mem_kids.1 hd).2] at hs2
            exact absurd hs2 (hk c hc)
        rcases Sub.chain h hsv hs' with h3 | h3
        · exact (hvk hv hkk h3).symm
        · exact hvk hkk hv h3
    · rw [if_neg hs, sum_zero]
      intro k hkk
      rw [if_neg]
      intro hs'
      obtain ⟨hL, hp⟩ := mem_kids.1 hkk
      refine hs (Sub.trans (.step hL ?_) hs')
      rw [hp]; exact .refl
open Classical in
theorem Tree.cnt (h : Tree L rk K) : ∀ (f : Nat) (v : Wn), v ∈ L → K ≤ rk v.n + f → cntP L f v.n = (L.map (fun u => if Sub L v.n u.n then 1 else 0)).sum := by
  intro f
  induction f with
  | zero =>
    intro v hv hk
    have hn := h.noKids (h.pos hv) (by omega)
    have e : ∀ u ∈ L, (if Sub L v.n u.n then 1 else 0) = (if u.n = v.n then 1 else 0) := by
      intro u _
      rw [h.part (h.pos hv) u, hn]
      simp
    rw [List.map_congr_left e, sum_one (p := fun u => u.n = v.n) h.nd hv rfl (fun _ _ e => e)]
    rfl
  | succ f ih =>
    intro v hv hk
    have e : ∀ u ∈ L, (if Sub L v.n u.n then 1 else 0) = (if u.n = v.n then 1 else 0) + ((kids L v.n).map (fun k => if Sub L k.n u.n then 1 else 0)).sum := fun u _ => h.part (h.pos hv) u
    rw [List.map_congr_left e, sum_add, sum_one (p := fun u => u.n = v.n) h.nd hv rfl (fun _ _ e => e), sum_swap]
    show 1 + _ = 1 + _
    refine congrArg (1 + ·) ?_
    refine congrArg List.sum (List.map_congr_left fun k hkk => ?_)
    obtain ⟨hL, hp⟩ := mem_kids.1 hkk
    have := (h.up k hL (by have := h.pos hv; omega)).2
    rw [hp] at this
    exact ih k hL (by omega)
theorem Tree.cntLe (h : Tree L rk K) (f : Nat) (v : Wn) (hv : v ∈ L) (hk : K ≤ rk v.n + f) : cntP L f v.n ≤ L.length := by
  classical
  rw [h.cnt f v hv hk]
  exact sum_le_len L _ (fun a => by split <;> omega)
theorem Tree.count (h : Tree L rk K) : cntP L K 0 = L.length := by
  classical
  obtain ⟨r, hr, h0, _⟩ := h.rootIn
  have := h.cnt K r hr (by omega)
  rw [h0] at this
  rw [this]
  have e : ∀ u ∈ L, (if Sub L 0 u.n then 1 else 0) = (fun _ => 1) u := fun u hu => if_pos (h.all K u hu (h.le u hu))
  rw [List.map_congr_left e]
  exact sum_ones L
end
end Go.Proofs.YtjlfibhbfdckpaaGreatDoor

/- The program's bounds. -/
namespace Go.Proofs.YtjlfibhbfdckpaaGreatDoor
open Go.RowKit
def leastI (a b : Int) : Int := if b < a then b else a
def greatestI (a b : Int) : Int := if a < b then b else a
def betweenI (n lo hi : Int) : Int := greatestI lo (leastI n hi)
theorem pLeast (a b : Int) (w : World) :
    Calls Tryz.prog 138 #[.int .i64 a, .int .i64 b] w fun e w' => e = .returned (.int .i64 (leastI a b)) ∧ w' = w := by
  by_cases h : b < a
  · rw [show leastI a b = b from if_pos h]
    go_enter Tryz.func138, Tryz.ntmps138
    go_wp2
    go_ret
    exact ⟨rfl, rfl⟩
  · rw [show leastI a b = a from if_neg h]
    go_enter Tryz.func138, Tryz.ntmps138
    go_wp2
    go_ret
    exact ⟨rfl, rfl⟩
theorem pGreatest (a b : Int) (w : World) :
    Calls Tryz.prog 139 #[.int .i64 a, .int .i64 b] w fun e w' => e = .returned (.int .i64 (greatestI a b)) ∧ w' = w := by
  by_cases h : a < b
  · rw [show greatestI a b = b from if_pos h]
    go_enter Tryz.func139, Tryz.ntmps139
    go_wp2
    go_ret
    exact ⟨rfl, rfl⟩
  · rw [show greatestI a b = a from if_neg h]
    go_enter Tryz.func139, Tryz.ntmps139
    go_wp2
    go_ret
    exact ⟨rfl, rfl⟩
theorem pBetween (n lo hi : Int) (w : World) :
    Calls Tryz.prog 156 #[.int .i64 n, .int .i64 lo, .int .i64 hi] w fun e w' => e = .returned (.int .i64 (betweenI n lo hi)) ∧ w' = w := by
  go_enter Tryz.func156, Tryz.ntmps156
  go_wp2_with (first | (go_at_call 138; refine (pLeast _ _ _).mono ?_; rintro e w' ⟨rfl, rfl⟩) | (go_at_call 139; refine (pGreatest _ _ _).mono ?_; rintro e w' ⟨rfl, rfl⟩))
  go_ret
  exact ⟨rfl, rfl⟩
theorem pWithin (n a b : Int) (w : World) :
    Calls Tryz.prog 107 #[.int .i64 n, .int .i64 a, .int .i64 b] w fun e w' => e = .returned (.bool (Wd.inB n a b)) ∧ w' = w := by
  by_cases h1 : a ≤ n <;> by_cases h2 : n ≤ b
  all_goals
    go_enter Tryz.func107, Tryz.ntmps107
    go_wp2
    go_ret
    exact ⟨by simp [Wd.inB, h1, h2], rfl⟩
theorem pWithinByte (n a b : Int) (w : World) :
    Calls Tryz.prog 181 #[.int .u8 n, .int .u8 a, .int .u8 b] w fun e w' => e = .returned (.bool (Wd.inB n a b)) ∧ w' = w := by
  by_cases h1 : a ≤ n <;> by_cases h2 : n ≤ b
  all_goals
    go_enter Tryz.func181, Tryz.ntmps181
    go_wp2
    go_ret
    exact ⟨by simp [Wd.inB, h1, h2], rfl⟩
end Go.Proofs.YtjlfibhbfdckpaaGreatDoor

/- The program's rows of cells: Blank, fill. -/
namespace Go.Proofs.YtjlfibhbfdckpaaGreatDoor
open Go.RowKit
attribute [local go_sem ↓] Go.wp_at_zero Go.wp_at_succ
/-- n cells lie in block g, one behind the other. -/
structure Flat (w : World) (g n : Nat) (L : Nat → Cel) : Prop where
  cel : ∀ i, i < n → CelAt w g (i * 7) (L i)
  free : ∀ o, w.frozen? ⟨g, o, none⟩ = false
def updF (L : Nat → Cel) (i : Nat) (c : Cel) : Nat → Cel := fun j => if j = i then c else L j
theorem Flat.same {w w' : World} {g n : Nat} {L : Nat → Cel} (h : Flat w g n L) (hb : w'.heap[g]? = w.heap[g]?) : Flat w' g n L :=
  ⟨fun i hi => (h.cel i hi).same hb, fun o => by rw [frozen_same hb]; exact h.free o⟩
theorem Flat.congr {w : World} {g n : Nat} {L M : Nat → Cel} (h : Flat w g n L) (e : ∀ i, i < n → L i = M i) : Flat w g n M :=
  ⟨fun i hi => by rw [← e i hi]; exact h.cel i hi, h.free⟩
theorem Flat.put {w : World} {g n : Nat} {L : Nat → Cel} (h : Flat w g n L) {i : Nat} (hi : i < n) (c : Cel) : Flat (put7 w g (i * 7) c) g n (updF L i c) := by
  refine ⟨fun j hj => ?_, fun o => ?_⟩
  · unfold updF
    by_cases e : j = i
    · subst e; rw [if_pos rfl]; exact put7_at (h.cel _ hj)
    · rw [if_neg e]
      have := h.cel j hj
      simp only [CelAt] at this ⊢
      rw [put7_far (by omega), put7_far (by omega), put7_far (by omega), put7_far (by omega), put7_far (by omega), put7_far (by omega), put7_far (by omega)]
      exact this
  · unfold put7; simp only [set_frozen]; exact h.free o
theorem Flat.lt {w : World} {g n : Nat} {L : Nat → Cel} (h : Flat w g n L) (hn : 0 < n) : g < w.heap.size := (h.cel 0 hn).lt
def fillF (L : Nat → Cel) (a k : Nat) (p : Pn) : Nat → Cel := fun i => if a ≤ i ∧ i < a + k then blk p else L i
theorem pBlank (n : Pn) (w : World) :
    Calls Tryz.prog 147 #[n.agg] w fun e w' => e = .returned (blk n).agg ∧ Below w.heap.size w w' := by
  go_enter Tryz.func147, Tryz.ntmps147
  go_wp2
  exact bodyPost_ret (v := (blk n).agg) (by simp [results, Tryz.results147, go_sem, blk]) rfl ⟨rfl, ((Below.refl _ _).alloc (Nat.le_refl _) _).alloc (by simp) _⟩
set_option maxHeartbeats 2000000 in
theorem pFill (g n a k cap : Nat) (av : Option Addr) (L : Nat → Cel) (p : Pn) (w : World) (h : Flat w g n L) (hav : 0 < k → av = some ⟨g, a * 7, none⟩) (hk : a + k ≤ n) (hn : n ≤ 800) (hn0 : 0 < n) :
    Calls Tryz.prog 148 #[.slice av k cap, p.agg] w fun e w' => e = .returned (.tuple #[]) ∧ Flat w' g n (fillF L a k p) ∧ Keep (fun i => i = g) w w' := by
  have HF : Hid (Flat w g n L) := h
  have gb := h.lt hn0
  have Hav : Hid (0 < k → av = some ⟨g, a * 7, none⟩) := hav
  clear h hav
  go_enter Tryz.func148, Tryz.ntmps148
  go_wp2_with fail
  have hb0 : Below w.heap.size w (w.alloc (.cells #[.int .i64 p.f, .int .i64 p.b, .bool p.bo, .bool p.un, .bool p.re] 33)) := (Below.refl _ _).alloc (Nat.le_refl _) _
  go_loopw [7] (fun i w' => ∃ j : Nat, j ≤ k ∧ i = .int .i64 j ∧ Flat w' g n (fillF L a j p) ∧ Keep (fun i => i = g) w w' ∧ PenAt w' w.heap.size 0 p) (fun i _ => k - (intOf i).toNat)
  case atStart => exact ⟨0, by omega, rfl, (HF.out.same (hb0.block _ gb)).congr (fun i _ => by unfold fillF; rw [if_neg (by omega)]), Keep.below _ hb0, pen_new _ _ _⟩
  case round =>
    obtain ⟨j, hj, rfl, hF, hK, hP⟩ := hrel
    have HF1 : Hid (Flat wr g n (fillF L a j p)) := hF
    by_cases hlt : j < k
    · have hav := Hav.out (by omega)
      subst hav
      obtain ⟨p0, p1, p2, p3, p4⟩ := hP
      have hlt' : (j : Int) < (k : Int) := by omega
      have Hoff : Hid ((a + j) * 7 = a * 7 + j * 7) := by show (a + j) * 7 = a * 7 + j * 7; omega
      clear hF HF
      obtain ⟨ao, hao⟩ : ∃ ao, a * 7 = ao := ⟨_, rfl⟩
      rw [hao]
      rw [hao] at Hoff
      go_wp2_with fail
      go_at_call 147
      refine (pBlank p _).mono ?_
      rintro e w3 ⟨rfl, hb3⟩
      have F3 : Flat w3 g n (fillF L a j p) := HF1.out.same (hb3.block _ (HF1.out.lt hn0))
      have P3 : PenAt w3 w.heap.size 0 p := PenAt.same ⟨p0, p1, p2, p3, p4⟩ (hb3.block _ (PenAt.lt ⟨p0, p1, p2, p3, p4⟩))
      have K3 := hK.thenBelow hb3
      have tg := F3.cel (a + j) (by omega)
      rw [Hoff.out] at tg
      obtain ⟨t0, t1, t2, t3, t4, t5, t6⟩ := tg
      have fr := F3.free
      have HF3 : Hid (Flat w3 g n (fillF L a j p)) := F3
      clear F3 hb3 p0 p1 p2 p3 p4 HF1 hK
      go_wp2_with fail
      have R := HF3.out.put (i := a + j) (by omega) (blk p)
      rw [Hoff.out] at R
      have P4 := P3.same (put7_other w3 g (ao + j * 7) w.heap.size (blk p) (by omega))
      have K4 := K3.put7 g (ao + j * 7) (blk p) (fun _ => rfl)
      generalize hW : put7 w3 g (ao + j * 7) (blk p) = w4 at *
      unfold put7 at hW
      rw [hW]
      refine ⟨⟨j + 1, by omega, by simp, R.congr (fun i _ => ?_), K4, P4⟩, by simp only [intOf]; omega⟩
      unfold updF fillF
      by_cases e1 : i = a + j
      · subst e1; rw [if_pos rfl, if_pos (by omega)]
      · rw [if_neg e1]
        by_cases e2 : a ≤ i ∧ i < a + j
        · rw [if_pos e2, if_pos (by omega)]
        · rw [if_neg e2, if_neg (by omega)]
    · have hjk : j = k := by omega
      subst hjk
      go_wp2_with fail
      go_end0
      exact ⟨rfl, hF, hK⟩
end Go.Proofs.YtjlfibhbfdckpaaGreatDoor

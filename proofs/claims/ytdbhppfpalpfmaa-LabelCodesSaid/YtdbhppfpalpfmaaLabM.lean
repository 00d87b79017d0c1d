/-
  Sets of tags as lists: what is a set, what is in both, how two rising lists are gone through together.
-/
import Lean.Elab.Tactic.Omega
namespace Go.Proofs.Ytdbhppfpalpfmaa
def upB : Int → List Int → Bool
  | _, [] => true
  | p, x :: r => (decide (p < x) && decide (x ≤ 2147483647)) && upB x r
def setB (l : List Int) : Bool := decide (l.length ≤ 16) && upB 0 l
theorem setB_len {l : List Int} (h : setB l = true) : l.length ≤ 16 := by
  unfold setB at h; simp at h; exact h.1
theorem upB_drop (l : List Int) (p : Int) (k : Nat) (hk : k < l.length) : upB p (l.drop k) = ((decide (p < l.getD k 0) && decide (l.getD k 0 ≤ 2147483647)) && upB (l.getD k 0) (l.drop (k + 1))) := by
  rw [List.drop_eq_getElem_cons hk, upB, List.getD_eq_getElem?_getD, List.getElem?_eq_getElem hk]
  rfl
def asc (l : List Int) : Prop := l.Pairwise (· ≤ ·)
instance (l : List Int) : Decidable (asc l) := inferInstanceAs (Decidable (l.Pairwise (· ≤ ·)))
theorem upB_lt : ∀ {l : List Int} {p : Int}, upB p l = true → (∀ x ∈ l, p < x ∧ x ≤ 2147483647) ∧ l.Pairwise (· < ·)
  | [], _, _ => ⟨by simp, List.Pairwise.nil⟩
  | x :: r, p, h => by
    simp only [upB, Bool.and_eq_true, decide_eq_true_eq] at h
    obtain ⟨⟨h1, h2⟩, h3⟩ := h
    obtain ⟨i1, i2⟩ := upB_lt h3
    refine ⟨?_, List.pairwise_cons.2 ⟨fun y hy => (i1 y hy).1, i2⟩⟩
    intro y hy
    rcases List.mem_cons.1 hy with rfl | hy
    · exact ⟨h1, h2⟩
    · have := i1 y hy; omega
theorem upB_of : ∀ {l : List Int} {p : Int}, (∀ x ∈ l, p < x ∧ x ≤ 2147483647) → l.Pairwise (· < ·) → upB p l = true
  | [], _, _, _ => rfl
  | x :: r, p, h, hp => by
    obtain ⟨h1, h2⟩ := List.pairwise_cons.1 hp
    have := h x (by simp)
    simp only [upB, Bool.and_eq_true, decide_eq_true_eq]
    exact ⟨this, upB_of (fun y hy => ⟨h1 y hy, (h y (by simp [hy])).2⟩) h2⟩
theorem asc_of_lt {l : List Int} (h : l.Pairwise (· < ·)) : asc l := h.imp (fun h => by omega)
theorem setB_lt {l : List Int} (h : setB l = true) : l.Pairwise (· < ·) := by
  unfold setB at h; simp only [Bool.and_eq_true] at h; exact (upB_lt h.2).2
theorem setB_asc {l : List Int} (h : setB l = true) : asc l := asc_of_lt (setB_lt h)
theorem setB_mem {l : List Int} (h : setB l = true) : ∀ x ∈ l, 0 < x ∧ x ≤ 2147483647 := by
  unfold setB at h; simp only [Bool.and_eq_true] at h; exact (upB_lt h.2).1
theorem setB_of {l : List Int} (h0 : l.length ≤ 16) (h1 : ∀ x ∈ l, 0 < x ∧ x ≤ 2147483647) (h2 : l.Pairwise (· < ·)) : setB l = true := by
  unfold setB; simp only [Bool.and_eq_true, decide_eq_true_eq]; exact ⟨h0, upB_of h1 h2⟩
/-- Strictly rising lists with the same elements are one. -/
theorem lt_ext : ∀ {a b : List Int}, a.Pairwise (· < ·) → b.Pairwise (· < ·) → (∀ x, x ∈ a ↔ x ∈ b) → a = b
  | [], [], _, _, _ => rfl
  | [], y :: _, _, _, h => by have := (h y).2 (by simp); simp at this
  | x :: _, [], _, _, h => by have := (h x).1 (by simp); simp at this
  | x :: a, y :: b, ha, hb, h => by
    obtain ⟨a1, a2⟩ := List.pairwise_cons.1 ha
    obtain ⟨b1, b2⟩ := List.pairwise_cons.1 hb
    have e : x = y := by
      rcases List.mem_cons.1 ((h x).1 (by simp)) with e | e
      · exact e
      · rcases List.mem_cons.1 ((h y).2 (by simp)) with e' | e'
        · exact e'.symm
        · have := b1 x e; have := a1 y e'; omega
    subst e
    congr 1
    refine lt_ext a2 b2 (fun z => ⟨fun hz => ?_, fun hz => ?_⟩)
    · rcases List.mem_cons.1 ((h z).1 (by simp [hz])) with e | e
      · have := a1 z hz; omega
      · exact e
    · rcases List.mem_cons.1 ((h z).2 (by simp [hz])) with e | e
      · have := b1 z hz; omega
      · exact e

def drp (t : Int) : List Int → List Int
  | [] => []
  | x :: r => if x = t then drp t r else x :: r
def lst : List Int → List Int → Int × Int
  | [], [] => (0, 0)
  | x :: _, [] => (x, 1)
  | [], y :: _ => (y, 2)
  | x :: _, y :: _ => if x < y then (x, 1) else if y < x then (y, 2) else (x, 3)
def mrg : Nat → List Int → List Int → List (Int × Int)
  | 0, _, _ => []
  | n + 1, a, b => if a.length + b.length = 0 then [] else lst a b :: mrg n (drp (lst a b).1 a) (drp (lst a b).1 b)
def mg (a b : List Int) : List (Int × Int) := mrg (a.length + b.length) a b
theorem drp_len (t : Int) : ∀ l, (drp t l).length ≤ l.length
  | [] => Nat.le_refl _
  | x :: r => by unfold drp; split; exact Nat.le_trans (drp_len t r) (by simp); exact Nat.le_refl _
theorem drp_asc {t : Int} : ∀ {l}, asc l → asc (drp t l)
  | [], h => h
  | x :: r, h => by unfold drp; split; exact drp_asc (List.pairwise_cons.1 h).2; exact h
theorem drp_mem {t : Int} : ∀ {l}, asc l → (∀ x ∈ l, t ≤ x) → ∀ y, y ∈ drp t l ↔ y ∈ l ∧ t < y
  | [], _, _, y => by simp [drp]
  | x :: r, h, hle, y => by
    obtain ⟨h1, h2⟩ := List.pairwise_cons.1 h
    unfold drp
    by_cases e : x = t
    · rw [if_pos e, drp_mem h2 (fun z hz => hle z (by simp [hz])) y]
      simp only [List.mem_cons]
      constructor
      · rintro ⟨a, b⟩; exact ⟨.inr a, b⟩
      · rintro ⟨rfl | a, b⟩
        · omega
        · exact ⟨a, b⟩
    · rw [if_neg e]
      have hx := hle x (by simp)
      constructor
      · intro hy
        refine ⟨hy, ?_⟩
        rcases List.mem_cons.1 hy with rfl | hy
        · omega
        · have := h1 y hy; omega
      · exact fun h => h.1
theorem lst_cc (x y : Int) (a b : List Int) : lst (x :: a) (y :: b) = if x < y then (x, 1) else if y < x then (y, 2) else (x, 3) := rfl
theorem lst_spec {a b : List Int} (ha : asc a) (hb : asc b) (hne : ¬ a.length + b.length = 0) :
    (∀ x ∈ a, (lst a b).1 ≤ x) ∧ (∀ x ∈ b, (lst a b).1 ≤ x) ∧
    (((lst a b).2 = 1 ∧ (lst a b).1 ∈ a ∧ (lst a b).1 ∉ b) ∨ ((lst a b).2 = 2 ∧ (lst a b).1 ∉ a ∧ (lst a b).1 ∈ b) ∨ ((lst a b).2 = 3 ∧ (lst a b).1 ∈ a ∧ (lst a b).1 ∈ b)) := by
  cases a with
  | nil =>
    cases b with
    | nil => simp at hne
    | cons y b =>
      have h1 := (List.pairwise_cons.1 hb).1
      refine ⟨by simp, fun x hx => ?_, .inr (.inl ⟨rfl, by simp, by simp [lst]⟩)⟩
      rcases List.mem_cons.1 hx with rfl | hx
      · exact Int.le_refl _
      · exact h1 x hx
  | cons x a =>
    have h1 := (List.pairwise_cons.1 ha).1
    cases b with
    | nil =>
      refine ⟨fun y hy => ?_, by simp, .inl ⟨rfl, by simp [lst], by simp⟩⟩
      rcases List.mem_cons.1 hy with rfl | hy
      · exact Int.le_refl _
      · exact h1 y hy
    | cons y b =>
      have h2 := (List.pairwise_cons.1 hb).1
      rw [lst_cc]
      by_cases c : x < y
      · rw [if_pos c]
        refine ⟨fun z hz => ?_, fun z hz => ?_, .inl ⟨rfl, by simp, fun hm => ?_⟩⟩
        · rcases List.mem_cons.1 hz with rfl | hz
          · exact Int.le_refl _
          · exact h1 z hz
        · show x ≤ z
          rcases List.mem_cons.1 hz with rfl | hz
          · omega
          · have := h2 z hz; omega
        · have hm : x ∈ y :: b := hm
          rcases List.mem_cons.1 hm with rfl | hz
          · omega
          · have := h2 _ hz; omega
      · rw [if_neg c]
        by_cases d : y < x
        · rw [if_pos d]
          refine ⟨fun z hz => ?_, fun z hz => ?_, .inr (.inl ⟨rfl, fun hm => ?_, by simp⟩)⟩
          · show y ≤ z
            rcases List.mem_cons.1 hz with rfl | hz
            · omega
            · have := h1 z hz; omega
          · rcases List.mem_cons.1 hz with rfl | hz
            · exact Int.le_refl _
            · exact h2 z hz
          · have hm : y ∈ x :: a := hm
            rcases List.mem_cons.1 hm with rfl | hz
            · omega
            · have := h1 _ hz; omega
        · rw [if_neg d]
          have e : x = y := by omega
          subst e
          refine ⟨fun z hz => ?_, fun z hz => ?_, .inr (.inr ⟨rfl, by simp, by simp⟩)⟩
          · rcases List.mem_cons.1 hz with rfl | hz
            · exact Int.le_refl _
            · exact h1 z hz
          · rcases List.mem_cons.1 hz with rfl | hz
            · exact Int.le_refl _
            · exact h2 z hz
theorem lst_head {a b : List Int} (hne : ¬ a.length + b.length = 0) : (drp (lst a b).1 a).length + (drp (lst a b).1 b).length < a.length + b.length := by
  have h := fun t => drp_len t
  cases a with
  | nil =>
    cases b with
    | nil => simp at hne
    | cons y b => have := h y b; simp [lst, drp]; omega
  | cons x a =>
    cases b with
    | nil => have := h x a; simp [lst, drp]; omega
    | cons y b =>
      rw [lst_cc]
      by_cases c : x < y
      · have := h x a; have := h x (y :: b)
        rw [if_pos c]; simp only [drp, if_true, List.length_cons] at *; omega
      · rw [if_neg c]
        by_cases d : y < x
        · have := h y (x :: a); have := h y b
          rw [if_pos d]; simp only [drp, if_true, List.length_cons] at *; omega
        · have := h x a; have := h x (y :: b)
          rw [if_neg d]; simp only [drp, if_true, List.length_cons] at *; omega
theorem mrg_spec : ∀ (n : Nat) {a b : List Int}, asc a → asc b → a.length + b.length ≤ n →
    (∀ t i, (t, i) ∈ mrg n a b ↔ ((i = 1 ∧ t ∈ a ∧ t ∉ b) ∨ (i = 2 ∧ t ∉ a ∧ t ∈ b) ∨ (i = 3 ∧ t ∈ a ∧ t ∈ b))) ∧ (mrg n a b).Pairwise (fun p q => p.1 < q.1)
  | 0, a, b, _, _, hn => by
    have e1 : a = [] := List.eq_nil_of_length_eq_zero (by omega)
    have e2 : b = [] := List.eq_nil_of_length_eq_zero (by omega)
    subst e1 e2
    exact ⟨by simp [mrg], List.Pairwise.nil⟩
  | n + 1, a, b, ha, hb, hn => by
    unfold mrg
    by_cases hz : a.length + b.length = 0
    · have e1 : a = [] := List.eq_nil_of_length_eq_zero (by omega)
      have e2 : b = [] := List.eq_nil_of_length_eq_zero (by omega)
      subst e1 e2
      rw [if_pos hz]
      exact ⟨by simp, List.Pairwise.nil⟩
    · rw [if_neg hz]
      obtain ⟨la, lb, hl⟩ := lst_spec ha hb hz
      have hlt := lst_head hz
      generalize lst a b = m at *
      obtain ⟨t0, i0⟩ := m
      simp only at la lb hl hlt
      obtain ⟨h1, h2⟩ := mrg_spec n (drp_asc (t := t0) ha) (drp_asc (t := t0) hb) (by omega)
      have ma := drp_mem ha la
      have mb := drp_mem hb lb
      refine ⟨fun t i => ?_, List.pairwise_cons.2 ⟨fun p hp => ?_, h2⟩⟩
      · rw [List.mem_cons, h1 t i, ma, mb]
        by_cases e : t = t0
        · subst e
          constructor
          · rintro (h | h)
            · obtain rfl : i = i0 := by simpa using h
              exact hl
            · rcases h with ⟨_, ⟨_, h⟩, _⟩ | ⟨_, _, ⟨_, h⟩⟩ | ⟨_, ⟨_, h⟩, _⟩ <;> omega
          · intro h
            left
            have : i = i0 := by
              rcases h with ⟨e, p, q⟩ | ⟨e, p, q⟩ | ⟨e, p, q⟩ <;> rcases hl with ⟨e', p', q'⟩ | ⟨e', p', q'⟩ | ⟨e', p', q'⟩ <;> first | omega | exact absurd p p' | exact absurd p' p | exact absurd q q' | exact absurd q' q
            rw [this]
        · have ea : t ∈ a ∧ t0 < t ↔ t ∈ a := ⟨fun h => h.1, fun h => ⟨h, by have := la t h; omega⟩⟩
          have eb : t ∈ b ∧ t0 < t ↔ t ∈ b := ⟨fun h => h.1, fun h => ⟨h, by have := lb t h; omega⟩⟩
          rw [ea, eb]
          constructor
          · rintro (h | h)
            · exact absurd (by simpa using h : t = t0 ∧ i = i0).1 e
            · exact h
          · exact fun h => .inr h
      · obtain ⟨t, i⟩ := p
        show t0 < t
        rcases (h1 t i).1 hp with ⟨_, h, _⟩ | ⟨_, _, h⟩ | ⟨_, h, _⟩
        · exact ((ma t).1 h).2
        · exact ((mb t).1 h).2
        · exact ((ma t).1 h).2
theorem mg_mem {a b : List Int} (ha : asc a) (hb : asc b) (t i : Int) : (t, i) ∈ mg a b ↔ ((i = 1 ∧ t ∈ a ∧ t ∉ b) ∨ (i = 2 ∧ t ∉ a ∧ t ∈ b) ∨ (i = 3 ∧ t ∈ a ∧ t ∈ b)) := (mrg_spec _ ha hb (Nat.le_refl _)).1 t i
theorem mg_lt {a b : List Int} (ha : asc a) (hb : asc b) : (mg a b).Pairwise (fun p q => p.1 < q.1) := (mrg_spec _ ha hb (Nat.le_refl _)).2
/-- One round: more fuel tells the same. -/
theorem mrg_fuel : ∀ (n m : Nat) {a b : List Int}, a.length + b.length ≤ n → a.length + b.length ≤ m → mrg n a b = mrg m a b
  | 0, 0, _, _, _, _ => rfl
  | 0, m + 1, a, b, h, _ => by rw [mrg, mrg, if_pos (by omega)]
  | n + 1, 0, a, b, _, h => by rw [mrg, mrg, if_pos (by omega)]
  | n + 1, m + 1, a, b, h, h' => by
    rw [mrg, mrg]
    by_cases hz : a.length + b.length = 0
    · rw [if_pos hz, if_pos hz]
    · have := lst_head hz
      rw [if_neg hz, if_neg hz, mrg_fuel n m (by omega) (by omega)]
theorem mg_cons {a b : List Int} (hz : ¬ a.length + b.length = 0) : mg a b = lst a b :: mg (drp (lst a b).1 a) (drp (lst a b).1 b) := by
  have := lst_head hz
  unfold mg
  rw [mrg_fuel _ (a.length + b.length + 1) (Nat.le_refl _) (by omega), mrg, if_neg hz, mrg_fuel (a.length + b.length) _ (by omega) (Nat.le_refl _)]
theorem mg_nil {a b : List Int} (hz : a.length + b.length = 0) : mg a b = [] := by
  unfold mg; rw [hz]; rfl
theorem mrg_len : ∀ (n : Nat) (a b : List Int), (mrg n a b).length ≤ n
  | 0, _, _ => Nat.le_refl _
  | n + 1, a, b => by unfold mrg; split; simp; simp; exact mrg_len n _ _
theorem mg_len (a b : List Int) : (mg a b).length ≤ a.length + b.length := mrg_len _ _ _
/-- A list put in order. -/
def srt (l : List Int) : List Int := l.mergeSort fun x y => decide (x ≤ y)
theorem srt_asc (l : List Int) : asc (srt l) := by
  have := List.pairwise_mergeSort (le := fun x y : Int => decide (x ≤ y)) (fun a b c h1 h2 => by simp at *; omega) (fun a b => by simp; omega) l
  exact this.imp (fun h => by simpa using h)
theorem srt_perm (l : List Int) : (srt l).Perm l := List.mergeSort_perm l _
theorem srt_mem (l : List Int) (x : Int) : x ∈ srt l ↔ x ∈ l := (srt_perm l).mem_iff
theorem srt_len (l : List Int) : (srt l).length = l.length := (srt_perm l).length_eq
def ord (l : List Int) : List Int := if asc l then l else srt l
theorem ord_asc (l : List Int) : asc (ord l) := by unfold ord; split; assumption; exact srt_asc l
theorem ord_mem (l : List Int) (x : Int) : x ∈ ord l ↔ x ∈ l := by unfold ord; split; exact Iff.rfl; exact srt_mem l x
theorem ord_len (l : List Int) : (ord l).length = l.length := by unfold ord; split; rfl; exact srt_len l
theorem ord_of {l : List Int} (h : asc l) : ord l = l := if_pos h
def subB (a b : List Int) : Bool := decide (∀ x ∈ a, x ∈ b)
def lowB (a b : List Int) : Bool := decide (∀ x ∈ a, x ∉ b)
theorem subB_yes {a b : List Int} (h : ∀ t, (t, 1) ∉ mg (ord a) (ord b)) : subB a b = true := by
  refine decide_eq_true fun x hx => ?_
  by_cases hb : x ∈ b
  · exact hb
  · exact absurd ((mg_mem (ord_asc a) (ord_asc b) x 1).2 (.inl ⟨rfl, (ord_mem a x).2 hx, fun h => hb ((ord_mem b x).1 h)⟩)) (h x)
theorem subB_no {a b : List Int} {t : Int} (h : (t, 1) ∈ mg (ord a) (ord b)) : subB a b = false := by
  refine decide_eq_false fun hs => ?_
  rcases (mg_mem (ord_asc a) (ord_asc b) t 1).1 h with ⟨_, h1, h2⟩ | ⟨h, _⟩ | ⟨h, _⟩
  · exact h2 ((ord_mem b t).2 (hs t ((ord_mem a t).1 h1)))
  · omega
  · omega
theorem lowB_yes {a b : List Int} (h : ∀ t, (t, 3) ∉ mg (ord a) (ord b)) : lowB a b = true := by
  refine decide_eq_true fun x hx hb => ?_
  exact h x ((mg_mem (ord_asc a) (ord_asc b) x 3).2 (.inr (.inr ⟨rfl, (ord_mem a x).2 hx, (ord_mem b x).2 hb⟩)))
theorem lowB_no {a b : List Int} {t : Int} (h : (t, 3) ∈ mg (ord a) (ord b)) : lowB a b = false := by
  refine decide_eq_false fun hs => ?_
  rcases (mg_mem (ord_asc a) (ord_asc b) t 3).1 h with ⟨h, _⟩ | ⟨h, _⟩ | ⟨_, h1, h2⟩
  · omega
  · omega
  · exact hs t ((ord_mem a t).1 h1) ((ord_mem b t).1 h2)
def joinB (a b : List Int) : List Int := (mg a b).map (·.1)
def meetB (a b : List Int) : List Int := ((mg a b).filter fun p => p.2 == 3).map (·.1)
def lessB (a b : List Int) : List Int := a.filter fun x => !b.contains x
theorem joinB_lt {a b : List Int} (ha : asc a) (hb : asc b) : (joinB a b).Pairwise (· < ·) := by
  unfold joinB; rw [List.pairwise_map]; exact mg_lt ha hb
theorem joinB_mem {a b : List Int} (ha : asc a) (hb : asc b) (t : Int) : t ∈ joinB a b ↔ t ∈ a ∨ t ∈ b := by
  unfold joinB
  rw [List.mem_map]
  constructor
  · rintro ⟨⟨t', i⟩, h, rfl⟩
    rcases (mg_mem ha hb t' i).1 h with ⟨_, h, _⟩ | ⟨_, _, h⟩ | ⟨_, h, _⟩
    · exact .inl h
    · exact .inr h
    · exact .inl h
  · intro h
    by_cases h1 : t ∈ a <;> by_cases h2 : t ∈ b
    · exact ⟨(t, 3), (mg_mem ha hb t 3).2 (.inr (.inr ⟨rfl, h1, h2⟩)), rfl⟩
    · exact ⟨(t, 1), (mg_mem ha hb t 1).2 (.inl ⟨rfl, h1, h2⟩), rfl⟩
    · exact ⟨(t, 2), (mg_mem ha hb t 2).2 (.inr (.inl ⟨rfl, h1, h2⟩)), rfl⟩
    · exact absurd h (by simp [h1, h2])
theorem meetB_lt {a b : List Int} (ha : asc a) (hb : asc b) : (meetB a b).Pairwise (· < ·) := by
  unfold meetB; rw [List.pairwise_map]; exact (mg_lt ha hb).sublist List.filter_sublist
theorem meetB_mem {a b : List Int} (ha : asc a) (hb : asc b) (t : Int) : t ∈ meetB a b ↔ t ∈ a ∧ t ∈ b := by
  unfold meetB
  rw [List.mem_map]
  constructor
  · rintro ⟨⟨t', i⟩, h, rfl⟩
    obtain ⟨h, hi⟩ := List.mem_filter.1 h
    have hi : i = 3 := by simpa using hi
    rcases (mg_mem ha hb t' i).1 h with ⟨h, _⟩ | ⟨h, _⟩ | ⟨_, h⟩
    · omega
    · omega
    · exact h
  · rintro ⟨h1, h2⟩
    exact ⟨(t, 3), List.mem_filter.2 ⟨(mg_mem ha hb t 3).2 (.inr (.inr ⟨rfl, h1, h2⟩)), by simp⟩, rfl⟩
end Go.Proofs.Ytdbhppfpalpfmaa

/-
  Encode of both, as one form; a text put behind one's own bytes.
-/
import Derived.Test.YtdbhppfpalpfmaaLabCd9
import Derived.Test.YtdbhppfpalpfmaaLabCd6
import Derived.Test.YtdbhppfpalpfmaaLabA
namespace Go.Proofs.Ytdbhppfpalpfmaa
open Go.RowKit Go.MapKept
theorem eqB_self (a : List Int) : eqB a a = true := decide_eq_true rfl
def encE (s i : List Int) : Int := bif (setB s && setB i) then 0 else 1
def encB (s i : List Int) : List Int := bif (setB s && setB i) then codeB s ++ codeB i else []
theorem encB_is (s i : List Int) : ∀ y ∈ encB s i, 0 ≤ y ∧ y < 256 := by
  intro y hy
  unfold encB at hy
  cases hb : (setB s && setB i) with
  | false => rw [hb] at hy; cases hy
  | true =>
    rw [hb] at hy
    have ⟨h1, h2⟩ : setB s = true ∧ setB i = true := by simpa using hb
    rcases List.mem_append.1 hy with hy | hy
    · exact codeB_is s (setB_len h1) y hy
    · exact codeB_is i (setB_len h2) y hy
theorem encB_len (s i : List Int) : (encB s i).length ≤ 130 := by
  unfold encB
  cases hb : (setB s && setB i) with
  | false => simp
  | true =>
    have ⟨h1, h2⟩ : setB s = true ∧ setB i = true := by simpa using hb
    have := setB_len h1
    have := setB_len h2
    simp [codeB_len]
    omega
theorem toU_append (a b : List Int) : toU (a ++ b) = toU a ++ toU b := by simp [toU]
theorem enc_u (w : World) (a1 a2 : Option Addr) (c1 c2 : Nat) (s i : List Int) (h1 : RdI w a1 c1 s) (h2 : RdI w a2 c2 i) :
    Calls Try.prog 40 #[.agg #[.slice a1 s.length c1, .slice a2 i.length c2]] w fun e w' => ∃ v, e = .returned (.tuple #[v, .int .i64 (encE s i)]) ∧ w'.ownsRow w.heap.size 5 1 v (encB s i).length ((encB s i).map (Value.int .u8)) ∧ Fr [] w w' := by
  unfold encE encB
  cases hb : (setB s && setB i) with
  | true =>
    have ⟨s1, s2⟩ : setB s = true ∧ setB i = true := by simpa using hb
    refine (enc_yes w a1 a2 c1 c2 s i h1 h2 s1 s2).mono ?_
    rintro e w' ⟨v, n, rfl, ho, hf⟩
    have hl : n = (codeB s ++ codeB i).length := by have := ho.1; simp at this; simp; omega
    subst hl
    exact ⟨v, rfl, ho, hf⟩
  | false =>
    refine (enc_no w a1 a2 c1 c2 s i h1 h2 hb).mono ?_
    rintro e w' ⟨rfl, hf⟩
    exact ⟨_, rfl, World.ownsRow_nil _ _ _ _, hf⟩
theorem renc_u (w : World) (a1 a2 : Option Addr) (c1 c2 : Nat) (s i : List Int) (h1 : RdI w a1 c1 s) (h2 : RdI w a2 c2 i) :
    Calls Try.prog 41 #[.agg #[.slice a1 s.length c1, .slice a2 i.length c2]] w fun e w' => e = .returned (.tuple #[.string ⟨(toU (encB s i)).toArray⟩, .int .i64 (encE s i)]) ∧ Fr [] w w' := by
  unfold encE encB
  cases hb : (setB s && setB i) with
  | true =>
    have ⟨s1, s2⟩ : setB s = true ∧ setB i = true := by simpa using hb
    refine (renc_yes w a1 a2 c1 c2 s i h1 h2 s1 s2).mono ?_
    rintro e w' ⟨rfl, hf⟩
    refine ⟨?_, hf⟩
    simp only [cond_true, toU_append]
    rw [ByteArray.mk_append_mk]
  | false =>
    refine (renc_no w a1 a2 c1 c2 s i h1 h2 hb).mono ?_
    rintro e w' ⟨rfl, hf⟩
    exact ⟨rfl, hf⟩
section
variable {P : Program} {ops : Array Oper} {rest : List Oper} {o : Oper} {a : Act} {Q : Exit → Act → World → Prop}
/-- append(s, t...) of bytes, s of the call's own, t bytes that read, nil let in. -/
theorem wL_appendB {w : World} (hg : o.guard = none) (s x : Operand) (t : TypeId) (ho : o.op = .call { callee := .builtin .append, args := #[s, x], argTypes := #[t, t] })
    (base : Nat) (e : TypeId) (i : TypeInfo) (ht : P.underlying t = some (.slice e)) (hi : P.info? e = some i) (hz : i.zero = some (.int .u8 0)) (hsize : i.size = 1) (hby : i.bytes = 1)
    (v : Value) (n : Nat) (xs : List Int) (hs : a.eval s = v) (hown : w.ownsRow base e 1 v n (xs.map (Value.int .u8))) (ad : Option Addr) (c m : Nat) (zs : List Int) (hm : zs.length = m) (hx : a.eval x = .slice ad m c) (hr : RdB w ad c zs) (hn : ad = none → c = 0)
    (hb : n + m ≤ 140737488355328) (hbase : base ≤ w.heap.size)
    (h : ∀ v' w', w'.ownsRow base e 1 v' (n + m) ((xs ++ zs).map (Value.int .u8)) → Below base w w' → wpList P ops Q rest (a.put o.dst v') w') : wpList P ops Q (o :: rest) a w := by
  have key : ∀ (a' : Addr), ad = some a' → wpList P ops Q (o :: rest) a w := fun a' ha => by
    subst ha
    refine wpList_append_own (P := P) (w := w) hg s x t ho base e i (.int .u8 0) 1 1 ht hi hz hsize hby rfl (by decide) v n _ hs hown a' m c (zs.map (Value.int .u8)) hx (by simp [hm]) (fun j u hu => ?_) (fun u hu => by obtain ⟨y, _, rfl⟩ := List.mem_map.1 hu; rfl) (by unfold maxLen; omega) (by omega) hbase (fun v' w' h1 h2 _ => h v' w' (by rw [List.map_append]; exact h1) ((Below.refl base w).grown h2 hbase (fun k ek => ?_)))
    · have hj : j < zs.length := by have := (List.getElem?_eq_some_iff.1 hu).1; simpa using this
      obtain ⟨b, off, rfl, hc⟩ := hr.at_ a' rfl (by omega)
      rw [Go.WideShapes.add_plain, hc j hj]
      simp [hj] at hu
      simp [hj, hu]
    · rcases hown.2 with ⟨rfl, _⟩ | ⟨g, cap, cur, rfl, h1, _⟩
      · simp [Value.ownBlock] at ek
      · simp [Value.ownBlock] at ek; subst ek; exact h1
  cases ad with
  | none =>
    have h0 := hr.nil rfl
    have hc := hn rfl
    subst hc
    obtain rfl : m = 0 := by omega
    obtain rfl : zs = [] := List.eq_nil_of_length_eq_zero h0
    exact wpList_append_own_none (P := P) hg s x t ho base e i 1 ht hi v n _ hs hown hx (h v w (by simpa using hown) (Below.refl _ _))
  | some a' => exact key a' rfl
end
theorem own_keep {w W : World} {B n : Nat} {T : TypeId} {v : Value} {xs : List Value} (h : w.ownsRow B T 1 v n xs) (hf : Fr [] w W) : W.ownsRow B T 1 v n xs := by
  refine ⟨h.1, ?_⟩
  rcases h.2 with h1 | ⟨g, cap, cur, h3, h4, h5, h6⟩
  · exact .inl h1
  · exact .inr ⟨g, cap, cur, h3, h4, hf.keep h5 (by simp), h6⟩
/-- Bytes of the call's own, read. -/
theorem own_rdB {w : World} {B : Nat} {T : TypeId} {v : Value} {n : Nat} {zs : List Int} (h : w.ownsRow B T 1 v n (zs.map (Value.int .u8))) (hb : zs.length ≤ 140737488355328) (hz : ∀ x ∈ zs, 0 ≤ x ∧ x < 256) : ∃ ad cap, v = .slice ad zs.length cap ∧ RdB w ad cap zs ∧ (ad = none → cap = 0) := by
  have hl : zs.length = n := by have := h.1; simp at this; omega
  rcases h.2 with ⟨rfl, hz'⟩ | ⟨g, cap, cur, rfl, _, hg, h1, h2, h3, h4⟩
  · obtain rfl : zs = [] := List.eq_nil_of_length_eq_zero (by omega)
    exact ⟨none, 0, rfl, RdB.empty _ _ (by omega), fun _ => rfl⟩
  · subst hl
    refine ⟨some ⟨g, 0, none⟩, cap, rfl, ⟨h1, by unfold maxLen at h2; omega, hb, (fun e => by cases e), (fun a ha hl => ?_), hz⟩, (fun e => by cases e)⟩
    cases ha
    refine ⟨g, 0, rfl, fun j hj => ?_⟩
    rw [Nat.zero_add, box_cell hg]
    have hq : (cur.toList.take (zs.length * 1))[j]? = (zs.map (Value.int .u8))[j]? := by rw [h4]
    rw [List.getElem?_take, if_pos (by omega)] at hq
    rw [Array.getElem?_toList] at hq
    rw [hq]
    simp [hj, List.getD_eq_getElem?_getD]
end Go.Proofs.Ytdbhppfpalpfmaa

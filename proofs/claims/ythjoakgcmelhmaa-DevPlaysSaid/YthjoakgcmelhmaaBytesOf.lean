/-
  []byte(s), string(b), bytes that are counted up.
-/
import Derived.Test.YthjoakgcmelhmaaDevAwake
namespace Go.Proofs.Ythjoakgcmelhmaa
open Go.RowKit Go.MapKept
section
variable {P : Program} {ops : Array Oper} {rest : List Oper} {o : Oper} {a : Act} {Q : Exit → Act → World → Prop} {w : World}
theorem run_toBytes2 {src e dst : TypeId} (hs : P.underlying src = some .string) (hd : P.underlying dst = some (.slice e)) (he : P.underlying e = some (.int .u8)) (w : World) (s : List UInt8) (hl : s.length ≤ maxLen) :
    ∃ cap w', (convert src dst (.string ⟨s.toArray⟩)).run P w = .ok (.slice (some ⟨w.heap.size, 0, none⟩) s.length cap) w' ∧ Fr [] w w' ∧ w'.rangeAt w.heap.size 0 (cel s) ∧ w'.there w.heap.size 0 s.length ∧ s.length ≤ cap ∧ cap ≤ 9223372036854775807 := by
  have hsz : (⟨s.toArray⟩ : ByteArray).size = s.length := by simp [ByteArray.size]
  refine ⟨grownCap w s.length 0 e, Lib.bytesWorld w e ⟨s.toArray⟩, by rw [← hsz]; exact Lib.run_convert_string_bytes w src dst e ⟨s.toArray⟩ hs hd he, ⟨rfl, rfl, rfl, ?_, fun k hk _ => Lib.bytesWorld_at_old w e _ k hk⟩, ?_, ?_, grownCap_ge _ _ _ _, grownCap_le_maxLen _ _ _ _ hl⟩
  · rw [Lib.bytesWorld_size]; omega
  · intro j v hv
    have hj : j < s.length := by have := (List.getElem?_eq_some_iff.1 hv).1; rwa [cel_length] at this
    rw [Nat.zero_add, Lib.bytesWorld_cell w e _ j (by rw [hsz]; exact hj)]
    rw [cel_get] at hv
    simpa [hj] using hv
  · intro j hj
    rw [Nat.zero_add, Lib.bytesWorld_cell w e _ j (by rw [hsz]; exact hj)]
    refine ⟨rfl, ?_⟩
    simp only [World.frozen?, Lib.bytesWorld_at_new]
    have : j < (Lib.bytesCells w e ⟨s.toArray⟩).size := by simp [Lib.bytesCells]; omega
    simp; omega
theorem wL_bytesOf (hg : o.guard = none) (src dst e : TypeId) (x : Operand) (hop : o.op = .convert src dst x) (hs : P.underlying src = some .string) (hd : P.underlying dst = some (.slice e)) (he : P.underlying e = some (.int .u8))
    (s : List UInt8) (n : Nat) (hn : s.length = n) (hx : a.eval x = .string ⟨s.toArray⟩) (hl : s.length ≤ maxLen)
    (h : ∀ cap w', Fr [] w w' → w'.rangeAt w.heap.size 0 (cel s) → w'.there w.heap.size 0 n → n ≤ cap → cap ≤ 9223372036854775807 → wpList P ops Q rest (a.put o.dst (.slice (some ⟨w.heap.size, 0, none⟩) n cap)) w') : wpList P ops Q (o :: rest) a w := by
  subst hn
  obtain ⟨cap, w', hrun, h1, h2, h3, h4, h5⟩ := run_toBytes2 (P := P) hs hd he w s hl
  refine wpList_val hg ?_ (h cap w' h1 h2 h3 h4 h5)
  simp [execOp, hop, hx, hrun]
end
theorem own_str {P : Program} {src e dst : TypeId} (hs : P.underlying src = some (.slice e)) (he : P.underlying e = some (.int .u8)) (hd : P.underlying dst = some .string) {w : World} {B : Nat} {T : TypeId} {v : Value} {n : Nat} {s : List UInt8} (h : w.ownsRow B T 1 v n (cel s)) :
    (convert src dst v).run P w = .ok (.string ⟨s.toArray⟩) w := by
  have hl : s.length = n := by have := h.1; rw [cel_length] at this; omega
  by_cases h0 : 0 < n
  · obtain ⟨g, cap, rfl, _, _, hr, _⟩ := owns_range h h0
    exact run_toString hs he hd g 0 cap s n hl hr
  · obtain rfl : n = 0 := by omega
    obtain rfl : s = [] := List.eq_nil_of_length_eq_zero hl
    rcases h.2 with ⟨rfl, _⟩ | ⟨g, cap, cur, rfl, _⟩
    · exact run_convert_bytes_nil w src e hs he 0 0 dst hd
    · exact run_toString hs he hd g 0 cap [] 0 rfl (fun j v hv => by simp [cel] at hv)
theorem own_keepL {w W : World} {B n : Nat} {T : TypeId} {v : Value} {xs : List Value} (h : w.ownsRow B T 1 v n xs) {l : List Nat} (hf : Fr l w W) (hl : ∀ g, B ≤ g → g ∉ l) : W.ownsRow B T 1 v n xs := by
  refine ⟨h.1, ?_⟩
  rcases h.2 with h1 | ⟨g, cap, cur, h3, h4, h5, h6⟩
  · exact .inl h1
  · exact .inr ⟨g, cap, cur, h3, h4, hf.keep h5 (hl g h4), h6⟩
theorem owns_sl {w : World} {B : Nat} {T : TypeId} {v : Value} {n : Nat} {xs : List Value} (h : w.ownsRow B T 1 v n xs) : ∃ a cap, v = .slice a n cap := by
  obtain ⟨h1, h2⟩ := h
  rcases h2 with ⟨h3, h4⟩ | ⟨g, cap, cur, h3, _⟩
  · subst h4; simp at h1; subst h1; exact ⟨none, 0, h3⟩
  · exact ⟨_, _, h3⟩
/-- Bytes that may be written. -/
def Bts (w : World) (g n : Nat) : Prop := ∀ j, j < n → (∃ x : Int, w.cell? ⟨g, j, none⟩ = some (.int .u8 x)) ∧ w.frozen? ⟨g, j, none⟩ = false
theorem Bts.of {w : World} {g n : Nat} {s : List UInt8} (hr : w.rangeAt g 0 (cel s)) (ht : w.there g 0 n) (hn : s.length = n) : Bts w g n := fun j hj => by
  have h1 := hr j (.int .u8 (s.getD j 0).toNat) (by rw [cel_get]; simp [hn, hj])
  have h2 := (ht j hj).2
  rw [Nat.zero_add] at h1 h2
  exact ⟨⟨_, h1⟩, h2⟩
theorem Bts.set {w : World} {g n : Nat} (h : Bts w g n) (k : Nat) (x : Int) : Bts (w.setCell ⟨g, k, none⟩ (.int .u8 x)) g n := fun j hj => by
  obtain ⟨⟨y, hy⟩, hf⟩ := h j hj
  refine ⟨?_, by simpa using hf⟩
  by_cases e : j = k
  · subst e
    exact ⟨x, by first | exact World.cell?_setCell_same _ _ _ hy | exact World.cell?_setCell_same _ _ hy | exact World.cell?_setCell_same _ hy | exact World.cell?_setCell_same hy⟩
  · exact ⟨y, by rw [World.cell?_setCell_other (h := by simp <;> omega)]; exact hy⟩
theorem Bts.keep {w w' : World} {g n : Nat} (h : Bts w g n) {l : List Nat} (hf : Fr l w w') (hg : g ∉ l) : Bts w' g n := fun j hj => by
  obtain ⟨⟨y, hy⟩, hz⟩ := h j hj
  have hb := hf.block g (World.block_lt_of_cell? _ _ hy) hg
  refine ⟨⟨y, by rw [World.cell?_of_block (w := w) hb]; exact hy⟩, ?_⟩
  simp only [World.frozen?] at hz ⊢
  rw [hb]; exact hz
end Go.Proofs.Ythjoakgcmelhmaa

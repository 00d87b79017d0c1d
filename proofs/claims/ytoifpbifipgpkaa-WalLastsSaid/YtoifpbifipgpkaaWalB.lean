/-
  wal: bytes and their texts; what the statements' helpers do with them.
-/
import Derived.Test.YtoifpbifipgpkaaDevNew
namespace Go.Proofs.Ytoifpbifipgpkaa
open Go.RowKit Go.MapKept
/-- A slice's bytes stay where they are. -/
theorem range_keep {w w' : World} {b o : Nat} {cs : List Value} (h : w.rangeAt b o cs) {r : List Nat} (hfr : Fr r w w') (hb : b ∉ r) : w'.rangeAt b o cs := fun j v hv => by
  have h1 := h j v hv
  have h2 := World.block_lt_of_cell? _ _ h1
  rw [World.cell?_of_block (w := w) (hfr.block b h2 hb)]; exact h1
section
variable {P : Program} {ops : Array Oper} {rest : List Oper} {o : Oper} {a : Act} {Q : Exit → Act → World → Prop} {w : World}
theorem run_toBytes2 {src e dst : TypeId} (hs : P.underlying src = some .string) (hd : P.underlying dst = some (.slice e)) (he : P.underlying e = some (.int .u8)) (w : World) (s : List UInt8) (hl : s.length ≤ maxLen) :
    ∃ cap w', (convert src dst (.string ⟨s.toArray⟩)).run P w = .ok (.slice (some ⟨w.heap.size, 0, none⟩) s.length cap) w' ∧ Fr [] w w' ∧ w'.rangeAt w.heap.size 0 (cel s) ∧ w'.there w.heap.size 0 s.length ∧ s.length ≤ cap ∧ cap ≤ 9223372036854775807 := by
  have hsz : (⟨s.toArray⟩ : ByteArray).size = s.length := by simp [ByteArray.size]
  refine ⟨grownCap w s.length 0 e, Lib.bytesWorld w e ⟨s.toArray⟩, by rw [← hsz]; exact Lib.run_convert_string_bytes w src dst e ⟨s.toArray⟩ hs hd he, ⟨rfl, rfl, rfl, ?_, fun k hk _ => Lib.bytesWorld_at_old w e _ k hk⟩, ?_, ?_, grownCap_ge _ _ _ _, grownCap_le_maxLen _ _ _ _ hl⟩
  · rw [Lib.bytesWorld_size]; omega
  · intro j v hv
    have hj : j < s.length := by have := (List.getElem?_eq_some_iff.1 hv).1; rwa [cel_length] at this
    rw [Nat.zero_add, Lib.bytesWorld_cell w e _ j (by rw [hsz]; exact hj)]
    rw [cel_get] at hv
    simpa [hj] using hv
  · intro j hj
    rw [Nat.zero_add, Lib.bytesWorld_cell w e _ j (by rw [hsz]; exact hj)]
    refine ⟨rfl, ?_⟩
    simp only [World.frozen?, Lib.bytesWorld_at_new]
    have : j < (Lib.bytesCells w e ⟨s.toArray⟩).size := by simp [Lib.bytesCells]; omega
    simp; omega
theorem wL_bytesOf (hg : o.guard = none) (src dst e : TypeId) (x : Operand) (hop : o.op = .convert src dst x) (hs : P.underlying src = some .string) (hd : P.underlying dst = some (.slice e)) (he : P.underlying e = some (.int .u8))
    (s : List UInt8) (n : Nat) (hn : s.length = n) (hx : a.eval x = .string ⟨s.toArray⟩) (hl : s.length ≤ maxLen)
    (h : ∀ cap w', Fr [] w w' → w'.rangeAt w.heap.size 0 (cel s) → w'.there w.heap.size 0 n → n ≤ cap → cap ≤ 9223372036854775807 → wpList P ops Q rest (a.put o.dst (.slice (some ⟨w.heap.size, 0, none⟩) n cap)) w') : wpList P ops Q (o :: rest) a w := by
  subst hn
  obtain ⟨cap, w', hrun, h1, h2, h3, h4, h5⟩ := run_toBytes2 (P := P) hs hd he w s hl
  refine wpList_val hg ?_ (h cap w' h1 h2 h3 h4 h5)
  simp [execOp, hop, hx, hrun]
end
/-- Bytes that may be written. -/
def Bts (w : World) (g n : Nat) : Prop := ∀ j, j < n → (∃ x : Int, w.cell? ⟨g, j, none⟩ = some (.int .u8 x)) ∧ w.frozen? ⟨g, j, none⟩ = false
theorem Bts.of {w : World} {g n : Nat} {s : List UInt8} (hr : w.rangeAt g 0 (cel s)) (ht : w.there g 0 n) (hn : s.length = n) : Bts w g n := fun j hj => by
  have h1 := hr j (.int .u8 (s.getD j 0).toNat) (by rw [cel_get]; simp [hn, hj])
  have h2 := (ht j hj).2
  rw [Nat.zero_add] at h1 h2
  exact ⟨⟨_, h1⟩, h2⟩
theorem Bts.set {w : World} {g n : Nat} (h : Bts w g n) (k : Nat) (x : Int) : Bts (w.setCell ⟨g, k, none⟩ (.int .u8 x)) g n := fun j hj => by
  obtain ⟨⟨y, hy⟩, hf⟩ := h j hj
  refine ⟨?_, by simpa using hf⟩
  by_cases e : j = k
  · subst e
    exact ⟨x, by first | exact World.cell?_setCell_same _ _ _ hy | exact World.cell?_setCell_same _ _ hy | exact World.cell?_setCell_same _ hy | exact World.cell?_setCell_same hy⟩
  · exact ⟨y, by rw [World.cell?_setCell_other (h := by simp <;> omega)]; exact hy⟩
theorem Bts.keep {w w' : World} {g n : Nat} (h : Bts w g n) {l : List Nat} (hf : Fr l w w') (hg : g ∉ l) : Bts w' g n := fun j hj => by
  obtain ⟨⟨y, hy⟩, hz⟩ := h j hj
  have hb := hf.block g (World.block_lt_of_cell? _ _ hy) hg
  refine ⟨⟨y, by rw [World.cell?_of_block (w := w) hb]; exact hy⟩, ?_⟩
  simp only [World.frozen?] at hz ⊢
  rw [hb]; exact hz
theorem beq_selfB (s : ByteArray) : (s == s) = true := (bytes_beq s s).2 rfl
/-- What a value reads as, here and behind whatever is new. -/
def StrB (w : World) (v : Value) (r : ByteArray) : Prop := ∀ W, Fr [] w W → (convert 29 9 v).run Try.prog W = .ok (.string r) W
theorem StrB.range {w : World} {g cap n : Nat} {s : List UInt8} (hn : s.length = n) (h : w.rangeAt g 0 (cel s)) : StrB w (.slice (some ⟨g, 0, none⟩) n cap) ⟨s.toArray⟩ := fun W hW =>
  run_toString Try.underlying29 Try.underlying5 Try.underlying9 g 0 cap s n hn (range_keep h hW (by simp))
set_option maxHeartbeats 1000000 in
theorem sector_calls (w : World) (k : Nat) (hk : k ≤ 100000) :
    Calls Try.prog 14 #[.int .i64 k] w fun e w' => ∃ g cap, e = .returned (.slice (some ⟨g, 0, none⟩) 64 cap) ∧ Fr [] w w' ∧ w.heap.size ≤ g ∧ g < w'.heap.size ∧ w'.rangeAt g 0 (cel (bys k 64)) ∧ w'.there g 0 64 ∧ 64 ≤ cap ∧ cap ≤ 9223372036854775807 := by
  have HB := Lib.hid (bytes_calls w k 64 (by omega) hk)
  go_enter Try.func14, Try.ntmps14
  go_wp2_with fail
  refine HB.out.mono ?_
  rintro e w1 ⟨rfl, hf⟩
  have HF := Lib.hid hf
  clear hf
  go_wp2_with (first
    | (refine wL_bytesOf (o := ⟨some 5, .convert _ _ _, _, _, _, _⟩) rfl 9 29 5 _ rfl Try.underlying9 Try.underlying29 Try.underlying5 (bys k 64) 64 (bys_length _ _) rfl (by rw [bys_length]; decide) ?_; intro cap w2 hf2 hr2 ht2 hc2 hc3)
    | fail)
  go_ret
  have hsz := HF.out.size
  obtain ⟨v0, hv0⟩ := Option.isSome_iff_exists.1 (ht2 0 (by omega)).1
  exact ⟨w1.heap.size, cap, rfl, HF.out.trans hf2, hsz, World.block_lt_of_cell? _ _ hv0, hr2, ht2, hc2, hc3⟩
end Go.Proofs.Ytoifpbifipgpkaa

/-
  The document's own sum: what stands in memory, and the blocks of its text.
-/
import Derived.Test.YthegllpmefilkaaDoorGrow
import Derived.Test.YthegllpmefilkaaDoorRUnhex
import Derived.Test.YthegllpmefilkaaDoorShaPad
import Derived.Test.YthegllpmefilkaaDoorQTail
import Derived.Test.YthegllpmefilkaaDoorShaSum
import Derived.Deep.DeepCutAuto
import Derived.Deep.CutBlock
namespace Go.Proofs.YthegllpmefilkaaDoor
open Go.RowKit Go.MapKept
theorem new_cell1 (w : World) (X : Int) (b : UInt8) (T : TypeId) (hX : (b.toNat : Int) = X) : (w.alloc (.cells #[.int .u8 X] T)).cell? ((⟨w.heap.size, 0, none⟩ : Addr).add 0) = some (.int .u8 b.toNat) := by
  rw [Addr.add_mid, box_cell (heap_alloc_last _ _), hX]; rfl
/-- The table and the first state, as constants lays them. -/
structure ConstAt (w : World) (gk gh : Nat) : Prop where
  k : w.heap[gk]? = some (.cells (wv tabK) 34 (0, 0))
  h : w.heap[gh]? = some (.cells (wv st0.l) 34 (0, 0))
theorem ConstAt.keep {w w' : World} {gk gh : Nat} (h : ConstAt w gk gh) (hf : Fr [] w w') : ConstAt w' gk gh := ⟨hf.keep h.k (by simp), hf.keep h.h (by simp)⟩
theorem own_keep {w W : World} {B n : Nat} {T : TypeId} {v : Value} {xs : List Value} (h : w.ownsRow B T 1 v n xs) (hf : Fr [] w W) : W.ownsRow B T 1 v n xs := by
  refine ⟨h.1, ?_⟩
  rcases h.2 with h1 | ⟨g, cap, cur, h3, h4, h5, h6⟩
  · exact .inl h1
  · exact .inr ⟨g, cap, cur, h3, h4, hf.keep h5 (by simp), h6⟩
theorem LiesB.alloc {T : TypeId} {w : World} {B : Nat} {v : Value} {xs : List UInt8} (h : LiesB T w B v xs) (o : Obj) : LiesB T (w.alloc o) B v xs := h.keep (l := []) ((Fr.refl [] w).alloc o) (by simp)
def lenOfV : Value → Nat | .slice _ n _ => n | _ => 0
theorem Tryd.info34 : (Tryd.prog.info? 34).map (fun i => (i.zero, i.size, i.bytes)) = some (some (.int .u32 0), 1, 4) := by kernel_rfl
theorem run_build0w (w : World) : (Instr.buildSlice 43 0 #[]).run Tryd.prog w = .ok (.slice (some ⟨w.heap.size, 0, none⟩) 0 0) (w.alloc (.cells #[] 34)) := by kernel_rfl
/-- Words as cells. -/
def wc (l : List Int) : List Value := l.map (Value.int .u32)
theorem wc_one (l : List Int) : ∀ u ∈ wc l, u.oneCell' = true := fun u hu => by obtain ⟨x, _, rfl⟩ := List.mem_map.1 hu; rfl
theorem wv_cells {w : World} {g : Nat} {T : TypeId} {l : List Int} (h : w.heap[g]? = some (.cells (wv l) T (0, 0))) : ∀ j u, (wc l)[j]? = some u → w.cell? ((⟨g, 0, none⟩ : Addr).add j) = some u := fun j u hu => by
  rw [Addr.add_mid, Nat.zero_add, box_cell h]; simpa [wv, wc] using hu
theorem made_words (n : Nat) : madeCells (Value.int .u32 0).cells n = wv (List.replicate n 0) := by
  apply Array.toList_inj.1
  show (madeCells #[Value.int .u32 0] n).toList = _
  rw [toList_madeCells_one]
  simp [wv]
/-- What stands in memory while the blocks are summed. -/
structure SumAt (wb w' : World) (g2 B gH capH gw : Nat) (p : List UInt8) (l ws : List Int) : Prop where
  fr : Fr [] wb w'
  tx : BytesAt w' g2 0 p
  st : w'.ownsRow B 34 1 (.slice (some ⟨gH, 0, none⟩) 8 capH) 8 (wc l)
  ww : w'.heap[gw]? = some (.cells (wv ws) 34 (0, 0))
  wl : ws.length = 64
theorem wc_append (a b : List Int) : wc (a ++ b) = wc a ++ wc b := by simp [wc]
theorem SumAt.drewN {wb w' : World} {g2 B gH capH gw : Nat} {p : List UInt8} {l ws : List Int} (h : SumAt wb w' g2 B gH capH gw p l ws) (k : Nat) : SumAt wb (w'.drewN k) g2 B gH capH gw p l ws :=
  ⟨h.fr.trans (drewN_fr _ _), h.tx, h.st, h.ww, h.wl⟩
theorem SumAt.put {wb w' : World} {g2 B gH capH gw : Nat} {p : List UInt8} {l ws : List Int} (h : SumAt wb w' g2 B gH capH gw p l ws) (h2 : g2 < gw) (hH : gH < gw) (hb : wb.heap.size ≤ gw) (t : Nat) (x : Int) :
    SumAt wb (w'.setCell ⟨gw, t, none⟩ (.int .u32 x)) g2 B gH capH gw p l (ws.set t x) := by
  have hf : Fr [gw] w' (w'.setCell ⟨gw, t, none⟩ (.int .u32 x)) := (Fr.refl _ _).setCell (.inl (by simp)) _
  refine ⟨h.fr.setCell (.inr hb) _, ?_, ?_, ?_, by simpa using h.wl⟩
  · intro j v hv
    by_cases hg : g2 < w'.heap.size
    · rw [World.cell?_of_block (w := w') (hf.block g2 hg (by simp; omega))]; exact h.tx j v hv
    · have := h.tx j v hv
      exact absurd (World.block_lt_of_cell? _ _ this) hg
  · refine ⟨h.st.1, ?_⟩
    rcases h.st.2 with ⟨h3, _⟩ | ⟨g, cap, cur, h3, h4, h5, h6⟩
    · cases h3
    · cases h3
      exact .inr ⟨gH, capH, cur, rfl, h4, hf.keep h5 (by simp; omega), h6⟩
  · rw [box_set h.ww, wv_set]
/-- A word out of a text's middle. -/
def wordP (p : List UInt8) (o : Nat) : Int :=
  bits .or .u32 (bits .or .u32 (bits .or .u32 (((p.getD o 0).toNat : Int) * 16777216) (((p.getD (o + 1) 0).toNat : Int) * 65536)) (((p.getD (o + 2) 0).toNat : Int) * 256)) ((p.getD (o + 3) 0).toNat : Int)
theorem wordP_blk (p : List UInt8) (k t : Nat) (ht : t < 16) : wordP p (64 * k + 4 * t) = wordI ((p.drop (64 * k)).take 64) t := by
  have h : ∀ i, i < 64 → ((p.drop (64 * k)).take 64).getD i 0 = p.getD (64 * k + i) 0 := fun i hi => by
    simp [List.getD_eq_getElem?_getD, List.getElem?_take, List.getElem?_drop, hi]
  unfold wordI wordP
  rw [h _ (by omega), h _ (by omega), h _ (by omega), h _ (by omega)]
  rfl
theorem take_put {ws : List Int} {t : Nat} (h : t < ws.length) (x : Int) : (ws.set t x).take (t + 1) = ws.take t ++ [x] := by
  rw [List.take_set, List.take_succ_eq_append_getElem h, List.set_append_right _ _ (by rw [List.length_take]; omega), List.length_take, Nat.min_eq_left (by omega), Nat.sub_self]
  rfl
/-- A block of a text, by its number. -/
def blockAt (k : Nat) : Code → Option Code
  | .block j c => if j = k then some c else blockAt k c
  | .seq a b => match blockAt k a with
    | some c => some c
    | none => blockAt k b
  | .loop c => blockAt k c
  | .cond _ a b => match blockAt k a with
    | some c => some c
    | none => blockAt k b
  | _ => none
noncomputable def sumB (k : Nat) : Code := ((Tryd.f21.body.bind (blockAt k)).getD .skip)
end Go.Proofs.YthegllpmefilkaaDoor

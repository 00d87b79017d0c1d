/-
  wal: slices.Chunk as a sequence.
-/
import Derived.Test.YtoifpbifipgpkaaWal14
namespace Go.Proofs.Ytoifpbifipgpkaa
open Go.RowKit Go.Shelf
attribute [local go_sem] Oper.semAt_some
theorem Fr.grownBy {w w' : World} (h : Fr [] w w') : w.grownBy w' none := ⟨h.os, h.tape, h.output, h.size, fun k hk _ => h.block k hk (by simp)⟩
theorem Fr.of_below {w w' : World} (h : Below w.heap.size w w') : Fr [] w w' := ⟨h.os, h.tape, h.output, h.size, fun k hk _ => h.block k hk⟩
theorem Fr.of_grown {w w' : World} {row : Option Nat} (h : w.grownBy w' row) : Fr row.toList w w' := ⟨h.os, h.tape, h.output, h.size, fun k hk hn => h.block k hk (fun e => hn (by simp [← e]))⟩
theorem abides_fr {β : Type} {B : Nat} {J : β → World → Prop} (h : AbidesFrom B J) {s : β} {w w' : World} (hs : J s w) (hf : Fr [] w w') : J s w' := h s w w' none hs hf.grownBy (fun r e => by cases e)
/-- What stays when one new block is turned, stays. -/
theorem own_of_fr {β : Type} {B : Nat} {I : β → World → Prop} (h : ∀ s A A' (r : List Nat), (∀ x ∈ r, B ≤ x) → I s A → Fr r A A' → I s A') : OwnFrom B I :=
  fun s W W' row hs hg hr => h s W W' row.toList (fun x hx => (hr x (by simpa using hx)).1) hs (Fr.of_grown hg)
theorem keepsFrom_fr {B : Nat} {W W' : World} {r : List Nat} (h : Fr r W W') (hr : ∀ x ∈ r, x < B) : KeepsFrom B W W' :=
  ⟨h.size, fun k o hB hk _ => (h.block k (lt_of_heap hk) (fun hx => by have := hr k hx; omega)).trans hk⟩
theorem Two.of_fr {b1 b2 : Nat} {A B : World} {r : List Nat} (h : Fr r A B) (h1 : b1 < A.heap.size ∧ b1 ∉ r) (h2 : b2 < A.heap.size ∧ b2 ∉ r) : Two b1 b2 A B := ⟨h.block b1 h1.1 h1.2, h.block b2 h2.1 h2.2⟩
theorem Two.b {b1 b2 B : Nat} (h1 : b1 < B) (h2 : b2 < B) (W : World) (l : Nat) (o o' : Obj) (hl : B ≤ l) (_ : W.heap[l]? = some o) (_ : o.isCells = false) (_ : o.isWalk = false) : Two b1 b2 W (W.putObj l o') :=
  ⟨World.putObj_heap_other (by omega), World.putObj_heap_other (by omega)⟩
set_option maxRecDepth 100000 in
set_option maxHeartbeats 1000000 in
theorem chunk0_in (n : Nat) (l Bs Bn cap : Nat) (ad : Option Addr) (J : List Nat → World → Prop)
    (W : World) (hBs : W.cell? ⟨Bs, 0, none⟩ = some (.slice ad 0 cap)) (h0 : J [] W) :
    CallsIn Fence.wide n Try.prog 76 #[.func (.yield l) #[] #[], .pointer (some ⟨Bs, 0, none⟩), .pointer (some ⟨Bn, 0, none⟩)] W fun e W' => (∃ v, e = .returned v) ∧ J [] W' := by
  refine callsIn_of_wp Try.func76 rfl trivial ?_ rfl
  simp only [Try.ntmps76, List.size_toArray, List.length_cons, List.length_nil, Nat.reduceAdd, Nat.reduceSub, Array.replicate_succ, Array.replicate_zero, List.push_toArray, List.append_toArray, List.nil_append, List.cons_append]
  gi_wp2
  gi_loopw [4] (fun v4 wr => v4 = .int .i64 0 ∧ J [] wr ∧ wr.cell? ⟨Bs, 0, none⟩ = some (.slice ad 0 cap)) (fun _ _ => 0)
  case atStart => exact ⟨rfl, h0, hBs⟩
  case round =>
    obtain ⟨rfl, hJs, hB⟩ := hrel
    gi_wp2
    go_end0
    exact ⟨⟨_, rfl⟩, hJs⟩
/-- Chunk tells a list's pieces, to every loop that keeps its two boxes. -/
theorem chunk_stops (n : Nat) (hn : 1 ≤ n) (Bs Bn K cap : Nat) (ad : Option Addr) (g : Nat) (had : 0 < K → ad = some ⟨g, 0, none⟩) (hK : K ≤ cap) (hcap : K ≤ 8192) (w : World)
    (hc : w.cell? ⟨Bs, 0, none⟩ = some (.slice ad K cap)) (hc2 : w.cell? ⟨Bn, 0, none⟩ = some (.int .i64 32)) :
    SeqStopsK Fence.wide n Try.prog 76 #[.pointer (some ⟨Bs, 0, none⟩), .pointer (some ⟨Bn, 0, none⟩)] (fun x : Nat => #[pieceV g K x]) (Two Bs Bn) (fun ys => ys = List.range ((K + 31) / 32)) (fun pre => ∃ k, k ≤ (K + 31) / 32 ∧ pre = List.range k) ((K + 31) / 32) w := fun l J Jx W hW hJ _ hY h0 => by
  have k1 : W.cell? ⟨Bs, 0, none⟩ = some (.slice ad K cap) := by
    rw [World.cell?_of_block (w := w) (hW.block Bs (World.block_lt_of_cell? _ _ hc))]; exact hc
  have k2 : W.cell? ⟨Bn, 0, none⟩ = some (.int .i64 32) := by
    rw [World.cell?_of_block (w := w) (hW.block Bn (World.block_lt_of_cell? _ _ hc2))]; exact hc2
  by_cases h : 0 < K
  · obtain rfl := had h
    exact chunk1_in n hn l Bs Bn g K cap hK hcap _ rfl J Jx (fun pre W1 k hj => abides_fr hJ hj (drewN_fr0 W1 k)) hY W k1 k2 h0
  · obtain rfl : K = 0 := by omega
    refine (chunk0_in n l Bs Bn cap ad J W k1 h0).mono ?_
    rintro e W' ⟨hv, hj⟩
    exact ⟨hv, .inl ⟨[], rfl, hj⟩⟩
set_option maxHeartbeats 1000000 in
theorem chunk_calls (w : World) (ad : Option Addr) (K cap : Nat) :
    Calls Try.prog 71 #[.slice ad K cap, .int .i64 32] w fun e w' => e = .returned (.func (.func 76) #[] #[.pointer (some ⟨w.heap.size, 0, none⟩), .pointer (some ⟨w.heap.size + 1, 0, none⟩)]) ∧ w' = (w.alloc (.cells #[.slice ad K cap] 41)).alloc (.cells #[.int .i64 32] 3) := by
  go_enter Try.func71, Try.ntmps71
  go_wp2
  go_ret
  exact ⟨rfl, rfl⟩
/-- Piece k of a list. -/
def pieceL (ks : List Int) (k : Nat) : List Int := (ks.drop (32 * k)).take 32
theorem pieceL_len (ks : List Int) (k : Nat) : (pieceL ks k).length = min 32 (ks.length - 32 * k) := by simp [pieceL]
theorem piece_RI {w : World} {g k : Nat} {ks : List Int} (h : ∀ j, j < ks.length → w.cell? ⟨g, j, none⟩ = some (.int .i64 (ks.getD j 0))) : RI w (some ⟨g, 32 * k, none⟩) (pieceL ks k) := fun _ => by
  refine ⟨g, 32 * k, rfl, fun j hj => ?_⟩
  rw [pieceL_len] at hj
  rw [h (32 * k + j) (by omega)]
  congr 2
  simp only [pieceL, List.getD_eq_getElem?_getD, List.getElem?_take, List.getElem?_drop]
  rw [if_pos (by omega)]
end Go.Proofs.Ytoifpbifipgpkaa

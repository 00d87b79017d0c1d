/-
  Whether all of one list is in another; whether none is.
-/
import Derived.Test.YtdbhppfpalpfmaaLabG
namespace Go.Proofs.Ytdbhppfpalpfmaa
open Go.RowKit Go.Shelf
attribute [local go_sem] Oper.semAt_some
set_option maxHeartbeats 400000 in
theorem merged_calls (w : World) (a1 a2 : Option Addr) (n1 n2 c1 c2 : Nat) :
    Calls Try.prog 53 #[.slice a1 n1 c1, .slice a2 n2 c2] w fun e w' => e = .returned (.func (.func 69) #[] #[.pointer (some ⟨w.heap.size, 0, none⟩), .pointer (some ⟨w.heap.size + 1, 0, none⟩)]) ∧ w' = (w.alloc (.cells #[.slice a1 n1 c1] 22)).alloc (.cells #[.slice a2 n2 c2] 22) := by
  go_enter Try.func53, Try.ntmps53
  go_wp2
  go_ret
  exact ⟨rfl, rfl⟩
def enc2 (x : Int × Int) : Array Value := #[Value.int .i64 x.1, Value.int .i64 x.2]
/-- Whatever cells there are stay. -/
def CellsKept (W W' : World) : Prop := ∀ (k : Nat) (vs : Array Value) (T : TypeId) (fr : Nat × Nat), W.heap[k]? = some (.cells vs T fr) → W'.heap[k]? = some (.cells vs T fr)
theorem CellsKept.refl (W : World) : CellsKept W W := fun _ _ _ _ h => h
theorem CellsKept.t {A B C : World} (h : CellsKept A B) (k : CellsKept B C) : CellsKept A C := fun _ _ _ _ h0 => k _ _ _ _ (h _ _ _ _ h0)
theorem CellsKept.b {n : Nat} (W : World) (l : Nat) (o o' : Obj) (_ : n ≤ l) (h : W.heap[l]? = some o) (ho : o.isCells = false) (_ : o.isWalk = false) : CellsKept W (W.putObj l o') := fun k vs T fr hk => by
  have hne : k ≠ l := fun e => by subst e; rw [hk] at h; cases h; cases ho
  rw [World.putObj_heap_other hne]; exact hk
theorem cells_of_cell {w : World} {b o : Nat} {v : Value} (h : w.cell? ⟨b, o, none⟩ = some v) : ∃ vs T fr, w.heap[b]? = some (.cells vs T fr) := by
  unfold World.cell? at h
  cases hb : w.heap[b]? with
  | none => simp [hb] at h
  | some x => cases x <;> simp [hb] at h; exact ⟨_, _, _, rfl⟩
theorem CellsKept.rdI {W W' : World} (hk : CellsKept W W') {ad : Option Addr} {cap : Nat} {zs : List Int} (h : RdI W ad cap zs) : RdI W' ad cap zs :=
  ⟨h.le, h.cb, h.big, h.nil, fun a ha hl => by
    obtain ⟨b, off, rfl, hc⟩ := h.at_ a ha hl
    refine ⟨b, off, rfl, fun j hj => ?_⟩
    have hcj := hc j hj
    obtain ⟨vs, T, fr, hb⟩ := cells_of_cell hcj
    rw [World.cell?_of_block (w := W) ((hk _ _ _ _ hb).trans hb.symm)]
    exact hcj⟩
/-- All lists, in order or not: to a loop that leaves all cells as they are. -/
theorem merged_stopsB (n : Nat) (hn : 2 ≤ n) (B1 B2 : Nat) (a1 a2 : Option Addr) (c1 c2 : Nat) (a b : List Int) (w : World) (hB1 : w.cell? ⟨B1, 0, none⟩ = some (.slice a1 a.length c1)) (hB2 : w.cell? ⟨B2, 0, none⟩ = some (.slice a2 b.length c2)) (hr1 : RdI w a1 c1 a) (hr2 : RdI w a2 c2 b) :
    SeqStopsK Fence.wide n Try.prog 69 #[.pointer (some ⟨B1, 0, none⟩), .pointer (some ⟨B2, 0, none⟩)] enc2 CellsKept (fun ys => ys = mg (ord a) (ord b)) (fun pre => pre <+: mg (ord a) (ord b)) (a.length + b.length) w := fun l J Jx W hW hJ _ hY h0 => by
  have hO : ∀ (ad : Option Addr) (cap : Nat) (zs : List Int), RdI w ad cap zs → ∀ W', Fr [] W W' → Calls Try.prog 70 #[.slice ad zs.length cap] W' fun e W'' => ∃ ad' cap', e = .returned (.slice ad' (ord zs).length cap') ∧ RdI W'' ad' cap' (ord zs) ∧ True ∧ Fr [] W' W'' := by
    intro ad cap zs hr W' hf
    have hr' := (hr.keep (Fr.of_below hW)).keep hf
    by_cases ha : asc zs
    · rw [ord_of ha]
      refine (ordered_asc W' ad cap zs hr' ha).mono ?_
      rintro e w' ⟨rfl, q, rfl⟩
      have hq := (Fr.refl [] W').drewN q
      exact ⟨ad, cap, rfl, hr'.keep hq, trivial, hq⟩
    · have e : ord zs = srt zs := if_neg ha
      rw [e]
      refine (ordered_not W' ad cap zs hr' ha).mono ?_
      rintro e w' ⟨ad', cap', rfl, h1, h2⟩
      exact ⟨ad', cap', rfl, h1, trivial, h2⟩
  have kp : ∀ {B : Nat} {v : Value}, w.cell? ⟨B, 0, none⟩ = some v → W.cell? ⟨B, 0, none⟩ = some v := fun {B} {v} h => by
    rw [World.cell?_of_block (w := w) (hW.block B (World.block_lt_of_cell? _ _ h))]; exact h
  exact merged1_in n hn l B1 B2 a1 a2 a.length b.length c1 c2 (ord a) (ord b) CellsKept (fun _ _ => True) (fun _ _ _ _ _ _ hk h => hk.rdI h) (fun _ _ _ _ _ _ => trivial) J Jx W hJ
    (fun pre x W1 hj hl => hY pre x W1 hj (by rw [ord_len, ord_len] at hl; exact hl)) (kp hB1) (kp hB2) (hO a1 c1 a hr1) (hO a2 c2 b hr2) h0
/-- Lists in order: to a loop that keeps what lay below n₀. -/
theorem merged_stopsA (n : Nat) (hn : 2 ≤ n) (n₀ B1 B2 : Nat) (a1 a2 : Option Addr) (c1 c2 : Nat) (a b : List Int) (w : World) (hB1 : w.cell? ⟨B1, 0, none⟩ = some (.slice a1 a.length c1)) (hB2 : w.cell? ⟨B2, 0, none⟩ = some (.slice a2 b.length c2)) (hr1 : RdI w a1 c1 a) (hr2 : RdI w a2 c2 b)
    (hn1 : ∀ b off, a1 = some ⟨b, off, none⟩ → 0 < a.length → b < n₀) (hn2 : ∀ b' off, a2 = some ⟨b', off, none⟩ → 0 < b.length → b' < n₀) (ha : asc a) (hb : asc b) :
    SeqStopsK Fence.wide n Try.prog 69 #[.pointer (some ⟨B1, 0, none⟩), .pointer (some ⟨B2, 0, none⟩)] enc2 (Below n₀) (fun ys => ys = mg a b) (fun pre => pre <+: mg a b) (a.length + b.length) w := fun l J Jx W hW hJ _ hY h0 => by
  have hO : ∀ (ad : Option Addr) (cap : Nat) (zs : List Int), RdI w ad cap zs → asc zs → (∀ b off, ad = some ⟨b, off, none⟩ → 0 < zs.length → b < n₀) → ∀ W', Fr [] W W' → Calls Try.prog 70 #[.slice ad zs.length cap] W' fun e W'' => ∃ ad' cap', e = .returned (.slice ad' zs.length cap') ∧ RdI W'' ad' cap' zs ∧ (∀ b off, ad' = some ⟨b, off, none⟩ → 0 < zs.length → b < n₀) ∧ Fr [] W' W'' := by
    intro ad cap zs hr ha hn W' hf
    have hr' := (hr.keep (Fr.of_below hW)).keep hf
    refine (ordered_asc W' ad cap zs hr' ha).mono ?_
    rintro e w' ⟨rfl, q, rfl⟩
    have hq := (Fr.refl [] W').drewN q
    exact ⟨ad, cap, rfl, hr'.keep hq, hn, hq⟩
  have kp : ∀ {B : Nat} {v : Value}, w.cell? ⟨B, 0, none⟩ = some v → W.cell? ⟨B, 0, none⟩ = some v := fun {B} {v} h => by
    rw [World.cell?_of_block (w := w) (hW.block B (World.block_lt_of_cell? _ _ h))]; exact h
  exact merged1_in n hn l B1 B2 a1 a2 a.length b.length c1 c2 a b (Below n₀) (fun ad zs => ∀ b off, ad = some ⟨b, off, none⟩ → 0 < zs.length → b < n₀) (fun _ _ _ _ _ hg hk h => h.below hk hg)
    (fun ad ad' zs zs' hg ht b off e hl => by obtain ⟨off', e', hl'⟩ := ht b off e hl; exact hg b off' e' hl') J Jx W hJ hY (kp hB1) (kp hB2) (hO a1 c1 a hr1 ha hn1) (hO a2 c2 b hr2 hb hn2) h0
end Go.Proofs.Ytdbhppfpalpfmaa

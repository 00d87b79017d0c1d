/-
  Regions whose order is open, where each operation has one value whatever blocks are new; and texts as bytes.
-/
import Derived.Test.YthjoakgcmelhmaaDevNew
import Derived.Deep.Quiet
import Derived.Deep.QuietTactic
import Derived.BigQuiet
namespace Go.Proofs.Ythjoakgcmelhmaa
open Go.RowKit Go.MapKept
section
variable {P : Program} {ops : Array Oper} {rest : List Oper} {o : Oper} {a : Act} {w : World} {C : World → Prop} {Q : Act → Prop}
theorem wpQuiet_val (hw : Region.wanted o (yielded ops a.tmps) = true) (v : Value) (hrun : ∀ w, C w → (execOp a.eval o).run P w = .ok (.value v) w) (h : wpQuiet P ops C Q rest (a.put o.dst v)) : wpQuiet P ops C Q (o :: rest) a :=
  wpQuiet_step fun K hK => by
    rw [if_pos hw]
    exact ⟨v, fun w hC => by unfold Oper.quietAt; rw [hrun w hC]; exact ⟨rfl, rfl⟩, hK _ h⟩
theorem wpQuiet_call (hw : Region.wanted o (yielded ops a.tmps) = true) (v : Value) (f : FuncId) (args : Array Value) (hrun : ∀ w, (execOp a.eval o).run P w = .ok (.enter f args) w) (hcall : ∀ w, C w → Calls P f args w fun e w' => e = .returned v ∧ C w')
    (h : wpQuiet P ops C Q rest (a.put o.dst v)) : wpQuiet P ops C Q (o :: rest) a :=
  wpQuiet_step fun K hK => by
    rw [if_pos hw]
    exact ⟨v, fun w hC => by unfold Oper.quietAt; rw [hrun w]; exact ⟨rfl, hcall w hC⟩, hK _ h⟩
/-- string(b) -/
theorem wpQuiet_str (hw : Region.wanted o (yielded ops a.tmps) = true) (src dst e : TypeId) (x : Operand) (hop : o.op = .convert src dst x) (hs : P.underlying src = some (.slice e)) (he : P.underlying e = some (.int .u8)) (hd : P.underlying dst = some .string)
    (b off n cap : Nat) (hx : a.eval x = .slice (some ⟨b, off, none⟩) n cap) (s : List UInt8) (hn : s.length = n) (hc : ∀ w, C w → w.rangeAt b off (cel s)) (h : wpQuiet P ops C Q rest (a.put o.dst (.string ⟨s.toArray⟩))) : wpQuiet P ops C Q (o :: rest) a := by
  refine wpQuiet_val hw _ (fun w hC => ?_) h
  simp [execOp, hop, hx, run_toString hs he hd b off cap s n hn (hc w hC)]
/-- s == s -/
theorem wpQuiet_same (hw : Region.wanted o (yielded ops a.tmps) = true) (t u : TypeId) (x y : Operand) (hop : o.op = .binOp .eql t x y u) (s : ByteArray) (hx : a.eval x = .string s) (hy : a.eval y = .string s) (h : wpQuiet P ops C Q rest (a.put o.dst (.bool true))) : wpQuiet P ops C Q (o :: rest) a := by
  refine wpQuiet_val hw _ (fun w hC => ?_) h
  have hb : (s == s) = true := (bytes_beq s s).2 rfl
  simp [execOp, hop, hx, hy, eqGuard, binOp, Op.stringOp, hb]
end
section
variable {P : Program} {ops : Array Oper} {rest : List Oper} {o : Oper} {a : Act} {w : World} {Q : Exit → Act → World → Prop}
/-- []byte(s) -/
theorem wL_toBytes (hg : o.guard = none) (src dst e : TypeId) (x : Operand) (hop : o.op = .convert src dst x) (hs : P.underlying src = some .string) (hd : P.underlying dst = some (.slice e)) (he : P.underlying e = some (.int .u8))
    (s : List UInt8) (n : Nat) (hn : s.length = n) (hx : a.eval x = .string ⟨s.toArray⟩)
    (h : ∀ cap w', Fr [] w w' → w'.heap.size = w.heap.size + 1 → w'.rangeAt w.heap.size 0 (cel s) → wpList P ops Q rest (a.put o.dst (.slice (some ⟨w.heap.size, 0, none⟩) n cap)) w') : wpList P ops Q (o :: rest) a w := by
  subst hn
  obtain ⟨cap, w', hrun, h1, h2, h3, _⟩ := run_toBytes (P := P) hs hd he w s
  refine wpList_val hg ?_ (h cap w' h1 h2 h3)
  simp [execOp, hop, hx, hrun]
end
end Go.Proofs.Ythjoakgcmelhmaa

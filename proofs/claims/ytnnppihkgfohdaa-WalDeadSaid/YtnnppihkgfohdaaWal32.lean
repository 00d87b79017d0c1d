/-
  wal: a device's calls end well, or it is dead.
-/
import Derived.Test.YtnnppihkgfohdaaWal30
namespace Go.Proofs.Ytnnppihkgfohdaa
open Go.RowKit Go.MapKept
/-- OK and it lives; or ErrDead and it is dead. -/
def Ends (r : Int × Dv) : Prop := (r.1 = 0 ∧ r.2.d = false) ∨ (r.1 = 50 ∧ r.2.d = true)
theorem Ends.bad {r : Int × Dv} (h : Ends r) (hc : r.1 ≠ 0) : r.1 = 50 ∧ r.2.d = true := by rcases h with h | h; exact absurd h.1 hc; exact h
theorem Ends.good {r : Int × Dv} (h : Ends r) (hc : r.1 = 0) : r.2.d = false := by rcases h with h | h; exact h.2; exact absurd (h.1.symm.trans hc) (by decide)
theorem Dv.write_ends {v : Dv} (h : v.d = false) (i : Int) (s : List UInt8) : Ends (v.write i s) := by
  unfold Dv.write
  rw [h, if_neg (by simp)]
  split
  · exact .inr ⟨rfl, rfl⟩
  · exact .inl ⟨rfl, rfl⟩
theorem Dv.flush_ends {v : Dv} (h : v.d = false) : Ends v.flush := by
  unfold Dv.flush
  rw [h, if_neg (by simp)]
  split
  · exact .inr ⟨rfl, rfl⟩
  · exact .inl ⟨rfl, rfl⟩
theorem Dv.puts_ends (f : Int → List UInt8) (o : Int) : ∀ (ks : List Int) (v : Dv), v.d = false → Ends (v.puts f o ks)
  | [], v, h => .inl ⟨rfl, h⟩
  | i :: is, v, h => by
    simp only [Dv.puts]
    have hw := Dv.write_ends h (o + i) (f i)
    split
    · rename_i hc
      exact Dv.puts_ends f o is _ (hw.good hc)
    · exact hw
theorem Dv.head_ends {v : Dv} (h : v.d = false) (N : Int) : Ends (v.head N) := by
  unfold Dv.head
  have hw := Dv.write_ends h ((0 : Nat) : Int) (asK [N] 1)
  split
  · rename_i hc
    exact Dv.flush_ends (hw.good hc)
  · exact hw
theorem Dv.log_ends {v : Dv} (h : v.d = false) (C : Int → Option (List UInt8)) (ks : List Int) : Ends (v.log C ks) := by
  unfold Dv.log
  have h1 := Dv.puts_ends (fun i => txt C (ks.getD i.toNat 0)) 9 (places ks.length) v h
  split
  · rename_i hc
    have h2 := Dv.puts_ends (fun i => asK (pieceL ks i.toNat) (pieceL ks i.toNat).length) 1 (places ((ks.length + 31) / 32)) _ (h1.good hc)
    split
    · rename_i hc2
      exact Dv.flush_ends (h2.good hc2)
    · exact h2
  · exact h1
theorem Dv.home_ends {v : Dv} (h : v.d = false) (C : Int → Option (List UInt8)) (ks : List Int) : Ends (v.home C ks) := by
  unfold Dv.home
  have h1 := Dv.puts_ends (txt C) 300 ks v h
  split
  · rename_i hc
    have h2 := Dv.flush_ends (h1.good hc)
    split
    · rename_i hc2
      exact Dv.head_ends (h2.good hc2) 0
    · exact h2
  · exact h1
theorem Dv.settle_ends {v : Dv} (h : v.d = false) (C : Int → Option (List UInt8)) (ks : List Int) (all last : Int) : Ends ((v.settle C ks all last).1, (v.settle C ks all last).2.1) := by
  unfold Dv.settle
  have h1 := Dv.log_ends h C ks
  split
  · rename_i hc
    have h2 := Dv.head_ends (h1.good hc) ks.length
    split
    · rename_i hc2
      exact Dv.home_ends (h2.good hc2) C ks
    · exact h2
  · exact h1
end Go.Proofs.Ytnnppihkgfohdaa

/-
  Norm: a list in order, each tag once; whether it is a set.
-/
import Derived.Test.YtdbhppfpalpfmaaLabC
import Derived.Test.YtdbhppfpalpfmaaLabNM
namespace Go.Proofs.Ytdbhppfpalpfmaa
open Go.RowKit Go.MapKept
theorem RdI.pre {w : World} {ad : Option Addr} {cap : Nat} {xs ys : List Int} (h : RdI w ad cap (xs ++ ys)) : RdI w ad cap xs :=
  ⟨by have := h.le; simp at this; omega, h.cb, by have := h.big; simp at this; omega, (fun e => by have := h.nil e; simp at this; simp [this.1]), fun a ha hl => by
    obtain ⟨b, off, rfl, hc⟩ := h.at_ a ha (by simp; omega)
    refine ⟨b, off, rfl, fun j hj => ?_⟩
    have := hc j (by simp; omega)
    rw [this]
    simp [List.getD_eq_getElem?_getD, List.getElem?_append_left hj]⟩
theorem compact_calls (w : World) (B : Nat) (v : Value) (zs : List Int) (hown : w.ownsRow B 3 1 v zs.length (zs.map (Value.int .i64))) (hbig : zs.length * 8 ≤ 140737488355328) (hB : B ≤ w.heap.size) :
    Calls Try.prog 45 #[v] w fun e w' => ∃ ad cap, e = .returned (.slice ad (Go.Lib.compact zs).length cap) ∧ RdI w' ad cap (Go.Lib.compact zs) ∧ Below B w w' := by
  rcases hown.2 with ⟨rfl, hz⟩ | ⟨gb, cap, cur, rfl, hbase, hgb, r1, r2, r3, r4⟩
  · obtain rfl : zs = [] := List.eq_nil_of_length_eq_zero hz
    refine (Try.slices_Compact_int_empty none 0 w).mono ?_
    rintro e w' ⟨rfl, rfl⟩
    exact ⟨none, 0, rfl, RdI.empty none 0 (by omega), Below.refl _ _⟩
  · have hH : Go.Sort.Holds encZ w gb 0 zs.toArray := holds_of_block_i hgb (by simpa using r4)
    refine (Try.slices_Compact_int gb 0 cap zs w hH (by omega) r1).mono ?_
    rintro e w' ⟨rfl, q, rfl⟩
    have hl : (Go.Lib.compact zs ++ List.replicate (zs.length - (Go.Lib.compact zs).length) 0).length = zs.length := by
      have := Go.Lib.compact_length_le zs
      simp; omega
    have ho := ownsRow_sorted_i (n := q) (os := #[]) (ss := zs) hl hbase hgb r1 r2 r3
    have hg := grownBy_sorted_i (w := w) (g := gb) (n := q) (os := #[]) (Go.Lib.compact zs ++ List.replicate (zs.length - (Go.Lib.compact zs).length) 0).toArray
    rw [Go.Sort.grow_empty] at ho hg
    obtain ⟨ad, cap', hv, hr, _⟩ := own_rdI (zs := Go.Lib.compact zs ++ List.replicate (zs.length - (Go.Lib.compact zs).length) 0) ho (by rw [hl]; exact hbig)
    injection hv with e1 e2 e3
    subst e1 e3
    exact ⟨_, _, rfl, hr.pre, (Below.refl B w).grown hg hB (fun j hj => by cases hj; exact hbase)⟩
set_option maxHeartbeats 1000000 in
theorem norm_calls (w : World) (ad : Option Addr) (cap : Nat) (l : List Int) (h : RdI w ad cap l) :
    Calls Try.prog 12 #[.slice ad l.length cap] w fun e w' => ∃ a c, e = .returned (.tuple #[bif setB (nd l) then .slice a (nd l).length c else .slice none 0 0, .bool (setB (nd l))]) ∧ RdI w' a c (nd l) ∧ Fr [] w w' := by
  have hbig := h.big
  have hf2 : Fr [] w (w.alloc (.cells #[.slice ad l.length cap] 22)) := (Fr.refl [] w).alloc _
  have hso := sorted_calls w.heap.size (.slice ad l.length cap) l (w.alloc (.cells #[.slice ad l.length cap] 22)) (by simp) (Boxed.new _ _ _).cell ((h.keep hf2).intsB)
  have hnd := compact_srt l
  have hsl := srt_len l
  have hset := fun (w' : World) (a : Option Addr) (c : Nat) (hr : RdI w' a c (nd l)) => set_calls w' a c (nd l) hr
  have HSO := Lib.hid hso; have HF2 := Lib.hid hf2; have HND := Lib.hid hnd; have HSL := Lib.hid hsl; have HSET := Lib.hid hset
  clear hso hf2 h hnd hsl hset
  generalize setB (nd l) = r at *
  generalize nd l = k at *
  go_enter Try.func12, Try.ntmps12
  go_wp2_with fail
  refine (values_calls _ ad l.length cap).mono ?_
  rintro e w' ⟨rfl, rfl⟩
  go_wp2_with fail
  refine HSO.out.mono ?_
  rintro e w3 ⟨v, rfl, hrow, hb⟩
  have hcp := compact_calls w3 _ v (srt l) (by rw [HSL.out]; exact hrow) (by rw [HSL.out]; exact hbig) hb.size
  rw [HND.out] at hcp
  have HB := Lib.hid hb
  clear hrow hb HSO
  go_wp2_with fail
  refine hcp.mono ?_
  rintro e w4 ⟨a, c, rfl, hr, hb4⟩
  have hs := HSET.out w4 a c hr
  have HR := Lib.hid hr; have HFF := Lib.hid (HF2.out.trans (Fr.of_below (HB.out.trans hb4)))
  clear hr hb4 HB HF2 hcp HND HSL HSET
  cases r with
  | true =>
    go_wp2_with fail
    refine hs.mono ?_
    rintro e w' ⟨rfl, rfl⟩
    go_wp2_with fail
    go_ret2
    exact ⟨a, c, rfl, HR.out, HFF.out⟩
  | false =>
    go_wp2_with fail
    refine hs.mono ?_
    rintro e w' ⟨rfl, rfl⟩
    go_wp2_with fail
    go_ret2
    exact ⟨a, c, rfl, HR.out, HFF.out⟩
end Go.Proofs.Ytdbhppfpalpfmaa

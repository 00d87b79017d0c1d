/-
  The document's own Norm and Join.
-/
import Derived.Test.YtdbhppfpalpfmaaLabRN
namespace Go.Proofs.Ytdbhppfpalpfmaa
open Go.RowKit Go.MapKept
theorem nd_take_snoc (l : List Int) (k : Nat) (hk : k < l.length) : nd (l.take (k + 1)) = if hasB (nd (l.take k)) (l.getD k 0) = true then nd (l.take k) else insB (nd (l.take k)) (l.getD k 0) := by
  rw [take_snoc l k hk, nd_snoc]; rfl
theorem nd_take_len (l : List Int) (k : Nat) : (nd (l.take k)).length ≤ (nd l).length := by
  have := nd_len_mono (l.take k) (l.drop k)
  rwa [List.take_append_drop] at this
theorem setB_long {l : List Int} (h : 16 < l.length) : setB l = false := by
  rw [← Bool.not_eq_true]; intro hs; have := setB_len hs; omega
set_option maxRecDepth 100000 in
set_option maxHeartbeats 4000000 in
theorem rnorm_calls (w : World) (ad : Option Addr) (cap : Nat) (l : List Int) (h : RdI w ad cap l) :
    Calls Try.prog 14 #[.slice ad l.length cap] w fun e w' => ∃ a c, e = .returned (.tuple #[bif setB (nd l) then .slice a (nd l).length c else .slice none 0 0, .bool (setB (nd l))]) ∧ Hid (setB (nd l) = true → RdI w' a c (nd l)) ∧ Fr [] w w' := by
  have hbig := h.big
  have hat := fun w' (hf : Fr [] w w') k hk => (h.keep hf).cellAt (k := k) hk
  have hsn := nd_take_snoc l
  have hln := nd_take_len l
  have hend : nd (l.take l.length) = nd l := by rw [List.take_length]
  have hlong : 16 < (nd l).length → setB (nd l) = false := setB_long
  have hset := fun (w' : World) (a : Option Addr) (c : Nat) (hr : RdI w' a c (nd l)) => rset_calls w' a c (nd l) hr
  have HAT := Lib.hid hat; have HSN := Lib.hid hsn; have HLN := Lib.hid hln; have HEND := Lib.hid hend; have HLONG := Lib.hid hlong; have HSET := Lib.hid hset
  clear h hat hsn hln hend hlong hset
  obtain ⟨n, hn⟩ : ∃ n, l.length = n := ⟨_, rfl⟩
  rw [hn] at hbig HAT HSN HEND ⊢
  clear hn
  generalize setB (nd l) = r at *
  obtain ⟨m, hm⟩ : ∃ m, nd l = m := ⟨_, rfl⟩
  rw [hm] at HLN HEND HLONG HSET ⊢
  clear hm
  go_enter Try.func14, Try.ntmps14
  go_wp2_with fail
  go_loopw [4, 5] (fun v4 v5 wr => ∃ (k : Nat) (v : Value), k ≤ n ∧ v5 = .int .i64 k ∧ v = v4 ∧ Hid (wr.ownsRow w.heap.size 3 1 v (nd (l.take k)).length ((nd (l.take k)).map (Value.int .i64))) ∧ (nd (l.take k)).length ≤ 16 ∧ Fr [] w wr) (fun _ v5 _ => n - (intOf v5).toNat)
  case atStart => exact ⟨0, _, by omega, rfl, rfl, Lib.hid (by simpa [nd, ndF] using World.ownsRow_nil _ _ _ _), by simp [nd, ndF], Fr.refl _ _⟩
  case round =>
    obtain ⟨k, v4, hk, rfl, rfl, HOW, h16, hfr⟩ := hrel
    obtain ⟨a2, c2, rfl, hr2, hz2⟩ := own_rdI2 HOW.out (by omega)
    by_cases hlt : k < n
    · obtain ⟨b, off, rfl, hcell, hall⟩ := HAT.out wr hfr k hlt
      clear hall
      have hsn := HSN.out k hlt
      have hln := HLN.out (k + 1)
      have hndl := nd_lt (l.take k)
      obtain ⟨x, hx⟩ : ∃ x, l.getD k 0 = x := ⟨_, rfl⟩
      rw [hx] at hcell hsn
      clear hx
      have hhas := has_calls wr a2 c2 (nd (l.take k)) x hr2
      have hput : hasB (nd (l.take k)) x = false → Calls Try.prog 49 #[.slice a2 (nd (l.take k)).length c2, .int .i64 x] wr _ := fun hh => put_calls wr a2 c2 (nd (l.take k)) x hr2 hz2 (by omega) (fun hm => by rw [← List.contains_iff_mem] at hm; unfold hasB at hh; rw [hh] at hm; cases hm)
      have hil := insB_len (nd (l.take k)) x
      generalize nd (l.take k) = g at *
      by_cases hb : hasB g x = true
      · rw [hb] at hhas hsn
        rw [if_pos rfl] at hsn
        have HS := Lib.hid hsn; have HFR := Lib.hid hfr; have HH := Lib.hid hhas
        clear hsn hhas hput hb hfr hr2 hz2 hln hil hndl
        obtain ⟨gl, hgl⟩ : ∃ gl, g.length = gl := ⟨_, rfl⟩
        rw [hgl] at h16 HH ⊢
        have HGL := Lib.hid hgl
        clear hgl
        go_wp2_with fail
        refine HH.out.mono ?_
        rintro e w' ⟨rfl, rfl⟩
        go_wp2_with fail
        go_roundw
        case rel => exact ⟨k + 1, _, by omega, by go_num, rfl, Lib.hid (by rw [HS.out, HGL.out]; have := HOW.out; rw [HGL.out] at this; exact this), by rw [HS.out, HGL.out]; exact h16, HFR.out⟩
        case measure => simp [intOf]; omega
      · have hb' : hasB g x = false := by simpa using hb
        have hput := hput hb'
        rw [hb'] at hhas hsn
        rw [if_neg (by simp)] at hsn
        have HS := Lib.hid hsn; have HFR := Lib.hid hfr; have HH := Lib.hid hhas; have HP := Lib.hid hput; have HIL := Lib.hid hil
        rw [hsn] at hln
        have HLN' := Lib.hid hln
        clear hsn hhas hput hb hb' hfr hr2 hz2 hln hil hndl
        obtain ⟨gl, hgl⟩ : ∃ gl, g.length = gl := ⟨_, rfl⟩
        rw [hgl] at h16 HH HP HIL ⊢
        go_wp2_with fail
        refine HH.out.mono ?_
        rintro e w' ⟨rfl, rfl⟩
        go_wp2_with fail
        refine HP.out.mono ?_
        rintro e w5 ⟨v, rfl, hown, hf5⟩
        rw [HIL.out] at hown
        have ho5 := ownsRow_lower hown HFR.out.size
        obtain ⟨g5, cap5, rfl⟩ := ownsRow_succ hown
        have HO5 := Lib.hid ho5; have HF5 := Lib.hid (HFR.out.trans hf5)
        clear hown ho5 hf5 hgl
        by_cases hg16 : 16 < gl + 1
        · have hr : r = false := HLONG.out (by have := HLN'.out; rw [HIL.out] at this; omega)
          subst hr
          go_wp2_with fail
          go_ret2
          exact ⟨none, 0, rfl, Lib.hid (fun h => by cases h), HF5.out⟩
        · go_wp2_with fail
          go_roundw
          case rel => exact ⟨k + 1, _, by omega, by go_num, rfl, Lib.hid (by rw [HS.out, HIL.out]; exact HO5.out), by rw [HS.out, HIL.out]; omega, HF5.out⟩
          case measure => simp [intOf]; omega
    · obtain rfl : k = n := by omega
      rw [HEND.out] at hr2 h16 ⊢
      have hs := HSET.out wr a2 c2 hr2
      have HR := Lib.hid hr2; have HFR := Lib.hid hfr
      clear hr2 hfr HOW hz2
      cases r with
      | true =>
        go_wp2_with fail
        refine hs.mono ?_
        rintro e w' ⟨rfl, q, rfl⟩
        go_wp2_with fail
        go_ret2
        exact ⟨a2, c2, rfl, Lib.hid (HR.out.keep ((Fr.refl [] wr).drewN q)), HFR.out.drewN q⟩
      | false =>
        go_wp2_with fail
        refine hs.mono ?_
        rintro e w' ⟨rfl, q, rfl⟩
        go_wp2_with fail
        go_ret2
        exact ⟨a2, c2, rfl, Lib.hid (fun h => by cases h), HFR.out.drewN q⟩
theorem nd_join {a b : List Int} (ha : asc a) (hb : asc b) : nd (a ++ b) = joinB a b := lt_ext (nd_lt _) (joinB_lt ha hb) (fun x => by rw [nd_mem, joinB_mem ha hb, List.mem_append])
set_option maxRecDepth 100000 in
set_option maxHeartbeats 2000000 in
theorem rjoin_sets (w : World) (a1 a2 : Option Addr) (c1 c2 : Nat) (a b : List Int) (h1 : RdI w a1 c1 a) (h2 : RdI w a2 c2 b) (z1 : a1 = none → c1 = 0) (z2 : a2 = none → c2 = 0) (sa : setB a = true) (sb : setB b = true) :
    Calls Try.prog 16 #[.slice a1 a.length c1, .slice a2 b.length c2] w fun e w' => ∃ x c, e = .returned (.tuple #[bif setB (joinB a b) then .slice x (joinB a b).length c else .slice none 0 0, .bool (setB (joinB a b))]) ∧ Hid (setB (joinB a b) = true → RdI w' x c (joinB a b)) ∧ Fr [] w w' := by
  obtain ⟨i0, hi, hz0, hz1, hz2⟩ := info_parts (show (Try.prog.info? 3).map (fun i => (i.zero, i.size, i.bytes)) = some (some (.int .i64 0), 1, 8) by kernel_rfl)
  have hs1 := rset_calls w a1 c1 a h1
  have hs2 := fun w' (hf : Fr [] w w') => rset_calls w' a2 c2 b (h2.keep hf)
  rw [sa] at hs1
  rw [sb] at hs2
  have hla := setB_len sa
  have hlb := setB_len sb
  have hno := fun (w' : World) (ad : Option Addr) (cap : Nat) (h : RdI w' ad cap (a ++ b)) => rnorm_calls w' ad cap (a ++ b) h
  rw [nd_join (setB_asc sa) (setB_asc sb)] at hno
  have hab : (a ++ b).length = a.length + b.length := List.length_append
  rw [hab] at hno
  have k1 := fun w' (hf : Fr [] w w') => h1.keep hf
  have k2 := fun w' (hf : Fr [] w w') => h2.keep hf
  have HI := Lib.hid hi; have HZ0 := Lib.hid hz0; have HZ1 := Lib.hid hz1; have HZ2 := Lib.hid hz2
  have HS2 := Lib.hid hs2; have HNO := Lib.hid hno; have K1 := Lib.hid k1; have K2 := Lib.hid k2; have Z1 := Lib.hid z1; have Z2 := Lib.hid z2
  clear hi hz0 hz1 hz2 hs2 hno h1 h2 z1 z2 k1 k2 sa sb hab
  generalize setB (joinB a b) = r at *
  generalize joinB a b = j at *
  obtain ⟨n1, hn1⟩ : ∃ n, a.length = n := ⟨_, rfl⟩
  obtain ⟨n2, hn2⟩ : ∃ n, b.length = n := ⟨_, rfl⟩
  rw [hn1] at hs1 hla HNO ⊢
  rw [hn2] at HS2 hlb HNO ⊢
  have HN1 := Lib.hid hn1; have HN2 := Lib.hid hn2
  clear hn1 hn2
  go_enter Try.func16, Try.ntmps16
  go_wp2_with fail
  refine hs1.mono ?_
  rintro e w1 ⟨rfl, q1, hw1⟩
  have hf1 : Fr [] w w1 := by rw [hw1]; exact (Fr.refl [] w).drewN q1
  have hs2 := HS2.out w1 hf1
  clear hw1 HS2
  have HF1 := Lib.hid hf1
  clear hf1
  go_wp2_with fail
  refine hs2.mono ?_
  rintro e w2 ⟨rfl, q2, hw2⟩
  have hf2 : Fr [] w w2 := by rw [hw2]; exact HF1.out.drewN q2
  have hnw := new_own w2 3
  have r1 := K1.out _ (hf2.alloc (.cells #[] 3))
  have HF2 := Lib.hid hf2; have HNW := Lib.hid hnw; have R1 := Lib.hid r1
  clear hw2 hf2 hnw r1 hs1 hs2 HF1 K1
  go_wp2_with (first
    | ((with_reducible_and_instances refine id (α := wpList _ _ _ (⟨some 16, _, _, _, _, _⟩ :: _) _ _) ?_); refine wL_appendR rfl _ _ 22 rfl w2.heap.size 3 i0 Try.underlying22 HI.out HZ0.out HZ1.out HZ2.out _ 0 [] rfl HNW.out a1 c1 n1 a HN1.out rfl R1.out Z1.out (by omega) (by simp) ?_)
    | fail)
  intro v3 w3 hown3 hb3
  have hf3 := (HF2.out.alloc (.cells #[] 3)).then_below2 hb3 HF2.out.size
  have hs3 := hb3.size
  have HF2' := Lib.hid HF2.out.size
  simp only [World.size_alloc] at hs3
  have r2 := K2.out _ hf3
  have HF3 := Lib.hid hf3; have HO3 := Lib.hid hown3; have R2 := Lib.hid r2
  clear hown3 hb3 hf3 r2 HNW R1 K2 HF2
  go_wp2_with (first
    | ((with_reducible_and_instances refine id (α := wpList _ _ _ (⟨some 18, _, _, _, _, _⟩ :: _) _ _) ?_); refine wL_appendR rfl _ _ 22 rfl w2.heap.size 3 i0 Try.underlying22 HI.out HZ0.out HZ1.out HZ2.out _ n1 a rfl HO3.out a2 c2 n2 b HN2.out rfl R2.out Z2.out (by omega) (by omega) ?_)
    | fail)
  intro v4 w4 hown4 hb4
  have hl : (a ++ b).length * 8 ≤ 140737488355328 := by rw [List.length_append, HN1.out, HN2.out]; omega
  have ho4 : w4.ownsRow w2.heap.size 3 1 v4 (n1 + n2) ((a ++ b).map (Value.int .i64)) := by simpa using hown4
  obtain ⟨a4, c4, rfl, r4, _⟩ := own_rdI2 ho4 hl
  have hno := HNO.out w4 a4 c4 r4
  have hf4 := HF3.out.then_below2 hb4 HF2'.out
  have hab : (a ++ b).length = n1 + n2 := by rw [List.length_append, HN1.out, HN2.out]
  rw [hab]
  have HF4 := Lib.hid hf4; have HNO' := Lib.hid hno
  clear hown4 hb4 ho4 r4 hf4 hab hno hl HNO HO3 R2 HF3
  go_wp2_with fail
  refine HNO'.out.mono ?_
  rintro e w5 ⟨x, c, rfl, hx, hf5⟩
  have HF5 := Lib.hid (HF4.out.trans hf5)
  clear hf5 HNO'
  cases r with
  | true =>
    go_wp2_with fail
    go_ret2
    exact ⟨x, c, rfl, Lib.hid (hx.out trivial), HF5.out⟩
  | false =>
    go_wp2_with fail
    go_ret2
    exact ⟨x, c, rfl, hx, HF5.out⟩
end Go.Proofs.Ytdbhppfpalpfmaa

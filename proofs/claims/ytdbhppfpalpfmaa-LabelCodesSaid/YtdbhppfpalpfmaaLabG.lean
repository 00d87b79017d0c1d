/-
  Two rising lists gone through together, by the code's own iterator.
-/
import Derived.Test.YtdbhppfpalpfmaaLabR
import Derived.RangeFuncNested
namespace Go.Proofs.Ytdbhppfpalpfmaa
open Go.RowKit Go.Shelf
attribute [local go_sem] Oper.semAt_some
theorem Fr.grownBy {w w' : World} (h : Fr [] w w') : w.grownBy w' none := ⟨h.os, h.tape, h.output, h.size, fun k hk _ => h.block k hk (by simp)⟩
theorem abides_fr {β : Type} {B : Nat} {J : β → World → Prop} (h : AbidesFrom B J) {s : β} {w w' : World} (hs : J s w) (hf : Fr [] w w') : J s w' := h s w w' none hs hf.grownBy (fun r e => by cases e)
def lenOf : Value → Nat | .slice _ n _ => n | _ => 0
set_option maxRecDepth 100000 in
set_option maxHeartbeats 4000000 in
theorem merged1_in (n : Nat) (hn : 2 ≤ n) (l B1 B2 : Nat) (a1 a2 : Option Addr) (k1 k2 c1 c2 : Nat) (a b : List Int) (Kp : World → World → Prop) (G : Option Addr → List Int → Prop)
    (hGk : ∀ W W' ad cap zs, G ad zs → Kp W W' → RdI W ad cap zs → RdI W' ad cap zs)
    (hGd : ∀ ad ad' zs zs', G ad zs → TailOf ad ad' zs zs' → G ad' zs')
    (J Jx : List (Int × Int) → World → Prop) (W : World) (hJ : AbidesFrom W.heap.size J)
    (hY : ∀ pre x W1, J pre W1 → pre.length < a.length + b.length → YieldAt Fence.wide (n - 1) Try.prog l #[.int .i64 x.1, .int .i64 x.2] W1 fun e W' =>
      (e = .returned (.bool true) ∧ J (pre ++ [x]) W' ∧ Kp W1 W') ∨ (e = .returned (.bool false) ∧ Jx (pre ++ [x]) W'))
    (hB1 : W.cell? ⟨B1, 0, none⟩ = some (.slice a1 k1 c1)) (hB2 : W.cell? ⟨B2, 0, none⟩ = some (.slice a2 k2 c2))
    (hO1 : ∀ W', Fr [] W W' → Calls Try.prog 70 #[.slice a1 k1 c1] W' fun e W'' => ∃ ad cap, e = .returned (.slice ad a.length cap) ∧ RdI W'' ad cap a ∧ G ad a ∧ Fr [] W' W'')
    (hO2 : ∀ W', Fr [] W W' → Calls Try.prog 70 #[.slice a2 k2 c2] W' fun e W'' => ∃ ad cap, e = .returned (.slice ad b.length cap) ∧ RdI W'' ad cap b ∧ G ad b ∧ Fr [] W' W'')
    (h0 : J [] W) :
    CallsIn Fence.wide n Try.prog 69 #[.func (.yield l) #[] #[], .pointer (some ⟨B1, 0, none⟩), .pointer (some ⟨B2, 0, none⟩)] W fun e W' => (∃ v, e = .returned v) ∧
      ((∃ ys, ys = mg a b ∧ J ys W') ∨ (∃ pre, pre <+: mg a b ∧ Jx pre W')) := by
  refine callsIn_of_wp Try.func69 rfl trivial ?_ rfl
  simp only [Try.ntmps69, List.size_toArray, List.length_cons, List.length_nil, Nat.reduceAdd, Nat.reduceSub, Array.replicate_succ, Array.replicate_zero, List.push_toArray, List.append_toArray, List.nil_append, List.cons_append]
  gi_upto_region 0 with fail
  gi_cut [4, 5] from 8 (fun v4 v5 wx => ∃ ad4 cap4 ad5 cap5, v4 = .slice ad4 a.length cap4 ∧ v5 = .slice ad5 b.length cap5 ∧ RdI wx ad4 cap4 a ∧ RdI wx ad5 cap5 b ∧ G ad4 a ∧ G ad5 b ∧ Fr [] W wx)
  case first =>
    have hk2 : ∀ w', Fr [] W w' → w'.cell? ⟨B2, 0, none⟩ = some (.slice a2 k2 c2) := fun w' hf => by
      rw [World.cell?_of_block (w := W) (hf.block B2 (World.block_lt_of_cell? _ _ hB2) (by simp))]; exact hB2
    have HK2 := Lib.hid hk2; have HO1 := Lib.hid hO1; have HO2 := Lib.hid hO2
    clear hk2 hO1 hO2
    gi_region_with (first
      | (refine ⟨trivial, (fun _ => (by omega)), ?_⟩; gi_at_call 70; (with_reducible refine ((callsIn_wide (n := n - 1)).2 (HO1.out _ ?_)).mono ?_); exact (Fr.refl [] W).drew; rintro e w1 ⟨ad4, cap4, rfl, hr4, hg4, hf4⟩; have hB2' := HK2.out w1 ((Fr.refl [] W).drew.trans hf4))
      | (refine ⟨trivial, (fun _ => (by omega)), ?_⟩; gi_at_call 70; (with_reducible refine ((callsIn_wide (n := n - 1)).2 (HO2.out _ ?_)).mono ?_); exact (Fr.refl [] W).drew.trans hf4; rintro e w2 ⟨ad5, cap5, rfl, hr5, hg5, hf5⟩))
    all_goals
      gi_wp2
      go_meet
      exact ⟨ad4, cap4, ad5, cap5, rfl, rfl, hr4.keep hf5, hr5, hg4, hg5, ((Fr.refl [] W).drew.trans hf4).trans hf5⟩
  case rest =>
    obtain ⟨ad4, cap4, ad5, cap5, rfl, rfl, hr4, hr5, hg4, hg5, hf⟩ := hcut
    have hb4 := hr4.big
    have hb5 := hr5.big
    have hj := abides_fr hJ h0 hf
    clear hO1 hO2 hB1 hB2 h0
    have HGK := Lib.hid hGk; have HGD := Lib.hid hGd; have HR4 := Lib.hid hr4; have HR5 := Lib.hid hr5
    clear hGk hGd hr4 hr5
    have hJ' : Hid (AbidesFrom W.heap.size J) := Lib.hid hJ
    clear hJ hf
    gi_wp2
    gi_loopw [4, 5] (fun v4 v5 wr => ∃ (ra rb : List Int) (ad4 ad5 : Option Addr) (cap4 cap5 : Nat) (pre : List (Int × Int)), v4 = .slice ad4 ra.length cap4 ∧ v5 = .slice ad5 rb.length cap5 ∧ Hid (RdI wr ad4 cap4 ra) ∧ Hid (RdI wr ad5 cap5 rb) ∧ G ad4 ra ∧ G ad5 rb ∧ Hid (mg a b = pre ++ mg ra rb) ∧ J pre wr)
      (fun v4 v5 _ => lenOf v4 + lenOf v5)
    case atStart => exact ⟨a, b, ad4, ad5, cap4, cap5, [], rfl, rfl, HR4, HR5, hg4, hg5, Lib.hid rfl, hj⟩
    case round =>
      clear HR4 HR5 hg4 hg5 hj hb4 hb5
      obtain ⟨ra, rb, ad4, ad5, cap4, cap5, pre, rfl, rfl, HR4, HR5, hg4, hg5, HM, hj⟩ := hrel
      have hb4 := HR4.out.big
      have hb5 := HR5.out.big
      by_cases hz : ra.length + rb.length = 0
      · have e1 : ra = [] := List.eq_nil_of_length_eq_zero (by omega)
        have e2 : rb = [] := List.eq_nil_of_length_eq_zero (by omega)
        subst e1 e2
        simp only [List.length_nil]
        gi_wp2
        go_end0
        exact ⟨⟨_, rfl⟩, .inl ⟨_, by rw [HM.out]; simp [mg_nil], hj⟩⟩
      · have hls := mg_cons hz
        have hlh := lst_head hz
        have hle := least_calls wr ad4 ad5 cap4 cap5 ra rb HR4.out HR5.out hz
        obtain ⟨n4, hn4⟩ : ∃ k, ra.length = k := ⟨_, rfl⟩
        obtain ⟨n5, hn5⟩ : ∃ k, rb.length = k := ⟨_, rfl⟩
        have hpre : pre.length < a.length + b.length := by
          have h1 := mg_len a b
          rw [HM.out, List.length_append, hls] at h1
          simp at h1
          omega
        have HN4 := Lib.hid hn4; have HN5 := Lib.hid hn5; have HLS := Lib.hid hls; have HLH := Lib.hid hlh
        have HPL := Lib.hid hpre
        rw [hn4, hn5] at hle hz
        rw [hn4] at hb4 ⊢
        rw [hn5] at hb5 ⊢
        have HLE := Lib.hid hle
        clear hn4 hn5 hls hlh hle hpre
        have g : decide (0 < n4) = true ∨ (decide (0 < n4) = false ∧ decide (0 < n5) = true) := by
          by_cases h : 0 < n4
          · exact .inl (by simpa using h)
          · exact .inr ⟨by simpa using h, by simp; omega⟩
        rcases g with g4 | ⟨g4, g5⟩
        all_goals
          gi_wp2_with fail
          refine ⟨trivial, (fun _ => (by omega)), ?_⟩
          refine (callsIn_wide.2 HLE.out).mono ?_
          rintro e w1 ⟨rfl, q, hw1⟩
          have hf1 : Fr [] wr w1 := by rw [hw1]; exact (Fr.refl [] wr).drewN q
          obtain ⟨fn, tmps, assign, body, hy, hR⟩ := hY pre (lst ra rb) w1 (abides_fr hJ'.out hj hf1) HPL.out
          have HF1 := Lib.hid hf1
          clear hw1 hf1
          have HHF : Hid (mg a b = pre ++ [lst ra rb] ++ mg (drp (lst ra rb).1 ra) (drp (lst ra rb).1 rb)) := Lib.hid (by rw [HM.out, HLS.out]; simp)
          have HPF : Hid (pre ++ [lst ra rb] <+: mg a b) := Lib.hid ⟨_, HHF.out.symm⟩
          have HLD : Hid ((drp (lst ra rb).1 ra).length + (drp (lst ra rb).1 rb).length < n4 + n5) := Lib.hid (by have := HLH.out; rw [HN4.out, HN5.out] at this; exact this)
          generalize lst ra rb = tw at *
          obtain ⟨t, i⟩ := tw
          gi_wp2_with fail
          refine ⟨(fun _ => (by omega)), hR.mono ?_⟩
          rintro e W3 (⟨rfl, hJ3, hk3⟩ | ⟨rfl, hJx3⟩)
          · have hr4 := HGK.out _ _ _ _ _ hg4 hk3 (HR4.out.keep HF1.out)
            have hr5 := HGK.out _ _ _ _ _ hg5 hk3 (HR5.out.keep HF1.out)
            have hb1 := behind_calls W3 ad4 cap4 ra t hr4
            have hb2 := behind_calls W3 ad5 cap5 rb t hr5
            rw [HN4.out] at hb1
            rw [HN5.out] at hb2
            clear hr4 hr5 hk3 hy hR
            gi_wp2_with fail
            refine ⟨trivial, (fun _ => (by omega)), ?_⟩
            refine (callsIn_wide.2 hb1).mono ?_
            rintro e w4 ⟨ad4', cap4', rfl, hr4, ht4, rfl⟩
            have hg4' := HGD.out _ _ _ _ hg4 ht4
            have HR4' := Lib.hid hr4
            clear hr4 ht4 hb1
            gi_wp2_with fail
            refine ⟨trivial, (fun _ => (by omega)), ?_⟩
            refine (callsIn_wide.2 hb2).mono ?_
            rintro e w5 ⟨ad5', cap5', rfl, hr5, ht5, rfl⟩
            have hg5' := HGD.out _ _ _ _ hg5 ht5
            have HR5' := Lib.hid hr5
            clear hr5 ht5 hb2
            gi_wp2_with fail
            go_roundw
            case rel => exact ⟨_, _, ad4', ad5', cap4', cap5', pre ++ [(t, i)], rfl, rfl, HR4', HR5', hg4', hg5', HHF, hJ3⟩
            case measure => simp only [lenOf]; exact HLD.out
          · gi_wp2_with fail
            refine bodyPost_ret (results_none rfl _ _ _) rfl ?_
            exact ⟨⟨_, rfl⟩, .inr ⟨_, HPF.out, hJx3⟩⟩
end Go.Proofs.Ytdbhppfpalpfmaa

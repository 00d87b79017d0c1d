/-
  The slow hash of a pass.
-/
import Derived.Test.YthegllpmefilkaaDoorShaAwake
namespace Go.Proofs.YthegllpmefilkaaDoor
open Go.RowKit Go.MapKept
/-- The sum behind n rounds. -/
def stB (salt pass : List UInt8) : Nat → List UInt8
  | 0 => shaB (salt ++ [0] ++ pass)
  | n + 1 => shaB (stB salt pass n ++ (salt ++ pass))
theorem stB_length (salt pass : List UInt8) (n : Nat) : (stB salt pass n).length = 32 := by cases n <;> exact shaB_length _
/-- What is owned lies somewhere. -/
theorem owns_range {w : World} {B : Nat} {T : TypeId} {v : Value} {n : Nat} {xs : List Value} (h : w.ownsRow B T 1 v n xs) (hn : 0 < n) : ∃ g cap, v = .slice (some ⟨g, 0, none⟩) n cap ∧ B ≤ g ∧ g < w.heap.size ∧ w.rangeAt g 0 xs ∧ w.there g 0 n := by
  obtain ⟨h1, h2⟩ := h
  rcases h2 with ⟨_, h3⟩ | ⟨g, cap, cur, h3, h4, h5, h6, h7, h8, h9⟩
  · subst h3; simp at h1; omega
  · refine ⟨g, cap, h3, h4, lt_of_heap h5, fun j v hv => ?_, fun j hj => ?_⟩
    · rw [box_cell h5, Nat.zero_add]
      have : (cur.toList.take (n * 1))[j]? = some v := by rw [h9]; exact hv
      rw [List.getElem?_take] at this
      split at this
      · simpa using this
      · cases this
    · rw [box_cell h5, box_free h5, Nat.zero_add]
      refine ⟨?_, rfl⟩
      have : j < cur.size := by rw [h8]; omega
      simp [this]
section
variable {P : Program} {ops : Array Oper} {rest : List Oper} {o : Oper} {a : Act} {w : World} {Q : Exit → Act → World → Prop}
/-- s + t -/
theorem wL_cat (hg : o.guard = none) (T U : TypeId) (x y : Operand) (hop : o.op = .binOp .add T x y U) (s t : List UInt8) (hx : a.eval x = .string ⟨s.toArray⟩) (hy : a.eval y = .string ⟨t.toArray⟩) (hl : s.length + t.length ≤ 9223372036854775807) (r : List UInt8) (hr : s ++ t = r)
    (h : wpList P ops Q rest (a.put o.dst (.string ⟨r.toArray⟩)) w) : wpList P ops Q (o :: rest) a w := by
  subst hr
  refine wpList_val hg ?_ h
  have hr := run_string_add_sum (P := P) (w := w) ⟨s.toArray⟩ ⟨t.toArray⟩ (by simpa [ByteArray.size] using hl)
  rw [ByteArray.mk_append_mk] at hr
  simp [execOp, hop, hx, hy, eqGuard, binOp, hr]
theorem run_toBytes2 {src e dst : TypeId} (hs : P.underlying src = some .string) (hd : P.underlying dst = some (.slice e)) (he : P.underlying e = some (.int .u8)) (w : World) (s : List UInt8) (hl : s.length ≤ maxLen) :
    ∃ cap w', (convert src dst (.string ⟨s.toArray⟩)).run P w = .ok (.slice (some ⟨w.heap.size, 0, none⟩) s.length cap) w' ∧ Fr [] w w' ∧ w'.rangeAt w.heap.size 0 (cel s) ∧ w'.there w.heap.size 0 s.length ∧ s.length ≤ cap ∧ cap ≤ 9223372036854775807 := by
  have hsz : (⟨s.toArray⟩ : ByteArray).size = s.length := by simp [ByteArray.size]
  refine ⟨grownCap w s.length 0 e, Lib.bytesWorld w e ⟨s.toArray⟩, by rw [← hsz]; exact Lib.run_convert_string_bytes w src dst e ⟨s.toArray⟩ hs hd he, ⟨rfl, rfl, rfl, ?_, fun k hk _ => Lib.bytesWorld_at_old w e _ k hk⟩, ?_, ?_, grownCap_ge _ _ _ _, grownCap_le_maxLen _ _ _ _ hl⟩
  · rw [Lib.bytesWorld_size]; omega
  · intro j v hv
    have hj : j < s.length := by have := (List.getElem?_eq_some_iff.1 hv).1; rwa [cel_length] at this
    rw [Nat.zero_add, Lib.bytesWorld_cell w e _ j (by rw [hsz]; exact hj)]
    rw [cel_get] at hv
    simpa [hj] using hv
  · intro j hj
    rw [Nat.zero_add, Lib.bytesWorld_cell w e _ j (by rw [hsz]; exact hj)]
    refine ⟨rfl, ?_⟩
    simp only [World.frozen?, Lib.bytesWorld_at_new]
    have : j < (Lib.bytesCells w e ⟨s.toArray⟩).size := by simp [Lib.bytesCells]; omega
    simp; omega
/-- []byte(s) -/
theorem wL_bytesOf (hg : o.guard = none) (src dst e : TypeId) (x : Operand) (hop : o.op = .convert src dst x) (hs : P.underlying src = some .string) (hd : P.underlying dst = some (.slice e)) (he : P.underlying e = some (.int .u8))
    (s : List UInt8) (n : Nat) (hn : s.length = n) (hx : a.eval x = .string ⟨s.toArray⟩) (hl : s.length ≤ maxLen)
    (h : ∀ cap w', Fr [] w w' → w'.rangeAt w.heap.size 0 (cel s) → w'.there w.heap.size 0 n → n ≤ cap → cap ≤ 9223372036854775807 → wpList P ops Q rest (a.put o.dst (.slice (some ⟨w.heap.size, 0, none⟩) n cap)) w') : wpList P ops Q (o :: rest) a w := by
  subst hn
  obtain ⟨cap, w', hrun, h1, h2, h3, h4, h5⟩ := run_toBytes2 (P := P) hs hd he w s hl
  refine wpList_val hg ?_ (h cap w' h1 h2 h3 h4 h5)
  simp [execOp, hop, hx, hrun]
/-- copy(b, c), b whatever may be written. -/
theorem wL_copy (hg : o.guard = none) (d s : Operand) (dT sT : TypeId) (ho : o.op = .call { callee := .builtin .copy, args := #[d, s], argTypes := #[dT, sT] }) (elem : TypeId) (hu : P.underlying dT = some (.slice elem)) (hsz : (P.info? elem).map (·.size) = some 1)
    (b off dLen dCap : Nat) (ad : Addr) (sLen sCap : Nat) (hd : a.eval d = .slice (some ⟨b, off, none⟩) dLen dCap) (hs : a.eval s = .slice (some ad) sLen sCap) (cs : List Value) (hn : cs.length = Nat.min sLen dLen)
    (hsrc : ∀ j v, cs[j]? = some v → w.cell? (ad.add j) = some v) (ht : w.there b off cs.length) (h1 : ∀ v ∈ cs, v.oneCell' = true)
    (h : wpList P ops Q rest (a.put o.dst (goInt cs.length)) (w.setCells b off cs)) : wpList P ops Q (o :: rest) a w := by
  refine wpList_plain hg fun K hK => ?_
  have hrun := run_copy_cells (P := P) w dT sT o.type elem b off dLen dCap ad sLen sCap cs hu hsz hn hsrc (fun j hj => (ht j hj).1) (fun j hj => (ht j hj).2) h1
  unfold Oper.wp
  simp [execOp, ho, resolve, invoke, builtin, hd, hs, hrun, Result.andThen]
  exact hK _ _ h
end
set_option maxRecDepth 100000 in
set_option maxHeartbeats 2000000 in
theorem stretch_calls (w : World) (salt pass : List UInt8) (t : Int) (T : Nat) (hTT : T = (min t 1000).toNat) (ht : -9223372036854775808 ≤ t ∧ t ≤ 9223372036854775807) (hl : salt.length + pass.length ≤ 1073741824) (hT : TabAt w) :
    Calls Tryd.prog 15 #[.string ⟨salt.toArray⟩, .string ⟨pass.toArray⟩, .int .i64 t] w fun e w' => e = .returned (.string ⟨(hexB (stB salt pass T)).toArray⟩) ∧ Fr [] w w' := by
  have HT := Lib.hid hT; clear hT
  obtain ⟨ns, hns⟩ : ∃ n, salt.length = n := ⟨_, rfl⟩
  obtain ⟨np, hnp⟩ : ∃ n, pass.length = n := ⟨_, rfl⟩
  have HNS := Lib.hid hns; have HNP := Lib.hid hnp
  rw [hns, hnp] at hl
  obtain ⟨m1, hm1⟩ : ∃ m, salt ++ [0] = m := ⟨_, rfl⟩
  obtain ⟨m0, hm0⟩ : ∃ m, m1 ++ pass = m := ⟨_, rfl⟩
  obtain ⟨tl, htl⟩ : ∃ m, salt ++ pass = m := ⟨_, rfl⟩
  have l1 : m1.length = ns + 1 := by rw [← hm1]; simp [hns]
  have l0 : m0.length = ns + 1 + np := by rw [← hm0, List.length_append, l1, hnp]
  have lt : tl.length = ns + np := by rw [← htl, List.length_append, hns, hnp]
  have hst0 : stB salt pass 0 = shaB m0 := by rw [← hm0, ← hm1]; rfl
  have hst : ∀ k, stB salt pass (k + 1) = shaB (stB salt pass k ++ tl) := fun k => by rw [← htl]; rfl
  have HM1 := Lib.hid hm1; have HM0 := Lib.hid hm0; have HTL := Lib.hid htl
  have L1 := Lib.hid l1; have L0 := Lib.hid l0; have LT := Lib.hid lt
  have HS0 := Lib.hid hst0; have HST := Lib.hid hst
  have HSL : Hid (∀ k, (stB salt pass k).length = 32) := Lib.hid (stB_length salt pass)
  generalize stB salt pass = st at *
  clear hns hnp hm1 hm0 htl l1 l0 lt hst0 hst
  have HTN := Lib.hid hTT; clear hTT
  go_enter Tryd.func15, Tryd.ntmps15
  go_wp2_with (first
    | ((with_reducible_and_instances refine id (α := wpList _ _ _ (⟨some 10, .binOp _ _ _ _ _, _, _, _, _⟩ :: _) _ _) ?_); refine wL_cat rfl _ _ _ _ rfl salt [0] rfl rfl (by rw [HNS.out]; simp; omega) m1 HM1.out ?_)
    | ((with_reducible_and_instances refine id (α := wpList _ _ _ (⟨some 12, .binOp _ _ _ _ _, _, _, _, _⟩ :: _) _ _) ?_); refine wL_cat rfl _ _ _ _ rfl m1 pass rfl rfl (by rw [L1.out, HNP.out]; omega) m0 HM0.out ?_)
    | ((with_reducible_and_instances refine id (α := wpList _ _ _ (⟨some 13, .convert _ _ _, _, _, _, _⟩ :: _) _ _) ?_); refine wL_bytesOf rfl 9 23 5 _ rfl Tryd.underlying9 Tryd.underlying23 Tryd.underlying5 m0 (ns + 1 + np) L0.out rfl (by rw [L0.out]; unfold maxLen; omega) ?_)
    | fail)
  intro c1 w1 hf1 hr1 _ hc1 hc2
  have hsh := sha_calls w1 (some ⟨w.heap.size, 0, none⟩) c1 m0 ⟨by rw [L0.out]; exact hc1, hc2, by rw [L0.out]; omega, (fun h => by cases h), (fun a ha _ => by cases ha; exact ⟨_, 0, rfl, hr1⟩)⟩ (HT.out.keep hf1 (by simp)) (fun a ha => by cases ha; exact ⟨_, _, rfl⟩)
  rw [L0.out, ← HS0.out] at hsh
  have HSH := Lib.hid hsh; have HF1 := Lib.hid hf1
  clear hsh hf1 hr1
  go_wp2_with fail
  refine HSH.out.mono ?_
  rintro e w2 ⟨v, rfl, hown, hf2⟩
  have hT2 := HT.out.keep (HF1.out.trans hf2) (by simp)
  have hown0 : w2.ownsRow w1.heap.size 5 1 v 32 (cel (st 0)) := by rw [← HSL.out 0]; exact hown
  have hj0 : Hid (st 0 ++ salt ++ pass = st 0 ++ tl) := Lib.hid (by rw [← HTL.out, List.append_assoc])
  obtain ⟨n1, hn1⟩ : ∃ m, st 0 ++ salt = m := ⟨_, rfl⟩
  have ln1 : n1.length = 32 + ns := by rw [← hn1, List.length_append, HSL.out, HNS.out]
  have lnt : (st 0 ++ tl).length = 32 + (ns + np) := by rw [List.length_append, HSL.out, LT.out]
  have HN1 := Lib.hid hn1; have LN1 := Lib.hid ln1
  have hn2 : n1 ++ pass = st 0 ++ tl := by rw [← hn1]; exact hj0.out
  obtain ⟨n2, hn2'⟩ : ∃ m, st 0 ++ tl = m := ⟨_, rfl⟩
  rw [hn2'] at hn2 lnt
  have HN2 := Lib.hid hn2; have LN2 := Lib.hid lnt; have HN2' := Lib.hid hn2'
  have HOW := Lib.hid hown0; have HF2 := Lib.hid (HF1.out.trans hf2); have HT2 := Lib.hid hT2
  have H50 : Hid ((st 0).length + salt.length ≤ 9223372036854775807) := Lib.hid (by rw [HSL.out, HNS.out]; omega)
  clear hown hown0 hf2 hT2 hj0 hn1 ln1 lnt hn2 hn2' HSH HF1
  obtain ⟨s0, hs0⟩ : ∃ s, st 0 = s := ⟨_, rfl⟩
  rw [hs0] at HOW HN1 H50
  have HS00 := Lib.hid hs0; clear hs0
  go_wp2_with (first
    | ((with_reducible_and_instances refine id (α := wpList _ _ _ (⟨some 16, .convert _ _ _, _, _, _, _⟩ :: _) _ _) ?_); refine wL_ownString rfl 23 9 5 (.tmp 15) rfl Tryd.underlying23 Tryd.underlying5 Tryd.underlying9 _ rfl _ _ _ _ HOW.out ?_)
    | ((with_reducible_and_instances refine id (α := wpList _ _ _ (⟨some 18, .binOp _ _ _ _ _, _, _, _, _⟩ :: _) _ _) ?_); refine wL_cat rfl _ _ _ _ rfl s0 salt rfl rfl H50.out n1 HN1.out ?_)
    | ((with_reducible_and_instances refine id (α := wpList _ _ _ (⟨some 20, .binOp _ _ _ _ _, _, _, _, _⟩ :: _) _ _) ?_); refine wL_cat rfl _ _ _ _ rfl n1 pass rfl rfl (by rw [LN1.out, HNP.out]; omega) n2 HN2.out ?_)
    | ((with_reducible_and_instances refine id (α := wpList _ _ _ (⟨some 21, .convert _ _ _, _, _, _, _⟩ :: _) _ _) ?_); refine wL_bytesOf rfl 9 23 5 _ rfl Tryd.underlying9 Tryd.underlying23 Tryd.underlying5 n2 (32 + (ns + np)) LN2.out rfl (by rw [LN2.out]; unfold maxLen; omega) ?_)
    | fail)
  intro c3 w3 hf3 hr3 ht3 hc3 hc4
  have hF3 : Fr [] w w3 := HF2.out.trans hf3
  have hT3 := HT2.out.keep hf3 (by simp)
  have hg0 : w.heap.size ≤ w2.heap.size := HF2.out.size
  rw [← HN2'.out] at hr3
  obtain ⟨g, hg⟩ : ∃ g, w2.heap.size = g := ⟨_, rfl⟩
  rw [hg] at hr3 ht3 hg0 ⊢
  have HR3 := Lib.hid hr3; have HT3 := Lib.hid ht3; have HF3 := Lib.hid hF3; have HTT3 := Lib.hid hT3; have HG0 := Lib.hid hg0
  clear hf3 hr3 ht3 hF3 hT3 hg0 hg HOW HF2 HT2 HN1 HN2 HN2' LN1 LN2 H50 HS00 HM0 HM1
  obtain ⟨tt, htt⟩ : ∃ tt, (if (1000 : Int) < t then (1000 : Int) else t) = tt := ⟨_, rfl⟩
  have hT1 : (T : Int) = tt ∨ (T = 0 ∧ tt ≤ 0) := by rw [HTN.out, ← htt]; split <;> omega
  have hT2 : T ≤ 1000 := by rw [HTN.out]; omega
  have HT1 := Lib.hid hT1; clear hT1
  go_wp2_with fail
  clear htt
  go_loopw [24] (fun v24 wr => ∃ k : Nat, k ≤ T ∧ v24 = .int .i64 k ∧ Fr [] w wr ∧ wr.rangeAt g 0 (cel (st k ++ tl)) ∧ wr.there g 0 (32 + (ns + np))) (fun v24 _ => T - (intOf v24).toNat)
  case atStart => exact ⟨0, by omega, rfl, HF3.out, HR3.out, HT3.out⟩
  case round =>
    clear HF3 HR3 HT3
    obtain ⟨k, hk, rfl, hfr, hrg, hth⟩ := hrel
    have hlk : (st k ++ tl).length = 32 + (ns + np) := by rw [List.length_append, HSL.out, LT.out]
    by_cases hlt : k < T
    · have hlt' : (k : Int) < tt := by have := HT1.out; omega
      have hsh := sha_calls wr (some ⟨g, 0, none⟩) c3 (st k ++ tl) ⟨by rw [hlk]; exact hc3, hc4, by rw [hlk]; omega, (fun h => by cases h), (fun a ha _ => by cases ha; exact ⟨_, 0, rfl, hrg⟩)⟩ (HT.out.keep hfr (by simp)) (fun a ha => by cases ha; exact ⟨_, _, rfl⟩)
      rw [hlk, ← HST.out k] at hsh
      have hgw : g < wr.heap.size := by
        have := (hth 0 (by omega)).1
        rcases hc : wr.cell? ⟨g, 0 + 0, none⟩ with _ | v
        · rw [hc] at this; cases this
        · exact World.block_lt_of_cell? _ _ hc
      have HSH := Lib.hid hsh; have HFR := Lib.hid hfr; have HRG := Lib.hid hrg; have HTH := Lib.hid hth; have HLK := Lib.hid hlk; have HGW := Lib.hid hgw
      clear hsh hfr hrg hth hlk hgw
      go_wp2_with fail
      refine HSH.out.mono ?_
      rintro e w5 ⟨v, rfl, hown, hf5⟩
      rw [HSL.out (k + 1)] at hown
      obtain ⟨g5, cap5, rfl, _, _, hr5, _⟩ := owns_range hown (by decide)
      have hsrc : ∀ j v, (cel (st (k + 1)))[j]? = some v → w5.cell? ((⟨g5, 0, none⟩ : Addr).add j) = some v := fun j v hv => by rw [Addr.add_mid]; exact hr5 j v hv
      have hth5 : w5.there g 0 (32 + (ns + np)) := fun j hj => by
        have := HTH.out j hj
        have hb := hf5.block g HGW.out (by simp)
        rw [World.cell?_of_block (w := wr) hb]
        refine ⟨this.1, ?_⟩
        have h2 := this.2
        simp only [World.frozen?] at h2 ⊢
        rw [hb]; exact h2
      have hr0 : w5.rangeAt g 0 (cel (st k ++ tl)) := fun j v hv => by
        rw [World.cell?_of_block (w := wr) (hf5.block g HGW.out (by simp))]; exact HRG.out j v hv
      have hcl : (cel (st (k + 1))).length = 32 := by rw [cel_length, HSL.out]
      have hmin : (cel (st (k + 1))).length = Nat.min 32 (32 + (ns + np)) := by rw [hcl]; exact (Nat.min_eq_left (by omega)).symm
      have ht5 : w5.there g 0 (cel (st (k + 1))).length := fun j hj => hth5 j (by rw [hcl] at hj; omega)
      have hF6 : Fr [] w (w5.setCells g 0 (cel (st (k + 1)))) := (HFR.out.trans hf5).setCells (.inr HG0.out)
      have hT6 : (w5.setCells g 0 (cel (st (k + 1)))).there g 0 (32 + (ns + np)) := World.there_setCells hth5 _ _ _
      have hR6 : (w5.setCells g 0 (cel (st (k + 1)))).rangeAt g 0 (cel (st (k + 1) ++ tl)) := by
        intro j v hv
        rw [cel_append, List.getElem?_append] at hv
        split at hv <;> rename_i hj
        · exact World.rangeAt_setCells_same w5 g 0 _ ht5 j v hv
        · have h32 : 32 ≤ j := by omega
          rw [World.cell?_setCells_out g _ 0 w5 _ (fun _ _ => .inr (by show 0 + (cel (st (k + 1))).length ≤ 0 + j; omega))]
          refine hr0 j v ?_
          rw [cel_append, List.getElem?_append_right (by rw [cel_length, HSL.out]; exact h32), cel_length, HSL.out]
          rw [hcl] at hv; exact hv
      have HS5 := Lib.hid hsrc; have HM5 := Lib.hid hmin; have HT5 := Lib.hid ht5; have HF6 := Lib.hid hF6; have HT6 := Lib.hid hT6; have HR6 := Lib.hid hR6
      clear hown hf5 hr5 hsrc hth5 hr0 hcl hmin ht5 hF6 hT6 hR6 HSH
      go_wp2_with (first
        | ((with_reducible_and_instances refine id (α := wpList _ _ _ (⟨some 29, .call _, _, _, _, _⟩ :: _) _ _) ?_); refine wL_copy rfl (.tmp 26) (.tmp 28) 23 23 rfl 5 Tryd.underlying23 Tryd.size5 g 0 (32 + (ns + np)) c3 ⟨g5, 0, none⟩ 32 cap5 rfl rfl (cel (st (k + 1))) HM5.out HS5.out HT5.out (cel_one _) ?_)
        | fail)
      go_roundw
      case rel => exact ⟨k + 1, by omega, by go_num, HF6.out, HR6.out, HT6.out⟩
      case measure => simp [intOf]; omega
    · obtain rfl : k = T := by omega
      have hlt' : ¬ (k : Int) < tt := by have := HT1.out; omega
      have hx := hex_calls wr (some ⟨g, 0, none⟩) c3 (st k) ⟨by rw [HSL.out]; omega, hc4, by rw [HSL.out]; decide, (fun h => by cases h), (fun a ha _ => by
        cases ha
        refine ⟨_, 0, rfl, fun j v hv => hrg j v ?_⟩
        rw [cel_append, List.getElem?_append_left (List.getElem?_eq_some_iff.1 hv).1]; exact hv)⟩ (by rw [HSL.out]; decide)
      rw [HSL.out] at hx
      have HX := Lib.hid hx; have HFR := Lib.hid hfr; clear hx hfr hrg hth hlk
      have i0 : (32 : Int) ≤ c3 := by omega
      go_wp2_with fail
      refine HX.out.mono ?_
      rintro e w5 ⟨rfl, hf5⟩
      have HF5 := Lib.hid (HFR.out.trans hf5); clear hf5
      go_wp2_with fail
      go_ret
      exact ⟨rfl, HF5.out⟩
end Go.Proofs.YthegllpmefilkaaDoor

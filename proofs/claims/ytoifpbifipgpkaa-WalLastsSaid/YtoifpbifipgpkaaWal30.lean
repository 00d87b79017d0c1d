/-
  wal: awake.
-/
import Derived.Test.YtoifpbifipgpkaaWal29
import Derived.Deep.RegionHeld3
namespace Go.Proofs.Ytoifpbifipgpkaa
open Go.RowKit Go.MapKept
/-- A Commit that went well. -/
structure Committed (S S' : Sv) : Prop where
  fit : Fit S'
  tell : ∀ i, S'.tell i = S.tell i
  und : S'.U = fun _ => none
  all : S'.all = S.all + 1
  frm : ∃ S1, (S1 = S ∨ Settled S S1) ∧ S' = S1.push
theorem committed {S S1 : Sv} (h : Fit S) (hc : Card S.U S.k) (h1 : S1 = S ∨ Settled S S1) : Committed S S1.push := by
  have hf : Fit S1 := by
    rcases h1 with rfl | h2
    · exact h
    · exact h.settled h2
  have ht : ∀ i, S1.tell i = S.tell i := fun i => by
    rcases h1 with rfl | h2
    · rfl
    · exact Homed.tell h h2 i
  have hu : Card S1.U S1.k ∧ S1.all = S.all := by
    rcases h1 with rfl | ⟨v', _, rfl⟩
    · exact ⟨hc, rfl⟩
    · exact ⟨hc, rfl⟩
  refine ⟨hf.push, fun i => (Fit.push_tell i).trans (ht i), Sv.push_U hu.1, ?_, S1, h1, rfl⟩
  rw [← hu.2]
  unfold Sv.push
  split <;> rfl
/-- A Sync that went well. -/
structure Lasting (S S' : Sv) : Prop where
  fit : Fit S'
  tell : ∀ i, S'.tell i = S.tell i
  und : S'.U = S.U
  k : S'.k = S.k
  wts : S'.Cs = []
  all : S'.all = S.all
  last : S'.last = S.all
theorem lasting {S S' : Sv} (h : Fit S) (h1 : Settled S S') : Lasting S S' := by
  have hf := h.settled h1
  have ht := Homed.tell h h1
  obtain ⟨v', _, rfl⟩ := h1
  exact ⟨hf, ht, rfl, rfl, rfl, rfl, rfl⟩
set_option maxRecDepth 100000 in
set_option maxHeartbeats 4000000 in
theorem awake_calls (w : World) : Calls Try.prog 21 #[] w fun e w' => e = .returned (.bool true) ∧ Fr [] w w' := by
  obtain ⟨T, hT, hT64⟩ : ∃ T, bys 5 64 = T ∧ T.length = 64 := ⟨_, rfl, bys_length _ _⟩
  have KS : Hid (∀ W : World, Calls Try.prog 14 #[.int .i64 5] W fun e w' => ∃ g cap, e = .returned (.slice (some ⟨g, 0, none⟩) 64 cap) ∧ Fr [] W w' ∧ W.heap.size ≤ g ∧ g < w'.heap.size ∧ w'.rangeAt g 0 (cel T) ∧ w'.there g 0 64 ∧ 64 ≤ cap ∧ cap ≤ 9223372036854775807) := Lib.hid (fun W => by
    have := sector_calls W 5 (by omega)
    rw [hT] at this
    exact this)
  have HT64 := Lib.hid hT64
  clear hT hT64
  have HO := Lib.hid (lopen_calls w 400 (by omega) (by omega))
  have HR2 := Lib.hid (fun W => room_calls W 200 (by omega))
  have HR4 := Lib.hid (fun W => room_calls W 400 (by omega))
  go_enter Try.func21, Try.ntmps21
  go_wp2_with fail
  refine HO.out.mono ?_
  rintro e w1 ⟨p, l, m, s, bs, c, rfl, hf1, hbs, hst⟩
  have HSZ := Lib.hid (st_size hst)
  have HST := Lib.hid hst; have HF1 := Lib.hid hf1; have HBS := Lib.hid hbs
  clear hst hf1 hbs HO
  go_wp2_with fail
  refine HSZ.out.mono ?_
  rintro e w2 ⟨rfl, rfl⟩
  go_wp2_with fail
  refine (HR2.out _).mono ?_
  rintro e w2 ⟨rfl, rfl⟩
  go_wp2_with fail
  refine (HR4.out _).mono ?_
  rintro e w2 ⟨rfl, rfl⟩
  clear HR2 HR4 HSZ
  go_wp2_with fail
  refine (KS.out _).mono ?_
  rintro e w2 ⟨g, cap, rfl, hf2, hg1, hg2, hr2, _, _, _⟩
  have hgb : g ∉ bs := fun h => by have := HBS.out g h; omega
  have hW := st_write (HST.out.keep hf2 (by simp)) rfl rfl 0 (by omega) g 0 cap T HT64.out hr2 hgb (.inr (by simp [Sv.new]))
  have HW := Lib.hid hW; have HF2 := Lib.hid (HF1.out.trans hf2)
  clear hW hr2 hgb hf2
  go_wp2_with fail
  refine HW.out.mono ?_
  rintro e w3 ⟨rfl, hf3, hst3⟩
  obtain ⟨S, hS⟩ : ∃ S : Sv, { Sv.new (v0 c) with U := wrote (Sv.new (v0 c)).U ((0 : Nat) : Int) (T), k := if ((Sv.new (v0 c)).U ((0 : Nat) : Int)).isSome then (Sv.new (v0 c)).k else (Sv.new (v0 c)).k + 1 } = S := ⟨_, rfl⟩
  rw [hS] at hst3
  have hfit : Fit S := by rw [← hS]; exact ⟨rfl, (fit0 c).live, rfl, numAt_zeros, fun _ => rfl, by simp [Sv.new]⟩
  have htell : S.tell 0 = T := by rw [← hS]; unfold Sv.tell; simp [wrote]
  have hall : S.all = 0 := by rw [← hS]; rfl
  have hF3 : Fr [] w w3 := HF2.out.trans_new hf3 (fun x hx => .inr (HBS.out x hx).1)
  have HC := Lib.hid (fit_commit hst3 hfit (by omega) (by omega))
  have HCD := Lib.hid hst3.card
  have HFIT := Lib.hid hfit; have HT := Lib.hid htell; have HF3 := Lib.hid hF3
  have hgr3 : ∀ x ∈ bs, w.heap.size ≤ x := fun x hx => (HBS.out x hx).1
  have HG3 := Lib.hid hgr3
  clear hS hst3 hfit htell hF3 hf3 HW hgr3 HBS HST
  go_wp2_with fail
  refine HC.out.mono ?_
  rintro e w4 ⟨bs4, S1, rfl, hf4, hgr4, hs1, hst4⟩
  have hco := committed HFIT.out HCD.out hs1
  obtain ⟨S4, hS4⟩ : ∃ S4, S1.push = S4 := ⟨_, rfl⟩
  rw [hS4] at hst4 hco
  have htell4 : S4.tell 0 = T := (hco.tell 0).trans HT.out
  have hsz3 := HF3.out.size
  have hF4 : Fr [] w w4 := HF3.out.trans_new hf4 (fun x hx => .inr (HG3.out x hx))
  have hG4 : ∀ x ∈ bs4, w.heap.size ≤ x := fun x hx => by
    rcases hgr4 x hx with h | h
    · exact HG3.out x h
    · omega
  have HSY := Lib.hid (fit_sync hst4 hco.fit (by omega))
  have HCO := Lib.hid hco; have HT4 := Lib.hid htell4; have HF4 := Lib.hid hF4; have HG4 := Lib.hid hG4
  clear hS4 hst4 hco htell4 hF4 hG4 hf4 hgr4 hs1 HC
  go_wp2_with fail
  refine HSY.out.mono ?_
  rintro e w5 ⟨bs5, S5, rfl, hf5, hgr5, hs5, hst5⟩
  have hla := lasting HCO.out.fit hs5
  have htell5 : S5.v.ls (300 + 0) = T := by
    rw [← hla.fit.tell_ls (by rw [hla.und]; exact HCO.out.und) hla.wts]
    exact (hla.tell 0).trans HT4.out
  have hsz4 := HF4.out.size
  have hF5 : Fr [] w w5 := HF4.out.trans_new hf5 (fun x hx => .inr (HG4.out x hx))
  obtain ⟨u5, wv5, ms5, B5, hl5⟩ := hst5.lies
  have hb5 : w.heap.size ≤ p ∧ w.heap.size ≤ l ∧ w.heap.size ≤ m := by
    have hg : ∀ x ∈ bs5, w.heap.size ≤ x := fun x hx => by
      rcases hgr5 x hx with h | h
      · exact HG4.out x h
      · omega
    exact ⟨hg _ hl5.bs4.2.1, hg _ hl5.bs4.2.2.1, hg _ hl5.bs4.2.2.2.1⟩
  have HCR := Lib.hid (dcrash_none w5 p l m 400 400 _ S5.v hst5.dev)
  have HLA := Lib.hid hla; have HT5 := Lib.hid htell5; have HF5 := Lib.hid hF5
  clear hst5 hla htell5 hF5 hf5 hgr5 hs5 hl5 HSY
  go_wp2_with fail
  refine HCR.out.mono ?_
  rintro e w6 ⟨m', rfl, hf6, hm', hd6⟩
  have hF6 : Fr [] w w6 := HF5.out.trans_new hf6 (fun x hx => by simp at hx; omega)
  have hop := st_open w6 p l m' 400 400 _ _ hd6 (by omega) (by omega) ⟨rfl, rfl, HLA.out.fit.head⟩
  have HOP := Lib.hid hop; have HF6 := Lib.hid hF6
  clear hop hF6 hf6 hd6 HCR
  go_wp2_with fail
  refine HOP.out.mono ?_
  rintro e w7 ⟨s7, bs7, rfl, hf7, hs7, hbs7, hst7⟩
  have hF7 : Fr [] w w7 := HF6.out.trans_new hf7 (fun x hx => by simp at hx; omega)
  have hrd := st_read hst7 rfl rfl 0 (by omega) (by omega)
  have ht7 : (Sv.new (Dv.read ⟨S5.v.c, -1, false, S5.v.ls, fun _ => none⟩ 0).2).tell 0 = T := by
    rw [← HT5.out]
    exact Fit.tell_ls (S := Sv.new (Dv.read ⟨S5.v.c, -1, false, S5.v.ls, fun _ => none⟩ 0).2) (Fit.new ⟨rfl, by show (-1 : Int) < 0; omega⟩ rfl HLA.out.fit.head) rfl rfl 0
  rw [ht7] at hrd
  have HRD := Lib.hid hrd; have HF7 := Lib.hid hF7
  have hsz6 := HF6.out.size
  have hm7 : w.heap.size ≤ m' := by have := HF5.out.size; omega
  have HB7 : Hid (∀ x ∈ bs7, w.heap.size ≤ x) := Lib.hid (fun x hx => by have := hbs7 x hx; omega)
  clear hrd hF7 hf7 hst7 ht7 hbs7 HOP
  go_wp2_with fail
  refine HRD.out.mono ?_
  rintro e w8 ⟨x, c8, rfl, hf8, _, hx⟩
  obtain ⟨g8, cap8, rfl, hs8⟩ := StrB.b64 HT64.out hx
  have hsz7 := HF7.out.size
  have hF8 : Fr [] w w8 := HF7.out.trans_new hf8 (fun x hx => .inr (HB7.out x hx))
  have HF8 := Lib.hid hF8
  have hsame := beq_selfB ⟨(T).toArray⟩
  have hq : Fr [] w8 w8.drew := (Fr.refl [] w8).drew
  unfold StrB at hs8
  clear hF8 hf8 hx HRD
  go_wp2_with fail
  clear HLA HT5 HF5 HF6 HF7 HB7 HCO HT4 HF4 HG4 HFIT HT HF3 HG3 HCD HF2 HF1 hm' hb5 hsz7 hsz6 hsz4 hsz3 hm7 hs7 hall
  have HS8 := Lib.hid hs8
  have hc8 := hs8 _ hq
  clear hs8
  refine wp_region_held_drew (S := fun w' => (convert 29 9 (.slice (some ⟨g8, 0, none⟩) 64 cap8)).run Try.prog w' = .ok (.string ⟨T.toArray⟩) w') (by kernel_rfl) hc8 (fun hHeld => ?_)
  refine wpAnyH_take (i := 0) (v := ?_) rfl (by kernel_rfl) (by kernel_rfl) (by kernel_rfl) (fun _ _ _ h => h) (Or.inl ⟨by rfl, by intro w hSw; (try dsimp only at hSw); go_simp; try with_reducible rfl⟩) (by assumption) ?_
  try simp only [Act.put, List.getElem_toArray, List.getElem_cons_succ, List.getElem_cons_zero, List.setIfInBounds_toArray, List.set_cons_zero, List.set_cons_succ]
  refine wpAnyH_take (i := 1) (v := ?_) rfl (by kernel_rfl) (by kernel_rfl) (by kernel_rfl) (fun _ _ _ h => h) (Or.inl ⟨by rfl, by intro w hSw; (try dsimp only at hSw); go_simp; try with_reducible rfl⟩) (by assumption) ?_
  try simp only [Act.put, List.getElem_toArray, List.getElem_cons_succ, List.getElem_cons_zero, List.setIfInBounds_toArray, List.set_cons_zero, List.set_cons_succ]
  refine wpAnyH_take (i := 2) (v := ?_) rfl (by kernel_rfl) (by kernel_rfl) (by kernel_rfl) (fun _ _ _ h => h) (Or.inl ⟨by rfl, by intro w hSw; (try dsimp only at hSw); go_simp; try with_reducible rfl⟩) (by assumption) ?_
  try simp only [Act.put, List.getElem_toArray, List.getElem_cons_succ, List.getElem_cons_zero, List.setIfInBounds_toArray, List.set_cons_zero, List.set_cons_succ]
  refine wpAnyH_take (i := 3) (v := ?_) rfl (by kernel_rfl) (by kernel_rfl) (by kernel_rfl) (fun _ _ _ h => h) (Or.inl ⟨by rfl, by intro w hSw; (try dsimp only at hSw); go_simp; try with_reducible rfl⟩) (by assumption) ?_
  try simp only [Act.put, List.getElem_toArray, List.getElem_cons_succ, List.getElem_cons_zero, List.setIfInBounds_toArray, List.set_cons_zero, List.set_cons_succ]
  refine wpAnyH_take (i := 4) (v := ?_) rfl (by kernel_rfl) (by kernel_rfl) (by kernel_rfl) (fun _ _ _ h => h) (Or.inl ⟨by rfl, by intro w hSw; (try dsimp only at hSw); go_simp; try with_reducible rfl⟩) (by assumption) ?_
  try simp only [Act.put, List.getElem_toArray, List.getElem_cons_succ, List.getElem_cons_zero, List.setIfInBounds_toArray, List.set_cons_zero, List.set_cons_succ]
  refine wpAnyH_take (i := 5) (v := ?_) rfl (by kernel_rfl) (by kernel_rfl) (by kernel_rfl) (fun _ _ _ h => h) (Or.inl ⟨by rfl, by intro w hSw; (try dsimp only at hSw); go_simp; try with_reducible rfl⟩) (by assumption) ?_
  try simp only [Act.put, List.getElem_toArray, List.getElem_cons_succ, List.getElem_cons_zero, List.setIfInBounds_toArray, List.set_cons_zero, List.set_cons_succ]
  refine wpAnyH_take (i := 6) (v := ?_) rfl (by kernel_rfl) (by kernel_rfl) (by kernel_rfl) (fun _ _ _ h => h) (Or.inl ⟨by rfl, by intro w hSw; (try dsimp only at hSw); go_simp; try with_reducible rfl⟩) (by assumption) ?_
  try simp only [Act.put, List.getElem_toArray, List.getElem_cons_succ, List.getElem_cons_zero, List.setIfInBounds_toArray, List.set_cons_zero, List.set_cons_succ]
  refine wpAnyH_take (i := 7) (v := ?_) rfl (by kernel_rfl) (by kernel_rfl) (by kernel_rfl) (fun _ _ _ h => h) (Or.inl ⟨by rfl, by intro w hSw; (try dsimp only at hSw); go_simp; try with_reducible rfl⟩) (by assumption) ?_
  try simp only [Act.put, List.getElem_toArray, List.getElem_cons_succ, List.getElem_cons_zero, List.setIfInBounds_toArray, List.set_cons_zero, List.set_cons_succ]
  refine wpAnyH_take (i := 8) (v := ?_) rfl (by kernel_rfl) (by kernel_rfl) (by kernel_rfl) (fun _ _ _ h => h) (Or.inl ⟨by rfl, by intro w hSw; (try dsimp only at hSw); go_simp; try with_reducible rfl⟩) (by assumption) ?_
  try simp only [Act.put, List.getElem_toArray, List.getElem_cons_succ, List.getElem_cons_zero, List.setIfInBounds_toArray, List.set_cons_zero, List.set_cons_succ]
  refine wpAnyH_take (i := 9) (v := ?_) rfl (by kernel_rfl) (by kernel_rfl) (by kernel_rfl) (fun _ _ _ h => h) (Or.inl ⟨by rfl, by intro w hSw; (try dsimp only at hSw); go_simp; try with_reducible rfl⟩) (by assumption) ?_
  try simp only [Act.put, List.getElem_toArray, List.getElem_cons_succ, List.getElem_cons_zero, List.setIfInBounds_toArray, List.set_cons_zero, List.set_cons_succ]
  refine wpAnyH_take (i := 10) (v := ?_) rfl (by kernel_rfl) (by kernel_rfl) (by kernel_rfl) (fun _ _ _ h => h) (Or.inl ⟨by rfl, by intro w hSw; (try dsimp only at hSw); go_simp; try with_reducible rfl⟩) (by assumption) ?_
  try simp only [Act.put, List.getElem_toArray, List.getElem_cons_succ, List.getElem_cons_zero, List.setIfInBounds_toArray, List.set_cons_zero, List.set_cons_succ]
  refine wpAnyH_take (i := 11) (v := ?_) rfl (by kernel_rfl) (by kernel_rfl) (by kernel_rfl) (fun _ _ _ h => h) (Or.inl ⟨by rfl, by intro w hSw; (try dsimp only at hSw); go_simp; try with_reducible rfl⟩) (by assumption) ?_
  try simp only [Act.put, List.getElem_toArray, List.getElem_cons_succ, List.getElem_cons_zero, List.setIfInBounds_toArray, List.set_cons_zero, List.set_cons_succ]
  refine wpAnyH_take (i := 12) (v := ?_) rfl (by kernel_rfl) (by kernel_rfl) (by kernel_rfl) (fun _ _ _ h => h) (Or.inl ⟨by rfl, by intro w hSw; (try dsimp only at hSw); go_simp; try with_reducible rfl⟩) (by assumption) ?_
  try simp only [Act.put, List.getElem_toArray, List.getElem_cons_succ, List.getElem_cons_zero, List.setIfInBounds_toArray, List.set_cons_zero, List.set_cons_succ]
  refine wpAnyH_take (i := 13) (v := ?_) rfl (by kernel_rfl) (by kernel_rfl) (by kernel_rfl) (fun _ _ _ h => h) (Or.inl ⟨by rfl, by intro w hSw; (try dsimp only at hSw); go_simp; try with_reducible rfl⟩) (by assumption) ?_
  try simp only [Act.put, List.getElem_toArray, List.getElem_cons_succ, List.getElem_cons_zero, List.setIfInBounds_toArray, List.set_cons_zero, List.set_cons_succ]
  refine wpAnyH_take (i := 14) (v := ?_) rfl (by kernel_rfl) (by kernel_rfl) (by kernel_rfl) (fun _ _ _ h => h) (Or.inl ⟨by rfl, by intro w hSw; (try dsimp only at hSw); go_simp; try with_reducible rfl⟩) (by assumption) ?_
  try simp only [Act.put, List.getElem_toArray, List.getElem_cons_succ, List.getElem_cons_zero, List.setIfInBounds_toArray, List.set_cons_zero, List.set_cons_succ]
  refine wpAnyH_take (i := 15) (v := ?_) rfl (by kernel_rfl) (by kernel_rfl) (by kernel_rfl) (fun _ _ _ h => h) (Or.inl ⟨by rfl, by intro w hSw; (try dsimp only at hSw); go_simp; try with_reducible rfl⟩) (by assumption) ?_
  try simp only [Act.put, List.getElem_toArray, List.getElem_cons_succ, List.getElem_cons_zero, List.setIfInBounds_toArray, List.set_cons_zero, List.set_cons_succ]
  refine wpAnyH_take (i := 16) (v := ?_) rfl (by kernel_rfl) (by kernel_rfl) (by kernel_rfl) (fun _ _ _ h => h) (Or.inl ⟨by rfl, by intro w hSw; (try dsimp only at hSw); go_simp; try with_reducible rfl⟩) (by assumption) ?_
  try simp only [Act.put, List.getElem_toArray, List.getElem_cons_succ, List.getElem_cons_zero, List.setIfInBounds_toArray, List.set_cons_zero, List.set_cons_succ]
  refine wpAnyH_ready (rs := [17]) (by kernel_rfl) (by simp) ?_
  refine AllReadyH.cons rfl (fun K hK => ?_) AllReadyH.nil
  go_simp
  go_at_call 14
  refine (KS.out _).mono ?_
  rintro e w9 ⟨g9, cap9, rfl, hf9, _, _, hr9, _, _, _⟩
  have hs9 := StrB.range (cap := cap9) HT64.out hr9 w9 (Fr.refl [] w9)
  have hq := hq.trans hf9
  go_wp2_with fail
  refine hK.out _ _ (HS8.out w9 hq) (fun hHeld => ?_)
  clear hK K
  try simp only [Act.put, List.getElem_toArray, List.getElem_cons_succ, List.getElem_cons_zero, List.setIfInBounds_toArray, List.set_cons_zero, List.set_cons_succ]
  refine wpAnyH_ready (rs := [18]) (by kernel_rfl) (by simp) ?_
  refine AllReadyH.cons rfl (fun K hK => ?_) AllReadyH.nil
  go_simp
  refine hK.out _ _ (HS8.out w9 hq) (fun hHeld => ?_)
  clear hK K
  try simp only [Act.put, List.getElem_toArray, List.getElem_cons_succ, List.getElem_cons_zero, List.setIfInBounds_toArray, List.set_cons_zero, List.set_cons_succ]
  refine wpAnyH_take (i := 19) (v := ?_) rfl (by kernel_rfl) (by kernel_rfl) (by kernel_rfl) (fun _ _ _ h => h) (Or.inl ⟨by rfl, by intro w hSw; (try dsimp only at hSw); go_simp; try with_reducible rfl⟩) (by assumption) ?_
  try simp only [Act.put, List.getElem_toArray, List.getElem_cons_succ, List.getElem_cons_zero, List.setIfInBounds_toArray, List.set_cons_zero, List.set_cons_succ]
  refine wpAnyH_take (i := 20) (v := ?_) rfl (by kernel_rfl) (by kernel_rfl) (by kernel_rfl) (fun _ _ _ h => h) (Or.inl ⟨by rfl, by intro w hSw; (try dsimp only at hSw); go_simp; try with_reducible rfl⟩) (by assumption) ?_
  try simp only [Act.put, List.getElem_toArray, List.getElem_cons_succ, List.getElem_cons_zero, List.setIfInBounds_toArray, List.set_cons_zero, List.set_cons_succ]
  refine wpAnyH_take (i := 21) (v := ?_) rfl (by kernel_rfl) (by kernel_rfl) (by kernel_rfl) (fun _ _ _ h => h) (Or.inl ⟨by rfl, by intro w hSw; (try dsimp only at hSw); go_simp; try with_reducible rfl⟩) (by assumption) ?_
  try simp only [Act.put, List.getElem_toArray, List.getElem_cons_succ, List.getElem_cons_zero, List.setIfInBounds_toArray, List.set_cons_zero, List.set_cons_succ]
  refine wpAnyH_done (by kernel_rfl) ?_ _
  have HZ := Lib.hid (HF8.out.trans hq)
  clear hq
  go_wp2_with fail
  go_ret
  exact ⟨rfl, HZ.out⟩
end Go.Proofs.Ytoifpbifipgpkaa

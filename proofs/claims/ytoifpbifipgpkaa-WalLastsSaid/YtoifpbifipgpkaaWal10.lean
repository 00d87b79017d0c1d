/-
  wal: Commit, where there is place.
-/
import Derived.Test.YtoifpbifipgpkaaWal9
import Derived.Deep.RegionLaw
import Derived.Maps.AppendAt
namespace Go.Proofs.Ytoifpbifipgpkaa
open Go.RowKit Go.MapKept
section
variable {P : Program}
theorem step_append_own {w : World} {ops : Array Oper} {o : Oper} {a : Act} {K : Act → World → Prop} {Q : Exit → Act → World → Prop} {E : Prop} (hgd : o.guard = none) (s x : Operand) (t : TypeId)
    (ho : o.op = .call { callee := .builtin .append, args := #[s, x], argTypes := #[t, t] })
    (base : Nat) (e : TypeId) (i : TypeInfo) (z : Value) (size bytes : Nat) (ht : P.underlying t = some (.slice e)) (hi : P.info? e = some i) (hz : i.zero = some z)
    (hsize : i.size = size) (hby : i.bytes = bytes) (hzs : z.cells.size = size) (hsz : 0 < size)
    (v : Value) (n : Nat) (xs : List Value) (hs : a.eval s = v) (hown : w.ownsRow base e size v n xs)
    (ad : Addr) (m c : Nat) (news : List Value) (hx : a.eval x = .slice (some ad) m c) (hl : news.length = m * size) (hnews : ∀ j u, news[j]? = some u → w.cell? (ad.add j) = some u) (h1 : ∀ u ∈ news, u.oneCell' = true)
    (h63 : n + m ≤ maxLen) (hbytes : (n + m) * bytes ≤ 140737488355328) (hbase : base ≤ w.heap.size)
    (h : ∀ v' w', w'.ownsRow base e size v' (n + m) (xs ++ news) → w.grownBy w' v.ownBlock → (v' = .slice none 0 0 ↔ v = .slice none 0 0 ∧ m = 0) → (v'.ownBlock = v.ownBlock ∨ v'.ownBlock = some w.heap.size) → K (a.put o.dst v') w') :
    if Region.wanted o (yielded ops a.tmps) = true then Oper.wp P o a w K Q else E := by
  rw [if_pos (by simp [Region.wanted, hgd])]
  obtain ⟨v', w', hr, h2, h3, h4, h5⟩ := run_append_own_at (P := P) w base t o.type e i z size bytes ht hi hz hsize hby hzs hsz v n xs hown ad m c news hl hnews h1 h63 hbytes hbase
  unfold Oper.wp execOp
  simp only [ho, resolve, invoke, builtin, Sem.run_bind, Sem.run_pure, Result.andThen_ok, List.map_toArray, List.map_cons, List.map_nil, hs, hx, hr]
  exact h v' w' h2 h3 h4 h5
end
theorem new_cellsW (w : World) (cs : List Value) (T : TypeId) : ∀ j u, cs[j]? = some u → (w.alloc (.cells cs.toArray T)).cell? ((⟨w.heap.size, 0, none⟩ : Addr).add j) = some u := by
  intro j u hj
  rw [Go.WideShapes.add_plain, Nat.zero_add, box_cell (heap_alloc_new _ _)]
  simpa using hj
theorem own_ge {w : World} {B : Nat} {T : TypeId} {s n : Nat} {v : Value} {xs : List Value} (h : w.ownsRow B T s v n xs) : ∀ k, v.ownBlock = some k → B ≤ k := by
  intro k hk
  rcases h.2 with ⟨h1, _⟩ | ⟨g, cap, cur, h1, h2, _⟩
  · subst h1; simp [Value.ownBlock] at hk
  · subst h1; simp [Value.ownBlock] at hk; omega
theorem Try.infoCh : (Try.prog.info? 85).map (fun i => (i.zero, i.size, i.bytes)) = some (some (.map none), 1, 8) := by kernel_rfl
set_option maxRecDepth 100000 in
set_option maxHeartbeats 4000000 in
/-- Commit of a change that has sectors. -/
theorem commit_full (w : World) (s p u l m n q : Nat) (wv : Value) (all last : Int) (b : Int) (v : Dv) (hs : StoreBox w s p u wv all last false) (hd : DvAt w p l m n q b v) (hv : v.d = false) (hps : s ≠ p ∧ s ≠ l ∧ s ≠ m)
    (KU : Nat) (hU : MapOf w u KU) (hKU : 0 < KU ∧ KU ≤ 128) (hus : u ≠ s) (B : Nat) (hB : B ≤ w.heap.size) (hsB : s < B) (ms ks : List Nat) (hlen : ms.length = ks.length) (h16 : ms.length < 16) (hown : w.ownsRow B 85 1 wv ms.length (ms.map fun m => Value.map (some m)))
    (hm : ∀ j, j < ms.length → MapOf w (ms.getD j 0) (ks.getD j 0) ∧ ms.getD j 0 ≠ s) (hks : ∀ x ∈ ks, x ≤ 8192) (hroom : KU + ks.sum ≤ 256) (hall : 0 ≤ all ∧ all < 9000000000000000000) :
    Calls Try.prog 15 #[.pointer (some ⟨s, 0, none⟩)] w fun e w' => ∃ u' wv', e = .returned (.int .i64 0) ∧ w.heap.size ≤ u' ∧ StoreBox w' s p u' wv' (all + 1) last false ∧ IMap w' u' (fun _ => none) ∧
      w'.ownsRow B 85 1 wv' (ms.length + 1) ((ms ++ [u]).map fun m => Value.map (some m)) ∧ (∀ k, wv.ownBlock = some k → Fr [s, k] w w') ∧ (wv.ownBlock = none → Fr [s] w w') ∧ (∀ k, wv'.ownBlock = some k → wv.ownBlock = some k ∨ w.heap.size ≤ k) := by
  have hmm := @run_makeMap Try.prog
  obtain ⟨i0, hi, hz0, hz1, hz2⟩ := info_parts Try.infoCh
  have HI := Lib.hid hi; have HZ0 := Lib.hid hz0; have HZ1 := Lib.hid hz1; have HZ2 := Lib.hid hz2
  clear hi hz0 hz1 hz2
  have H1 := Lib.hid (died_calls w s p u wv all last false hs l m n q b v hd)
  rw [hv] at H1
  have HO := Lib.hid hown; have HM := Lib.hid hm; have HU := Lib.hid hU; have HKS := Lib.hid hks; have HL := Lib.hid hlen
  clear hs hd hv hown hm hU hks hlen
  go_enter Try.func15, Try.ntmps15
  go_wp2_with fail
  refine H1.out.mono ?_
  rintro e w1 ⟨rfl, hf1, hs1⟩
  have hown1 : w1.ownsRow B 85 1 wv ms.length (ms.map fun m => Value.map (some m)) := by
    refine ⟨HO.out.1, ?_⟩
    rcases HO.out.2 with h1 | ⟨g, cap, cur, h3, h4, h5, h6⟩
    · exact .inl h1
    · exact .inr ⟨g, cap, cur, h3, h4, hf1.keep h5 (by simp; omega), h6⟩
  have hmk : ∀ m' k', MapOf w m' k' → m' ≠ s → MapOf w1 m' k' := fun m' k' h hne => by
    obtain ⟨es, clk, hb, hes⟩ := h
    exact ⟨es, clk, hf1.keep hb (by simpa using hne), hes⟩
  have hcr := crowded_calls w1 s p u wv all last false hs1 KU (hmk u KU HU.out hus) (by omega) B ms ks HL.out (by omega) hown1 (fun j hj => hmk _ _ (HM.out j hj).1 (HM.out j hj).2) HKS.out
  rw [show (decide (ms.length = 16) || decide (256 < KU + ks.sum)) = false by simp; omega] at hcr
  have hc1 := box_cell hs1
  have hfr1 := box_free hs1
  obtain ⟨eu, cu, hbu, hsu⟩ := hmk u KU HU.out hus
  have hrl := fun ty => run_len_map (P := Try.prog) (w := w1) 85 ty u eu cu (by kernel_rfl) hbu
  rw [hsu] at hrl
  have HCR := Lib.hid hcr; have HS1 := Lib.hid hs1; have HF1 := Lib.hid hf1; have HO1 := Lib.hid hown1
  have hkp : (0 : Int) < (KU : Int) := by omega
  clear hcr hown1 hf1 hmk hbu hsu H1 HO HM HU HKS HL
  go_wp2_with fail
  refine HCR.out.mono ?_
  rintro e w2 ⟨rfl, rfl⟩
  clear HCR
  go_wp2_with fail
  have HNC := Lib.hid (new_cellsW w1.drew [.map (some u)] 85)
  have hge := own_ge HO1.out
  have hsz1 := HF1.out.size
  have HGE := Lib.hid hge
  have hfd : Fr [] w1 (w1.drew.alloc (.cells [.map (some u)].toArray 85)) := ((Fr.refl [] w1).drew).alloc _
  have HFD := Lib.hid hfd
  have hs4k : ∀ w4, (w1.drew.alloc (.cells [.map (some u)].toArray 85)).grownBy w4 wv.ownBlock → Fr wv.ownBlock.toList w1 w4 ∧ StoreBox w4 s p u wv all last false := fun w4 hg => by
    have h1 : Fr wv.ownBlock.toList w1 w4 := (HFD.out.mono (by simp)).grown hg (fun k hk => .inl (by simp [hk]))
    exact ⟨h1, h1.keep HS1.out (by intro hx; have := HGE.out s (by simpa using hx); omega)⟩
  have HS4K := Lib.hid hs4k
  have hcA : (w1.alloc (.cells #[.map (some u)] 85)).cell? ⟨s, 2, none⟩ = some wv := (box_cell ((((Fr.refl [] w1).alloc (.cells #[.map (some u)] 85))).keep HS1.out (by simp)) 2).trans rfl
  clear hs4k hge hfd
  go_region_law (refine step_append_own rfl (.tmp 23) (.tmp 28) 86 rfl B 85 i0 (.map none) 1 8 Try.underlying86 HI.out HZ0.out HZ1.out HZ2.out rfl (by decide) _ ms.length _ rfl (HO1.out.alloc _) ⟨w1.heap.size, 0, none⟩ 1 1 [.map (some u)] rfl rfl HNC.out (fun u hu => by simp at hu; rcases hu with rfl; rfl) (by unfold maxLen; omega) (by omega) (by simp; omega) ?_; intro v' w4 hown' hgrow _ hat; obtain ⟨g', cap', rfl, _⟩ := row_range hown' (by omega); obtain ⟨hf4, hs4⟩ := HS4K.out w4 hgrow; have hc42 : w4.cell? ⟨s, 2, none⟩ = some wv := (box_cell hs4 2).trans rfl; have hfr42 : w4.frozen? ⟨s, 2, none⟩ = false := box_free hs4 2)
  all_goals
    have hat2 : ∀ k, (Value.slice (some ⟨g', 0, none⟩) (ms.length + 1) cap').ownBlock = some k → wv.ownBlock = some k ∨ w.heap.size ≤ k := fun k hk => by
      rcases hat with h | h
      · exact .inl (h.symm.trans hk)
      · right
        rw [h] at hk
        cases hk
        simp only [World.size_alloc, World.drew]
        omega
    have HAT := Lib.hid hat2
    clear hat hat2
    have hs5 : StoreBox (w4.setCell ⟨s, 2, none⟩ (.slice (some ⟨g', 0, none⟩) (ms.length + 1) cap')) s p u (.slice (some ⟨g', 0, none⟩) (ms.length + 1) cap') all last false := by
      have := box_set hs4 2 (.slice (some ⟨g', 0, none⟩) (ms.length + 1) cap')
      simpa [StoreBox] using this
    have hf45 : Fr [s] w4 (w4.setCell ⟨s, 2, none⟩ (.slice (some ⟨g', 0, none⟩) (ms.length + 1) cap')) := (Fr.refl _ _).setCell (.inl (by simp)) _
    have ho5 : (w4.setCell ⟨s, 2, none⟩ (.slice (some ⟨g', 0, none⟩) (ms.length + 1) cap')).ownsRow B 85 1 (.slice (some ⟨g', 0, none⟩) (ms.length + 1) cap') (ms.length + 1) ((ms ++ [u]).map fun m => Value.map (some m)) := by
      refine ⟨by simp, ?_⟩
      rcases hown'.2 with ⟨h1, _⟩ | ⟨g, cap, cur, h3, h4, h5, h6, h7, h8, h9⟩
      · cases h1
      · exact .inr ⟨g, cap, cur, h3, h4, hf45.keep h5 (by simp; omega), h6, h7, h8, by rw [h9]; simp⟩
    generalize w4.setCell ⟨s, 2, none⟩ (.slice (some ⟨g', 0, none⟩) (ms.length + 1) cap') = w5 at *
    have hsz5 := hf45.size
    have hsz4 := hf4.size
    have hs5A : StoreBox (w5.alloc (.map #[] 0)) s p u (.slice (some ⟨g', 0, none⟩) (ms.length + 1) cap') all last false := ((Fr.refl [] w5).alloc _).keep hs5 (by simp)
    have hcA5 := box_cell hs5A
    have hfA5 := box_free hs5A
    have hfF : Fr [s] w5 (((w5.setCell ⟨s, 1, none⟩ (.map (some w5.heap.size))).setCell ⟨s, 3, none⟩ (.int .i64 (all + 1))).alloc (.map #[] 0)) := (((Fr.refl [s] w5).setCell (.inl (by simp)) _).setCell (.inl (by simp)) _).alloc _
    have hls := lt_of_heap hs5
    have hmF : IMap (((w5.setCell ⟨s, 1, none⟩ (.map (some w5.heap.size))).setCell ⟨s, 3, none⟩ (.int .i64 (all + 1))).alloc (.map #[] 0)) w5.heap.size (fun _ => none) := ⟨#[], 0, by
      have := heap_alloc_new ((w5.setCell ⟨s, 1, none⟩ (.map (some w5.heap.size))).setCell ⟨s, 3, none⟩ (.int .i64 (all + 1))) (.map #[] 0)
      rwa [show ((w5.setCell ⟨s, 1, none⟩ (.map (some w5.heap.size))).setCell ⟨s, 3, none⟩ (.int .i64 (all + 1))).heap.size = w5.heap.size by simp [World.setCell]] at this, Holds.empty 0⟩
    have hoF : (((w5.setCell ⟨s, 1, none⟩ (.map (some w5.heap.size))).setCell ⟨s, 3, none⟩ (.int .i64 (all + 1))).alloc (.map #[] 0)).ownsRow B 85 1 (.slice (some ⟨g', 0, none⟩) (ms.length + 1) cap') (ms.length + 1) ((ms ++ [u]).map fun m => Value.map (some m)) := by
      refine ⟨ho5.1, ?_⟩
      rcases ho5.2 with h1 | ⟨g, cap, cur, h3, h4, h5, h6⟩
      · exact .inl h1
      · exact .inr ⟨g, cap, cur, h3, h4, hfF.keep h5 (by simp; omega), h6⟩
    have hFk : ∀ L : List Nat, s ∈ L → (∀ x ∈ wv.ownBlock.toList, x ∈ L) → Fr L w (((w5.setCell ⟨s, 1, none⟩ (.map (some w5.heap.size))).setCell ⟨s, 3, none⟩ (.int .i64 (all + 1))).alloc (.map #[] 0)) := fun L h1 h2 =>
      (((HF1.out.mono (fun x hx => by simp at hx; subst hx; exact h1)).trans (hf4.mono h2)).trans (hf45.mono (fun x hx => by simp at hx; subst hx; exact h1))).trans (hfF.mono (fun x hx => by simp at hx; subst hx; exact h1))
    have HMF := Lib.hid hmF; have HOF := Lib.hid hoF; have HFK := Lib.hid hFk
    have hszz : w.heap.size ≤ w5.heap.size := by omega
    have hs6 : StoreBox (w5.setCell ⟨s, 1, none⟩ (.map (some w5.heap.size))) s p w5.heap.size (.slice (some ⟨g', 0, none⟩) (ms.length + 1) cap') all last false := by
      have := box_set hs5 1 (.map (some w5.heap.size))
      simpa [StoreBox] using this
    have hs6A : StoreBox ((w5.setCell ⟨s, 1, none⟩ (.map (some w5.heap.size))).alloc (.map #[] 0)) s p w5.heap.size (.slice (some ⟨g', 0, none⟩) (ms.length + 1) cap') all last false := ((Fr.refl [] _).alloc _).keep hs6 (by simp)
    have hc6 := box_cell hs6A
    have hf6 := box_free hs6A
    have hs7 : StoreBox (((w5.setCell ⟨s, 1, none⟩ (.map (some w5.heap.size))).setCell ⟨s, 3, none⟩ (.int .i64 (all + 1))).alloc (.map #[] 0)) s p w5.heap.size (.slice (some ⟨g', 0, none⟩) (ms.length + 1) cap') (all + 1) last false := by
      have h7 := box_set hs6 3 (.int .i64 (all + 1))
      exact ((Fr.refl [] _).alloc _).keep (by simpa [StoreBox] using h7) (by simp)
    have hc7 := box_cell hs7
    have HSF := Lib.hid hs7
    have w9 : IntKind.i64.wrap (all + 1) = all + 1 := IntWalk.i64_in _ (by omega)
    clear hs5 hf45 ho5 hf4 hown' hgrow hc42 hfr42 hs4 hcA hs5A hmF hoF hFk hfF hs6 hs6A hs7
    go_wp2_with fail
    go_ret
    exact ⟨_, _, rfl, hszz, HSF.out, HMF.out, HOF.out, fun k hk => HFK.out [s, k] (by simp) (fun x hx => by simp [hk] at hx; simp [hx]), fun hk => HFK.out [s] (by simp) (fun x hx => by simp [hk] at hx), HAT.out⟩
end Go.Proofs.Ytoifpbifipgpkaa

/-
  For every list of bytes and every text that together hold at most 1048576 values and letters, HashHex returns true and leaves its arguments as they were (the table of the rounds' words laid as the program's text lays it).
-/
import Derived.Test.YthegllpmefilkaaDoorCards
import Derived.Test.YthegllpmefilkaaDoorTie
import Derived.Test.YthegllpmefilkaaDoorRUnhex
import Derived.Test.YthegllpmefilkaaDoorTab
import Derived.ProofKit
import Derived.OpenShut
import Derived.ShutString
import Derived.SizedLaws
import Derived.Deep.DeepHandedRow
import Derived.Lib.LaidTab
namespace Go.Proofs.YthegllpmefilkaaDoor.hashHex
open Go.ChangeShapes Go.WideShapes Go.ChangeAt Go.RowKit Go.MapKept
open Go.ChangeMaps (open_string shut_string)
set_option linter.unusedVariables false
theorem beq_self (s : ByteArray) : (s == s) = true := (bytes_beq s s).2 rfl
theorem hexD_is (k : Nat) (hk : k < 16) : dgt (hexD k) = some k := (hexD_dgt _ k hk).1 rfl
theorem hexB_cons (b : UInt8) (m : List UInt8) : hexB (b :: m) = hexD (b.toNat / 16) :: hexD (b.toNat % 16) :: hexB m := rfl
theorem hexB_even : ∀ (m : List UInt8) (j : Nat), j < m.length → (hexB m).getD (2 * j) 0 = hexD ((m.getD j 0).toNat / 16) ∧ (hexB m).getD (2 * j + 1) 0 = hexD ((m.getD j 0).toNat % 16)
  | [], j, h => by simp at h
  | b :: m, 0, _ => ⟨rfl, rfl⟩
  | b :: m, j + 1, h => by
    have := hexB_even m j (by simpa using h)
    rw [hexB_cons, show 2 * (j + 1) = 2 * j + 1 + 1 by omega, show 2 * j + 1 + 1 + 1 = (2 * j + 1) + 1 + 1 by omega]
    simpa using this
theorem hexB_ok (m : List UInt8) : hexOK (hexB m) = true := by
  refine hexOK_good (by rw [hexB_length]; omega) (fun j hj => ?_)
  rw [hexB_length] at hj
  have hb : ∀ k : Nat, k < m.length → (m.getD k 0).toNat < 256 := fun k _ => (m.getD k 0).toNat_lt
  rcases Nat.mod_two_eq_zero_or_one j with h | h
  · have e : j = 2 * (j / 2) := by omega
    have := (hexB_even m (j / 2) (by omega)).1
    rw [← e] at this
    rw [this]
    have := hb (j / 2) (by omega)
    exact ⟨_, hexD_is _ (by omega)⟩
  · have e : j = 2 * (j / 2) + 1 := by omega
    have := (hexB_even m (j / 2) (by omega)).2
    rw [← e] at this
    rw [this]
    exact ⟨_, hexD_is _ (by omega)⟩
theorem dv_hexD (k : Nat) (hk : k < 16) : dv (hexD k) = k := by unfold dv; rw [hexD_is k hk]; rfl
theorem hexB_back (m : List UInt8) : unhexV (hexB m) = m := by
  apply List.ext_getElem?
  intro j
  by_cases hj : j < m.length
  · rw [unhexV_get _ _ (by rw [hexB_length]; omega), (hexB_even m j hj).1, (hexB_even m j hj).2]
    have hlt := (m.getD j 0).toNat_lt
    rw [dv_hexD _ (by omega), dv_hexD _ (by omega), show 16 * ((m.getD j 0).toNat / 16) + (m.getD j 0).toNat % 16 = (m.getD j 0).toNat by omega]
    simp [hj]
  · rw [List.getElem?_eq_none (by rw [unhexV_length, hexB_length]; omega), List.getElem?_eq_none (by omega)]
/-- What a value reads as, here and behind whatever is new. -/
def StrOf (w : World) (v : Value) (r : List UInt8) : Prop := ∀ W, Fr [] w W → (convert 23 9 v).run Tryd.prog W = .ok (.string ⟨r.toArray⟩) W
theorem StrOf.keep {w w' : World} {v : Value} {r : List UInt8} (h : StrOf w v r) (hf : Fr [] w w') : StrOf w' v r := fun W hW => h W (hf.trans hW)
theorem own_keep {w W : World} {B n : Nat} {T : TypeId} {v : Value} {xs : List Value} (h : w.ownsRow B T 1 v n xs) (hf : Fr [] w W) : W.ownsRow B T 1 v n xs := by
  refine ⟨h.1, ?_⟩
  rcases h.2 with h1 | ⟨g, cap, cur, h3, h4, h5, h6⟩
  · exact .inl h1
  · exact .inr ⟨g, cap, cur, h3, h4, hf.keep h5 (by simp), h6⟩
theorem strOf_own {w : World} {B n : Nat} {T : TypeId} {v : Value} {r : List UInt8} (h : w.ownsRow B T 1 v n (cel r)) : StrOf w v r := fun W hW =>
  own_toString Tryd.underlying23 Tryd.underlying5 Tryd.underlying9 (own_keep h hW)
theorem strOf_nil (w : World) : StrOf w (.slice none 0 0) [] := fun W _ => run_convert_bytes_nil W _ _ Tryd.underlying23 Tryd.underlying5 0 0 _ Tryd.underlying9
theorem conv_zero {P : Program} (w : World) (src e : TypeId) (hs : P.underlying src = some (.slice e)) (he : P.underlying e = some (.int .u8)) (p : Option Addr) (c : Nat) :
    ∀ dst, P.underlying dst = some .string → (convert src dst (.slice p 0 c)).run P w = .ok (.string ⟨#[]⟩) w := by
  intro dst hd
  rw [run_convert_bytes_string w src dst e _ 0 c hs he hd]
  cases p <;> simp [Conv.bytesToString, loadCells]
  all_goals rfl
theorem strOf_reads {w : World} {ad : Option Addr} {cap : Nat} {m : List UInt8} (h : Reads w ad cap m) : StrOf w (.slice ad m.length cap) m := fun W hW => by
  have h := h.keep hW
  cases ad with
  | none =>
    have hc := h.nil rfl
    have hl := h.le
    obtain rfl : m = [] := List.eq_nil_of_length_eq_zero (by omega)
    subst hc
    exact strOf_nil W W (Fr.refl _ _)
  | some a =>
    by_cases h0 : 0 < m.length
    · obtain ⟨b, off, rfl, hb⟩ := h.at_ _ rfl h0
      exact run_toString Tryd.underlying23 Tryd.underlying5 Tryd.underlying9 b off cap m m.length rfl hb
    · obtain rfl : m = [] := List.eq_nil_of_length_eq_zero (by omega)
      exact conv_zero W _ _ Tryd.underlying23 Tryd.underlying5 _ _ _ Tryd.underlying9
def unr (s : List UInt8) : List UInt8 := if hexOK s then unhexV s else []
def UnS (w : World) (s : List UInt8) (e : Ending) (w' : World) : Prop := ∃ v, e = .returned (.tuple #[v, .bool (hexOK s)]) ∧ Fr [] w w' ∧ StrOf w' v (unr s)
theorem unS {w : World} {s : List UInt8} {e : Ending} {w' : World} (h : UnhexOK w s e w') : UnS w s e w' := by
  obtain ⟨v, he, hf, ⟨h1, h2⟩ | ⟨h1, h2⟩⟩ := h
  · refine ⟨v, he, hf, ?_⟩
    subst h2
    unfold unr
    rw [h1]
    exact strOf_nil w'
  · refine ⟨v, he, hf, ?_⟩
    unfold unr
    rw [h1]
    exact strOf_own h2
set_option maxRecDepth 100000 in
set_option maxHeartbeats 4000000 in
theorem walk (w : World) (ad : Option Addr) (cap : Nat) (m s : List UInt8) (hm : Reads w ad cap m) (hl : m.length ≤ 1048576) (hs : s.length ≤ 1048576) (hT : TabAt w) :
    Calls Tryd.prog 5 #[.slice ad m.length cap, .string ⟨s.toArray⟩] w fun e w' => e = .returned (.bool true) ∧ Fr [] w w' := by
  have hx := hex_calls w ad cap m hm (by omega)
  have HX := Lib.hid hx; have HM := Lib.hid hm; have HT := Lib.hid hT
  have HS0 := Lib.hid (strOf_reads hm)
  have hl2 : (hexB m).length ≤ 140737488351232 := by rw [hexB_length]; omega
  have HU : Hid (∀ W, Calls Tryd.prog 11 #[.string ⟨(hexB m).toArray⟩] W fun e w' => ∃ v, e = .returned (.tuple #[v, .bool true]) ∧ Fr [] W w' ∧ StrOf w' v m) := Lib.hid (fun W => (unhex_calls W (hexB m) hl2).mono fun e w' h => by
    obtain ⟨v, he, hf, hst⟩ := unS h
    rw [hexB_ok] at he
    unfold unr at hst
    rw [if_pos (hexB_ok m), hexB_back] at hst
    exact ⟨v, he, hf, hst⟩)
  have HV : Hid (∀ W, Calls Tryd.prog 11 #[.string ⟨s.toArray⟩] W (UnS W s)) := Lib.hid (fun W => (unhex_calls W s (by omega)).mono fun e w' h => unS h)
  have HR : Hid (∀ W, Calls Tryd.prog 13 #[.string ⟨s.toArray⟩] W (UnS W s)) := Lib.hid (fun W => (runhex_calls W s (by omega)).mono fun e w' h => unS h)
  have HX2 : Hid (∀ W, Fr [] w W → Calls Tryd.prog 12 #[.slice ad m.length cap] W fun e w' => e = .returned (.string ⟨(hexB m).toArray⟩) ∧ Fr [] W w') := Lib.hid (fun W h => hex_calls W ad cap m (hm.keep h) (by omega))
  have HX3 : Hid (∀ W, Fr [] w W → Calls Tryd.prog 14 #[.slice ad m.length cap] W fun e w' => e = .returned (.string ⟨(hexB m).toArray⟩) ∧ Fr [] W w') := Lib.hid (fun W h => rhex_calls W ad cap m (hm.keep h) (by omega))
  clear hx hm hT hl2
  obtain ⟨n, hn⟩ : ∃ n, m.length = n := ⟨_, rfl⟩
  rw [hn] at HX HS0 HX2 HX3 hl ⊢
  obtain ⟨ok, hok⟩ : ∃ b, hexOK s = b := ⟨_, rfl⟩
  have HOK := Lib.hid hok
  clear hn hok
  go_enter Tryd.func5, Tryd.ntmps5
  go_wp2_with fail
  refine HX.out.mono ?_
  rintro e w1 ⟨rfl, hf1⟩
  have HF1 := Lib.hid hf1; clear hf1
  go_wp2_with fail
  refine (HU.out w1).mono ?_
  rintro e w2 ⟨v1, rfl, hf2, hs1⟩
  have HF2 := Lib.hid (HF1.out.trans hf2); have HS1 := Lib.hid hs1; clear hf2 hs1 HF1
  go_wp2_with fail
  refine (HV.out w2).mono ?_
  rintro e w3 ⟨v2, rfl, hf3, hs2⟩
  rw [HOK.out]
  have HF3 := Lib.hid (HF2.out.trans hf3); have HS2 := Lib.hid hs2; have HS13 := Lib.hid (HS1.out.keep hf3); clear hf3 hs2 HF2 HS1
  go_wp2_with fail
  refine (HR.out w3).mono ?_
  rintro e w4 ⟨v3, rfl, hf4, hs3⟩
  rw [HOK.out]
  have HF4 := Lib.hid (HF3.out.trans hf4); have HS3 := Lib.hid hs3; have HS14 := Lib.hid (HS13.out.keep hf4); have HS24 := Lib.hid (HS2.out.keep hf4); clear hf4 hs3 HF3 HS13 HS2
  have hc1 := HS14.out w4 (Fr.refl _ _)
  have hc0 := HS0.out w4 HF4.out
  have hb1 := beq_self ⟨m.toArray⟩
  go_wp2_with fail
  refine (HX2.out w4 HF4.out).mono ?_
  rintro e w5 ⟨rfl, hf5⟩
  have HF5 := Lib.hid (HF4.out.trans hf5); have HS35 := Lib.hid (HS3.out.keep hf5); have HS25 := Lib.hid (HS24.out.keep hf5)
  clear hf5 hc1 hc0 hb1 HS3 HS24 HS14 HF4
  go_wp2_with fail
  refine (HX3.out w5 HF5.out).mono ?_
  rintro e w6 ⟨rfl, hf6⟩
  have HF6 := Lib.hid (HF5.out.trans hf6)
  have hc3 := (HS35.out.keep hf6) w6 (Fr.refl _ _)
  have hc2 := (HS25.out.keep hf6) w6 (Fr.refl _ _)
  have hb2 := beq_self ⟨(hexB m).toArray⟩
  have hb3 := beq_self ⟨(unr s).toArray⟩
  have HAW := Lib.hid (awake_calls w6 (HT.out.keep HF6.out (by simp)))
  clear hf6 HS35 HS25 HF5
  cases ok
  all_goals
    go_wp2_with fail
    refine HAW.out.mono ?_
    rintro e w7 ⟨rfl, hf7⟩
    have HF7 := Lib.hid (HF6.out.trans hf7); clear hf7
    go_wp2_with fail
    go_ret
    exact ⟨rfl, HF7.out⟩
/-! ### The row, and its card -/
theorem laidOut : laidOutB Tryd.prog = true := by kernel_rfl
theorem bulk_lits {H : Type} (k : IntKind) : ∀ l : List Int, l.length ≤ Rows.uptoBulkAll (H := H) (lits k l)
  | [] => Nat.zero_le _
  | z :: l => by
    have := bulk_lits (H := H) k l
    show l.length + 1 ≤ Rows.uptoBulk (H := H) (.lit (.int k z)) + Rows.uptoBulkAll (lits k l)
    simp only [Rows.uptoBulk]
    omega
theorem wf_u8 {z : Int} (h : (Lit.int .u8 z).wf = true) : 0 ≤ z ∧ z < 256 := by
  simp [Lit.wf, IntKind.min, IntKind.max, IntKind.bits, IntKind.signed] at h
  omega
/-- The bytes that a slice of them reads as. -/
def bytesOf (zs : List Int) (n : Nat) : List UInt8 := (zs.take n).map fun z => UInt8.ofNat z.toNat
theorem bytesOf_length (zs : List Int) (n : Nat) (h : n ≤ zs.length) : (bytesOf zs n).length = n := by simp [bytesOf]; omega
theorem bytesOf_reads {W : World} {b off n : Nat} {zs : List Int} (hn : n ≤ zs.length) (hc : ∀ i, i < zs.length → W.cell? ((⟨b, off, none⟩ : Addr).add i) = some (.int .u8 (zs.getD i 0))) (hw : ∀ z ∈ zs, (Lit.int .u8 z).wf = true) : BytesAt W b off (bytesOf zs n) := by
  intro j v hv
  have hj : j < n := by have := (List.getElem?_eq_some_iff.1 hv).1; rwa [cel_length, bytesOf_length _ _ hn] at this
  have hz : zs[j]? = some zs[j] := List.getElem?_eq_getElem (by omega)
  have hb := wf_u8 (hw zs[j] (List.getElem_mem _))
  rw [cel_get] at hv
  simp only [bytesOf, List.getElem?_map, List.getElem?_take, if_pos hj, hz, Option.map_some, Option.some.injEq] at hv
  have hcj := hc j (by omega)
  rw [Addr.add_mid] at hcj
  rw [hcj, ← hv]
  have e1 : zs.getD j 0 = zs[j] := by simp [List.getD, hz]
  have e2 : ((UInt8.ofNat zs[j].toNat).toNat : Int) = zs[j] := by rw [UInt8.toNat_ofNat']; omega
  rw [e1, e2]
theorem contract (H : Type) (enc : TypeId × Value → H) (W : World) (base : Nat) (args : Array Value) (ds gs : List (DataW H)) (before : List MemPlace)
    (hval0 : ∀ (j : Nat) t v, Tryd.f5.params[j]? = some t → args[j]? = some v → Value.okWide Tryd.prog W .any base t v)
    (hW : DataW.Whole enc Tryd.prog Tryd.f5.params.toList Rows.hashHexSpec.vars false W args.toList ds gs before)
    (hk : Rows.uptoSmall H (ds ++ gs) = true)
    (hL : laidMetH Tryd.prog Rows.hashHexRow.laid W) :
    Calls Tryd.prog 5 args W fun e W' => ∃ v, e = .returned v ∧ Rows.hashHexSpec.post enc Tryd.prog Tryd.f5 false true false false W args v W' := by
  have hval : ∀ (j : Nat) t v, Tryd.f5.params[j]? = some t → args[j]? = some v → Value.okWide Tryd.prog W .any base t v := hval0
  have hW' := hW
  obtain ⟨p, q, hA0, hV, rfl, hfz, hnd⟩ := hW
  have hA : DataW.TrodAll enc Tryd.prog W 0 (fun _ => true) true Tryd.f5.params.toList args.toList ds p := hA0
  rw [Tryd.params5] at hA hval
  obtain ⟨v0, vs0, d0, ds0, p0, q0, hargs, rfl, rfl, h0, r0⟩ := trodAll_cons hA
  obtain ⟨v1, vs1, d1, ds1, p1, q1, rfl, rfl, rfl, h1, r1⟩ := trodAll_cons r0
  obtain ⟨rfl, rfl, rfl⟩ := trodAll_nil r1
  obtain rfl : args = #[v0, v1] := by cases args; simp_all
  obtain ⟨rfl, rfl⟩ := trodVars_none hV
  obtain ⟨a0, len0, cap0, rfl⟩ := okWide_slice Tryd.underlying23 (hval 0 23 v0 rfl rfl)
  obtain ⟨s1, rfl, rfl, rfl, w1⟩ := open_string Tryd.underlying9 (hval 1 9 v1 rfl rfl) h1
  have hbk : Rows.uptoBulk d0 + (s1.data.toList.length + 1) ≤ 1048576 := by
    have h := of_decide_eq_true hk
    simp only [List.append_nil, Rows.uptoBulkAll, Rows.uptoBulk] at h
    omega
  have k0 := h0
  have lt0 : ∀ x ∈ p0, x.block < W.heap.size := by obtain ⟨m, hm⟩ := k0; exact DataW.trod_lt m _ _ _ hm
  obtain ⟨m, hml, hmr, hm1⟩ : ∃ m : List UInt8, m.length = len0 ∧ Reads W a0 cap0 m ∧ m.length ≤ 1048576 := by
    obtain ⟨fuel, hf⟩ := h0
    rcases open_ints Tryd.underlying23 Tryd.underlying5 (by kernel_rfl) hf with ⟨hcs, _⟩ | ⟨x, l, c, zs, hcs, _, hl, hm, hz, hx, hcell, hwz⟩
    · simp [Value.cells] at hcs
      obtain ⟨rfl, rfl, rfl⟩ := hcs
      exact ⟨[], rfl, ⟨Nat.le_refl _, by omega, by simp, (fun _ => rfl), (fun a ha _ => by cases ha)⟩, by simp⟩
    · simp [Value.cells] at hcs
      obtain ⟨rfl, rfl, rfl⟩ := hcs
      have hz' : zs.length = cap0 := by simpa using hz
      have hd0 : d0 = .slice (lits .u8 (zs.take len0)) (lits .u8 (zs.drop len0)) := (Prod.mk.inj hx).1
      have hlen : len0 ≤ 1048576 := by
        rw [hd0] at hbk
        simp only [Rows.uptoBulk] at hbk
        have := bulk_lits (H := H) .u8 (zs.take len0)
        rw [List.length_take] at this
        omega
      have hbl := bytesOf_length zs len0 (by omega)
      refine ⟨bytesOf zs len0, hbl, ⟨by rw [hbl]; exact hl, hm, by rw [hbl]; omega, (fun h => by cases h), (fun a ha h0 => ?_)⟩, by rw [hbl]; exact hlen⟩
      cases ha
      rw [hbl] at h0
      obtain ⟨b, off, rfl, _⟩ := ints_at hcell (by omega)
      exact ⟨b, off, rfl, bytesOf_reads (by omega) hcell hwz⟩
  subst hml
  clear hA0 hval0
  refine (walk W a0 cap0 m s1.data.toList hmr hm1 (by omega) (tab.tabAt hL)).mono fun e W' ⟨he, hfr⟩ => ?_
  subst he
  have bel : Below W.heap.size W W' := hfr.below (Nat.le_refl _) (by simp)
  exact ⟨_, rfl, _, _, _, [], _, [], hW', trodAll_mk1 (shut_bool Tryd.underlying4 _), (trodAll_cons_mk (Below.trod laidOut (by kernel_rfl) (of_decide_eq_true (by kernel_rfl)) k0 bel lt0) (trodAll_cons_mk (shut_string Tryd.underlying9 w1) trodAll_mk0)), rfl, bel.frame _, fun h => by cases h⟩
theorem laid_met (os : Os) : laidMet Tryd.prog Rows.hashHexRow.laid (((tab.laidWorld os).forCall (fun _ _ => 0) ⟨#[], #[.slice none 0 0, .string ⟨#[]⟩], []⟩).memory) :=
  laidMet_of_run' 8 (by kernel_rfl) (by kernel_rfl)
theorem reads (os : Os) {H : Type} (enc : TypeId × Value → H) : ∃ places, DataW.whole enc Tryd.prog ((tab.laidWorld os).forCall (fun _ _ => 0) ⟨#[], #[.slice none 0 0, .string ⟨#[]⟩], []⟩).memory Tryd.f5.params.toList Rows.hashHexSpec.vars false #[Value.slice none 0 0, .string ⟨#[]⟩].toList 8 = some ([.nil, .lit (.string [])], [], places) :=
  ⟨[], by kernel_rfl⟩
set_option maxRecDepth 100000 in
theorem liftedUpto (os : Os) (started : os.Started) (H : Type) (enc : TypeId × Value → H) (F : Stop.Interp) :
    ReturnsInHanded {} Tryd.checked os 5 .any ((Rows.OpenSpec.upto Rows.hashHexSpec).preRow enc Tryd.prog Tryd.f5 Rows.hashHexUptoRow.domain false Rows.hashHexUptoRow.laid) (((Rows.OpenSpec.upto Rows.hashHexSpec).at F).post enc Tryd.prog Tryd.f5 false true false false) := by
  obtain ⟨places, hx⟩ := reads os enc
  refine returnsInHanded_of_row (C := Tryd.checked) (s := Rows.OpenSpec.upto Rows.hashHexSpec) tab.own started (by kernel_rfl) Tryd.func5
    (witness_row_at (enc := enc) (C := Tryd.checked) false (tab.laidWorld os) #[.slice none 0 0, .string ⟨#[]⟩] rfl (by kernel_rfl) (by kernel_rfl) (by kernel_rfl)
      (OpenSpec.preRow_of_cond 8 hx (by kernel_rfl) (fun k hk => by cases hk; kernel_rfl) (by kernel_rfl) (laid_met os))) ?_
  intro W base args ds gs before hval hW _ hcond _ hL _ _
  exact contract H enc W base args ds gs before hval hW (hcond _ rfl) hL
theorem saidUpto : Rows.HashHexUptoSaid :=
  OpenClaim.holds_of_cond 5 Tryd.f5 rfl rfl rfl rfl rfl rfl rfl ⟨rfl, rfl, rfl, rfl, rfl⟩ rfl rfl rfl rfl rfl (by kernel_rfl) Tryd.func5 (by kernel_rfl)
    (of_decide_eq_true (by kernel_rfl)) (by unfold Func.isWrapper; first | (rw [if_pos (by decide +kernel)]; kernel_rfl) | (rw [if_neg (by decide +kernel)]; exact ⟨rfl, rfl⟩))
    (fun os started H enc _ F => by rw [OpenClaim.pre_eq_preRow]; exact liftedUpto os started H enc F)
theorem plain (f : FuncId) (fn : Func) (hf : Tryd.pinned.checked.prog.funcNamed "lazaret/lazaretlaw2.HashHex" = some f) (hfn : Tryd.pinned.checked.prog.funcs[f]? = some fn) :
    false = Tryd.pinned.checked.prog.looks [] ∧ ∀ (j : Nat) t, fn.params[j]? = some t → Tryd.pinned.checked.prog.wantsStandIn t = false := by
  obtain rfl : f = 5 := Option.some.inj ((show Tryd.prog.funcNamed "lazaret/lazaretlaw2.HashHex" = some 5 by kernel_rfl).symm.trans hf) |>.symm
  obtain rfl : fn = Tryd.f5 := (Option.some.inj (Tryd.func5.symm.trans hfn)).symm
  refine ⟨by kernel_rfl, fun j t ht => ?_⟩
  rw [Tryd.params5] at ht
  have hm : t = 23 ∨ t = 9 := by
    have := Array.mem_of_getElem? ht
    simp at this
    omega
  rcases hm with rfl | rfl
  · exact (show Tryd.prog.wantsStandIn 23 = false by kernel_rfl)
  · exact (show Tryd.prog.wantsStandIn 9 = false by kernel_rfl)
theorem proved : Rows.HashHexUptoCardSaid :=
  Claim7.holds_tied_plain_at .later [] _ _ _ _ saidUpto (fun _ h => by cases h) (by kernel_rfl) (fun _ h => by cases h) hashHexUpto_row_tie rfl ⟨rfl, rfl⟩ (by kernel_rfl) rfl plain (by kernel_rfl)
end Go.Proofs.YthegllpmefilkaaDoor.hashHex

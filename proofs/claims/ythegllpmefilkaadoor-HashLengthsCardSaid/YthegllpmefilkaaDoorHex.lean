/-
  Bytes told as digits.
-/
import Derived.Test.YthegllpmefilkaaDoorShaSum
namespace Go.Proofs.YthegllpmefilkaaDoor
open Go.RowKit Go.MapKept
def digs : ByteArray := ⟨#[48, 49, 50, 51, 52, 53, 54, 55, 56, 57, 97, 98, 99, 100, 101, 102]⟩
def hexD (n : Nat) : UInt8 := digs.data.toList.getD n 0
def hexOf (b : UInt8) : List UInt8 := [hexD (b.toNat / 16), hexD (b.toNat % 16)]
def hexB (m : List UInt8) : List UInt8 := (m.map hexOf).flatten
theorem hexB_length : ∀ m, (hexB m).length = 2 * m.length
  | [] => rfl
  | b :: m => by
    have h := hexB_length m
    unfold hexB at *
    simp only [List.map_cons, List.flatten_cons, List.length_append, List.length_cons, h]
    simp [hexOf]; omega
theorem hexB_snoc (m : List UInt8) (k : Nat) (hk : k < m.length) : hexB (m.take (k + 1)) = hexB (m.take k) ++ hexOf (m.getD k 0) := by
  have e : m.getD k 0 = m[k] := by simp [hk]
  rw [List.take_succ_eq_append_getElem hk, e]
  unfold hexB
  rw [List.map_append, List.flatten_append]
  simp only [List.map_cons, List.map_nil, List.flatten_cons, List.flatten_nil, List.append_nil]
theorem digs_get (n : Nat) (h : n < 16) : digs[n]? = some (hexD n) := by
  rcases n with _ | _ | _ | _ | _ | _ | _ | _ | _ | _ | _ | _ | _ | _ | _ | _ | n <;> first | rfl | omega
theorem mask_u8 (c : Nat) (h : c < 256) : bits .and .u8 (c : Int) 15 = ((c % 16 : Nat) : Int) := by
  have : ∀ c : Fin 256, bits .and .u8 (c.val : Int) 15 = ((c.val % 16 : Nat) : Int) := by decide +kernel
  exact this ⟨c, h⟩
section
variable {P : Program} {ops : Array Oper} {rest : List Oper} {o : Oper} {a : Act} {w : World}
theorem run_indexS {T : TypeId} (hu : P.underlying T = some .string) (s : ByteArray) (k : IntKind) (j : Int) (n : Nat) (hj : j = (n : Int)) (b : UInt8) (hb : s[n]? = some b) (w : World) :
    (Instr.index T (.string s) (.int k j)).run P w = .ok (.int .u8 b.toNat) w := by
  subst hj
  have h0 : (0 : Int) ≤ (n : Int) := by omega
  simp [Instr.index, asIntOf, run_underlying hu, hb]
theorem wpStill_indexS {Q : Act → Prop} (hg : o.guard = none) (T : TypeId) (x i : Operand) (hop : o.op = .index T x i) (hu : P.underlying T = some .string) (s : ByteArray) (hx : a.eval x = .string s) (k : IntKind) (j : Int) (hi : a.eval i = .int k j) (n : Nat) (hj : j = (n : Int)) (b : UInt8) (hb : s[n]? = some b)
    (h : wpStill P ops w Q rest (a.put o.dst (.int .u8 b.toNat))) : wpStill P ops w Q (o :: rest) a := by
  subst hj
  refine wpStill_val hg ?_ h
  have h0 : (0 : Int) ≤ (n : Int) := by omega
  simp [execOp, hop, hx, hi, Instr.index, asIntOf, run_underlying hu, hb]
end
section
variable {P : Program}
/-- append onto a slice of the call's own, as one step of a region that draws. -/
theorem step_append_own {w : World} {ops : Array Oper} {o : Oper} {a : Act} {K : Act → World → Prop} {Q : Exit → Act → World → Prop} {E : Prop} (hgd : o.guard = none) (s x : Operand) (t : TypeId)
    (ho : o.op = .call { callee := .builtin .append, args := #[s, x], argTypes := #[t, t] })
    (base : Nat) (e : TypeId) (i : TypeInfo) (z : Value) (size bytes : Nat) (ht : P.underlying t = some (.slice e)) (hi : P.info? e = some i) (hz : i.zero = some z)
    (hsize : i.size = size) (hby : i.bytes = bytes) (hzs : z.cells.size = size) (hsz : 0 < size)
    (v : Value) (n : Nat) (xs : List Value) (hs : a.eval s = v) (hown : w.ownsRow base e size v n xs)
    (ad : Addr) (m c : Nat) (news : List Value) (hx : a.eval x = .slice (some ad) m c) (hl : news.length = m * size) (hnews : ∀ j u, news[j]? = some u → w.cell? (ad.add j) = some u) (h1 : ∀ u ∈ news, u.oneCell' = true)
    (h63 : n + m ≤ maxLen) (hbytes : (n + m) * bytes ≤ 140737488355328) (hbase : base ≤ w.heap.size)
    (h : ∀ v' w', w'.ownsRow base e size v' (n + m) (xs ++ news) → w.grownBy w' v.ownBlock → (v' = .slice none 0 0 ↔ v = .slice none 0 0 ∧ m = 0) → K (a.put o.dst v') w') :
    if Region.wanted o (yielded ops a.tmps) = true then Oper.wp P o a w K Q else E := by
  rw [if_pos (by simp [Region.wanted, hgd])]
  exact wp_append_own w s x t ho base e i z size bytes ht hi hz hsize hby hzs hsz v n xs hs hown ad m c news hx hl hnews h1 h63 hbytes hbase h
end
/-- string(b), of bytes of the call's own. -/
theorem own_toString {P : Program} {src e dst : TypeId} (hs : P.underlying src = some (.slice e)) (he : P.underlying e = some (.int .u8)) (hd : P.underlying dst = some .string) {w : World} {B : Nat} {T : TypeId} {v : Value} {n : Nat} {s : List UInt8} (h : w.ownsRow B T 1 v n (cel s)) :
    (convert src dst v).run P w = .ok (.string ⟨s.toArray⟩) w := by
  have hl : s.length = n := by have := h.1; rw [cel_length] at this; omega
  rcases h.2 with ⟨rfl, rfl⟩ | ⟨g, cap, cur, rfl, _, hg, h1, h2, h3, h4⟩
  · obtain rfl : s = [] := List.eq_nil_of_length_eq_zero hl
    exact run_convert_bytes_nil w src e hs he 0 0 dst hd
  · refine run_toString hs he hd g 0 cap s n hl (fun j v hv => ?_)
    rw [Nat.zero_add, box_cell hg]
    have : (cur.toList.take (n * 1))[j]? = some v := by rw [h4]; exact hv
    rw [List.getElem?_take] at this
    split at this
    · simpa using this
    · cases this
section
variable {P : Program} {ops : Array Oper} {rest : List Oper} {o : Oper} {a : Act} {w : World} {Q : Exit → Act → World → Prop}
theorem wL_ownString (hg : o.guard = none) (src dst e : TypeId) (x : Operand) (hop : o.op = .convert src dst x) (hs : P.underlying src = some (.slice e)) (he : P.underlying e = some (.int .u8)) (hd : P.underlying dst = some .string)
    (v : Value) (hx : a.eval x = v) (B : Nat) (T : TypeId) (n : Nat) (s : List UInt8) (hown : w.ownsRow B T 1 v n (cel s)) (h : wpList P ops Q rest (a.put o.dst (.string ⟨s.toArray⟩)) w) : wpList P ops Q (o :: rest) a w := by
  subst hx
  refine wpList_val hg ?_ h
  simp [execOp, hop, own_toString hs he hd hown]
end
set_option maxRecDepth 100000 in
set_option maxHeartbeats 2000000 in
theorem hex_calls (w : World) (ad : Option Addr) (cap : Nat) (m : List UInt8) (hm : Reads w ad cap m) (hb0 : m.length ≤ 35184372088832) :
    Calls Tryd.prog 12 #[.slice ad m.length cap] w fun e w' => e = .returned (.string ⟨(hexB m).toArray⟩) ∧ Fr [] w w' := by
  obtain ⟨i0, hi, hz0, hz1, hz2⟩ := info_parts Tryd.info5
  have hb : Hid (i0.bytes * (2 * m.length) ≤ 281474976710656) := Lib.hid (by rw [hz2]; omega)
  have HI := Lib.hid hi; have HZ0 := Lib.hid hz0; have HZ1 := Lib.hid hz1; have HZ2 := Lib.hid hz2; clear hi hz0 hz1 hz2
  obtain ⟨hle, hbig, _, hnil, hat⟩ := hm
  have HAT := Lib.hid hat; clear hat
  have HNIL := Lib.hid hnil; clear hnil
  obtain ⟨n, hn⟩ : ∃ n, m.length = n := ⟨_, rfl⟩
  have HN := Lib.hid hn
  rw [hn] at hle hb hb0 ⊢
  clear hn
  go_enter Tryd.func12, Tryd.ntmps12
  go_wp2_with (first
    | (at_make; refine wpList_make_own _ rfl _ _ 23 rfl w.heap.size 5 i0 (.int .u8 0) 1 Tryd.underlying23 HI.out HZ0.out HZ1.out .i64 .i64 (2 * (n : Int)) (2 * n) rfl rfl (by omega) hb.out (by unfold maxLen; omega) (Nat.le_refl _) ?_)
    | fail)
  intro w2 hown hgrow
  have hF2 : Fr [] w w2 := (Fr.refl [] w).grown hgrow (by simp)
  have HO2 := Lib.hid hown; have HF2 := Lib.hid hF2; clear hown hgrow hF2
  go_wp2_with fail
  go_loopw [3, 12] (fun v3 v12 wr => ∃ k : Nat, k ≤ n ∧ v12 = .int .i64 k ∧ wr.ownsRow w.heap.size 5 1 v3 (2 * k) (cel (hexB (m.take k))) ∧ Fr [] w wr) (fun _ v12 _ => n - (intOf v12).toNat)
  case atStart => exact ⟨0, by omega, rfl, HO2.out, HF2.out⟩
  case round =>
    clear HO2 HF2
    obtain ⟨k, hk, rfl, hown, hfr⟩ := hrel
    by_cases hlt : k < n
    · have hz : ¬ ad = none := fun h => by have := HNIL.out h; omega
      obtain ⟨a, rfl⟩ : ∃ a, ad = some a := by cases ad with | none => exact absurd rfl hz | some a => exact ⟨a, rfl⟩
      obtain ⟨b, off, rfl, hbs⟩ := HAT.out a rfl (by rw [HN.out]; omega)
      clear hz
      have hcell := hbs.cell (j := k) (by rw [HN.out]; exact hlt)
      have hcw : wr.cell? ⟨b, off + k, none⟩ = some (.int .u8 (m.getD k 0).toNat) := by
        rw [World.cell?_of_block (w := w) (hfr.block b (World.block_lt_of_cell? _ _ hcell) (by simp))]; exact hcell
      have hsn := hexB_snoc m k (by rw [HN.out]; exact hlt)
      obtain ⟨x, hx⟩ : ∃ x, m.getD k 0 = x := ⟨_, rfl⟩
      rw [hx] at hcw hsn
      clear hx hcell hbs
      have hlt8 := x.toNat_lt
      have hmk := mask_u8 x.toNat (by omega)
      have hd1 := digs_get (x.toNat / 16) (by omega)
      have hd2 := digs_get (x.toNat % 16) (by omega)
      have hho : hexOf x = [hexD (x.toNat / 16), hexD (x.toNat % 16)] := rfl
      generalize hexD (x.toNat / 16) = y1 at *
      generalize hexD (x.toNat % 16) = y2 at *
      have hnc := new_cells wr (cel (hexOf x)) 5
      rw [hho] at hnc hsn
      have hsz := hfr.size
      have HD1 := Lib.hid hd1; have HD2 := Lib.hid hd2; have HSN := Lib.hid hsn; have HNC := Lib.hid hnc; have HOW := Lib.hid hown; have HFR := Lib.hid hfr
      clear hd1 hd2 hsn hnc hown hfr hho
      obtain ⟨c, hc⟩ : ∃ c, x.toNat = c := ⟨_, rfl⟩
      rw [hc] at hcw hmk hlt8 HD1 HD2
      clear hc
      have hx1 : ∀ w, (Instr.index 9 (.string ⟨#[48, 49, 50, 51, 52, 53, 54, 55, 56, 57, 97, 98, 99, 100, 101, 102]⟩) (.int .u8 ((c : Int) / 16))).run Tryd.prog w = .ok (.int .u8 y1.toNat) w := fun w => run_indexS Tryd.underlying9 digs .u8 ((c : Int) / 16) (c / 16) rfl y1 HD1.out w
      have hx2 : ∀ w, (Instr.index 9 (.string ⟨#[48, 49, 50, 51, 52, 53, 54, 55, 56, 57, 97, 98, 99, 100, 101, 102]⟩) (.int .u8 ((c : Int) % 16))).run Tryd.prog w = .ok (.int .u8 y2.toNat) w := fun w => run_indexS Tryd.underlying9 digs .u8 ((c : Int) % 16) (c % 16) rfl y2 HD2.out w
      go_wp2_with fail
      go_region_law (refine step_append_own rfl (.tmp 16) (.tmp 23) 23 rfl w.heap.size 5 i0 (.int .u8 0) 1 1 Tryd.underlying23 HI.out HZ0.out HZ1.out HZ2.out rfl (by decide) _ _ _ rfl (HOW.out.alloc _) ⟨wr.heap.size, 0, none⟩ 2 2 [.int .u8 y1.toNat, .int .u8 y2.toNat] rfl rfl HNC.out (fun u hu => by simp at hu; rcases hu with rfl | rfl <;> rfl) (by unfold maxLen; omega) (by omega) (by simp; omega) ?_; intro v' w1 hown' hgrow _)
      all_goals
        have HFa := Lib.hid (((HFR.out.alloc _).drew).grew (HOW.out.alloc _) hgrow (Nat.le_refl _))
        have ho' : w1.ownsRow w.heap.size 5 1 v' (2 * (k + 1)) (cel (hexB (m.take (k + 1)))) := by
          rw [HSN.out, cel_append]; exact hown'
        have HOa := Lib.hid ho'
        clear hgrow hown' ho' hx1 hx2
        go_wp2_with fail
        go_roundw
        case rel => exact ⟨k + 1, by omega, by go_num, HOa.out, HFa.out⟩
        case measure => simp [intOf]; omega
    · obtain rfl : k = n := by omega
      rw [List.take_of_length_le (by rw [HN.out]; exact Nat.le_refl _)] at hown
      have HOW := Lib.hid hown; have HFR := Lib.hid hfr; clear hown hfr
      go_wp2_with (first
        | ((with_reducible_and_instances refine id (α := wpList _ _ _ (⟨some 27, .convert _ _ _, _, _, _, _⟩ :: _) _ _) ?_); refine wL_ownString rfl 23 9 5 (.tmp 26) rfl Tryd.underlying23 Tryd.underlying5 Tryd.underlying9 _ rfl _ _ _ _ HOW.out ?_)
        | fail)
      go_ret
      exact ⟨rfl, HFR.out⟩
end Go.Proofs.YthegllpmefilkaaDoor

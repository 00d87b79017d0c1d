/-
  wal: WalLasts: a round's call in a life.
-/
import Derived.Test.YtoifpbifipgpkaaWlA
import Derived.Test.YtoifpbifipgpkaaWp4
import Derived.Test.YtoifpbifipgpkaaWpRow
import Derived.Test.YtoifpbifipgpkaaMask
import Derived.Deep.CutBlock
import Derived.Deep.RegionHeld3
import Derived.Maps.AppendAt
set_option linter.unusedVariables false
set_option linter.unusedSimpArgs false
namespace Go.Proofs.Ytoifpbifipgpkaa
open Go.RowKit Go.MapKept
section
variable {P : Program} {ops : Array Oper} {rest : List Oper} {o : Oper} {a : Act} {Q : Exit → Act → World → Prop} {w : World}
theorem wL_append (hg : o.guard = none) (s x : Operand) (t : TypeId) (ho : o.op = .call { callee := .builtin .append, args := #[s, x], argTypes := #[t, t] })
    (base : Nat) (e : TypeId) (i : TypeInfo) (z : Value) (size bytes : Nat) (ht : P.underlying t = some (.slice e)) (hi : P.info? e = some i) (hz : i.zero = some z)
    (hsize : i.size = size) (hby : i.bytes = bytes) (hzs : z.cells.size = size) (hsz : 0 < size)
    (v : Value) (n : Nat) (xs : List Value) (hs : a.eval s = v) (hown : w.ownsRow base e size v n xs)
    (ad : Addr) (m c : Nat) (news : List Value) (hx : a.eval x = .slice (some ad) m c) (hl : news.length = m * size) (hnews : ∀ j u, news[j]? = some u → w.cell? (ad.add j) = some u) (h1 : ∀ u ∈ news, u.oneCell' = true)
    (h63 : n + m ≤ maxLen) (hbytes : (n + m) * bytes ≤ 140737488355328) (hbase : base ≤ w.heap.size)
    (h : ∀ v' w', w'.ownsRow base e size v' (n + m) (xs ++ news) → w.grownBy w' v.ownBlock → (v'.ownBlock = v.ownBlock ∨ v'.ownBlock = some w.heap.size) → wpList P ops Q rest (a.put o.dst v') w') : wpList P ops Q (o :: rest) a w := by
  obtain ⟨v', w', hr, h2, h3, h4, h5⟩ := run_append_own_at (P := P) w base t o.type e i z size bytes ht hi hz hsize hby hzs hsz v n xs hown ad m c news hl hnews h1 h63 hbytes hbase
  refine wpList_val hg ?_ (h v' w' h2 h3 h5)
  simp only [execOp, ho, resolve, invoke, builtin, Sem.run_bind, Sem.run_pure, Result.andThen_ok, List.map_toArray, List.map_cons, List.map_nil, hs, hx, hr]
end
def blkL (k : Nat) : Code → Option Code
  | .block j c => if j = k then some c else blkL k c
  | .seq a b => match blkL k a with
    | some c => some c
    | none => blkL k b
  | .loop c => blkL k c
  | .cond _ a b => match blkL k a with
    | some c => some c
    | none => blkL k b
  | _ => none
noncomputable def lfB (k : Nat) : Code := ((Try.f28.body.bind (blkL k)).getD .skip)
theorem arrK_lit (F : Nat → Nat) : arrK F = #[Value.int .i64 (F 0 : Int), Value.int .i64 (F 1 : Int), Value.int .i64 (F 2 : Int), Value.int .i64 (F 3 : Int), Value.int .i64 (F 4 : Int), Value.int .i64 (F 5 : Int), Value.int .i64 (F 6 : Int), Value.int .i64 (F 7 : Int), Value.int .i64 (F 8 : Int), Value.int .i64 (F 9 : Int), Value.int .i64 (F 10 : Int), Value.int .i64 (F 11 : Int), Value.int .i64 (F 12 : Int), Value.int .i64 (F 13 : Int), Value.int .i64 (F 14 : Int), Value.int .i64 (F 15 : Int)] := rfl
theorem foldK (F : Nat → Nat) : Array.foldl (fun (cs : Array Value) (x : Value × Nat) => cs.setIfInBounds x.snd x.fst) #[Value.int .i64 0, Value.int .i64 0, Value.int .i64 0, Value.int .i64 0, Value.int .i64 0, Value.int .i64 0, Value.int .i64 0, Value.int .i64 0, Value.int .i64 0, Value.int .i64 0, Value.int .i64 0, Value.int .i64 0, Value.int .i64 0, Value.int .i64 0, Value.int .i64 0, Value.int .i64 0] (arrK F).zipIdx 0 (arrK F).size = arrK F := by
  rw [arrK_lit]
  simp [List.zipIdx]
theorem foldK16 (F : Nat → Nat) : Array.foldl (fun (cs : Array Value) (x : Value × Nat) => cs.setIfInBounds x.snd x.fst) #[Value.int .i64 0, Value.int .i64 0, Value.int .i64 0, Value.int .i64 0, Value.int .i64 0, Value.int .i64 0, Value.int .i64 0, Value.int .i64 0, Value.int .i64 0, Value.int .i64 0, Value.int .i64 0, Value.int .i64 0, Value.int .i64 0, Value.int .i64 0, Value.int .i64 0, Value.int .i64 0] (arrK F).zipIdx 0 16 = arrK F := by
  have := foldK F
  rw [arrK_size] at this
  exact this
theorem zeroK (w : World) : (zeroValue 49).run Try.prog w = .ok (.agg #[Value.int .i64 0, Value.int .i64 0, Value.int .i64 0, Value.int .i64 0, Value.int .i64 0, Value.int .i64 0, Value.int .i64 0, Value.int .i64 0, Value.int .i64 0, Value.int .i64 0, Value.int .i64 0, Value.int .i64 0, Value.int .i64 0, Value.int .i64 0, Value.int .i64 0, Value.int .i64 0]) w := by kernel_rfl
theorem Try.infoK : (Try.prog.info? 49).map (fun i => (i.zero, i.size, i.bytes)) = some (some (.agg #[Value.int .i64 0, Value.int .i64 0, Value.int .i64 0, Value.int .i64 0, Value.int .i64 0, Value.int .i64 0, Value.int .i64 0, Value.int .i64 0, Value.int .i64 0, Value.int .i64 0, Value.int .i64 0, Value.int .i64 0, Value.int .i64 0, Value.int .i64 0, Value.int .i64 0, Value.int .i64 0]), 16, 128) := by kernel_rfl
def kRow (A : Nat) (now : Nat → Nat) : Nat × Obj := (A, .cells (arrK now) 49 (0, 0))
/-- The states, one behind the other. -/
def flatK (σ : Nat → Nat → Nat) : Nat → List Value
  | 0 => []
  | n + 1 => flatK σ n ++ (arrK (σ n)).toList
theorem flatK_len (σ : Nat → Nat → Nat) : ∀ n, (flatK σ n).length = n * 16
  | 0 => rfl
  | n + 1 => by simp only [flatK, List.length_append, flatK_len σ n, Array.length_toList, arrK_size]; omega
theorem flatK_get (σ : Nat → Nat → Nat) : ∀ n j q, j < n → q < 16 → (flatK σ n)[j * 16 + q]? = some (.int .i64 (σ j q))
  | 0, j, q, h, _ => by omega
  | n + 1, j, q, h, hq => by
    simp only [flatK]
    by_cases e : j < n
    · rw [List.getElem?_append_left (by rw [flatK_len]; omega)]
      exact flatK_get σ n j q e hq
    · obtain rfl : j = n := by omega
      rw [List.getElem?_append_right (by rw [flatK_len]; omega), flatK_len, show j * 16 + q - j * 16 = q by omega]
      have := arrK_get (σ j) hq
      simpa using this
theorem flatK_congr {σ σ' : Nat → Nat → Nat} : ∀ n, (∀ j, j < n → σ' j = σ j) → flatK σ' n = flatK σ n
  | 0, _ => rfl
  | n + 1, h => by simp only [flatK]; rw [flatK_congr n (fun j hj => h j (by omega)), h n (by omega)]
structure SRow (σ : Nat → Nat → Nat) (cnt cap : Nat) (cur : Array Value) : Prop where
  size : cur.size = cap * 16
  le : cnt + 1 ≤ cap
  max : cap ≤ maxLen
  row : cur.toList.take ((cnt + 1) * 16) = flatK σ (cnt + 1)
def gRow (g : Nat) (cur : Array Value) : Nat × Obj := (g, .cells cur 49 (0, 0))
theorem SRow.range {σ : Nat → Nat → Nat} {cnt cap : Nat} {cur : Array Value} (h : SRow σ cnt cap cur) {w : World} {g : Nat} (hb : w.heap[g]? = some (.cells cur 49 (0, 0))) {j : Nat} (hj : j ≤ cnt) : w.rangeAt g (j * 16) (arrK (σ j)).toList := fun q v hv => by
  have hq : q < 16 := by have := (List.getElem?_eq_some_iff.1 hv).1; simpa [arrK_size] using this
  rw [box_cell hb]
  have h1 := flatK_get σ (cnt + 1) j q (by omega) hq
  rw [← h.row, List.getElem?_take_of_lt (by omega)] at h1
  have h2 := arrK_get (σ j) hq
  have h3 : (arrK (σ j)).toList[q]? = some (.int .i64 (σ j q)) := by simpa using h2
  rw [h3] at hv
  cases hv
  simpa using h1
theorem SRow.own {σ : Nat → Nat → Nat} {cnt cap : Nat} {cur : Array Value} (h : SRow σ cnt cap cur) {w : World} {g B : Nat} (hb : w.heap[g]? = some (.cells cur 49 (0, 0))) (hB : B ≤ g) : w.ownsRow B 49 16 (.slice (some ⟨g, 0, none⟩) (cnt + 1) cap) (cnt + 1) (flatK σ (cnt + 1)) :=
  ⟨flatK_len _ _, .inr ⟨g, cap, cur, rfl, hB, hb, h.le, h.max, h.size, h.row⟩⟩
set_option maxRecDepth 1000000 in
set_option maxHeartbeats 16000000 in
theorem swL {s2 s3 s4 s5 s6 s7 s8 s9 s10 s11 s15 s17 s18 s19 s20 s21 s22 s23 s24 s25 s26 s27 s28 s29 s30 s31 s32 s33 s34 s35 s36 s37 s38 s39 s40 s41 s42 s43 s44 s45 s47 s48 s49 s50 s51 s52 s53 s54 s55 s56 s57 s58 s59 s60 s61 s62 s63 s64 s65 s66 s67 s68 s69 s70 s71 s72 s73 s74 s75 s76 s77 s78 s79 s80 s81 s82 s83 s84 s85 s86 s87 s88 s89 s90 s91 s92 s93 s94 s95 s96 s97 s98 s99 s100 s101 s102 s103 s104 s105 s106 s107 : Value} {Q : Exit → Act → World → Prop} (w wr : World) (p s A O g cap B : Nat) (cur : Array Value) (σ : Nat → Nat → Nat) (cnt least : Nat) (now : Nat → Nat) (kind vi va vsz : Int) (vflip : Bool) (vla : Option Addr) (vll vlc : Nat) (hne : O ≠ A ∧ O ≠ g ∧ A ≠ g) (hgw : w.heap.size ≤ g ∧ w.heap.size ≤ A) (hB : B ≤ 1000000) (hcnt : cnt ≤ 1000) (hleast : least ≤ cnt)
    (hkn : ∀ q, now q ≤ 256) (hks : ∀ j q, σ j q ≤ 256) (hS : SRow σ cnt cap cur)
    (hA : LfAt w [(O, oObj kind vi va vsz vflip vla vll vlc), gRow g cur, kRow A now] p s B σ cnt least now false wr)
    (hout : ∀ (u17 u47 u48 u49 u50 u51 u52 u53 u54 u55 u56 u57 u58 u59 u60 u61 u62 u63 u64 u65 u66 u67 u68 u69 u70 u71 u72 u73 u74 u75 u76 u77 u78 u79 u80 u81 u82 u83 u84 u85 u86 u87 u88 u89 u90 u91 u92 u93 u94 : Value) (w' : World) (g' cap' : Nat) (cur' : Array Value) (σ' : Nat → Nat → Nat) (cnt' least' : Nat) (now' : Nat → Nat) (dead' : Bool), cnt' ≤ cnt + 1 → least' ≤ cnt' → (∀ q, now' q ≤ 256) → (∀ j q, σ' j q ≤ 256) → A ≠ g' → w.heap.size ≤ g' → SRow σ' cnt' cap' cur' → LfAt w [gRow g' cur', kRow A now'] p s (B + 2000) σ' cnt' least' now' dead' w' → Q .normal ⟨#[.pointer (some ⟨p, 0, none⟩), .pointer (some ⟨s, 0, none⟩), s2, s3, s4, s5, s6, s7, s8, s9, s10, s11, .slice (some ⟨g', 0, none⟩) (cnt' + 1) cap', .pointer (some ⟨A, 0, none⟩), .int .i64 (least' : Int), s15, .pointer (some ⟨O, 0, none⟩), u17, s18, s19, s20, s21, s22, s23, s24, s25, s26, s27, s28, s29, s30, s31, s32, s33, s34, s35, s36, s37, s38, s39, s40, s41, s42, s43, s44, s45, .int .i64 kind, u47, u48, u49, u50, u51, u52, u53, u54, u55, u56, u57, u58, u59, u60, u61, u62, u63, u64, u65, u66, u67, u68, u69, u70, u71, u72, u73, u74, u75, u76, u77, u78, u79, u80, u81, u82, u83, u84, u85, u86, u87, u88, u89, u90, u91, u92, u93, u94, s95, s96, s97, s98, s99, s100, s101, s102, s103, s104, s105, s106, s107], []⟩ w') :
    (Code.block 2 (lfB 2)).wp Try.prog Q ⟨#[.pointer (some ⟨p, 0, none⟩), .pointer (some ⟨s, 0, none⟩), s2, s3, s4, s5, s6, s7, s8, s9, s10, s11, .slice (some ⟨g, 0, none⟩) (cnt + 1) cap, .pointer (some ⟨A, 0, none⟩), .int .i64 (least : Int), s15, .pointer (some ⟨O, 0, none⟩), s17, s18, s19, s20, s21, s22, s23, s24, s25, s26, s27, s28, s29, s30, s31, s32, s33, s34, s35, s36, s37, s38, s39, s40, s41, s42, s43, s44, s45, .int .i64 kind, s47, s48, s49, s50, s51, s52, s53, s54, s55, s56, s57, s58, s59, s60, s61, s62, s63, s64, s65, s66, s67, s68, s69, s70, s71, s72, s73, s74, s75, s76, s77, s78, s79, s80, s81, s82, s83, s84, s85, s86, s87, s88, s89, s90, s91, s92, s93, s94, s95, s96, s97, s98, s99, s100, s101, s102, s103, s104, s105, s106, s107], []⟩ wr := by
  conv => arg 2; arg 2; whnf
  have HOUT := Lib.hid hout; have HA := Lib.hid hA; have HS := Lib.hid hS; have HKN := Lib.hid hkn; have HKS := Lib.hid hks
  have hO : wr.heap[O]? = some (.cells #[.int .i64 kind, .int .i64 vi, .int .i64 va, .int .i64 vsz, .bool vflip, .slice vla vll vlc] 51 (0, 0)) := hA.keep (O, oObj kind vi va vsz vflip vla vll vlc) (by simp)
  have HO := Lib.hid hO
  clear hout hA hS hkn hks hO
  by_cases c0 : kind = 0
  · subst c0
    obtain ⟨k0, hk0, hke⟩ : ∃ k0 : Nat, k0 < 256 ∧ bits .and .i64 va 255 = (k0 : Int) := ⟨(va % 256).toNat, by omega, by rw [mask255]; omega⟩
    obtain ⟨i, hi16, hie⟩ : ∃ i : Nat, i < 16 ∧ bits .and .i64 vi 15 = (i : Int) := ⟨(vi % 16).toNat, by omega, by rw [mask15]; omega⟩
    have hw1 : IntKind.i64.wrap ((k0 : Int) + 1) = (k0 : Int) + 1 := IntWalk.i64_in _ (by omega)
    have HSEC := Lib.hid (secK (k := k0 + 1) (z := (k0 : Int) + 1) (by omega) (by omega) (by omega))
    have hsz := HA.out.fr.size
    have HG2 : Hid (∀ (w2 : World) (g2 : Nat), Fr [] wr w2 → wr.heap.size ≤ g2 → g2 < w2.heap.size → ∃ o, LfAt w [(g2, o), (O, oObj 0 vi va vsz vflip vla vll vlc), gRow g cur, kRow A now] p s B σ cnt least now false w2) := Lib.hid (fun w2 g2 hf hg1 hg2 => ⟨_, HA.out.regard hf (by simp) ((g2, w2.heap[g2]) :: [(O, oObj 0 vi va vsz vflip vla vll vlc), gRow g cur, kRow A now]) (fun y hy => by
      rcases List.mem_cons.1 hy with rfl | hy
      · exact ⟨Array.getElem?_eq_getElem hg2, .inl hg1⟩
      · exact ⟨hf.keep (HA.out.keep y hy) (by simp), .inr ⟨y, hy, rfl⟩⟩)⟩)
    have i1 : (0 : Int) ≤ (i : Int) := by omega
    have i2 : (i : Int) < 16 := by omega
    have i3 : ((i : Int)).toNat = i := by omega
    have hco := box_cell HO.out
    go_wp2_with fail
    have hkd : wr.drew.cell? ⟨O, 1, none⟩ = some (.int .i64 vi) ∧ wr.drew.cell? ⟨O, 2, none⟩ = some (.int .i64 va) := ⟨(box_cell (w := wr.drew) HO.out 1).trans rfl, (box_cell (w := wr.drew) HO.out 2).trans rfl⟩
    obtain ⟨hk1, hk2⟩ := hkd
    have hkc := And.intro hk1 hk2
    go_region_held3 (fun w' => w'.cell? ⟨O, 1, none⟩ = some (.int .i64 vi) ∧ w'.cell? ⟨O, 2, none⟩ = some (.int .i64 va))
      (exact hkc)
      (first
        | (go_at_call 14; (with_reducible refine (HSEC.out _).mono ?_); rintro e w2 ⟨g2, cap2, rfl, hf2, hg1, hg2, hr2, _, _, _⟩; have hq : Fr [] wr w2 := ((Fr.refl [] wr).drew).trans hf2; have hkc : w2.cell? ⟨O, 1, none⟩ = some (.int .i64 vi) ∧ w2.cell? ⟨O, 2, none⟩ = some (.int .i64 va) := ⟨(box_cell (hq.keep HO.out (by simp)) 1).trans rfl, (box_cell (hq.keep HO.out (by simp)) 2).trans rfl⟩; have HR2 := Lib.hid hr2; have HE2 := Lib.hid (HG2.out w2 g2 hq hg1 hg2))
        | (go_at_call 13; obtain ⟨o2, hA2⟩ := HE2.out; (with_reducible refine (lf_write hA2 i hi16 g2 cap2 o2 (by simp) (k0 + 1) HR2.out).mono ?_); rintro e w3 ⟨rfl, hA3⟩; have hkc : w3.cell? ⟨O, 1, none⟩ = some (.int .i64 vi) ∧ w3.cell? ⟨O, 2, none⟩ = some (.int .i64 va) := ⟨(box_cell (hA3.keep (O, oObj 0 vi va vsz vflip vla vll vlc) (by simp)) 1).trans rfl, (box_cell (hA3.keep (O, oObj 0 vi va vsz vflip vla vll vlc) (by simp)) 2).trans rfl⟩; have HA3 := Lib.hid hA3))
    all_goals
      have hk1 := hkc.1
      have hk2 := hkc.2
      have hgr : w3.heap[g]? = some (.cells cur 49 (0, 0)) := HA3.out.keep (gRow g cur) (by simp)
      have hra : w3.heap[A]? = some (.cells (arrK now) 49 (0, 0)) := HA3.out.keep (kRow A now) (by simp)
      have hza : w3.cell? ⟨A, i, none⟩ = some (.int .i64 (now i)) := (box_cell hra i).trans (arrK_get now hi16)
      have hfz := box_free hra i
      have hone : Fr [A] w3 (w3.setCell ⟨A, i, none⟩ (.int .i64 ((k0 : Int) + 1))) := (Fr.refl _ _).setCell (.inl (by simp)) _
      have hset := box_set hra i (.int .i64 ((k0 + 1 : Nat) : Int))
      rw [arrK_set now hi16] at hset
      have hset' : (w3.setCell ⟨A, i, none⟩ (.int .i64 ((k0 : Int) + 1))).heap[A]? = some (.cells (arrK fun j => if j = i then k0 + 1 else now j) 49 (0, 0)) := hset
      have HW := Lib.hid ((HA3.out.regard hone (fun x hx => .inr (by simp at hx; subst hx; exact ⟨kRow x now, by simp, rfl, hgw.2⟩)) [gRow g cur, kRow A (fun j => if j = i then k0 + 1 else now j)] (fun y hy => by
        rcases List.mem_cons.1 hy with rfl | hy
        · exact ⟨hone.keep hgr (by simpa [gRow] using fun e => hne.2.2 e.symm), .inr ⟨gRow g cur, by simp, rfl⟩⟩
        · rcases List.mem_cons.1 hy with rfl | hy
          · exact ⟨hset', .inr ⟨kRow A now, by simp, rfl⟩⟩
          · cases hy)).more (B' := B + 2000) (by omega))
      clear hgr hra hone hset hset' HA3
      go_wp2_with fail
      exact HOUT.out _ _ _ _ _ _ _ _ _ _ _ _ _ _ _ _ _ _ _ _ _ _ _ _ _ _ _ _ _ _ _ _ _ _ _ _ _ _ _ _ _ _ _ _ _ _ _ _ _ _ g cap cur σ cnt least (fun j => if j = i then k0 + 1 else now j) false (by omega) hleast (fun q => by have := HKN.out q; show (if q = i then k0 + 1 else now q) ≤ 256; split <;> omega) HKS.out hne.2.2 hgw.1 HS.out HW.out
  · have k0 : (kind == 0) = false := beq_eq_false_iff_ne.2 c0
    by_cases c1 : kind = 1
    · subst c1
      obtain ⟨i0, hi, hz0, hz1, hz2⟩ := info_parts Try.infoK
      have HI0 := Lib.hid hi; have HZ0 := Lib.hid hz0; have HZ1 := Lib.hid hz1; have HZ2 := Lib.hid hz2
      have hgr := HA.out.keep (gRow g cur) (by simp)
      have hra := HA.out.keep (kRow A now) (by simp)
      have HRA := Lib.hid (arrK_range hra)
      have hfa : Fr [] wr (wr.alloc (.cells (arrK now) 49)) := (Fr.refl [] wr).alloc _
      have hnb := heap_alloc_new wr (.cells (arrK now) 49)
      have HOWN := Lib.hid (HS.out.own (B := w.heap.size) (hfa.keep hgr (by simp)) hgw.1)
      have HNC : Hid (∀ j u, (arrK now).toList[j]? = some u → (wr.alloc (.cells (arrK now) 49)).cell? ((⟨wr.heap.size, 0, none⟩ : Addr).add j) = some u) := Lib.hid (fun j u hj => by
        rw [Go.WideShapes.add_plain, Nat.zero_add, box_cell hnb]
        simpa using hj)
      have hsz := arrK_size now
      have HFA := Lib.hid hfa
      have hszw := HA.out.fr.size
      have hla := lt_of_heap hra; have hlg := lt_of_heap hgr
      clear hi hz0 hz1 hz2 hgr hra hfa hnb
      go_upto_region 15 with (first
        | ((with_reducible_and_instances refine id (α := wpList _ _ _ (⟨some 71, .load 49 _, _, _, _, _⟩ :: _) _ _) ?_); refine wL_loadMid rfl 49 _ rfl A 0 rfl (arrK now).toList HRA.out 16 3 Try.underlying49 (by simp [Try.size16, arrK_size]) ?_; rw [Array.toArray_toList])
        | ((with_reducible_and_instances refine id (α := wpList _ _ _ (⟨some 73, .call _, _, _, _, _⟩ :: _) _ _) ?_); rw [foldK16]; refine wL_append rfl (.tmp 70) (.tmp 72) 55 rfl w.heap.size 49 i0 _ 16 128 Try.underlying55 HI0.out HZ0.out HZ1.out HZ2.out rfl (by decide) (.slice (some ⟨g, 0, none⟩) (cnt + 1) cap) (cnt + 1) (flatK σ (cnt + 1)) rfl HOWN.out ⟨wr.heap.size, 0, none⟩ 1 1 (arrK now).toList rfl (by simp [arrK_size]) HNC.out (fun u hu => by have := arrK_one now; simp only [Array.all_eq_true'] at this; exact this u (by simpa using hu)) (by unfold maxLen; omega) (by omega) (by simp; omega) ?_; intro v' w2 hown hgrow hat)
        | fail)
      obtain ⟨hlen, ⟨hv, hn0⟩ | ⟨g', cap', cur', rfl, hg'w, hb', hle', hmax', hsize', hrow'⟩⟩ := hown
      · omega
      · have hfl : flatK (addσ σ cnt now) (cnt + 1 + 1) = flatK σ (cnt + 1) ++ (arrK now).toList := by
          show flatK (addσ σ cnt now) (cnt + 1) ++ (arrK (addσ σ cnt now (cnt + 1))).toList = _
          rw [addσ_new, flatK_congr (σ := σ) (cnt + 1) (fun j hj => addσ_old (by omega))]
        have hS' : SRow (addσ σ cnt now) (cnt + 1) cap' cur' := ⟨hsize', hle', hmax', by rw [hfl]; exact hrow'⟩
        have hfg : Fr [g] wr w2 := (HFA.out.mono (by simp)).trans ((Fr.of_grown hgrow).mono (by simp [Value.ownBlock]))
        have hg' : g' = g ∨ g' = wr.heap.size + 1 := by
          rcases hat with h | h
          · left; simpa [Value.ownBlock] using h
          · right; simpa [Value.ownBlock] using h
        have hA2 := HA.out.regard hfg (fun x hx => .inr (by simp at hx; subst hx; exact ⟨gRow x cur, by simp, rfl, hgw.1⟩)) [gRow g' cur', kRow A now] (fun y hy => by
          simp at hy
          rcases hy with rfl | rfl
          · refine ⟨hb', ?_⟩
            rcases hg' with h | h
            · exact .inr ⟨gRow g cur, by simp, h.symm⟩
            · exact .inl (by show wr.heap.size ≤ g'; omega)
          · exact ⟨hfg.keep (HA.out.keep (kRow A now) (by simp)) (by simpa [kRow] using hne.2.2), .inr ⟨kRow A now, by simp, rfl⟩⟩)
        have HC := Lib.hid (lf_commit hA2 (by omega) (by omega))
        have HSN := Lib.hid hS'
        have HAG : Hid (A ≠ g') := Lib.hid (by have := hne.2.2; have : A < wr.heap.size := hla; omega)
        clear hA2 hS' hfl hfg hgrow hat hb' hle' hmax' hsize' hrow' hlen hg'
        go_wp2_with fail
        refine HC.out.mono ?_
        rintro e w3 ⟨code, dead', rfl, hW⟩
        have HW := Lib.hid hW
        clear hW HC
        go_wp2_with fail
        exact HOUT.out _ _ _ _ _ _ _ _ _ _ _ _ _ _ _ _ _ _ _ _ _ _ _ _ _ _ _ _ _ _ _ _ _ _ _ _ _ _ _ _ _ _ _ _ _ _ _ _ _ _ g' cap' cur' (addσ σ cnt now) (cnt + 1) least now dead' (by omega) (by omega) HKN.out (fun j q => by unfold addσ; split; exact HKS.out j q; exact HKN.out q) HAG.out hg'w HSN.out (HW.out.more (by omega))
    · have k1 : (kind == 1) = false := beq_eq_false_iff_ne.2 c1
      by_cases c2 : kind = 2
      · subst c2
        have HC := Lib.hid (lf_abort HA.out)
        have hw1 : IntKind.i64.wrap ((cnt : Int) + 1 - 1) = (cnt : Int) := by rw [show (cnt : Int) + 1 - 1 = (cnt : Int) by omega]; exact IntWalk.i64_in _ (by omega)
        have hc1 : (cnt : Int) < (cnt : Int) + 1 := by omega
        have hc2 : (0 : Int) ≤ (cnt : Int) := by omega
        have hc3 : ((cnt : Int)).toNat = cnt := by omega
        go_wp2_with fail
        refine HC.out.mono ?_
        rintro e w2 ⟨rfl, hW⟩
        have hgr := hW.keep (gRow g cur) (by simp)
        have hra := hW.keep (kRow A now) (by simp)
        have HR := Lib.hid (HS.out.range hgr (Nat.le_refl cnt))
        have hfs : Fr [A] w2 (w2.setRow A (arrK (σ cnt))) := (Fr.refl _ _).setRow (.inl (by simp))
        have hW3 := hW.regard hfs (fun x hx => .inr (by simp at hx; subst hx; exact ⟨kRow x now, by simp, rfl, hgw.2⟩)) [gRow g cur, kRow A (σ cnt)] (fun y hy => by
          simp at hy
          rcases hy with rfl | rfl
          · exact ⟨hfs.keep hgr (by simpa [gRow] using fun e => hne.2.2 e.symm), .inr ⟨gRow g cur, by simp, rfl⟩⟩
          · exact ⟨setRow_heap _ _ _ _ _ _ hra, .inr ⟨kRow A now, by simp, rfl⟩⟩)
        have HW3 := Lib.hid hW3; have H2 := Lib.hid hra
        clear hW hgr hra hfs hW3 HC
        go_wp2_with (first
          | ((with_reducible_and_instances refine id (α := wpList _ _ _ (⟨some 85, .load 49 _, _, _, _, _⟩ :: _) _ _) ?_); refine wL_loadMid rfl 49 _ rfl g (cnt * 16) rfl (arrK (σ cnt)).toList HR.out 16 3 Try.underlying49 (by simp [Try.size16, arrK_size]) ?_; rw [Array.toArray_toList])
          | ((with_reducible_and_instances refine id (α := wpList _ _ _ (⟨none, .store 49 _ _, _, _, _, _⟩ :: _) _ _) ?_); refine wL_storeW rfl 49 _ _ rfl A rfl (arrK (σ cnt)) rfl 49 (arrK now) H2.out (by simp [Try.size16, arrK_size]) (by simp [arrK_size]) (arrK_one _) ?_)
          | fail)
        exact HOUT.out _ _ _ _ _ _ _ _ _ _ _ _ _ _ _ _ _ _ _ _ _ _ _ _ _ _ _ _ _ _ _ _ _ _ _ _ _ _ _ _ _ _ _ _ _ _ _ _ _ _ g cap cur σ cnt least (σ cnt) false (by omega) hleast (HKS.out cnt) HKS.out hne.2.2 hgw.1 HS.out (HW3.out.more (by omega))
      · have k2 : (kind == 2) = false := beq_eq_false_iff_ne.2 c2
        by_cases c3 : kind = 3
        · subst c3
          have HC := Lib.hid (lf_sync HA.out (by omega))
          have hw1 : IntKind.i64.wrap ((cnt : Int) + 1 - 1) = (cnt : Int) := by rw [show (cnt : Int) + 1 - 1 = (cnt : Int) by omega]; exact IntWalk.i64_in _ (by omega)
          go_wp2_with fail
          refine HC.out.mono ?_
          rintro e w2 ⟨code, rfl, h1, h2⟩
          have hdrop : ∀ {least' : Nat} {dead' : Bool}, LfAt w [(O, oObj 3 vi va vsz vflip vla vll vlc), gRow g cur, kRow A now] p s (B + 800) σ cnt least' now dead' w2 → LfAt w [gRow g cur, kRow A now] p s (B + 2000) σ cnt least' now dead' w2 := fun hW => (hW.regard (Fr.refl [] w2) (by simp) [gRow g cur, kRow A now] (fun y hy => ⟨hW.keep y (List.mem_cons_of_mem _ hy), .inr ⟨y, List.mem_cons_of_mem _ hy, rfl⟩⟩)).more (by omega)
          by_cases hc : code = 0
          · subst hc
            have HW := Lib.hid (hdrop (h1 rfl))
            clear h1 h2 hdrop HC
            go_wp2_with fail
            exact HOUT.out _ _ _ _ _ _ _ _ _ _ _ _ _ _ _ _ _ _ _ _ _ _ _ _ _ _ _ _ _ _ _ _ _ _ _ _ _ _ _ _ _ _ _ _ _ _ _ _ _ _ g cap cur σ cnt cnt now false (by omega) (Nat.le_refl _) HKN.out HKS.out hne.2.2 hgw.1 HS.out HW.out
          · have hc' : (code == 0) = false := beq_eq_false_iff_ne.2 hc
            have HW := Lib.hid (hdrop (h2 hc))
            clear h1 h2 hdrop HC
            go_wp2_with fail
            exact HOUT.out _ _ _ _ _ _ _ _ _ _ _ _ _ _ _ _ _ _ _ _ _ _ _ _ _ _ _ _ _ _ _ _ _ _ _ _ _ _ _ _ _ _ _ _ _ _ _ _ _ _ g cap cur σ cnt least now true (by omega) hleast HKN.out HKS.out hne.2.2 hgw.1 HS.out HW.out
        · have k3 : (kind == 3) = false := beq_eq_false_iff_ne.2 c3
          have HW := Lib.hid ((HA.out.regard (Fr.refl [] wr) (by simp) [gRow g cur, kRow A now] (fun y hy => ⟨HA.out.keep y (List.mem_cons_of_mem _ hy), .inr ⟨y, List.mem_cons_of_mem _ hy, rfl⟩⟩)).more (B' := B + 2000) (by omega))
          go_wp2_with fail
          exact HOUT.out _ _ _ _ _ _ _ _ _ _ _ _ _ _ _ _ _ _ _ _ _ _ _ _ _ _ _ _ _ _ _ _ _ _ _ _ _ _ _ _ _ _ _ _ _ _ _ _ _ _ g cap cur σ cnt least now false (by omega) hleast HKN.out HKS.out hne.2.2 hgw.1 HS.out HW.out
end Go.Proofs.Ytoifpbifipgpkaa

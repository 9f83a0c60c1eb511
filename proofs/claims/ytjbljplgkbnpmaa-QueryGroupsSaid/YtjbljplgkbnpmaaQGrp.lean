/- Put together out of XGrpPl, XIntMap, XGroups, XRGroups, XQGroupsWalk. -/
import Derived.Test.YtjbljplgkbnpmaaWants
import Derived.Test.YtjbljplgkbnpmaaIdx
import Derived.Test.YtjbljplgkbnpmaaOwn
import Derived.Maps.OwnSet
import Derived.Test.YtjbljplgkbnpmaaLabRP
import Derived.Test.YtjbljplgkbnpmaaQRL
import Derived.Test.YtjbljplgkbnpmaaFV
section SecQGrp0
/- The groups of an index that a query wants, plainly. -/
namespace Go.Proofs.Ytjbljplgkbnpmaa
open Go.RowKit LabPlain RecPlain Stab
set_option linter.unusedVariables false

/-- is a posting's text that of a set that meets the matchers? -/
def hitP (ms : List Mat) (s : ByteArray) : Bool := match setIn s with | none => false | some l => meetsB l ms
/-- how often the first k postings that are hit name a group -/
def namedTo (ms : List Mat) (ps : List PostV) : Nat → Int → Nat
  | 0, _ => 0
  | k + 1, i => namedTo ms ps k i + (if hitP ms (ps.getD k PostS.z).text = true then (ps.getD k PostS.z).gs.count i else 0)
def grpTo (q : QP) (ss : List SpanV) (N : Int → Nat) : Nat → List Int
  | 0 => []
  | k + 1 => grpTo q ss N k ++ (if (decide (0 < N (k : Int)) && (decide ((ss.getD k SpanS.z).fi < q.to) && decide (q.fr ≤ (ss.getD k SpanS.z).la))) = true then [(k : Int)] else [])
def groupsB (q : QP) (ss : List SpanV) (ps : List PostV) : List Int := if qRight q = true then grpTo q ss (namedTo q.ms ps ps.length) ss.length else []
theorem namedTo_le {ms : List Mat} {ps : List PostV} {m : Nat} (h : ∀ p ∈ ps, p.gs.length ≤ m) (i : Int) : ∀ k, k ≤ ps.length → namedTo ms ps k i ≤ k * m
  | 0, _ => Nat.zero_le _
  | k + 1, hk => by
    have h1 := namedTo_le h (ms := ms) i k (by omega)
    have h2 : (ps.getD k PostS.z).gs.count i ≤ m := Nat.le_trans List.count_le_length (h _ (vec_mem (S := PostS) (by omega)))
    rw [namedTo, Nat.succ_mul]
    split <;> omega
theorem count_take (gs : List Int) (i : Int) {j : Nat} (hj : j < gs.length) : (gs.take (j + 1)).count i = (gs.take j).count i + (if gs.getD j 0 = i then 1 else 0) := by
  rw [List.take_add_one, List.getElem?_eq_getElem hj, List.count_append]
  simp [Option.toList, hj, List.count_cons]
theorem grpTo_len (q : QP) (ss : List SpanV) (N : Int → Nat) : ∀ k, (grpTo q ss N k).length ≤ k
  | 0 => Nat.le_refl _
  | k + 1 => by
    have := grpTo_len q ss N k
    rw [grpTo, List.length_append]
    split <;> simp <;> omega
theorem grpTo_wf (q : QP) (ss : List SpanV) (N : Int → Nat) : ∀ k, k ≤ 1000000 → ∀ z ∈ grpTo q ss N k, (Lit.int .i64 z).wf = true
  | 0, _, z, hz => by cases hz
  | k + 1, hk, z, hz => by
    rw [grpTo] at hz
    rcases List.mem_append.1 hz with h | h
    · exact grpTo_wf q ss N k (by omega) z h
    · split at h
      · rw [List.mem_singleton.1 h]; exact WalkArith.wf_i64 (by omega)
      · cases h
end Go.Proofs.Ytjbljplgkbnpmaa
end SecQGrp0
section SecQGrp1
/- A map from integers to numbers, that a call makes, as walks are told of it. -/
namespace Go.Proofs.Ytjbljplgkbnpmaa
open Go.RowKit
open Go.Maps (Keyed int_keyed)
set_option linter.unusedVariables false

theorem im_law : Keyed Try.prog 3 := int_keyed Try.underlying3
theorem im_zero (w : World) : (zeroValue 3).run Try.prog w = .ok (.int .i64 0) w := by kernel_rfl
/-- block M is a map of at most n keys: the number at each integer -/
def IMap (w : World) (M n : Nat) (g : Int → Nat) : Prop :=
  ∃ D : DataW Unit, w.ownsMap Try.prog 3 (plainElem Try.prog 3) M n D ∧ ∀ k, (Lit.int .i64 k).wf = true → D.atKey (.int .i64 k) (.lit (.int .i64 0)) = .lit (.int .i64 ((g k : Nat) : Int))
theorem IMap.made (w : World) : IMap (w.alloc (.map #[] 0)) w.heap.size 0 (fun _ => 0) :=
  ⟨.map [], World.ownsMap_made _ _ _ _, fun k _ => rfl⟩
theorem IMap.same {w w' : World} {M n : Nat} {g : Int → Nat} (h : IMap w M n g) (e : w'.heap[M]? = w.heap[M]?) : IMap w' M n g := by
  obtain ⟨D, ⟨es, clock, hb, F⟩, h2⟩ := h
  exact ⟨D, ⟨es, clock, e.trans hb, F⟩, h2⟩
theorem IMap.lt {w : World} {M n : Nat} {g : Int → Nat} (h : IMap w M n g) : M < w.heap.size := by
  obtain ⟨D, h1, h2⟩ := h
  exact h1.lt
theorem IMap.mono {w : World} {M n n' : Nat} {g : Int → Nat} (h : IMap w M n g) (hn : n ≤ n') : IMap w M n' g := by
  obtain ⟨D, h1, h2⟩ := h
  exact ⟨D, h1.mono hn, h2⟩
/-- 'm[k]' -/
theorem IMap.look {w : World} {M n : Nat} {g : Int → Nat} (h : IMap w M n g) {k : Int} (hk : (Lit.int .i64 k).wf = true) :
    (Instr.lookup 129 (.map (some M)) (.int .i64 k) false).run Try.prog w = .ok (.int .i64 ((g k : Nat) : Int)) w := by
  obtain ⟨D, h1, h2⟩ := h
  obtain ⟨c, hrun, hc, _⟩ := h1.lookup_int im_law Try.underlying129 Try.underlying3 (im_zero w) (Go.Maps.keyOf_int_mk Try.underlying3 hk)
  rw [h2 k hk] at hc
  simp only [DataW.lit.injEq, Lit.int.injEq, true_and] at hc
  rw [hrun, hc]
/-- 'm[k] = v' -/
theorem IMap.store {w : World} {M n : Nat} {g : Int → Nat} (h : IMap w M n g) {k : Int} (hk : (Lit.int .i64 k).wf = true) {q : Nat} (hq : q < 9223372036854775808) (hn : n < maxLen) :
    ∃ w', (Instr.mapUpdate 129 (.map (some M)) (.int .i64 k) (.int .i64 (q : Int))).run Try.prog w = .ok () w' ∧ IMap w' M (n + 1) (fun j => if j = k then q else g j) ∧ w.grownBy w' (some M) := by
  obtain ⟨D, h1, h2⟩ := h
  obtain ⟨w', hrun, r1, r2⟩ := h1.update im_law Try.underlying129 hn (val := .int .i64 (q : Int)) (Go.Maps.keyOf_int_mk Try.underlying3 hk) (plainElem_int Try.underlying3 (WalkArith.wf_i64 (by omega)))
  refine ⟨w', hrun, ⟨_, r1, fun j hj => ?_⟩, r2⟩
  by_cases e : j = k
  · subst e
    have hkk := im_law.key (Go.Maps.keyOf_int_mk Try.underlying3 hj)
    simp only [if_pos]
    exact Maps.atKey_put_same h1.isMap hkk _ _
  · have hne : (Lit.int .i64 j) ≠ (Lit.int .i64 k) := fun e' => e (by cases e'; rfl)
    simp only [if_neg e]
    rw [Maps.atKey_put_other hne]
    exact h2 j hj
end Go.Proofs.Ytjbljplgkbnpmaa
end SecQGrp1
section SecQGrp2
/- query.meets and query.Groups, walked. Written by gengroups.py. -/
namespace Go.Proofs.Ytjbljplgkbnpmaa
open Go.ChangeShapes Go.WideShapes Go.Deep Go.RowKit LabPlain RecPlain Stab
set_option linter.unusedVariables false

theorem int_info : (Try.prog.info? 3).map (fun i => (i.zero, i.size, i.bytes)) = some (some (.int .i64 0), 1, 8) := by kernel_rfl
set_option maxRecDepth 100000 in
set_option maxHeartbeats 2000000 in
theorem qmeets_any {w : World} {a : Option Addr} {n c : Nat} {ms : List Mat} {fr to lim : Int} {tx : Bool} (h : MatsAt w a n c ms) (s : ByteArray) (hs : s.size ≤ 1000) (mx : Int) (hmx : w.cell? ⟨0, 0, none⟩ = some (.int .i64 mx)) :
    Calls Try.prog 89 #[.agg #[.int .i64 fr, .int .i64 to, .slice a n c, .int .i64 lim, .bool tx], .string s] w fun e w' => e = .returned (.bool (hitP ms s)) ∧ Below w.heap.size w w' := by
  obtain ⟨w1, hw1⟩ : ∃ w1, w1 = w.alloc (.cells #[.int .i64 fr, .int .i64 to, .slice a n c, .int .i64 lim, .bool tx] 76) := ⟨_, rfl⟩
  have hb1 : Below w.heap.size w w1 := by rw [hw1]; exact (Below.refl _ _).alloc (Nat.le_refl _) _
  have hq : ∀ w3, Below w1.heap.size w1 w3 → w3.cell? ⟨w.heap.size, 2, none⟩ = some (.slice a n c) := fun w3 h3 => by
    rw [hw1] at h3; exact box_cell h3 rfl
  have h0 : 0 < w.heap.size := World.block_lt_of_cell? w _ hmx
  have hmx1 : w1.cell? ⟨0, 0, none⟩ = some (.int .i64 mx) := (hb1.cell (p := ⟨0, 0, none⟩) h0).trans hmx
  have HP := Lib.hid (parse_any s hs mx w1 hmx1)
  have HQ := Lib.hid hq
  have HB := Lib.hid hb1
  have HM := Lib.hid (h.kept hb1)
  have HW := Lib.hid hw1
  clear h hq hb1 hw1 hmx1 hmx h0
  go_enter Try.func89, Try.ntmps89
  go_wp2_with fail
  rw [← HW.out]
  refine HP.out.mono ?_
  rintro e w2 ⟨la, ln, lc, rfl, hl, hb2⟩
  have HB2 := Lib.hid (HB.out.trans (hb2.mono HB.out.size))
  have q2 := HQ.out w2 hb2
  have HM2 := Lib.hid (HM.out.kept hb2)
  clear hb2
  cases hp : setIn s with
  | none =>
    have HE := Lib.hid (show hitP ms s = false from by unfold hitP; rw [hp])
    simp only [Option.isSome_none, Bool.false_eq_true, if_false]
    clear hp hl
    go_wp2_with fail
    go_ret
    rw [HE.out]
    exact ⟨rfl, HB2.out⟩
  | some P =>
    have HE := Lib.hid (show hitP ms s = meetsB P ms from by unfold hitP; rw [hp])
    rw [hp] at hl
    simp only [Option.getD_some] at hl
    simp only [Option.isSome_some, if_true]
    have HL := Lib.hid hl
    clear hp hl
    go_wp2_with fail
    refine (meets_any HL.out HM2.out).mono ?_
    rintro e w3 ⟨rfl, hb3⟩
    have HB3 := Lib.hid (HB2.out.trans (hb3.mono HB2.out.size))
    clear hb3 q2
    go_wp2_with fail
    go_ret
    rw [HE.out]
    exact ⟨rfl, HB3.out⟩

set_option maxRecDepth 100000 in
set_option maxHeartbeats 8000000 in
theorem groups_any {w : World} {a : Option Addr} {n c : Nat} {ms : List Mat} {fr to lim : Int} {tx : Bool} (h : MatsAt w a n c ms) {sa : Option Addr} {sn sc : Nat} {ss : List SpanV} (hs : VecAt SpanS w sa sn sc ss) {pa : Option Addr} {pn pc : Nat} {ps : List PostV} (hp : VecAt PostS w pa pn pc ps)
    (hsn : sn ≤ 40) (hpn : pn ≤ 40) (hfew : ∀ p ∈ ps, p.n ≤ 60 ∧ p.text.size ≤ 600) (mx : Int) (hmx : w.cell? ⟨0, 0, none⟩ = some (.int .i64 mx)) :
    Calls Try.prog 60 #[.agg #[.int .i64 fr, .int .i64 to, .slice a n c, .int .i64 lim, .bool tx], .agg #[.slice sa sn sc, .slice pa pn pc]] w fun e w' => ∃ a' n' c', e = .returned (.slice a' n' c') ∧ VecAt IntS w' a' n' c' (groupsB (⟨fr, to, ms, lim, tx⟩ : QP) ss ps) ∧ Below w.heap.size w w' := by
  obtain ⟨i0, ii, iz0, iz1, iz2⟩ := info_parts int_info
  obtain ⟨w2, hw2⟩ : ∃ w2, w2 = (w.alloc (.cells #[.int .i64 fr, .int .i64 to, .slice a n c, .int .i64 lim, .bool tx] 76)).alloc (.cells #[.slice sa sn sc, .slice pa pn pc] 100) := ⟨_, rfl⟩
  have s1 : (w.alloc (.cells #[.int .i64 fr, .int .i64 to, .slice a n c, .int .i64 lim, .bool tx] 76)).heap.size = w.heap.size + 1 := Array.size_push _
  have hb1 : Below w.heap.size w (w.alloc (.cells #[.int .i64 fr, .int .i64 to, .slice a n c, .int .i64 lim, .bool tx] 76)) := (Below.refl _ _).alloc (Nat.le_refl _) _
  have hb2 : Below w.heap.size w w2 := by rw [hw2]; exact hb1.alloc hb1.size _
  have hq : ∀ w3, Below w2.heap.size w2 w3 → ∀ j u, (#[.int .i64 fr, .int .i64 to, .slice a n c, .int .i64 lim, .bool tx] : Array Value)[j]? = some u → w3.cell? ⟨w.heap.size, j, none⟩ = some u := fun w3 h3 j u hu => by
    have hb12 : Below (w.alloc (.cells #[.int .i64 fr, .int .i64 to, .slice a n c, .int .i64 lim, .bool tx] 76)).heap.size (w.alloc (.cells #[.int .i64 fr, .int .i64 to, .slice a n c, .int .i64 lim, .bool tx] 76)) w2 := by rw [hw2]; exact (Below.refl _ _).alloc (Nat.le_refl _) _
    exact box_cell (hb12.trans (h3.mono hb12.size)) hu
  have hx : ∀ w3, Below w2.heap.size w2 w3 → ∀ j u, (#[.slice sa sn sc, .slice pa pn pc] : Array Value)[j]? = some u → w3.cell? ⟨w.heap.size + 1, j, none⟩ = some u := fun w3 h3 j u hu => by
    rw [hw2] at h3
    rw [← s1]
    exact box_cell h3 hu
  have h0 : 0 < w.heap.size := World.block_lt_of_cell? w _ hmx
  have HMX := Lib.hid (show ∀ w', Below w.heap.size w w' → w'.cell? ⟨0, 0, none⟩ = some (.int .i64 mx) from fun w' hb => (hb.cell (p := ⟨0, 0, none⟩) h0).trans hmx)
  have HQ := Lib.hid hq
  have HX := Lib.hid hx
  have HB := Lib.hid hb2
  have HM0 := Lib.hid h
  have HM := Lib.hid (h.kept hb2)
  have HW := Lib.hid hw2
  have HSS := Lib.hid hs
  have HPS := Lib.hid hp
  have HFEW := Lib.hid hfew
  have hsc := hs.cap
  have hscm := hs.capm
  have hpc := hp.cap
  have hpcm := hp.capm
  have HSL := Lib.hid hs.len
  have HPL := Lib.hid hp.len
  have hmm := @run_makeMap Try.prog
  clear h hb1 hb2 hq hx hw2 s1 hmx h0 hs hp hfew
  go_enter Try.func60, Try.ntmps60
  go_wp2_with fail
  rw [← HW.out]
  have q0 : w2.cell? ⟨w.heap.size, 0, none⟩ = some (.int .i64 fr) := HQ.out _ (Below.refl _ _) 0 _ rfl
  have q1 : w2.cell? ⟨w.heap.size, 1, none⟩ = some (.int .i64 to) := HQ.out _ (Below.refl _ _) 1 _ rfl
  have q2 : w2.cell? ⟨w.heap.size, 2, none⟩ = some (.slice a n c) := HQ.out _ (Below.refl _ _) 2 _ rfl
  have q3 : w2.cell? ⟨w.heap.size, 3, none⟩ = some (.int .i64 lim) := HQ.out _ (Below.refl _ _) 3 _ rfl
  have q4 : w2.cell? ⟨w.heap.size, 4, none⟩ = some (.bool tx) := HQ.out _ (Below.refl _ _) 4 _ rfl
  go_wp2_with fail
  refine (qright_any HM.out).mono ?_
  rintro e w3 ⟨rfl, hb3⟩
  have HB23 := Lib.hid hb3
  have HB3 := Lib.hid (HB.out.trans (hb3.mono HB.out.size))
  clear q0 q1 q2 q3 q4 hb3
  cases hqr : qRight (⟨fr, to, ms, lim, tx⟩ : QP) with
  | false =>
    have HE := Lib.hid (show groupsB (⟨fr, to, ms, lim, tx⟩ : QP) ss ps = [] from by unfold groupsB; rw [hqr]; rfl)
    clear hqr
    go_wp2_with fail
    go_ret
    rw [HE.out]
    exact ⟨none, 0, 0, rfl, VecAt.empty _ none 0 (by omega) (fun _ => rfl), HB3.out⟩
  | true =>
    have HE := Lib.hid (show groupsB (⟨fr, to, ms, lim, tx⟩ : QP) ss ps = grpTo (⟨fr, to, ms, lim, tx⟩ : QP) ss (namedTo ms ps pn) sn from by unfold groupsB; rw [hqr, if_pos rfl, HPL.out, HSL.out])
    clear hqr
    obtain ⟨wm, hwm⟩ : ∃ wm, wm = w3.alloc (.map #[] 0) := ⟨_, rfl⟩
    obtain ⟨M, hM⟩ : ∃ M, M = w3.heap.size := ⟨_, rfl⟩
    have hbm : Below w3.heap.size w3 wm := by rw [hwm]; exact (Below.refl _ _).alloc (Nat.le_refl _) _
    have him : IMap wm M 0 (fun _ => 0) := by rw [hwm, hM]; exact IMap.made w3
    have HBM := Lib.hid hbm
    have HIM := Lib.hid him
    have HWM := Lib.hid hwm
    have HME := Lib.hid hM
    have x1 : (w3.alloc (.map #[] 0)).cell? ⟨w.heap.size + 1, 1, none⟩ = some (.slice pa pn pc) := by
      rw [← hwm]; exact HX.out _ (HB23.out.trans (hbm.mono HB23.out.size)) 1 _ rfl
    clear hbm him hwm hM
    go_wp2_with fail
    rw [← HWM.out, ← HME.out]
    clear x1
    go_loopw [7, 9, 20, 31] (fun s7 s9 s20 s31 wr => ∃ k : Nat, k ≤ pn ∧ s20 = .int .i64 (k : Int) ∧ Hid (IMap wr M (k * 60) (namedTo ms ps k)) ∧ Hid (Below w3.heap.size w3 wr)) (fun _ _ s20 _ _ => pn - (intOf s20).toNat)
    case atStart => exact ⟨0, by omega, rfl, HIM, HBM⟩
    case round =>
      clear HIM HBM
      obtain ⟨k, hk, rfl, HI, HBR⟩ := hrel
      rename World => wr
      have HB2R := Lib.hid (HB23.out.trans (HBR.out.mono HB23.out.size))
      have HBWR := Lib.hid (HB.out.trans (HB2R.out.mono HB.out.size))
      by_cases hkn : k < pn
      · have hki : (k : Int) < (pn : Int) := by omega
        obtain ⟨pb, po, rfl, hpl, hpok, hpc9⟩ := (HPS.out.kept HBWR.out).get hkn
        obtain ⟨p, hpe⟩ : ∃ p, p = ps.getD k PostS.z := ⟨_, rfl⟩
        have hpm : p ∈ ps := by rw [hpe]; exact vec_mem (S := PostS) (by rw [HPL.out]; exact hkn)
        rw [← hpe] at hpok hpc9
        have c0 : wr.cell? ⟨pb, po + k * 2, none⟩ = some (.string p.text) := hpc9 0 _ rfl
        have c1 : wr.cell? ⟨pb, po + k * 2 + 1, none⟩ = some (.slice p.a p.n p.c) := hpc9 1 _ rfl
        have hpf := HFEW.out p hpm
        have HPE := Lib.hid hpe
        have HPF := Lib.hid hpf
        have HPA := Lib.hid ((HPS.out.all p hpm).2)
        have hpn60 : p.n ≤ 60 := hpf.1
        have hpcap := hpok.2.cap
        have hpcapm := hpok.2.capm
        obtain ⟨wx, hwx⟩ : ∃ wx, wx = wr.alloc (.cells #[.string p.text, .slice p.a p.n p.c] 95) := ⟨_, rfl⟩
        have hbx : Below wr.heap.size wr wx := by rw [hwx]; exact (Below.refl _ _).alloc (Nat.le_refl _) _
        have hxb : wx.heap[wr.heap.size]? = some (.cells #[.string p.text, .slice p.a p.n p.c] 95 (0, 0)) := by rw [hwx]; exact heap_alloc_new wr _
        have HXB := Lib.hid hxb
        have HXL := Lib.hid (Array.getElem?_eq_some_iff.1 hxb).1
        have HB3X := Lib.hid (HBR.out.trans (hbx.mono HBR.out.size))
        have HB2X := Lib.hid (HB2R.out.trans (hbx.mono HB2R.out.size))
        have HBWX := Lib.hid (HBWR.out.trans (hbx.mono HBWR.out.size))
        have HIX := Lib.hid (HI.out.same (hbx.block M HI.out.lt))
        have HWX := Lib.hid hwx
        have hqs : (wr.alloc (.cells #[.string p.text, .slice p.a p.n p.c] 95)).cell? ⟨w.heap.size, 0, none⟩ = some (.int .i64 fr) ∧ (wr.alloc (.cells #[.string p.text, .slice p.a p.n p.c] 95)).cell? ⟨w.heap.size, 1, none⟩ = some (.int .i64 to) ∧ (wr.alloc (.cells #[.string p.text, .slice p.a p.n p.c] 95)).cell? ⟨w.heap.size, 2, none⟩ = some (.slice a n c) ∧ (wr.alloc (.cells #[.string p.text, .slice p.a p.n p.c] 95)).cell? ⟨w.heap.size, 3, none⟩ = some (.int .i64 lim) ∧ (wr.alloc (.cells #[.string p.text, .slice p.a p.n p.c] 95)).cell? ⟨w.heap.size, 4, none⟩ = some (.bool tx) := by
          rw [← hwx]; exact ⟨HQ.out wx HB2X.out 0 _ rfl, HQ.out wx HB2X.out 1 _ rfl, HQ.out wx HB2X.out 2 _ rfl, HQ.out wx HB2X.out 3 _ rfl, HQ.out wx HB2X.out 4 _ rfl⟩
        obtain ⟨q0, q1, q2, q3, q4⟩ := hqs
        clear hpok hpc9 hpe hpm hpf hwx hbx hxb hpl
        go_wp2_with fail
        rw [← HWX.out]
        refine (qmeets_any (HM0.out.kept HBWX.out) p.text (by have := HPF.out.2; omega) mx (HMX.out _ HBWX.out)).mono ?_
        rintro e w5 ⟨rfl, hb5⟩
        have HB35 := Lib.hid (HB3X.out.trans (hb5.mono HB3X.out.size))
        have HI5 := Lib.hid (HIX.out.same (hb5.block M HIX.out.lt))
        have hxb5 := (hb5.block wr.heap.size HXL.out).trans HXB.out
        clear q0 q1 q2 q3 q4 c0 c1
        cases hh : hitP ms p.text with
        | false =>
          have HI6 := Lib.hid (show IMap w5 M ((k + 1) * 60) (namedTo ms ps (k + 1)) from by
            have e : namedTo ms ps (k + 1) = namedTo ms ps k := by
              funext i; rw [namedTo, ← HPE.out, hh]; simp
            rw [e]; exact HI5.out.mono (by omega))
          clear hh hxb5 hb5
          go_wp2_with fail
          go_roundw
          case rel => exact ⟨k + 1, by omega, by go_num, HI6, HB35⟩
          case measure => simp [intOf]; omega
        | true =>
          have HHIT := Lib.hid hh
          have u1 : w5.cell? ⟨wr.heap.size, 1, none⟩ = some (.slice p.a p.n p.c) := cell_blk hxb5 rfl
          have HIS := Lib.hid (show IMap w5 M (k * 60 + 0) (fun i => namedTo ms ps k i + (p.gs.take 0).count i) from by
            have e : (fun i => namedTo ms ps k i + (p.gs.take 0).count i) = namedTo ms ps k := by funext i; simp
            rw [e]; exact HI5.out)
          have HG0 := Lib.hid (World.grownBy.refl w5 (some M))
          have hMl : w3.heap.size ≤ M := by rw [HME.out]; exact Nat.le_refl _
          have HML := Lib.hid hMl
          clear hh hxb5 hb5 hMl
          go_wp2_with fail
          clear u1
          go_loopw [9, 31] (fun s9 s31 wq => ∃ j : Nat, j ≤ p.n ∧ s31 = .int .i64 (j : Int) ∧ Hid (IMap wq M (k * 60 + j) (fun i => namedTo ms ps k i + (p.gs.take j).count i)) ∧ Hid (w5.grownBy wq (some M))) (fun _ s31 _ => p.n - (intOf s31).toNat)
          case atStart => exact ⟨0, by omega, rfl, HIS, HG0⟩
          case round =>
            clear HIS HG0
            obtain ⟨j, hj, rfl, HJ, HG⟩ := hrel
            rename World => wq
            have HB3Q := Lib.hid (HB35.out.grown HG.out HB35.out.size (fun d hd => by cases hd; exact HML.out))
            by_cases hjl : j < p.n
            · have hjli : (j : Int) < (p.n : Int) := by omega
              have HBWQ := Lib.hid (HB3.out.trans (HB3Q.out.mono HB3.out.size))
              have hints := HPA.out.kept HBWQ.out
              obtain ⟨gb, go, hge, hgl, hgok, hgc⟩ := hints.get hjl
              obtain ⟨x, hxe⟩ : ∃ x, x = p.gs.getD j 0 := ⟨_, rfl⟩
              have hwx : (Lit.int .i64 x).wf = true := by rw [hxe]; exact hgok
              have c9 : wq.cell? ⟨gb, go + j, none⟩ = some (.int .i64 x) := by
                have h1 := hgc 0 (.int .i64 x) (by rw [hxe]; rfl)
                have e : go + j * IntS.K + 0 = go + j := by show go + j * 1 + 0 = _; omega
                rw [e] at h1; exact h1
              obtain ⟨z, hz⟩ : ∃ z, z = namedTo ms ps k x + (p.gs.take j).count x := ⟨_, rfl⟩
              have hzb : z ≤ 100000 := by
                have h1 := namedTo_le (ms := ms) (ps := ps) (m := 60) (fun p' hp' => by rw [(HPS.out.all p' hp').2.len]; exact (HFEW.out p' hp').1) x k (by rw [HPL.out]; omega)
                have h2 : (p.gs.take j).count x ≤ j := Nat.le_trans List.count_le_length (by rw [List.length_take]; omega)
                rw [hz]; omega
              have hlook := HJ.out.look hwx
              simp only [← hz] at hlook
              obtain ⟨wz, hst, hI2, hg2⟩ := HJ.out.store hwx (q := z + 1) (by omega) (by unfold maxLen; omega)
              have hst2 : (Instr.mapUpdate 129 (.map (some M)) (.int .i64 x) (.int .i64 ((z : Int) + 1))).run Try.prog wq = .ok () wz := by
                have e : (((z + 1 : Nat)) : Int) = (z : Int) + 1 := by omega
                rw [e] at hst; exact hst
              have HIZ := Lib.hid (show IMap wz M (k * 60 + (j + 1)) (fun i => namedTo ms ps k i + (p.gs.take (j + 1)).count i) from by
                have e : (fun i => namedTo ms ps k i + (p.gs.take (j + 1)).count i) = (fun i => if i = x then z + 1 else namedTo ms ps k i + (p.gs.take j).count i) := by
                  funext i
                  rw [count_take p.gs i (by rw [HPA.out.len]; exact hjl), ← hxe]
                  by_cases e : i = x
                  · subst e; rw [if_pos rfl, if_pos rfl, hz]; omega
                  · rw [if_neg e, if_neg (fun h => e h.symm)]; omega
                rw [e]; exact hI2)
              have HGZ := Lib.hid (HG.out.trans hg2)
              have hgek := hge
              clear hints hgok hgc hz hst hI2 hg2 hxe hwx hgl
              go_wp2_with fail
              go_roundw
              case rel => exact ⟨j + 1, by omega, by go_num, HIZ, HGZ⟩
              case measure => simp [intOf]; omega
            · obtain rfl : j = p.n := by omega
              have HI6 := Lib.hid (show IMap wq M ((k + 1) * 60) (namedTo ms ps (k + 1)) from by
                have e : namedTo ms ps (k + 1) = (fun i => namedTo ms ps k i + (p.gs.take p.n).count i) := by
                  funext i; rw [namedTo, ← HPE.out, if_pos HHIT.out, List.take_of_length_le (by rw [HPA.out.len]; exact Nat.le_refl _)]
                rw [e]; exact HJ.out.mono (by omega))
              clear hjl
              go_wp2_with fail
              go_roundw
              case rel => exact ⟨k + 1, by omega, by go_num, HI6, HB3Q⟩
              case measure => simp [intOf]; omega
      · obtain rfl : k = pn := by omega
        have x0 : wr.cell? ⟨w.heap.size + 1, 0, none⟩ = some (.slice sa sn sc) := HX.out wr HB2R.out 0 _ rfl
        obtain ⟨N, hN⟩ : ∃ N, N = namedTo ms ps k := ⟨_, rfl⟩
        have HNB := Lib.hid (show ∀ i, N i ≤ 100000 from fun i => by
          have h1 := namedTo_le (ms := ms) (ps := ps) (m := 60) (fun p' hp' => by rw [(HPS.out.all p' hp').2.len]; exact (HFEW.out p' hp').1) i k (by rw [HPL.out]; exact Nat.le_refl _)
          rw [hN]; omega)
        have HIN := Lib.hid (show IMap wr M (k * 60) N from by rw [hN]; exact HI.out)
        have HEN := Lib.hid (show groupsB (⟨fr, to, ms, lim, tx⟩ : QP) ss ps = grpTo (⟨fr, to, ms, lim, tx⟩ : QP) ss N sn from by rw [HE.out, hN])
        have HO0 := Lib.hid (World.ownsRow_nil wr wr.heap.size 3 1)
        have HBZ := Lib.hid (Below.refl wr.heap.size wr)
        clear hkn hN
        go_wp2_with fail
        clear x0
        go_loopw [10, 11, 12, 44] (fun s10 s11 s12 s44 wt => ∃ (i m9 c9 : Nat) (a9 : Option Addr), i ≤ sn ∧ s44 = .int .i64 (i : Int) ∧ s10 = .slice a9 m9 c9 ∧ Hid (m9 = (grpTo (⟨fr, to, ms, lim, tx⟩ : QP) ss N i).length) ∧ Hid (wt.ownsRow wr.heap.size 3 1 (.slice a9 m9 c9) m9 (IntS.flat (grpTo (⟨fr, to, ms, lim, tx⟩ : QP) ss N i))) ∧ Hid (Below wr.heap.size wr wt)) (fun _ _ _ s44 _ => sn - (intOf s44).toNat)
        case atStart => exact ⟨0, 0, 0, none, by omega, rfl, rfl, Lib.hid rfl, HO0, HBZ⟩
        case round =>
          clear HO0 HBZ
          obtain ⟨i, m9, c9, a9, hi, rfl, rfl, HLN, HO, HBT⟩ := hrel
          rename World => wt
          have hm9 : m9 ≤ 40 := by have h1 := grpTo_len (⟨fr, to, ms, lim, tx⟩ : QP) ss N i; rw [← HLN.out] at h1; omega
          by_cases hlt : i < sn
          · have hlti : (i : Int) < (sn : Int) := by omega
            have HBWT := Lib.hid (HBWR.out.trans (HBT.out.mono HBWR.out.size))
            have HB2T := Lib.hid (HB2R.out.trans (HBT.out.mono HB2R.out.size))
            obtain ⟨sb, so, rfl, hsl, _, hsc9⟩ := (HSS.out.kept HBWT.out).get hlt
            obtain ⟨s, hse⟩ : ∃ s, s = ss.getD i SpanS.z := ⟨_, rfl⟩
            rw [← hse] at hsc9
            have d0 : wt.cell? ⟨sb, so + i * 5, none⟩ = some (.int .i64 s.at') := hsc9 0 _ rfl
            have d1 : wt.cell? ⟨sb, so + i * 5 + 1, none⟩ = some (.int .i64 s.sz) := hsc9 1 _ rfl
            have d2 : wt.cell? ⟨sb, so + i * 5 + 2, none⟩ = some (.int .i64 s.rw') := hsc9 2 _ rfl
            have d3 : wt.cell? ⟨sb, so + i * 5 + 3, none⟩ = some (.int .i64 s.fi) := hsc9 3 _ rfl
            have d4 : wt.cell? ⟨sb, so + i * 5 + 4, none⟩ = some (.int .i64 s.la) := hsc9 4 _ rfl
            obtain ⟨wx, hwx⟩ : ∃ wx, wx = wt.alloc (.cells #[.int .i64 s.at', .int .i64 s.sz, .int .i64 s.rw', .int .i64 s.fi, .int .i64 s.la] 91) := ⟨_, rfl⟩
            have hbx : Below wt.heap.size wt wx := by rw [hwx]; exact (Below.refl _ _).alloc (Nat.le_refl _) _
            have HBTX := Lib.hid (HBT.out.trans (hbx.mono HBT.out.size))
            have HB2X := Lib.hid (HB2T.out.trans (hbx.mono HB2T.out.size))
            have HOX := Lib.hid (own_below HO.out hbx)
            have hiw : (Lit.int .i64 (i : Int)).wf = true := WalkArith.wf_i64 (by omega)
            have hwim : IMap wx M (k * 60) N := HIN.out.same (HBTX.out.block M HIN.out.lt)
            have hlook := hwim.look hiw
            obtain ⟨z, hz⟩ : ∃ z, z = N (i : Int) := ⟨_, rfl⟩
            have hzb : z ≤ 100000 := by rw [hz]; exact HNB.out _
            rw [← hz, hwx] at hlook
            have HGS := Lib.hid (show grpTo (⟨fr, to, ms, lim, tx⟩ : QP) ss N (i + 1) = grpTo (⟨fr, to, ms, lim, tx⟩ : QP) ss N i ++ (if (decide (0 < z) && (decide (s.fi < to) && decide (fr ≤ s.la))) = true then [(i : Int)] else []) from by rw [grpTo, ← hz, ← hse])
            have HWX := Lib.hid hwx
            have hqs : (wt.alloc (.cells #[.int .i64 s.at', .int .i64 s.sz, .int .i64 s.rw', .int .i64 s.fi, .int .i64 s.la] 91)).cell? ⟨w.heap.size, 0, none⟩ = some (.int .i64 fr) ∧ (wt.alloc (.cells #[.int .i64 s.at', .int .i64 s.sz, .int .i64 s.rw', .int .i64 s.fi, .int .i64 s.la] 91)).cell? ⟨w.heap.size, 1, none⟩ = some (.int .i64 to) ∧ (wt.alloc (.cells #[.int .i64 s.at', .int .i64 s.sz, .int .i64 s.rw', .int .i64 s.fi, .int .i64 s.la] 91)).cell? ⟨w.heap.size, 2, none⟩ = some (.slice a n c) ∧ (wt.alloc (.cells #[.int .i64 s.at', .int .i64 s.sz, .int .i64 s.rw', .int .i64 s.fi, .int .i64 s.la] 91)).cell? ⟨w.heap.size, 3, none⟩ = some (.int .i64 lim) ∧ (wt.alloc (.cells #[.int .i64 s.at', .int .i64 s.sz, .int .i64 s.rw', .int .i64 s.fi, .int .i64 s.la] 91)).cell? ⟨w.heap.size, 4, none⟩ = some (.bool tx) := by
              rw [← hwx]; exact ⟨HQ.out wx HB2X.out 0 _ rfl, HQ.out wx HB2X.out 1 _ rfl, HQ.out wx HB2X.out 2 _ rfl, HQ.out wx HB2X.out 3 _ rfl, HQ.out wx HB2X.out 4 _ rfl⟩
            obtain ⟨q0, q1, q2, q3, q4⟩ := hqs
            clear hsc9 hse hwx hbx hiw hwim hz hsl
            by_cases hzp : 0 < z
            · have hzi : (0 : Int) < (z : Int) := by omega
              have z1 : decide ((0 : Int) < (z : Int)) = true := decide_eq_true hzi
              have HZP := Lib.hid (decide_eq_true hzp)
              clear hzp
              go_wp2_with fail
              rw [← HWX.out]
              refine (overlaps_any s.fi s.la).mono ?_
              rintro e w5 ⟨rfl, hb5⟩
              have HB5 := Lib.hid (HBTX.out.trans (hb5.mono HBTX.out.size))
              have HO5 := Lib.hid (own_below HOX.out hb5)
              clear q0 q1 q2 q3 q4 d0 d1 d2 d3 d4 hlook z1 hb5
              cases ho : (decide (s.fi < to) && decide (fr ≤ s.la)) with
              | false =>
                have HG2 := Lib.hid (show grpTo (⟨fr, to, ms, lim, tx⟩ : QP) ss N (i + 1) = grpTo (⟨fr, to, ms, lim, tx⟩ : QP) ss N i from by rw [HGS.out, ho, Bool.and_false]; simp)
                have HLN2 := Lib.hid (show m9 = (grpTo (⟨fr, to, ms, lim, tx⟩ : QP) ss N (i + 1)).length from by rw [HG2.out]; exact HLN.out)
                have HO6 := Lib.hid (show w5.ownsRow wr.heap.size 3 1 (.slice a9 m9 c9) m9 (IntS.flat (grpTo (⟨fr, to, ms, lim, tx⟩ : QP) ss N (i + 1))) from by rw [HG2.out]; exact HO5.out)
                clear ho
                go_wp2_with fail
                go_roundw
                case rel => exact ⟨i + 1, m9, c9, a9, by omega, by go_num, rfl, HLN2, HO6, HB5⟩
                case measure => simp [intOf]; omega
              | true =>
                have HG2 := Lib.hid (show grpTo (⟨fr, to, ms, lim, tx⟩ : QP) ss N (i + 1) = grpTo (⟨fr, to, ms, lim, tx⟩ : QP) ss N i ++ [(i : Int)] from by rw [HGS.out, ho, HZP.out]; rfl)
                have HLN2 := Lib.hid (show m9 + 1 = (grpTo (⟨fr, to, ms, lim, tx⟩ : QP) ss N (i + 1)).length from by rw [HG2.out, List.length_append, ← HLN.out]; rfl)
                have HSRC := Lib.hid (IntS.src w5 (i : Int) 3 (cs := #[.int .i64 (i : Int)]) rfl)
                have HOA := Lib.hid (HO5.out.alloc (.cells #[.int .i64 (i : Int)] 3))
                have HBA := Lib.hid (HB5.out.alloc HB5.out.size (.cells #[.int .i64 (i : Int)] 3))
                have HBS := Lib.hid HB5.out.size
                clear ho
                go_wp2_with (at_builtin; refine wpList_append_own_at _ rfl (.tmp 61) (.tmp 63) 93 rfl wr.heap.size 3 i0 _ 1 8 Try.underlying93 ii iz0 iz1 iz2 rfl (by decide) _ m9 _ rfl HOA.out ⟨w5.heap.size, 0, none⟩ 1 1 [.int .i64 (i : Int)] rfl rfl HSRC.out (IntS.one (i : Int)) (by unfold maxLen; omega) (by omega) (Nat.le_trans HBS.out (by simp)) ?_)
                intro v7 w7 ho7 hg7 _ _
                obtain ⟨g7, c7, rfl⟩ := own_some2 ho7 (by omega)
                have HO7 := Lib.hid (show w7.ownsRow wr.heap.size 3 1 (.slice (some ⟨g7, 0, none⟩) (m9 + 1) c7) (m9 + 1) (IntS.flat (grpTo (⟨fr, to, ms, lim, tx⟩ : QP) ss N (i + 1))) from by rw [HG2.out, IntS.flat_snoc]; exact ho7)
                have HB7 := Lib.hid (below_own HBA.out HOA.out hg7 (Nat.le_refl _) (Nat.le_trans HBS.out (by simp)))
                clear ho7 hg7
                go_wp2_with fail
                go_roundw
                case rel => exact ⟨i + 1, m9 + 1, c7, _, by omega, by go_num, rfl, HLN2, HO7, HB7⟩
                case measure => simp [intOf]; omega
            · obtain rfl : z = 0 := by omega
              rw [show ((0 : Nat) : Int) = 0 from rfl] at hlook
              have HG2 := Lib.hid (show grpTo (⟨fr, to, ms, lim, tx⟩ : QP) ss N (i + 1) = grpTo (⟨fr, to, ms, lim, tx⟩ : QP) ss N i from by rw [HGS.out, decide_eq_false hzp]; simp)
              have HLN2 := Lib.hid (show m9 = (grpTo (⟨fr, to, ms, lim, tx⟩ : QP) ss N (i + 1)).length from by rw [HG2.out]; exact HLN.out)
              have HO6 := Lib.hid (show wx.ownsRow wr.heap.size 3 1 (.slice a9 m9 c9) m9 (IntS.flat (grpTo (⟨fr, to, ms, lim, tx⟩ : QP) ss N (i + 1))) from by rw [HG2.out]; exact HOX.out)
              have HBX6 := HBTX
              rw [HWX.out] at HO6 HBX6
              clear hzp
              go_wp2_with fail
              go_roundw
              case rel => exact ⟨i + 1, m9, c9, a9, by omega, by go_num, rfl, HLN2, HO6, HBX6⟩
              case measure => simp [intOf]; omega
          · obtain rfl : i = sn := by omega
            have HV := Lib.hid (show VecAt IntS wt a9 m9 c9 (groupsB (⟨fr, to, ms, lim, tx⟩ : QP) ss ps) from by
              rw [HEN.out]
              exact VecAt.ofOwn (S := IntS) HO.out HLN.out.symm (grpTo_wf (⟨fr, to, ms, lim, tx⟩ : QP) ss N i (by omega)))
            clear hlt
            go_wp2_with fail
            go_ret
            exact ⟨a9, m9, c9, rfl, HV.out, HBWR.out.trans (HBT.out.mono HBWR.out.size)⟩
end Go.Proofs.Ytjbljplgkbnpmaa
end SecQGrp2
section SecQGrp3
/- The document's Wants and Groups, walked. Written by genrgroups.py. -/
namespace Go.Proofs.Ytjbljplgkbnpmaa
open Go.ChangeShapes Go.WideShapes Go.Deep Go.RowKit LabPlain RecPlain Stab
set_option linter.unusedVariables false

set_option maxRecDepth 100000 in
set_option maxHeartbeats 8000000 in
theorem rwants_any {w : World} {a : Option Addr} {n c : Nat} {ms : List Mat} {fr to lim : Int} {tx : Bool} (h : MatsAt w a n c ms) (ky pt : ByteArray) (wi first last rw sz sm bn : Int) (hpt : pt.size ≤ 1000) :
    Calls Try.prog 63 #[.agg #[.int .i64 fr, .int .i64 to, .slice a n c, .int .i64 lim, .bool tx], .agg #[.string ky, .int .i64 wi, .string pt, .int .i64 first, .int .i64 last, .int .i64 rw, .int .i64 sz, .int .u32 sm, .int .i64 bn]] w fun e w' => e = .returned (.bool (wantsB (⟨fr, to, ms, lim, tx⟩ : QP) first last pt)) ∧ Below w.heap.size w w' := by
  obtain ⟨w2, hw2⟩ : ∃ w2, w2 = (w.alloc (.cells #[.int .i64 fr, .int .i64 to, .slice a n c, .int .i64 lim, .bool tx] 76)).alloc (.cells #[.string ky, .int .i64 wi, .string pt, .int .i64 first, .int .i64 last, .int .i64 rw, .int .i64 sz, .int .u32 sm, .int .i64 bn] 85) := ⟨_, rfl⟩
  have s1 : (w.alloc (.cells #[.int .i64 fr, .int .i64 to, .slice a n c, .int .i64 lim, .bool tx] 76)).heap.size = w.heap.size + 1 := Array.size_push _
  have hb1 : Below w.heap.size w (w.alloc (.cells #[.int .i64 fr, .int .i64 to, .slice a n c, .int .i64 lim, .bool tx] 76)) := (Below.refl _ _).alloc (Nat.le_refl _) _
  have hb2 : Below w.heap.size w w2 := by rw [hw2]; exact hb1.alloc hb1.size _
  have hq : ∀ w3, Below w2.heap.size w2 w3 → ∀ j u, (#[.int .i64 fr, .int .i64 to, .slice a n c, .int .i64 lim, .bool tx] : Array Value)[j]? = some u → w3.cell? ⟨w.heap.size, j, none⟩ = some u := fun w3 h3 j u hu => by
    have hb12 : Below (w.alloc (.cells #[.int .i64 fr, .int .i64 to, .slice a n c, .int .i64 lim, .bool tx] 76)).heap.size (w.alloc (.cells #[.int .i64 fr, .int .i64 to, .slice a n c, .int .i64 lim, .bool tx] 76)) w2 := by rw [hw2]; exact (Below.refl _ _).alloc (Nat.le_refl _) _
    exact box_cell (hb12.trans (h3.mono hb12.size)) hu
  have hx : ∀ w3, Below w2.heap.size w2 w3 → ∀ j u, (#[.string ky, .int .i64 wi, .string pt, .int .i64 first, .int .i64 last, .int .i64 rw, .int .i64 sz, .int .u32 sm, .int .i64 bn] : Array Value)[j]? = some u → w3.cell? ⟨w.heap.size + 1, j, none⟩ = some u := fun w3 h3 j u hu => by
    rw [hw2] at h3
    rw [← s1]
    exact box_cell h3 hu
  have HQ := Lib.hid hq
  have HX := Lib.hid hx
  have HB := Lib.hid hb2
  have HM0 := Lib.hid h
  have HML := Lib.hid h.len
  have HM := Lib.hid (h.kept hb2)
  have HW := Lib.hid hw2
  have hcap := h.cap
  have hcm := h.capm
  clear h hb1 hb2 hq hx hw2 s1
  have HPT := Lib.hid hpt
  clear hpt
  obtain ⟨r, hr⟩ : ∃ r, r = wantsB (⟨fr, to, ms, lim, tx⟩ : QP) first last pt := ⟨_, rfl⟩
  rw [← hr]
  have HRES := Lib.hid hr
  clear hr
  go_enter Try.func63, Try.ntmps63
  go_wp2_with fail
  rw [← HW.out]
  have x2 : w2.cell? ⟨w.heap.size + 1, 2, none⟩ = some (.string pt) := HX.out _ (Below.refl _ _) 2 _ rfl
  go_wp2_with fail
  refine (rparse_any pt HPT.out w2).mono ?_
  rintro e w3 ⟨pa, pn, pc, rfl, hP, hb3⟩
  have HB23 := Lib.hid hb3
  have HB3 := Lib.hid (HB.out.trans (hb3.mono HB.out.size))
  have HP := Lib.hid hP
  have hpcap := hP.cap
  have hpcm := hP.capm
  have q0 : w3.cell? ⟨w.heap.size, 0, none⟩ = some (.int .i64 fr) := HQ.out _ hb3 0 _ rfl
  have q1 : w3.cell? ⟨w.heap.size, 1, none⟩ = some (.int .i64 to) := HQ.out _ hb3 1 _ rfl
  have q2 : w3.cell? ⟨w.heap.size, 2, none⟩ = some (.slice a n c) := HQ.out _ hb3 2 _ rfl
  have q3 : w3.cell? ⟨w.heap.size, 3, none⟩ = some (.int .i64 lim) := HQ.out _ hb3 3 _ rfl
  have q4 : w3.cell? ⟨w.heap.size, 4, none⟩ = some (.bool tx) := HQ.out _ hb3 4 _ rfl
  clear x2 hP hb3
  go_wp2_with fail
  refine (rqright_any (HM0.out.kept HB3.out)).mono ?_
  rintro e w4 ⟨rfl, hb4⟩
  have HB24 := Lib.hid (HB23.out.trans (hb4.mono HB23.out.size))
  have HB4 := Lib.hid (HB.out.trans (HB24.out.mono HB.out.size))
  have HP4 := Lib.hid (HP.out.kept hb4)
  clear q0 q1 q2 q3 q4 hb4
  have q0 : w4.cell? ⟨w.heap.size, 0, none⟩ = some (.int .i64 fr) := HQ.out _ HB24.out 0 _ rfl
  have q1 : w4.cell? ⟨w.heap.size, 1, none⟩ = some (.int .i64 to) := HQ.out _ HB24.out 1 _ rfl
  have q2 : w4.cell? ⟨w.heap.size, 2, none⟩ = some (.slice a n c) := HQ.out _ HB24.out 2 _ rfl
  have q3 : w4.cell? ⟨w.heap.size, 3, none⟩ = some (.int .i64 lim) := HQ.out _ HB24.out 3 _ rfl
  have q4 : w4.cell? ⟨w.heap.size, 4, none⟩ = some (.bool tx) := HQ.out _ HB24.out 4 _ rfl
  have x3 : w4.cell? ⟨w.heap.size + 1, 3, none⟩ = some (.int .i64 first) := HX.out _ HB24.out 3 _ rfl
  have x4 : w4.cell? ⟨w.heap.size + 1, 4, none⟩ = some (.int .i64 last) := HX.out _ HB24.out 4 _ rfl
  cases hqr : qRight (⟨fr, to, ms, lim, tx⟩ : QP) with
  | false =>
    have HE := Lib.hid (show r = false from by rw [HRES.out]; unfold wantsB; rw [hqr]; rfl)
    clear hqr
    go_wp2_with fail
    go_ret
    rw [HE.out]
    exact ⟨rfl, HB4.out⟩
  | true =>
    cases hs : setIn pt with
    | none =>
      have HE := Lib.hid (show r = false from by rw [HRES.out]; unfold wantsB; rw [hs]; simp)
      simp only [Option.isSome_none]
      clear hs hqr
      go_wp2_with fail
      go_ret
      rw [HE.out]
      exact ⟨rfl, HB4.out⟩
    | some P =>
      have hP4 := HP4.out
      rw [hs] at hP4
      simp only [Option.getD_some] at hP4
      simp only [Option.isSome_some]
      by_cases c1 : first < to
      case neg =>
        have z1 : decide (to ≤ first) = true := decide_eq_true (by omega)
        have HE := Lib.hid (show r = false from by rw [HRES.out]; unfold wantsB; rw [show decide (first < ((⟨fr, to, ms, lim, tx⟩ : QP)).to) = false from decide_eq_false c1]; simp)
        clear hs hqr hP4 c1
        go_wp2_with fail
        go_ret
        rw [HE.out]
        exact ⟨rfl, HB4.out⟩
      case pos =>
        have z1 : decide (to ≤ first) = false := decide_eq_false (by omega)
        by_cases c2 : fr ≤ last
        case neg =>
          have z2 : decide (last < fr) = true := decide_eq_true (by omega)
          have HE := Lib.hid (show r = false from by rw [HRES.out]; unfold wantsB; rw [show decide (((⟨fr, to, ms, lim, tx⟩ : QP)).fr ≤ last) = false from decide_eq_false c2]; simp)
          clear hs hqr hP4 c1 c2
          go_wp2_with fail
          go_ret
          rw [HE.out]
          exact ⟨rfl, HB4.out⟩
        case pos =>
          have z2 : decide (last < fr) = false := decide_eq_false (by omega)
          have HE := Lib.hid (show r = wantsTo P ms P.length from by
            rw [HRES.out]; unfold wantsB
            rw [hs, hqr, show decide (first < ((⟨fr, to, ms, lim, tx⟩ : QP)).to) = true from decide_eq_true c1, show decide (((⟨fr, to, ms, lim, tx⟩ : QP)).fr ≤ last) = true from decide_eq_true c2]; rfl)
          have HPP := Lib.hid hP4
          have HPL := Lib.hid hP4.len
          have hpc4 := hP4.cap
          have hpm4 := hP4.capm
          clear hs hqr hP4 c1 c2
          go_wp2_with fail
          clear q0 q1 q2 q3 q4 x3 x4
          go_loopw [8, 10, 41, 47] (fun s8 s10 s41 s47 wr => ∃ j : Nat, j ≤ n ∧ s41 = .int .i64 (j : Int) ∧ Hid (∀ t, t < j → ∀ k, k < pn → (ms.getD t mat0).1 = (P.getD k lab0).1 → meetsB [P.getD k lab0] [ms.getD t mat0] = true) ∧ Hid (Below w4.heap.size w4 wr)) (fun _ _ s41 _ _ => n - (intOf s41).toNat)
          case atStart => exact ⟨0, by omega, rfl, Lib.hid (fun t ht => absurd ht (Nat.not_lt_zero _)), Lib.hid (Below.refl _ _)⟩
          case round =>
            obtain ⟨j, hjn, rfl, HU, HBR⟩ := hrel
            rename World => wr
            have HB2R := Lib.hid (HB24.out.trans (HBR.out.mono HB24.out.size))
            by_cases hjlt : j < n
            · have hjlti : (j : Int) < (n : Int) := by omega
              have hmk := HM.out.kept HB2R.out
              obtain ⟨b', off', rfl, hltb', hcell'⟩ := hmk.cells (by omega)
              obtain ⟨m1, m2, m3⟩ := hcell' j hjlt
              have hsz' := HM.out.size _ (mat_mem (l := ms) (i := j) (by rw [HML.out]; exact hjlt))
              obtain ⟨z, hz⟩ : ∃ z, z = ms.getD j mat0 := ⟨_, rfl⟩
              rw [← hz] at m1 m2 m3 hsz'
              have HZ := Lib.hid hz
              obtain ⟨z1, z2, z3⟩ := z
              simp only at m1 m2 m3
              have HSZ2 := Lib.hid hsz'
              obtain ⟨wx, hwx⟩ : ∃ wx, wx = wr.alloc (.cells #[.string z1, .int .i64 z2, .string z3] 46) := ⟨_, rfl⟩
              obtain ⟨bx, hbx⟩ : ∃ bx, bx = wr.heap.size := ⟨_, rfl⟩
              have hxb : wx.heap[bx]? = some (.cells #[.string z1, .int .i64 z2, .string z3] 46 (0, 0)) := by rw [hwx, hbx]; exact heap_alloc_new wr _
              have hbwx : Below wr.heap.size wr wx := by rw [hwx]; exact (Below.refl _ _).alloc (Nat.le_refl _) _
              have HXB := Lib.hid hxb
              have HXL := Lib.hid (Array.getElem?_eq_some_iff.1 hxb).1
              have HB4X := Lib.hid (HBR.out.trans (hbwx.mono HBR.out.size))
              have HWX := Lib.hid hwx
              have HBXE := Lib.hid hbx
              clear hmk hcell' hz hsz' hltb' hwx hbx hxb hbwx
              go_wp2_with fail
              rw [← HWX.out, ← HBXE.out]
              clear m1 m2 m3
              go_loopw [10, 47] (fun s10 s47 wq => ∃ k : Nat, k ≤ pn ∧ s47 = .int .i64 (k : Int) ∧ Hid (∀ i, i < k → z1 = (P.getD i lab0).1 → meetsB [P.getD i lab0] [(z1, z2, z3)] = true) ∧ Hid (Below wx.heap.size wx wq)) (fun _ s47 _ => pn - (intOf s47).toNat)
              case atStart => exact ⟨0, by omega, rfl, Lib.hid (fun i hi => absurd hi (Nat.not_lt_zero _)), Lib.hid (Below.refl _ _)⟩
              case round =>
                obtain ⟨k, hkn, rfl, HV, HBQ⟩ := hrel
                rename World => wq
                have HB4Q := Lib.hid (HB4X.out.trans (HBQ.out.mono HB4X.out.size))
                by_cases hlt : k < pn
                · have hlti : (k : Int) < (pn : Int) := by omega
                  have hkp := HPP.out.kept HB4Q.out
                  obtain ⟨b, off, rfl, hltb, hcell⟩ := hkp.cells (by omega)
                  obtain ⟨l1, l2⟩ := hcell k hlt
                  have hsz := HPP.out.size _ (lab_mem (l := P) (i := k) (by rw [HPL.out]; exact hlt))
                  obtain ⟨y1, hy1⟩ : ∃ y, y = (P.getD k lab0).1 := ⟨_, rfl⟩
                  obtain ⟨y2, hy2⟩ : ∃ y, y = (P.getD k lab0).2 := ⟨_, rfl⟩
                  rw [← hy1] at l1 hsz
                  rw [← hy2] at l2 hsz
                  have HY := Lib.hid (show P.getD k lab0 = (y1, y2) from by rw [hy1, hy2])
                  have HSZ := Lib.hid hsz
                  have hxbq := (HBQ.out.block bx HXL.out).trans HXB.out
                  have p1 : wq.cell? ⟨bx, 0, none⟩ = some (.string z1) := cell_blk hxbq rfl
                  have p2 : wq.cell? ⟨bx, 1, none⟩ = some (.int .i64 z2) := cell_blk hxbq rfl
                  have p3 : wq.cell? ⟨bx, 2, none⟩ = some (.string z3) := cell_blk hxbq rfl
                  have HBQM := Lib.hid (HBQ.out.alloc HBQ.out.size (.cells #[.string y1, .string y2] 41))
                  have hbxq : bx < wq.heap.size := Nat.lt_of_lt_of_le HXL.out HBQ.out.size
                  clear hkp hcell hy1 hy2 hsz hltb hxbq
                  by_cases c1 : y1 = z1
                  · have e1 : (y1.toList == z1.toList) = true := by rw [c1]; simp
                    have HC1 := Lib.hid c1
                    have HBA := Lib.hid (HBQM.out.alloc HBQM.out.size (.cells #[.string y1, .string y2] 41))
                    have HBB := Lib.hid (HBA.out.alloc HBA.out.size (.cells #[.string z1, .int .i64 z2, .string z3] 46))
                    have HME := Lib.hid (show Calls Try.prog 31 #[.slice (some ⟨wq.heap.size + 1, 0, none⟩) 1 1, .slice (some ⟨wq.heap.size + 1 + 1, 0, none⟩) 1 1] (((wq.alloc (.cells #[.string y1, .string y2] 41)).alloc (.cells #[.string y1, .string y2] 41)).alloc (.cells #[.string z1, .int .i64 z2, .string z3] 46)) fun e w' => e = .returned (.bool (meetsB [(y1, y2)] [(z1, z2, z3)])) ∧ Below (((wq.alloc (.cells #[.string y1, .string y2] 41)).alloc (.cells #[.string y1, .string y2] 41)).alloc (.cells #[.string z1, .int .i64 z2, .string z3] 46)).heap.size (((wq.alloc (.cells #[.string y1, .string y2] 41)).alloc (.cells #[.string y1, .string y2] 41)).alloc (.cells #[.string z1, .int .i64 z2, .string z3] 46)) w' from by
                      have e1 : (wq.alloc (.cells #[.string y1, .string y2] 41)).heap.size = wq.heap.size + 1 := Array.size_push _
                      have e2 : ((wq.alloc (.cells #[.string y1, .string y2] 41)).alloc (.cells #[.string y1, .string y2] 41)).heap.size = wq.heap.size + 1 + 1 := by rw [← e1]; exact Array.size_push _
                      have h1 := rmeets_any ((labs_one (wq.alloc (.cells #[.string y1, .string y2] 41)) y1 y2 41 HSZ.out).kept ((Below.refl _ _).alloc (Nat.le_refl _) (.cells #[.string z1, .int .i64 z2, .string z3] 46))) (mats_one ((wq.alloc (.cells #[.string y1, .string y2] 41)).alloc (.cells #[.string y1, .string y2] 41)) (z1, z2, z3) 46 HSZ2.out)
                      rw [e1, e2] at h1
                      exact h1)
                    clear c1
                    go_wp2_with fail
                    refine HME.out.mono ?_
                    rintro e w6 ⟨rfl, hb6⟩
                    have HB6 := Lib.hid (HBB.out.trans (hb6.mono HBB.out.size))
                    have HB46 := Lib.hid (HB4.out.trans ((HB4X.out.trans (HB6.out.mono HB4X.out.size)).mono HB4.out.size))
                    clear hb6 l1 l2 p1 p2 p3
                    cases hm : meetsB [(y1, y2)] [(z1, z2, z3)] with
                    | false =>
                      have HF := Lib.hid (show r = false from by
                        rw [HE.out]
                        have h1 := wantTo_no (x := (y1, y2)) (ms := ms) (k := j) (by rw [← HZ.out, hm, HC1.out]; simp) (n - (j + 1))
                        rw [show j + 1 + (n - (j + 1)) = ms.length from by rw [HML.out]; omega] at h1
                        have h2 := wantsTo_no (P := P) (ms := ms) (k := k) (by rw [HY.out]; exact h1) (pn - (k + 1))
                        rw [show k + 1 + (pn - (k + 1)) = P.length from by rw [HPL.out]; omega] at h2
                        exact h2)
                      clear hm
                      go_wp2_with fail
                      go_ret
                      rw [HF.out]
                      exact ⟨rfl, HB46.out⟩
                    | true =>
                      have HV2 := Lib.hid (show ∀ i, i < k + 1 → z1 = (P.getD i lab0).1 → meetsB [P.getD i lab0] [(z1, z2, z3)] = true from fun i hi he => by
                        rcases Nat.lt_or_ge i k with g | g
                        · exact HV.out i g he
                        · obtain rfl : i = k := by omega
                          rw [HY.out]; exact hm)
                      clear hm
                      go_wp2_with fail
                      go_roundw
                      case rel => exact ⟨k + 1, by omega, by go_num, HV2, HB6⟩
                      case measure => simp [intOf]; omega
                  · have e1 : (y1.toList == z1.toList) = false := by
                      rw [beq_eq_false_iff_ne]
                      exact fun e => c1 (ByteArray.ext (Array.toList_inj.1 (by rw [← ByteArray.toList_eq, ← ByteArray.toList_eq]; exact e)))
                    have HV2 := Lib.hid (show ∀ i, i < k + 1 → z1 = (P.getD i lab0).1 → meetsB [P.getD i lab0] [(z1, z2, z3)] = true from fun i hi he => by
                      rcases Nat.lt_or_ge i k with g | g
                      · exact HV.out i g he
                      · obtain rfl : i = k := by omega
                        rw [HY.out] at he
                        exact absurd he.symm c1)
                    clear c1
                    go_wp2_with fail
                    go_roundw
                    case rel => exact ⟨k + 1, by omega, by go_num, HV2, HBQM⟩
                    case measure => simp [intOf]; omega
                · obtain rfl : k = pn := by omega
                  have HU2 := Lib.hid (show ∀ t, t < j + 1 → ∀ i, i < k → (ms.getD t mat0).1 = (P.getD i lab0).1 → meetsB [P.getD i lab0] [ms.getD t mat0] = true from fun t ht i hi he => by
                    rcases Nat.lt_or_ge t j with g | g
                    · exact HU.out t g i hi he
                    · obtain rfl : t = j := by omega
                      rw [← HZ.out] at he ⊢
                      exact HV.out i hi he)
                  clear hlt
                  have HBN := Lib.hid (HB4X.out.trans (HBQ.out.mono HB4X.out.size))
                  go_wp2_with fail
                  go_roundw
                  case rel => exact ⟨j + 1, by omega, by go_num, HU2, HBN⟩
                  case measure => simp [intOf]; omega
            · obtain rfl : j = n := by omega
              have HF := Lib.hid (show r = true from by
                rw [HE.out]
                exact wantsTo_yes fun k hk => wantTo_yes fun t ht he => HU.out t (by rw [← HML.out]; exact ht) k (by rw [← HPL.out]; exact hk) he)
              clear hjlt
              go_wp2_with fail
              go_ret
              rw [HF.out]
              exact ⟨rfl, HB4.out.trans (HBR.out.mono HB4.out.size)⟩

theorem named_snoc (ms : List Mat) (ps : List PostV) (k : Int) (j : Nat) (h : hitP ms (ps.getD j PostS.z).text = false) : namedTo ms ps (j + 1) k = namedTo ms ps j k := by
  rw [namedTo, h]; simp
theorem named_hit (ms : List Mat) (ps : List PostV) (k : Int) (j : Nat) (h : hitP ms (ps.getD j PostS.z).text = true) : namedTo ms ps (j + 1) k = namedTo ms ps j k + (ps.getD j PostS.z).gs.count k := by
  rw [namedTo, if_pos h]
set_option maxRecDepth 100000 in
set_option maxHeartbeats 8000000 in
theorem rgroups_any {w : World} {a : Option Addr} {n c : Nat} {ms : List Mat} {fr to lim : Int} {tx : Bool} (h : MatsAt w a n c ms) {sa : Option Addr} {sn sc : Nat} {ss : List SpanV} (hs : VecAt SpanS w sa sn sc ss) {pa : Option Addr} {pn pc : Nat} {ps : List PostV} (hp : VecAt PostS w pa pn pc ps)
    (hsn : sn ≤ 40) (hpn : pn ≤ 40) (hfew : ∀ p ∈ ps, p.n ≤ 60 ∧ p.text.size ≤ 600) :
    Calls Try.prog 61 #[.agg #[.int .i64 fr, .int .i64 to, .slice a n c, .int .i64 lim, .bool tx], .agg #[.slice sa sn sc, .slice pa pn pc]] w fun e w' => ∃ a' n' c', e = .returned (.slice a' n' c') ∧ VecAt IntS w' a' n' c' (groupsB (⟨fr, to, ms, lim, tx⟩ : QP) ss ps) ∧ Below w.heap.size w w' := by
  obtain ⟨i0, ii, iz0, iz1, iz2⟩ := info_parts int_info
  obtain ⟨w2, hw2⟩ : ∃ w2, w2 = (w.alloc (.cells #[.int .i64 fr, .int .i64 to, .slice a n c, .int .i64 lim, .bool tx] 76)).alloc (.cells #[.slice sa sn sc, .slice pa pn pc] 89) := ⟨_, rfl⟩
  have s1 : (w.alloc (.cells #[.int .i64 fr, .int .i64 to, .slice a n c, .int .i64 lim, .bool tx] 76)).heap.size = w.heap.size + 1 := Array.size_push _
  have hb1 : Below w.heap.size w (w.alloc (.cells #[.int .i64 fr, .int .i64 to, .slice a n c, .int .i64 lim, .bool tx] 76)) := (Below.refl _ _).alloc (Nat.le_refl _) _
  have hb2 : Below w.heap.size w w2 := by rw [hw2]; exact hb1.alloc hb1.size _
  have hq : ∀ w3, Below w2.heap.size w2 w3 → ∀ j u, (#[.int .i64 fr, .int .i64 to, .slice a n c, .int .i64 lim, .bool tx] : Array Value)[j]? = some u → w3.cell? ⟨w.heap.size, j, none⟩ = some u := fun w3 h3 j u hu => by
    have hb12 : Below (w.alloc (.cells #[.int .i64 fr, .int .i64 to, .slice a n c, .int .i64 lim, .bool tx] 76)).heap.size (w.alloc (.cells #[.int .i64 fr, .int .i64 to, .slice a n c, .int .i64 lim, .bool tx] 76)) w2 := by rw [hw2]; exact (Below.refl _ _).alloc (Nat.le_refl _) _
    exact box_cell (hb12.trans (h3.mono hb12.size)) hu
  have hx : ∀ w3, Below w2.heap.size w2 w3 → ∀ j u, (#[.slice sa sn sc, .slice pa pn pc] : Array Value)[j]? = some u → w3.cell? ⟨w.heap.size + 1, j, none⟩ = some u := fun w3 h3 j u hu => by
    rw [hw2] at h3
    rw [← s1]
    exact box_cell h3 hu
  have HQ := Lib.hid hq
  have HX := Lib.hid hx
  have HB := Lib.hid hb2
  have HM0 := Lib.hid h
  have HML := Lib.hid h.len
  have HM := Lib.hid (h.kept hb2)
  have HW := Lib.hid hw2
  have hcap := h.cap
  have hcm := h.capm
  clear h hb1 hb2 hq hx hw2 s1
  have HSS := Lib.hid hs
  have HPS := Lib.hid hp
  have HFEW := Lib.hid hfew
  have hsc := hs.cap
  have hscm := hs.capm
  have hpc := hp.cap
  have hpcm := hp.capm
  have HSL := Lib.hid hs.len
  have HPL := Lib.hid hp.len
  clear hs hp hfew
  obtain ⟨wo, hwo⟩ : ∃ wo, wo = w2.alloc (.cells #[] 3) := ⟨_, rfl⟩
  have hsz2 : w2.heap.size = w.heap.size + 1 + 1 := by
    rw [HW.out]
    show ((w.heap.push _).push _).size = _
    rw [Array.size_push, Array.size_push]
  obtain ⟨bo, hbo⟩ : ∃ bo, bo = w.heap.size + 1 + 1 := ⟨_, rfl⟩
  have hb2o : Below w2.heap.size w2 wo := by rw [hwo]; exact (Below.refl _ _).alloc (Nat.le_refl _) _
  have hoo : wo.ownsRow w2.heap.size 3 1 (.slice (some ⟨bo, 0, none⟩) 0 0) 0 [] := by rw [hwo, hbo, ← hsz2]; exact World.ownsRow_lit (base := w2.heap.size) (e := 3) (size := 1) w2 #[] 0 (Nat.le_refl _) (by unfold maxLen; omega) rfl
  have HB2O := Lib.hid hb2o
  have HOO := Lib.hid hoo
  have HWO := Lib.hid hwo
  have HBO := Lib.hid hbo
  have HBWO := Lib.hid (HB.out.trans (hb2o.mono HB.out.size))
  clear hwo hbo hb2o hoo hsz2
  go_enter Try.func61, Try.ntmps61
  have hqs : (w2.alloc (.cells #[] 3)).cell? ⟨w.heap.size, 0, none⟩ = some (.int .i64 fr) ∧ (w2.alloc (.cells #[] 3)).cell? ⟨w.heap.size, 1, none⟩ = some (.int .i64 to) ∧ (w2.alloc (.cells #[] 3)).cell? ⟨w.heap.size, 2, none⟩ = some (.slice a n c) ∧ (w2.alloc (.cells #[] 3)).cell? ⟨w.heap.size, 3, none⟩ = some (.int .i64 lim) ∧ (w2.alloc (.cells #[] 3)).cell? ⟨w.heap.size, 4, none⟩ = some (.bool tx) := by
    rw [← HWO.out]; exact ⟨HQ.out wo HB2O.out 0 _ rfl, HQ.out wo HB2O.out 1 _ rfl, HQ.out wo HB2O.out 2 _ rfl, HQ.out wo HB2O.out 3 _ rfl, HQ.out wo HB2O.out 4 _ rfl⟩
  obtain ⟨q0, q1, q2, q3, q4⟩ := hqs
  go_wp2_with fail
  rw [← HW.out]
  go_wp2_with fail
  rw [← HWO.out, ← HBO.out]
  refine (rqright_any (HM0.out.kept HBWO.out)).mono ?_
  rintro e w3 ⟨rfl, hb3⟩
  have HB23 := Lib.hid (HB2O.out.trans (hb3.mono HB2O.out.size))
  have HB3 := Lib.hid (HB.out.trans (HB23.out.mono HB.out.size))
  have HO3 := Lib.hid (own_below HOO.out hb3)
  clear q0 q1 q2 q3 q4 hb3
  cases hqr : qRight (⟨fr, to, ms, lim, tx⟩ : QP) with
  | false =>
    have HV := Lib.hid (show VecAt IntS w3 (some ⟨bo, 0, none⟩) 0 0 (groupsB (⟨fr, to, ms, lim, tx⟩ : QP) ss ps) from by
      unfold groupsB; rw [hqr]
      exact VecAt.empty _ _ 0 (by omega) (fun e => by cases e))
    clear hqr
    go_wp2_with fail
    go_ret
    exact ⟨_, 0, 0, rfl, HV.out, HB3.out⟩
  | true =>
    obtain ⟨N, hN⟩ : ∃ N, N = namedTo ms ps pn := ⟨_, rfl⟩
    have HNE := Lib.hid hN
    have HE := Lib.hid (show groupsB (⟨fr, to, ms, lim, tx⟩ : QP) ss ps = grpTo (⟨fr, to, ms, lim, tx⟩ : QP) ss N sn from by unfold groupsB; rw [hqr, if_pos rfl, HPL.out, HSL.out, hN])
    have x0 : w3.cell? ⟨w.heap.size + 1, 0, none⟩ = some (.slice sa sn sc) := HX.out w3 HB23.out 0 _ rfl
    have HBZ := Lib.hid (Below.refl w3.heap.size w3)
    clear hqr hN
    go_wp2_with fail
    clear x0
    go_loopw [5, 6, 7, 8, 10, 11, 12, 14, 23, 43, 65] (fun s5 s6 s7 s8 s10 s11 s12 s14 s23 s43 s65 wr => ∃ (k m9 c9 : Nat) (a9 : Option Addr), k ≤ sn ∧ s23 = .int .i64 (k : Int) ∧ s5 = .slice a9 m9 c9 ∧ Hid (m9 = (grpTo (⟨fr, to, ms, lim, tx⟩ : QP) ss N k).length) ∧ Hid (wr.ownsRow w2.heap.size 3 1 (.slice a9 m9 c9) m9 (IntS.flat (grpTo (⟨fr, to, ms, lim, tx⟩ : QP) ss N k))) ∧ Hid (Below w2.heap.size w2 wr)) (fun _ _ _ _ _ _ _ _ s23 _ _ _ => sn - (intOf s23).toNat)
    case atStart => exact ⟨0, 0, 0, _, by omega, rfl, rfl, Lib.hid rfl, HO3, HB23⟩
    case round =>
      clear HBZ
      obtain ⟨k, m9, c9, a9, hk, rfl, rfl, HLN, HO, HBR⟩ := hrel
      rename World => wr
      have hm9 : m9 ≤ 40 := by have h1 := grpTo_len (⟨fr, to, ms, lim, tx⟩ : QP) ss N k; rw [← HLN.out] at h1; omega
      have HBWR := Lib.hid (HB.out.trans (HBR.out.mono HB.out.size))
      by_cases hkn : k < sn
      · have hki : (k : Int) < (sn : Int) := by omega
        obtain ⟨sb, so, rfl, hsl, _, hsc9⟩ := (HSS.out.kept HBWR.out).get hkn
        obtain ⟨s, hse⟩ : ∃ s, s = ss.getD k SpanS.z := ⟨_, rfl⟩
        rw [← hse] at hsc9
        have d0 : wr.cell? ⟨sb, so + k * 5, none⟩ = some (.int .i64 s.at') := hsc9 0 _ rfl
        have d1 : wr.cell? ⟨sb, so + k * 5 + 1, none⟩ = some (.int .i64 s.sz) := hsc9 1 _ rfl
        have d2 : wr.cell? ⟨sb, so + k * 5 + 2, none⟩ = some (.int .i64 s.rw') := hsc9 2 _ rfl
        have d3 : wr.cell? ⟨sb, so + k * 5 + 3, none⟩ = some (.int .i64 s.fi) := hsc9 3 _ rfl
        have d4 : wr.cell? ⟨sb, so + k * 5 + 4, none⟩ = some (.int .i64 s.la) := hsc9 4 _ rfl
        obtain ⟨wx, hwx⟩ : ∃ wx, wx = wr.alloc (.cells #[.int .i64 s.at', .int .i64 s.sz, .int .i64 s.rw', .int .i64 s.fi, .int .i64 s.la] 92) := ⟨_, rfl⟩
        have hbx : Below wr.heap.size wr wx := by rw [hwx]; exact (Below.refl _ _).alloc (Nat.le_refl _) _
        have HBX := Lib.hid (HBR.out.trans (hbx.mono HBR.out.size))
        have HOX := Lib.hid (own_below HO.out hbx)
        have HWX := Lib.hid hwx
        have HGS := Lib.hid (show grpTo (⟨fr, to, ms, lim, tx⟩ : QP) ss N (k + 1) = grpTo (⟨fr, to, ms, lim, tx⟩ : QP) ss N k ++ (if (decide (0 < N (k : Int)) && (decide (s.fi < to) && decide (fr ≤ s.la))) = true then [(k : Int)] else []) from by rw [grpTo, ← hse])
        have hqs : (wr.alloc (.cells #[.int .i64 s.at', .int .i64 s.sz, .int .i64 s.rw', .int .i64 s.fi, .int .i64 s.la] 92)).cell? ⟨w.heap.size, 0, none⟩ = some (.int .i64 fr) ∧ (wr.alloc (.cells #[.int .i64 s.at', .int .i64 s.sz, .int .i64 s.rw', .int .i64 s.fi, .int .i64 s.la] 92)).cell? ⟨w.heap.size, 1, none⟩ = some (.int .i64 to) ∧ (wr.alloc (.cells #[.int .i64 s.at', .int .i64 s.sz, .int .i64 s.rw', .int .i64 s.fi, .int .i64 s.la] 92)).cell? ⟨w.heap.size + 1, 1, none⟩ = some (.slice pa pn pc) := by
          rw [← hwx]; exact ⟨HQ.out wx HBX.out 0 _ rfl, HQ.out wx HBX.out 1 _ rfl, HX.out wx HBX.out 1 _ rfl⟩
        obtain ⟨q0, q1, xx1⟩ := hqs
        clear hsc9 hse hwx hbx hsl
        by_cases ho : (decide (s.fi < to) && decide (fr ≤ s.la)) = true
        case neg =>
          have HG2 := Lib.hid (show grpTo (⟨fr, to, ms, lim, tx⟩ : QP) ss N (k + 1) = grpTo (⟨fr, to, ms, lim, tx⟩ : QP) ss N k from by rw [HGS.out, Bool.eq_false_iff.2 ho, Bool.and_false]; simp)
          have HLN2 := Lib.hid (show m9 = (grpTo (⟨fr, to, ms, lim, tx⟩ : QP) ss N (k + 1)).length from by rw [HG2.out]; exact HLN.out)
          have HO6 := Lib.hid (show wx.ownsRow w2.heap.size 3 1 (.slice a9 m9 c9) m9 (IntS.flat (grpTo (⟨fr, to, ms, lim, tx⟩ : QP) ss N (k + 1))) from by rw [HG2.out]; exact HOX.out)
          have HBX6 := HBX
          rw [HWX.out] at HO6 HBX6
          by_cases c1 : s.fi < to
          · have z1 : decide (to ≤ s.fi) = false := decide_eq_false (by omega)
            have z2 : decide (s.la < fr) = true := decide_eq_true (by
              rw [decide_eq_true c1, Bool.true_and, decide_eq_true_eq] at ho; omega)
            clear ho c1
            go_wp2_with fail
            go_roundw
            case rel => exact ⟨k + 1, m9, c9, a9, by omega, by go_num, rfl, HLN2, HO6, HBX6⟩
            case measure => simp [intOf]; omega
          · have z1 : decide (to ≤ s.fi) = true := decide_eq_true (by omega)
            clear ho c1
            go_wp2_with fail
            go_roundw
            case rel => exact ⟨k + 1, m9, c9, a9, by omega, by go_num, rfl, HLN2, HO6, HBX6⟩
            case measure => simp [intOf]; omega
        case pos =>
          have hoo : s.fi < to ∧ fr ≤ s.la := by simpa using ho
          have z1 : decide (to ≤ s.fi) = false := decide_eq_false (by omega)
          have z2 : decide (s.la < fr) = false := decide_eq_false (by omega)
          have HGS2 := Lib.hid (show grpTo (⟨fr, to, ms, lim, tx⟩ : QP) ss N (k + 1) = grpTo (⟨fr, to, ms, lim, tx⟩ : QP) ss N k ++ (if decide (0 < N (k : Int)) = true then [(k : Int)] else []) from by rw [HGS.out, ho, Bool.and_true])
          clear ho hoo
          go_wp2_with fail
          rw [← HWX.out]
          clear q0 q1 xx1 z1 z2 d0 d1 d2 d3 d4
          go_loopw [8, 10, 11, 12, 14, 43, 65] (fun s8 s10 s11 s12 s14 s43 s65 wq => ∃ (j z : Nat), j ≤ pn ∧ s43 = .int .i64 (j : Int) ∧ s8 = .bool (z == 1) ∧ Hid (z = if 0 < namedTo ms ps j (k : Int) then 1 else 0) ∧ Hid (Below wx.heap.size wx wq)) (fun _ _ _ _ _ s43 _ _ => pn - (intOf s43).toNat)
          case atStart => exact ⟨0, 0, by omega, rfl, rfl, Lib.hid (by simp [namedTo]), Lib.hid (Below.refl _ _)⟩
          case round =>
            obtain ⟨j, z, hj, rfl, rfl, HZ, HBQ⟩ := hrel
            rename World => wq
            have HB2Q := Lib.hid (HBX.out.trans (HBQ.out.mono HBX.out.size))
            have HBWQ := Lib.hid (HB.out.trans (HB2Q.out.mono HB.out.size))
            by_cases hjn : j < pn
            · have hji : (j : Int) < (pn : Int) := by omega
              obtain ⟨pb, po, rfl, hpl, hpok, hpc9⟩ := (HPS.out.kept HBWQ.out).get hjn
              obtain ⟨p, hpe⟩ : ∃ p, p = ps.getD j PostS.z := ⟨_, rfl⟩
              have hpm : p ∈ ps := by rw [hpe]; exact vec_mem (S := PostS) (by rw [HPL.out]; exact hjn)
              rw [← hpe] at hpok hpc9
              have c0 : wq.cell? ⟨pb, po + j * 2, none⟩ = some (.string p.text) := hpc9 0 _ rfl
              have c1 : wq.cell? ⟨pb, po + j * 2 + 1, none⟩ = some (.slice p.a p.n p.c) := hpc9 1 _ rfl
              have hpf := HFEW.out p hpm
              have HPE := Lib.hid hpe
              have HPF := Lib.hid hpf
              have HPA := Lib.hid ((HPS.out.all p hpm).2)
              have hpcap := hpok.2.cap
              have hpcapm := hpok.2.capm
              obtain ⟨ptx, pga, pgn, pgc, pgs⟩ := p
              simp only at c0 c1 hpcap hpcapm hpf
              have HPA := Lib.hid (show VecAt IntS w pga pgn pgc pgs from HPA.out)
              obtain ⟨wy, hwy⟩ : ∃ wy, wy = wq.alloc (.cells #[.string ptx, .slice pga pgn pgc] 96) := ⟨_, rfl⟩
              have hby : Below wq.heap.size wq wy := by rw [hwy]; exact (Below.refl _ _).alloc (Nat.le_refl _) _
              have hyb : wy.heap[wq.heap.size]? = some (.cells #[.string ptx, .slice pga pgn pgc] 96 (0, 0)) := by rw [hwy]; exact heap_alloc_new wq _
              have HYB := Lib.hid hyb
              have HYL := Lib.hid (Array.getElem?_eq_some_iff.1 hyb).1
              have HBY := Lib.hid (HBQ.out.trans (hby.mono HBQ.out.size))
              have HB2Y := Lib.hid (HB2Q.out.trans (hby.mono HB2Q.out.size))
              have HWY := Lib.hid hwy
              have HPP := Lib.hid (rparse_any ptx (by have := hpf.2; omega) wy)
              clear hpok hpc9 hpe hpm hpf hwy hby hyb hpl
              go_wp2_with fail
              rw [← HWY.out]
              refine HPP.out.mono ?_
              rintro e w5 ⟨la, ln, lc, rfl, hl, hb5⟩
              have HB5 := Lib.hid (HBY.out.trans (hb5.mono HBY.out.size))
              have HB25 := Lib.hid (HB2Y.out.trans (hb5.mono HB2Y.out.size))
              have hyb5 := (hb5.block wq.heap.size HYL.out).trans HYB.out
              clear c0 c1
              cases hsi : setIn ptx with
              | none =>
                have hh : hitP ms ptx = false := by unfold hitP; rw [hsi]
                have HZ2 := Lib.hid (show z = if 0 < namedTo ms ps (j + 1) (k : Int) then 1 else 0 from by rw [named_snoc ms ps _ j (by rw [← HPE.out]; exact hh)]; exact HZ.out)
                simp only [Option.isSome_none]
                clear hsi hh hl hyb5 hb5
                go_wp2_with fail
                go_roundw
                case rel => exact ⟨j + 1, z, by omega, by go_num, rfl, HZ2, HB5⟩
                case measure => simp [intOf]; omega
              | some P =>
                have hh : hitP ms ptx = meetsB P ms := by unfold hitP; rw [hsi]
                rw [hsi] at hl
                simp only [Option.getD_some] at hl
                simp only [Option.isSome_some]
                have HL := Lib.hid hl
                have HH := Lib.hid hh
                have q2 : w5.cell? ⟨w.heap.size, 2, none⟩ = some (.slice a n c) := HQ.out w5 HB25.out 2 _ rfl
                have HYB5 := Lib.hid hyb5
                have HYL5 := Lib.hid (Nat.lt_of_lt_of_le HYL.out hb5.size)
                clear hsi hh hl hyb5 hb5
                go_wp2_with fail
                refine (rmeets_any HL.out (HM.out.kept HB25.out)).mono ?_
                rintro e w6 ⟨rfl, hb6⟩
                have HB6 := Lib.hid (HB5.out.trans (hb6.mono HB5.out.size))
                have u1 : w6.cell? ⟨wq.heap.size, 1, none⟩ = some (.slice pga pgn pgc) := cell_blk ((hb6.block wq.heap.size HYL5.out).trans HYB5.out) rfl
                clear q2 hb6
                cases hm : meetsB P ms with
                | false =>
                  have HZ2 := Lib.hid (show z = if 0 < namedTo ms ps (j + 1) (k : Int) then 1 else 0 from by rw [named_snoc ms ps _ j (by rw [← HPE.out, HH.out]; exact hm)]; exact HZ.out)
                  clear hm
                  go_wp2_with fail
                  go_roundw
                  case rel => exact ⟨j + 1, z, by omega, by go_num, rfl, HZ2, HB6⟩
                  case measure => simp [intOf]; omega
                | true =>
                  have HHIT := Lib.hid (show hitP ms ptx = true from HH.out.trans hm)
                  have HZ0 := Lib.hid (show z = if 0 < namedTo ms ps j (k : Int) + (pgs.take 0).count (k : Int) then 1 else 0 from by rw [List.take_zero, List.count_nil, Nat.add_zero]; exact HZ.out)
                  clear hm
                  go_wp2_with fail
                  clear u1
                  go_loopw [8, 14, 65] (fun s8 s14 s65 wt => ∃ (t z : Nat), t ≤ pgn ∧ s65 = .int .i64 (t : Int) ∧ s8 = .bool (z == 1) ∧ Hid (z = if 0 < namedTo ms ps j (k : Int) + (pgs.take t).count (k : Int) then 1 else 0) ∧ Hid (Below w6.heap.size w6 wt)) (fun _ _ s65 _ => pgn - (intOf s65).toNat)
                  case atStart => exact ⟨0, z, by omega, rfl, rfl, HZ0, Lib.hid (Below.refl _ _)⟩
                  case round =>
                    clear HZ0 HZ
                    obtain ⟨t, z, ht, rfl, rfl, HZ, HBT⟩ := hrel
                    rename World => wt
                    by_cases htn : t < pgn
                    · have hti : (t : Int) < (pgn : Int) := by omega
                      have HBXT := Lib.hid (HB6.out.trans (HBT.out.mono HB6.out.size))
                      have HBWT := Lib.hid (HB.out.trans ((HBX.out.trans (HBXT.out.mono HBX.out.size)).mono HB.out.size))
                      have hints := HPA.out.kept HBWT.out
                      obtain ⟨gb, go, rfl, hgl, hgok, hgc⟩ := hints.get htn
                      obtain ⟨x, hxe⟩ : ∃ x, x = pgs.getD t 0 := ⟨_, rfl⟩
                      have c9 : wt.cell? ⟨gb, go + t, none⟩ = some (.int .i64 x) := by
                        have h1 := hgc 0 (.int .i64 x) (by rw [hxe]; rfl)
                        have e : go + t * IntS.K + 0 = go + t := by show go + t * 1 + 0 = _; omega
                        rw [e] at h1; exact h1
                      have HCT := Lib.hid (show (pgs.take (t + 1)).count (k : Int) = (pgs.take t).count (k : Int) + (if x = (k : Int) then 1 else 0) from by rw [count_take pgs _ (by rw [HPA.out.len]; exact htn), ← hxe])
                      clear hints hgl hgok hgc hxe
                      by_cases hz : 0 < namedTo ms ps j (k : Int) + (pgs.take t).count (k : Int)
                      · obtain rfl : z = 1 := by rw [HZ.out, if_pos hz]
                        have HZ2 := Lib.hid (show (1 : Nat) = if 0 < namedTo ms ps j (k : Int) + (pgs.take (t + 1)).count (k : Int) then 1 else 0 from by rw [HCT.out, if_pos (by omega)])
                        clear hz
                        go_wp2_with fail
                        go_roundw
                        case rel => exact ⟨t + 1, 1, by omega, by go_num, rfl, HZ2, HBT⟩
                        case measure => simp [intOf]; omega
                      · obtain rfl : z = 0 := by rw [HZ.out, if_neg hz]
                        by_cases he : x = (k : Int)
                        · have e1 : (x == (k : Int)) = true := by simp [he]
                          have HZ2 := Lib.hid (show (1 : Nat) = if 0 < namedTo ms ps j (k : Int) + (pgs.take (t + 1)).count (k : Int) then 1 else 0 from by rw [HCT.out, if_pos he, if_pos (by omega)])
                          clear hz he
                          go_wp2_with fail
                          go_roundw
                          case rel => exact ⟨t + 1, 1, by omega, by go_num, rfl, HZ2, HBT⟩
                          case measure => simp [intOf]; omega
                        · have e1 : (x == (k : Int)) = false := by rw [beq_eq_false_iff_ne]; exact he
                          have HZ2 := Lib.hid (show (0 : Nat) = if 0 < namedTo ms ps j (k : Int) + (pgs.take (t + 1)).count (k : Int) then 1 else 0 from by rw [HCT.out, if_neg he, if_neg (by omega)])
                          clear hz he
                          go_wp2_with fail
                          go_roundw
                          case rel => exact ⟨t + 1, 0, by omega, by go_num, rfl, HZ2, HBT⟩
                          case measure => simp [intOf]; omega
                    · obtain rfl : t = pgn := by omega
                      have HZ2 := Lib.hid (show z = if 0 < namedTo ms ps (j + 1) (k : Int) then 1 else 0 from by
                        rw [named_hit ms ps _ j (by rw [← HPE.out]; exact HHIT.out), ← HPE.out]
                        have h1 := HZ.out
                        rw [List.take_of_length_le (by rw [HPA.out.len]; exact Nat.le_refl _)] at h1
                        exact h1)
                      have HBXT := Lib.hid (HB6.out.trans (HBT.out.mono HB6.out.size))
                      clear htn
                      go_wp2_with fail
                      go_roundw
                      case rel => exact ⟨j + 1, z, by omega, by go_num, rfl, HZ2, HBXT⟩
                      case measure => simp [intOf]; omega
            · obtain rfl : j = pn := by omega
              have HOQ := Lib.hid (own_below HOX.out HBQ.out)
              by_cases hz : 0 < N (k : Int)
              · obtain rfl : z = 1 := by rw [HZ.out, ← HNE.out, if_pos hz]
                have HG2 := Lib.hid (show grpTo (⟨fr, to, ms, lim, tx⟩ : QP) ss N (k + 1) = grpTo (⟨fr, to, ms, lim, tx⟩ : QP) ss N k ++ [(k : Int)] from by rw [HGS2.out, decide_eq_true hz]; rfl)
                have HLN2 := Lib.hid (show m9 + 1 = (grpTo (⟨fr, to, ms, lim, tx⟩ : QP) ss N (k + 1)).length from by rw [HG2.out, List.length_append, ← HLN.out]; rfl)
                have HSRC := Lib.hid (IntS.src wq (k : Int) 3 (cs := #[.int .i64 (k : Int)]) rfl)
                have HOA := Lib.hid (HOQ.out.alloc (.cells #[.int .i64 (k : Int)] 3))
                have HBA := Lib.hid (HB2Q.out.alloc HB2Q.out.size (.cells #[.int .i64 (k : Int)] 3))
                have HBS := Lib.hid HB2Q.out.size
                clear hz hjn
                go_wp2_with (at_builtin; refine wpList_append_own_at _ rfl (.tmp 78) (.tmp 80) 93 rfl w2.heap.size 3 i0 _ 1 8 Try.underlying93 ii iz0 iz1 iz2 rfl (by decide) _ m9 _ rfl HOA.out ⟨wq.heap.size, 0, none⟩ 1 1 [.int .i64 (k : Int)] rfl rfl HSRC.out (IntS.one (k : Int)) (by unfold maxLen; omega) (by omega) (Nat.le_trans HBS.out (by simp)) ?_)
                intro v7 w7 ho7 hg7 _ _
                obtain ⟨g7, c7, rfl⟩ := own_some2 ho7 (by omega)
                have HO7 := Lib.hid (show w7.ownsRow w2.heap.size 3 1 (.slice (some ⟨g7, 0, none⟩) (m9 + 1) c7) (m9 + 1) (IntS.flat (grpTo (⟨fr, to, ms, lim, tx⟩ : QP) ss N (k + 1))) from by rw [HG2.out, IntS.flat_snoc]; exact ho7)
                have HB7 := Lib.hid (below_own HBA.out HOA.out hg7 (Nat.le_refl _) (Nat.le_trans HBS.out (by simp)))
                clear ho7 hg7
                go_wp2_with fail
                go_roundw
                case rel => exact ⟨k + 1, m9 + 1, c7, _, by omega, by go_num, rfl, HLN2, HO7, HB7⟩
                case measure => simp [intOf]; omega
              · obtain rfl : z = 0 := by rw [HZ.out, ← HNE.out, if_neg hz]
                have HG2 := Lib.hid (show grpTo (⟨fr, to, ms, lim, tx⟩ : QP) ss N (k + 1) = grpTo (⟨fr, to, ms, lim, tx⟩ : QP) ss N k from by rw [HGS2.out, decide_eq_false hz]; simp)
                have HLN2 := Lib.hid (show m9 = (grpTo (⟨fr, to, ms, lim, tx⟩ : QP) ss N (k + 1)).length from by rw [HG2.out]; exact HLN.out)
                have HO6 := Lib.hid (show wq.ownsRow w2.heap.size 3 1 (.slice a9 m9 c9) m9 (IntS.flat (grpTo (⟨fr, to, ms, lim, tx⟩ : QP) ss N (k + 1))) from by rw [HG2.out]; exact HOQ.out)
                clear hz hjn
                go_wp2_with fail
                go_roundw
                case rel => exact ⟨k + 1, m9, c9, a9, by omega, by go_num, rfl, HLN2, HO6, HB2Q⟩
                case measure => simp [intOf]; omega
      · obtain rfl : k = sn := by omega
        have HV := Lib.hid (show VecAt IntS wr a9 m9 c9 (groupsB (⟨fr, to, ms, lim, tx⟩ : QP) ss ps) from by
          rw [HE.out]
          exact VecAt.ofOwn (S := IntS) HO.out HLN.out.symm (grpTo_wf (⟨fr, to, ms, lim, tx⟩ : QP) ss N k (by omega)))
        clear hkn
        go_wp2_with fail
        go_ret
        exact ⟨a9, m9, c9, rfl, HV.out, HBWR.out⟩
end Go.Proofs.Ytjbljplgkbnpmaa
end SecQGrp3
section SecQGrp4
/- The law QueryGroups, walked. Written by genqgroups.py. -/
namespace Go.Proofs.Ytjbljplgkbnpmaa
open Go.ChangeShapes Go.WideShapes Go.Deep Go.RowKit LabPlain RecPlain Stab
set_option linter.unusedVariables false

theorem gr_set {w : World} {B : Nat} {cur : Array Value} {t : TypeId} (g : w.heap[B]? = some (.cells cur t (0, 0))) (i : Nat) (u : Value) : (w.setCell ⟨B, i, none⟩ u).heap[B]? = some (.cells (cur.setIfInBounds i u) t (0, 0)) := heap_setCell_same w B i cur t u g
theorem gr_fro {w : World} {B : Nat} {cur : Array Value} {t : TypeId} (g : w.heap[B]? = some (.cells cur t (0, 0))) (i : Nat) : w.frozen? ⟨B, i, none⟩ = false := by simp [World.frozen?, g]
theorem rspan_info : (Try.prog.info? 92).map (fun i => (i.zero, i.size, i.bytes)) = some (some (.agg #[.int .i64 0, .int .i64 0, .int .i64 0, .int .i64 0, .int .i64 0]), 5, 40) := by kernel_rfl
theorem rpost_info : (Try.prog.info? 96).map (fun i => (i.zero, i.size, i.bytes)) = some (some (.agg #[.string ByteArray.empty, .slice none 0 0]), 2, 40) := by kernel_rfl

set_option maxRecDepth 100000 in
set_option maxHeartbeats 2000000 in
theorem sameints_any {w : World} {a b : Option Addr} {n c n' c' : Nat} {l : List Int} (h : VecAt IntS w a n c l) (h' : VecAt IntS w b n' c' l) :
    Calls Try.prog 59 #[.slice a n c, .slice b n' c'] w fun e w' => e = .returned (.bool true) ∧ Below w.heap.size w w' := by
  obtain rfl : n = n' := by rw [← h.len, h'.len]
  have HH := Lib.hid h
  have HH' := Lib.hid h'
  have hcap := h.cap
  have hcm := h.capm
  have hcap' := h'.cap
  have hcm' := h'.capm
  clear h h'
  go_enter Try.func59, Try.ntmps59
  go_wp2_with fail
  go_loopw [5, 13] (fun s5 s13 wr => ∃ k : Nat, k ≤ n ∧ s13 = .int .i64 (k : Int) ∧ Hid (Below w.heap.size w wr)) (fun _ s13 _ => n - (intOf s13).toNat)
  case atStart => exact ⟨0, by omega, rfl, Lib.hid (Below.refl _ _)⟩
  case round =>
    obtain ⟨k, hk, rfl, HB⟩ := hrel
    rename World => wr
    by_cases hkn : k < n
    · have hki : (k : Int) < (n : Int) := by omega
      obtain ⟨b1, o1, rfl, _, _, hc1⟩ := (HH.out.kept HB.out).get hkn
      obtain ⟨b2, o2, rfl, _, _, hc2⟩ := (HH'.out.kept HB.out).get hkn
      obtain ⟨x, hx⟩ : ∃ x, x = l.getD k IntS.z := ⟨_, rfl⟩
      rw [← hx] at hc1 hc2
      have d1 : wr.cell? ⟨b1, o1 + k, none⟩ = some (.int .i64 x) := by
        have h1 := hc1 0 (.int .i64 x) rfl
        have e : o1 + k * IntS.K + 0 = o1 + k := by show o1 + k * 1 + 0 = _; omega
        rw [e] at h1; exact h1
      have d2 : wr.cell? ⟨b2, o2 + k, none⟩ = some (.int .i64 x) := by
        have h1 := hc2 0 (.int .i64 x) rfl
        have e : o2 + k * IntS.K + 0 = o2 + k := by show o2 + k * 1 + 0 = _; omega
        rw [e] at h1; exact h1
      have e1 : (x != x) = false := by simp
      have HBD := Lib.hid (HB.out.drew)
      clear hc1 hc2 hx
      go_wp2_with fail
      go_region
      all_goals
        go_wp2_with fail
        go_roundw
        case rel => exact ⟨k + 1, by omega, by go_num, HBD⟩
        case measure => simp [intOf]; omega
    · obtain rfl : k = n := by omega
      clear hkn
      go_wp2_with fail
      go_ret
      exact ⟨rfl, HB.out⟩

set_option maxRecDepth 100000 in
set_option maxHeartbeats 8000000 in
theorem query_groups (fr to : Int) (a : Option Addr) (n c : Nat) (ms : List Mat) (lim : Int) (tx : Bool) (sa : Option Addr) (sn sc : Nat) (ss : List SpanV) (pa : Option Addr) (pn pc : Nat) (ps : List PostV) (ky : ByteArray) (wi : Int) (pt : ByteArray) (first last erw esz esm ebn : Int) (w : World)
    (h : MatsAt w a n c ms) (hs : VecAt SpanS w sa sn sc ss) (hp : VecAt PostS w pa pn pc ps) (hmx : ∃ mx, w.cell? ⟨0, 0, none⟩ = some (.int .i64 mx)) :
    Calls Try.prog 13 #[.agg #[.int .i64 fr, .int .i64 to, .slice a n c, .int .i64 lim, .bool tx], .slice sa sn sc, .slice pa pn pc, .agg #[.string ky, .int .i64 wi, .string pt, .int .i64 first, .int .i64 last, .int .i64 erw, .int .i64 esz, .int .u32 esm, .int .i64 ebn]] w fun e w' => e = .returned (.bool true) ∧ Below w.heap.size w w' := by
  obtain ⟨i0, ii, iz0, iz1, iz2⟩ := info_parts rspan_info
  obtain ⟨j0, ji, jz0, jz1, jz2⟩ := info_parts rpost_info
  obtain ⟨mx, hmx⟩ := hmx
  obtain ⟨w2, hw2⟩ : ∃ w2, w2 = (w.alloc (.cells #[.int .i64 fr, .int .i64 to, .slice a n c, .int .i64 lim, .bool tx] 76)).alloc (.cells #[.string ky, .int .i64 wi, .string pt, .int .i64 first, .int .i64 last, .int .i64 erw, .int .i64 esz, .int .u32 esm, .int .i64 ebn] 85) := ⟨_, rfl⟩
  have s1 : (w.alloc (.cells #[.int .i64 fr, .int .i64 to, .slice a n c, .int .i64 lim, .bool tx] 76)).heap.size = w.heap.size + 1 := Array.size_push _
  have hb1 : Below w.heap.size w (w.alloc (.cells #[.int .i64 fr, .int .i64 to, .slice a n c, .int .i64 lim, .bool tx] 76)) := (Below.refl _ _).alloc (Nat.le_refl _) _
  have hb2 : Below w.heap.size w w2 := by rw [hw2]; exact hb1.alloc hb1.size _
  have hq : ∀ w3, Below w2.heap.size w2 w3 → ∀ j u, (#[.int .i64 fr, .int .i64 to, .slice a n c, .int .i64 lim, .bool tx] : Array Value)[j]? = some u → w3.cell? ⟨w.heap.size, j, none⟩ = some u := fun w3 h3 j u hu => by
    have hb12 : Below (w.alloc (.cells #[.int .i64 fr, .int .i64 to, .slice a n c, .int .i64 lim, .bool tx] 76)).heap.size (w.alloc (.cells #[.int .i64 fr, .int .i64 to, .slice a n c, .int .i64 lim, .bool tx] 76)) w2 := by rw [hw2]; exact (Below.refl _ _).alloc (Nat.le_refl _) _
    exact box_cell (hb12.trans (h3.mono hb12.size)) hu
  have hx : ∀ w3, Below w2.heap.size w2 w3 → ∀ j u, (#[.string ky, .int .i64 wi, .string pt, .int .i64 first, .int .i64 last, .int .i64 erw, .int .i64 esz, .int .u32 esm, .int .i64 ebn] : Array Value)[j]? = some u → w3.cell? ⟨w.heap.size + 1, j, none⟩ = some u := fun w3 h3 j u hu => by
    rw [hw2] at h3
    rw [← s1]
    exact box_cell h3 hu
  have h0 : 0 < w.heap.size := World.block_lt_of_cell? w _ hmx
  have HMX := Lib.hid (show ∀ w', Below w.heap.size w w' → w'.cell? ⟨0, 0, none⟩ = some (.int .i64 mx) from fun w' hb => (hb.cell (p := ⟨0, 0, none⟩) h0).trans hmx)
  have HQ := Lib.hid hq
  have HX := Lib.hid hx
  have HB := Lib.hid hb2
  have HM0 := Lib.hid h
  have HW := Lib.hid hw2
  have HSS := Lib.hid hs
  have HPS := Lib.hid hp
  have hsc := hs.cap
  have hscm := hs.capm
  have hpc := hp.cap
  have hpcm := hp.capm
  have hmc := h.cap
  have hmcm := h.capm
  have HSL := Lib.hid hs.len
  have HPL := Lib.hid hp.len
  clear h hb1 hb2 hq hx hw2 s1 hmx h0 hs hp
  by_cases k0 : (20 : Int) < (n : Int)
  case pos =>
    go_enter Try.func13, Try.ntmps13
    go_wp2_with fail
    rw [← HW.out]
    refine (lives12_any _).mono ?_
    rintro e w3 ⟨rfl, hb3⟩
    have HB23 := Lib.hid hb3
    have q2 : w3.cell? ⟨w.heap.size, 2, none⟩ = some (.slice a n c) := HQ.out w3 hb3 2 _ rfl
    have x2 : w3.cell? ⟨w.heap.size + 1, 2, none⟩ = some (.string pt) := HX.out w3 hb3 2 _ rfl
    clear hb3
    go_wp2_with fail
    refine (lives12_any _).mono ?_
    rintro e w4 ⟨rfl, hb4⟩
    have HB4 := Lib.hid (HB23.out.trans (hb4.mono HB23.out.size))
    clear hb4
    go_wp2_with fail
    go_ret
    exact ⟨rfl, HB.out.trans (HB4.out.mono HB.out.size)⟩
  by_cases k1 : (40 : Int) < (sn : Int)
  case pos =>
    go_enter Try.func13, Try.ntmps13
    go_wp2_with fail
    rw [← HW.out]
    refine (lives12_any _).mono ?_
    rintro e w3 ⟨rfl, hb3⟩
    have HB23 := Lib.hid hb3
    have q2 : w3.cell? ⟨w.heap.size, 2, none⟩ = some (.slice a n c) := HQ.out w3 hb3 2 _ rfl
    have x2 : w3.cell? ⟨w.heap.size + 1, 2, none⟩ = some (.string pt) := HX.out w3 hb3 2 _ rfl
    clear hb3
    go_wp2_with fail
    refine (lives12_any _).mono ?_
    rintro e w4 ⟨rfl, hb4⟩
    have HB4 := Lib.hid (HB23.out.trans (hb4.mono HB23.out.size))
    clear hb4
    go_wp2_with fail
    go_ret
    exact ⟨rfl, HB.out.trans (HB4.out.mono HB.out.size)⟩
  by_cases k2 : (40 : Int) < (pn : Int)
  case pos =>
    go_enter Try.func13, Try.ntmps13
    go_wp2_with fail
    rw [← HW.out]
    refine (lives12_any _).mono ?_
    rintro e w3 ⟨rfl, hb3⟩
    have HB23 := Lib.hid hb3
    have q2 : w3.cell? ⟨w.heap.size, 2, none⟩ = some (.slice a n c) := HQ.out w3 hb3 2 _ rfl
    have x2 : w3.cell? ⟨w.heap.size + 1, 2, none⟩ = some (.string pt) := HX.out w3 hb3 2 _ rfl
    clear hb3
    go_wp2_with fail
    refine (lives12_any _).mono ?_
    rintro e w4 ⟨rfl, hb4⟩
    have HB4 := Lib.hid (HB23.out.trans (hb4.mono HB23.out.size))
    clear hb4
    go_wp2_with fail
    go_ret
    exact ⟨rfl, HB.out.trans (HB4.out.mono HB.out.size)⟩
  by_cases k3 : (600 : Int) < (pt.size : Int)
  case pos =>
    go_enter Try.func13, Try.ntmps13
    go_wp2_with fail
    rw [← HW.out]
    refine (lives12_any _).mono ?_
    rintro e w3 ⟨rfl, hb3⟩
    have HB23 := Lib.hid hb3
    have q2 : w3.cell? ⟨w.heap.size, 2, none⟩ = some (.slice a n c) := HQ.out w3 hb3 2 _ rfl
    have x2 : w3.cell? ⟨w.heap.size + 1, 2, none⟩ = some (.string pt) := HX.out w3 hb3 2 _ rfl
    clear hb3
    go_wp2_with fail
    refine (lives12_any _).mono ?_
    rintro e w4 ⟨rfl, hb4⟩
    have HB4 := Lib.hid (HB23.out.trans (hb4.mono HB23.out.size))
    clear hb4
    go_wp2_with fail
    go_ret
    exact ⟨rfl, HB.out.trans (HB4.out.mono HB.out.size)⟩
  have HSN := Lib.hid (show sn ≤ 40 by omega)
  have HPN := Lib.hid (show pn ≤ 40 by omega)
  have HPT := Lib.hid (show pt.size ≤ 1000 by omega)
  go_enter Try.func13, Try.ntmps13
  go_wp2_with fail
  rw [← HW.out]
  refine (lives12_any _).mono ?_
  rintro e w3 ⟨rfl, hb3⟩
  have HB23 := Lib.hid hb3
  have q2 : w3.cell? ⟨w.heap.size, 2, none⟩ = some (.slice a n c) := HQ.out w3 hb3 2 _ rfl
  have x2 : w3.cell? ⟨w.heap.size + 1, 2, none⟩ = some (.string pt) := HX.out w3 hb3 2 _ rfl
  clear hb3
  obtain ⟨wi3, hwi⟩ : ∃ wi3, wi3 = w3.alloc (.cells #[.slice none 0 0, .slice none 0 0] 89) := ⟨_, rfl⟩
  obtain ⟨bi, hbi⟩ : ∃ bi, bi = w3.heap.size := ⟨_, rfl⟩
  have hib : wi3.heap[bi]? = some (.cells #[.slice none 0 0, .slice none 0 0] 89 (0, 0)) := by rw [hwi, hbi]; exact heap_alloc_new w3 _
  have hb3i : Below w3.heap.size w3 wi3 := by rw [hwi]; exact (Below.refl _ _).alloc (Nat.le_refl _) _
  have HIB0 := Lib.hid hib
  have HB3I := Lib.hid hb3i
  have HWI := Lib.hid hwi
  have HBI := Lib.hid hbi
  have HBIL := Lib.hid (Array.getElem?_eq_some_iff.1 hib).1
  have HWS := Lib.hid (hb3i.size)
  have HO0 := Lib.hid (World.ownsRow_nil wi3 wi3.heap.size 92 5)
  clear hib hb3i hwi hbi
  go_wp2_with fail
  rw [← HWI.out, ← HBI.out]
  clear q2 x2
  go_loopw [11, 41] (fun s11 s41 wr => ∃ (k c9 : Nat) (a9 : Option Addr), k ≤ sn ∧ s41 = .int .i64 (k : Int) ∧ Hid (wr.heap[bi]? = some (.cells #[.slice a9 k c9, .slice none 0 0] 89 (0, 0))) ∧ Hid (wr.ownsRow wi3.heap.size 92 5 (.slice a9 k c9) k (SpanS.flat (ss.take k))) ∧ Hid (Below w3.heap.size w3 wr) ∧ Hid (wi3.heap.size ≤ wr.heap.size)) (fun _ s41 _ => sn - (intOf s41).toNat)
  case atStart => exact ⟨0, 0, none, by omega, rfl, HIB0, HO0, HB3I, Lib.hid (Nat.le_refl _)⟩
  case round =>
    clear HIB0 HO0 HB3I
    obtain ⟨k, c9, a9, hk, rfl, HIB, HO, HBR, HSZ⟩ := hrel
    rename World => wr
    have HB2R := Lib.hid (HB23.out.trans (HBR.out.mono HB23.out.size))
    have HBWR := Lib.hid (HB.out.trans (HB2R.out.mono HB.out.size))
    by_cases hkn : k < sn
    · have hki : (k : Int) < (sn : Int) := by omega
      have hk40 : k ≤ 40 := by have := HSN.out; omega
      obtain ⟨sb, so, rfl, hsl, _, hsc9⟩ := (HSS.out.kept HBWR.out).get hkn
      obtain ⟨s, hse⟩ : ∃ s, s = ss.getD k SpanS.z := ⟨_, rfl⟩
      rw [← hse] at hsc9
      have hst : ss.take (k + 1) = ss.take k ++ [s] := by
        have hl : k < ss.length := by rw [HSL.out]; exact hkn
        rw [List.take_add_one, List.getElem?_eq_getElem hl, hse]; simp [hl, Option.toList]
      have HST := Lib.hid hst
      obtain ⟨s0, s1, s2, s3, s4⟩ := s
      have d0 : wr.cell? ⟨sb, so + k * 5, none⟩ = some (.int .i64 s0) := hsc9 0 _ rfl
      have d1 : wr.cell? ⟨sb, so + k * 5 + 1, none⟩ = some (.int .i64 s1) := hsc9 1 _ rfl
      have d2 : wr.cell? ⟨sb, so + k * 5 + 2, none⟩ = some (.int .i64 s2) := hsc9 2 _ rfl
      have d3 : wr.cell? ⟨sb, so + k * 5 + 3, none⟩ = some (.int .i64 s3) := hsc9 3 _ rfl
      have d4 : wr.cell? ⟨sb, so + k * 5 + 4, none⟩ = some (.int .i64 s4) := hsc9 4 _ rfl
      have hil : bi < wr.heap.size := (Array.getElem?_eq_some_iff.1 HIB.out).1
      have g0 : wr.cell? ⟨bi, 0, none⟩ = some (.slice a9 k c9) := cell_blk HIB.out rfl
      have HBX := Lib.hid ((HBR.out.alloc HBR.out.size (.cells #[.int .i64 s0, .int .i64 s1, .int .i64 s2, .int .i64 s3, .int .i64 s4] 91)).alloc (HBR.out.alloc HBR.out.size (.cells #[.int .i64 s0, .int .i64 s1, .int .i64 s2, .int .i64 s3, .int .i64 s4] 91)).size (.cells #[.int .i64 s0, .int .i64 s1, .int .i64 s2, .int .i64 s3, .int .i64 s4] 92))
      have HOA := Lib.hid ((HO.out.alloc (.cells #[.int .i64 s0, .int .i64 s1, .int .i64 s2, .int .i64 s3, .int .i64 s4] 91)).alloc (.cells #[.int .i64 s0, .int .i64 s1, .int .i64 s2, .int .i64 s3, .int .i64 s4] 92))
      have hsz1 : (wr.alloc (.cells #[.int .i64 s0, .int .i64 s1, .int .i64 s2, .int .i64 s3, .int .i64 s4] 91)).heap.size = wr.heap.size + 1 := Array.size_push _
      have HSRC := Lib.hid (show ∀ j u, (SpanS.f ⟨s0, s1, s2, s3, s4⟩)[j]? = some u → ((wr.alloc (.cells #[.int .i64 s0, .int .i64 s1, .int .i64 s2, .int .i64 s3, .int .i64 s4] 91)).alloc (.cells #[.int .i64 s0, .int .i64 s1, .int .i64 s2, .int .i64 s3, .int .i64 s4] 92)).cell? ((⟨wr.heap.size + 1, 0, none⟩ : Addr).add j) = some u from by
        rw [← hsz1]; exact SpanS.src (wr.alloc (.cells #[.int .i64 s0, .int .i64 s1, .int .i64 s2, .int .i64 s3, .int .i64 s4] 91)) ⟨s0, s1, s2, s3, s4⟩ 92 rfl)
      have HI2 := Lib.hid (show ((wr.alloc (.cells #[.int .i64 s0, .int .i64 s1, .int .i64 s2, .int .i64 s3, .int .i64 s4] 91)).alloc (.cells #[.int .i64 s0, .int .i64 s1, .int .i64 s2, .int .i64 s3, .int .i64 s4] 92)).heap[bi]? = some (.cells #[.slice a9 k c9, .slice none 0 0] 89 (0, 0)) from
        ((((Below.refl wr.heap.size wr).alloc (Nat.le_refl _) _).alloc (by rw [hsz1]; omega) _).block bi hil).trans HIB.out)
      have hsle := HSZ.out
      clear hsc9 hse hsl hst hsz1
      go_wp2_with (at_builtin; refine wpList_append_own_at _ rfl (.tmp 46) (.tmp 58) 86 rfl wi3.heap.size 92 i0 _ 5 40 Try.underlying86 ii iz0 iz1 iz2 rfl (by decide) _ k _ rfl HOA.out ⟨wr.heap.size + 1, 0, none⟩ 1 1 (SpanS.f ⟨s0, s1, s2, s3, s4⟩) rfl rfl HSRC.out (SpanS.one _) (by unfold maxLen; omega) (by omega) (by simp; omega) ?_)
      intro v7 w7 ho7 hg7 _ _
      obtain ⟨g7, c7, rfl⟩ := own_some2 ho7 (by omega)
      have hbn : some bi ≠ (Value.slice a9 k c9).ownBlock := fun e => by
        have h1 := (HO.out.lt bi e.symm).1; have h2 := HBIL.out
        omega
      have hi7 : w7.heap[bi]? = some (.cells #[.slice a9 k c9, .slice none 0 0] 89 (0, 0)) := (hg7.block bi (Array.getElem?_eq_some_iff.1 HI2.out).1 hbn).trans HI2.out
      have g7c : w7.cell? ⟨bi, 0, none⟩ = some (.slice a9 k c9) := cell_blk hi7 rfl
      have f7 : w7.frozen? ⟨bi, 0, none⟩ = false := gr_fro hi7 0
      have HI8 := Lib.hid (show (w7.setCell ⟨bi, 0, none⟩ (.slice (some ⟨g7, 0, none⟩) (k + 1) c7)).heap[bi]? = some (.cells #[.slice (some ⟨g7, 0, none⟩) (k + 1) c7, .slice none 0 0] 89 (0, 0)) from by
        have h1 := gr_set hi7 0 (.slice (some ⟨g7, 0, none⟩) (k + 1) c7)
        simpa using h1)
      have HO8 := Lib.hid (show (w7.setCell ⟨bi, 0, none⟩ (.slice (some ⟨g7, 0, none⟩) (k + 1) c7)).ownsRow wi3.heap.size 92 5 (.slice (some ⟨g7, 0, none⟩) (k + 1) c7) (k + 1) (SpanS.flat (ss.take (k + 1))) from by
        rw [HST.out, SpanS.flat_snoc]
        exact own_heap ho7 (fun d hd => Below.heap_setCell _ _ _ _ (by have h1 := (ho7.lt d hd).1; have h2 := HBIL.out; show d ≠ bi; omega)))
      have HB8 := Lib.hid (show Below w3.heap.size w3 (w7.setCell ⟨bi, 0, none⟩ (.slice (some ⟨g7, 0, none⟩) (k + 1) c7)) from (below_own HBX.out HOA.out hg7 HWS.out HBX.out.size).setCell (by rw [HBI.out]; exact Nat.le_refl _) _)
      have HS8 := Lib.hid (show wi3.heap.size ≤ (w7.setCell ⟨bi, 0, none⟩ (.slice (some ⟨g7, 0, none⟩) (k + 1) c7)).heap.size from by
        have h1 := hg7.size
        have h2 : (w7.setCell ⟨bi, 0, none⟩ (.slice (some ⟨g7, 0, none⟩) (k + 1) c7)).heap.size = w7.heap.size := by simp [World.setCell]
        have h3 : wr.heap.size ≤ w7.heap.size := Nat.le_trans (by simp; omega) h1
        rw [h2]; omega)
      clear hi7 ho7 hg7 hbn g0
      go_wp2_with fail
      go_roundw
      case rel => exact ⟨k + 1, c7, _, by omega, by go_num, HI8, HO8, HB8, HS8⟩
      case measure => simp [intOf]; omega
    · obtain rfl : k = sn := by omega
      have HO1 := Lib.hid (World.ownsRow_nil wr wi3.heap.size 96 2)
      have HF0 := Lib.hid (show ∀ i, i < 0 → (ps.getD i PostS.z).n ≤ 60 ∧ (ps.getD i PostS.z).text.size ≤ 600 from fun i hi => absurd hi (Nat.not_lt_zero _))
      have hk40 : k ≤ 40 := HSN.out
      clear hkn
      go_wp2_with fail
      go_loopw [13, 64] (fun s13 s64 wt => ∃ (j d9 : Nat) (b9 : Option Addr), j ≤ pn ∧ s64 = .int .i64 (j : Int) ∧ Hid (wt.heap[bi]? = some (.cells #[.slice a9 k c9, .slice b9 j d9] 89 (0, 0))) ∧ Hid (wt.ownsRow wi3.heap.size 92 5 (.slice a9 k c9) k (SpanS.flat (ss.take k))) ∧ Hid (wt.ownsRow wi3.heap.size 96 2 (.slice b9 j d9) j (PostS.flat (ps.take j))) ∧ Hid (Below w3.heap.size w3 wt) ∧ Hid (wi3.heap.size ≤ wt.heap.size) ∧ Hid (∀ i, i < j → (ps.getD i PostS.z).n ≤ 60 ∧ (ps.getD i PostS.z).text.size ≤ 600)) (fun _ s64 _ => pn - (intOf s64).toNat)
      case atStart => exact ⟨0, 0, none, by omega, rfl, HIB, HO, HO1, HBR, HSZ, HF0⟩
      case round =>
        clear HIB HO HO1 HBR HSZ HF0 HB2R HBWR
        obtain ⟨j, d9, b9, hj, rfl, HIB, HOS, HO, HBR, HSZ, HF⟩ := hrel
        rename World => wt
        have HB2R := Lib.hid (HB23.out.trans (HBR.out.mono HB23.out.size))
        have HBWR := Lib.hid (HB.out.trans (HB2R.out.mono HB.out.size))
        by_cases hjn : j < pn
        · have hji : (j : Int) < (pn : Int) := by omega
          have hj40 : j ≤ 40 := by have := HPN.out; omega
          obtain ⟨pb, po, rfl, hpl, hpok, hpc9⟩ := (HPS.out.kept HBWR.out).get hjn
          obtain ⟨p, hpe⟩ : ∃ p, p = ps.getD j PostS.z := ⟨_, rfl⟩
          rw [← hpe] at hpc9
          have hpt2 : ps.take (j + 1) = ps.take j ++ [p] := by
            have hl : j < ps.length := by rw [HPL.out]; exact hjn
            rw [List.take_add_one, List.getElem?_eq_getElem hl, hpe]; simp [hl, Option.toList]
          have HPT2 := Lib.hid hpt2
          have HPE := Lib.hid hpe
          obtain ⟨ptx, pga, pgn, pgc, pgs⟩ := p
          have c0 : wt.cell? ⟨pb, po + j * 2, none⟩ = some (.string ptx) := hpc9 0 _ rfl
          have c1 : wt.cell? ⟨pb, po + j * 2 + 1, none⟩ = some (.slice pga pgn pgc) := hpc9 1 _ rfl
          have hil : bi < wt.heap.size := (Array.getElem?_eq_some_iff.1 HIB.out).1
          have HB1 := Lib.hid (HBR.out.alloc HBR.out.size (.cells #[.string ptx, .slice pga pgn pgc] 95))
          clear hpc9 hpe hpl hpok hpt2
          by_cases f1 : (60 : Int) < (pgn : Int)
          case pos =>
            go_wp2_with fail
            go_ret
            exact ⟨rfl, HB.out.trans ((HB23.out.trans (HB1.out.mono HB23.out.size)).mono HB.out.size)⟩
          case neg =>
            by_cases f2 : (600 : Int) < (ptx.size : Int)
            case pos =>
              go_wp2_with fail
              go_ret
              exact ⟨rfl, HB.out.trans ((HB23.out.trans (HB1.out.mono HB23.out.size)).mono HB.out.size)⟩
            case neg =>
              have g1 : wt.cell? ⟨bi, 1, none⟩ = some (.slice b9 j d9) := cell_blk HIB.out rfl
              have HFN := Lib.hid (show ∀ i, i < j + 1 → (ps.getD i PostS.z).n ≤ 60 ∧ (ps.getD i PostS.z).text.size ≤ 600 from fun i hi => by
                rcases Nat.lt_or_ge i j with g | g
                · exact HF.out i g
                · obtain rfl : i = j := by omega
                  rw [← HPE.out]
                  show pgn ≤ 60 ∧ ptx.size ≤ 600
                  omega)
              have HBX := Lib.hid (HB1.out.alloc HB1.out.size (.cells #[.string ptx, .slice pga pgn pgc] 96))
              have HOA := Lib.hid ((HO.out.alloc (.cells #[.string ptx, .slice pga pgn pgc] 95)).alloc (.cells #[.string ptx, .slice pga pgn pgc] 96))
              have HOSA := Lib.hid ((HOS.out.alloc (.cells #[.string ptx, .slice pga pgn pgc] 95)).alloc (.cells #[.string ptx, .slice pga pgn pgc] 96))
              have hsz1 : (wt.alloc (.cells #[.string ptx, .slice pga pgn pgc] 95)).heap.size = wt.heap.size + 1 := Array.size_push _
              have HSRC := Lib.hid (show ∀ i u, (PostS.f ⟨ptx, pga, pgn, pgc, pgs⟩)[i]? = some u → ((wt.alloc (.cells #[.string ptx, .slice pga pgn pgc] 95)).alloc (.cells #[.string ptx, .slice pga pgn pgc] 96)).cell? ((⟨wt.heap.size + 1, 0, none⟩ : Addr).add i) = some u from by
                rw [← hsz1]; exact PostS.src (wt.alloc (.cells #[.string ptx, .slice pga pgn pgc] 95)) ⟨ptx, pga, pgn, pgc, pgs⟩ 96 rfl)
              have HI2 := Lib.hid (show ((wt.alloc (.cells #[.string ptx, .slice pga pgn pgc] 95)).alloc (.cells #[.string ptx, .slice pga pgn pgc] 96)).heap[bi]? = some (.cells #[.slice a9 k c9, .slice b9 j d9] 89 (0, 0)) from
                ((((Below.refl wt.heap.size wt).alloc (Nat.le_refl _) _).alloc (by rw [hsz1]; omega) _).block bi hil).trans HIB.out)
              have hsle := HSZ.out
              clear hsz1
              go_wp2_with (at_builtin; refine wpList_append_own_at _ rfl (.tmp 79) (.tmp 85) 87 rfl wi3.heap.size 96 j0 _ 2 40 Try.underlying87 ji jz0 jz1 jz2 rfl (by decide) _ j _ rfl HOA.out ⟨wt.heap.size + 1, 0, none⟩ 1 1 (PostS.f ⟨ptx, pga, pgn, pgc, pgs⟩) rfl rfl HSRC.out (PostS.one _) (by unfold maxLen; omega) (by omega) (by simp; omega) ?_)
              intro v7 w7 ho7 hg7 _ _
              obtain ⟨g7, c7, rfl⟩ := own_some2 ho7 (by omega)
              have hbn : some bi ≠ (Value.slice b9 j d9).ownBlock := fun e => by
                have h1 := (HO.out.lt bi e.symm).1; have h2 := HBIL.out
                omega
              have hi7 : w7.heap[bi]? = some (.cells #[.slice a9 k c9, .slice b9 j d9] 89 (0, 0)) := (hg7.block bi (Array.getElem?_eq_some_iff.1 HI2.out).1 hbn).trans HI2.out
              have g7c : w7.cell? ⟨bi, 1, none⟩ = some (.slice b9 j d9) := cell_blk hi7 rfl
              have f7 : w7.frozen? ⟨bi, 1, none⟩ = false := gr_fro hi7 1
              have HI8 := Lib.hid (show (w7.setCell ⟨bi, 1, none⟩ (.slice (some ⟨g7, 0, none⟩) (j + 1) c7)).heap[bi]? = some (.cells #[.slice a9 k c9, .slice (some ⟨g7, 0, none⟩) (j + 1) c7] 89 (0, 0)) from by
                have h1 := gr_set hi7 1 (.slice (some ⟨g7, 0, none⟩) (j + 1) c7)
                simpa using h1)
              have HO8 := Lib.hid (show (w7.setCell ⟨bi, 1, none⟩ (.slice (some ⟨g7, 0, none⟩) (j + 1) c7)).ownsRow wi3.heap.size 96 2 (.slice (some ⟨g7, 0, none⟩) (j + 1) c7) (j + 1) (PostS.flat (ps.take (j + 1))) from by
                rw [HPT2.out, PostS.flat_snoc]
                exact own_heap ho7 (fun d hd => Below.heap_setCell _ _ _ _ (by have h1 := (ho7.lt d hd).1; have h2 := HBIL.out; show d ≠ bi; omega)))
              have HOS8 := Lib.hid (show (w7.setCell ⟨bi, 1, none⟩ (.slice (some ⟨g7, 0, none⟩) (j + 1) c7)).ownsRow wi3.heap.size 92 5 (.slice a9 k c9) k (SpanS.flat (ss.take k)) from by
                have h1 := HOSA.out.kept hg7 (own_ne2 HOSA.out HOA.out (by decide))
                exact own_heap h1 (fun d hd => Below.heap_setCell _ _ _ _ (by have h2 := (h1.lt d hd).1; have h3 := HBIL.out; show d ≠ bi; omega)))
              have HB8 := Lib.hid (show Below w3.heap.size w3 (w7.setCell ⟨bi, 1, none⟩ (.slice (some ⟨g7, 0, none⟩) (j + 1) c7)) from (below_own HBX.out HOA.out hg7 HWS.out HBX.out.size).setCell (by rw [HBI.out]; exact Nat.le_refl _) _)
              have HS8 := Lib.hid (show wi3.heap.size ≤ (w7.setCell ⟨bi, 1, none⟩ (.slice (some ⟨g7, 0, none⟩) (j + 1) c7)).heap.size from by
                have h1 := hg7.size
                have h2 : (w7.setCell ⟨bi, 1, none⟩ (.slice (some ⟨g7, 0, none⟩) (j + 1) c7)).heap.size = w7.heap.size := by simp [World.setCell]
                have h3 : wt.heap.size ≤ w7.heap.size := Nat.le_trans (by simp; omega) h1
                rw [h2]; omega)
              clear hi7 ho7 hg7 hbn g1
              go_wp2_with fail
              go_roundw
              case rel => exact ⟨j + 1, c7, _, by omega, by go_num, HI8, HOS8, HO8, HB8, HS8, HFN⟩
              case measure => simp [intOf]; omega
        · obtain rfl : j = pn := by omega
          have hfew : ∀ p ∈ ps, p.n ≤ 60 ∧ p.text.size ≤ 600 := fun p hp => by
            obtain ⟨i, hi, rfl⟩ := List.getElem_of_mem hp
            have h1 := HF.out i (by rw [← HPL.out]; exact hi)
            have e : ps.getD i PostS.z = ps[i] := by simp [hi]
            rw [e] at h1; exact h1
          have hos := HOS.out
          rw [List.take_of_length_le (by rw [HSL.out]; exact Nat.le_refl _)] at hos
          have hop := HO.out
          rw [List.take_of_length_le (by rw [HPL.out]; exact Nat.le_refl _)] at hop
          have hvs : VecAt SpanS wt a9 k c9 ss := VecAt.ofOwn (S := SpanS) hos HSL.out (fun _ _ => trivial)
          have hvp : VecAt PostS wt b9 j d9 ps := VecAt.ofOwn (S := PostS) hop HPL.out (HPS.out.kept HBWR.out).all
          have HC4 := Lib.hid (show ∀ w9, Below wt.heap.size wt w9 → Calls Try.prog 60 #[.agg #[.int .i64 fr, .int .i64 to, .slice a n c, .int .i64 lim, .bool tx], .agg #[.slice sa k sc, .slice pa j pc]] w9 fun e w' => ∃ a' n' c', e = .returned (.slice a' n' c') ∧ VecAt IntS w' a' n' c' (groupsB (⟨fr, to, ms, lim, tx⟩ : QP) ss ps) ∧ Below w9.heap.size w9 w' from fun w9 hb9 => by
            have hbb := HBWR.out.trans (hb9.mono HBWR.out.size)
            exact groups_any (HM0.out.kept hbb) (HSS.out.kept hbb) (HPS.out.kept hbb) HSN.out HPN.out hfew mx (HMX.out _ hbb))
          have HC7 := Lib.hid (show ∀ w9, Below wt.heap.size wt w9 → Calls Try.prog 61 #[.agg #[.int .i64 fr, .int .i64 to, .slice a n c, .int .i64 lim, .bool tx], .agg #[.slice a9 k c9, .slice b9 j d9]] w9 fun e w' => ∃ a' n' c', e = .returned (.slice a' n' c') ∧ VecAt IntS w' a' n' c' (groupsB (⟨fr, to, ms, lim, tx⟩ : QP) ss ps) ∧ Below w9.heap.size w9 w' from fun w9 hb9 => by
            have hbb := HBWR.out.trans (hb9.mono HBWR.out.size)
            exact rgroups_any (HM0.out.kept hbb) (hvs.kept hb9) (hvp.kept hb9) HSN.out HPN.out hfew)
          obtain ⟨wb, hwb⟩ : ∃ wb, wb = wantsB (⟨fr, to, ms, lim, tx⟩ : QP) first last pt := ⟨_, rfl⟩
          have HC12 := Lib.hid (show ∀ w9, Below wt.heap.size wt w9 → Calls Try.prog 62 #[.agg #[.int .i64 fr, .int .i64 to, .slice a n c, .int .i64 lim, .bool tx], .agg #[.string ky, .int .i64 wi, .string pt, .int .i64 first, .int .i64 last, .int .i64 erw, .int .i64 esz, .int .u32 esm, .int .i64 ebn]] w9 fun e w' => e = .returned (.bool wb) ∧ Below w9.heap.size w9 w' from fun w9 hb9 => by
            have hbb := HBWR.out.trans (hb9.mono HBWR.out.size)
            rw [hwb]
            exact wants_any (HM0.out.kept hbb) ky pt wi first last erw esz esm ebn HPT.out mx (HMX.out _ hbb))
          have HC15 := Lib.hid (show ∀ w9, Below wt.heap.size wt w9 → Calls Try.prog 63 #[.agg #[.int .i64 fr, .int .i64 to, .slice a n c, .int .i64 lim, .bool tx], .agg #[.string ky, .int .i64 wi, .string pt, .int .i64 first, .int .i64 last, .int .i64 erw, .int .i64 esz, .int .u32 esm, .int .i64 ebn]] w9 fun e w' => e = .returned (.bool wb) ∧ Below w9.heap.size w9 w' from fun w9 hb9 => by
            have hbb := HBWR.out.trans (hb9.mono HBWR.out.size)
            rw [hwb]
            exact rwants_any (HM0.out.kept hbb) ky pt wi first last erw esz esm ebn HPT.out)
          have HIL := Lib.hid (Array.getElem?_eq_some_iff.1 HIB.out).1
          have HQT := Lib.hid (show ∀ w9, Below wt.heap.size wt w9 → (w9.cell? ⟨w.heap.size, 0, none⟩ = some (.int .i64 fr) ∧ w9.cell? ⟨w.heap.size, 1, none⟩ = some (.int .i64 to) ∧ w9.cell? ⟨w.heap.size, 2, none⟩ = some (.slice a n c) ∧ w9.cell? ⟨w.heap.size, 3, none⟩ = some (.int .i64 lim) ∧ w9.cell? ⟨w.heap.size, 4, none⟩ = some (.bool tx)) from fun w9 hb9 => by
            have hbb := HB2R.out.trans (hb9.mono HB2R.out.size)
            exact ⟨HQ.out _ hbb 0 _ rfl, HQ.out _ hbb 1 _ rfl, HQ.out _ hbb 2 _ rfl, HQ.out _ hbb 3 _ rfl, HQ.out _ hbb 4 _ rfl⟩)
          have HXT := Lib.hid (show ∀ w9, Below wt.heap.size wt w9 → (w9.cell? ⟨w.heap.size + 1, 0, none⟩ = some (.string ky) ∧ w9.cell? ⟨w.heap.size + 1, 1, none⟩ = some (.int .i64 wi) ∧ w9.cell? ⟨w.heap.size + 1, 2, none⟩ = some (.string pt) ∧ w9.cell? ⟨w.heap.size + 1, 3, none⟩ = some (.int .i64 first) ∧ w9.cell? ⟨w.heap.size + 1, 4, none⟩ = some (.int .i64 last) ∧ w9.cell? ⟨w.heap.size + 1, 5, none⟩ = some (.int .i64 erw) ∧ w9.cell? ⟨w.heap.size + 1, 6, none⟩ = some (.int .i64 esz) ∧ w9.cell? ⟨w.heap.size + 1, 7, none⟩ = some (.int .u32 esm) ∧ w9.cell? ⟨w.heap.size + 1, 8, none⟩ = some (.int .i64 ebn)) from fun w9 hb9 => by
            have hbb := HB2R.out.trans (hb9.mono HB2R.out.size)
            exact ⟨HX.out _ hbb 0 _ rfl, HX.out _ hbb 1 _ rfl, HX.out _ hbb 2 _ rfl, HX.out _ hbb 3 _ rfl, HX.out _ hbb 4 _ rfl, HX.out _ hbb 5 _ rfl, HX.out _ hbb 6 _ rfl, HX.out _ hbb 7 _ rfl, HX.out _ hbb 8 _ rfl⟩)
          have HSM := Lib.hid (show ∀ (w w' : World), Below w.heap.size w w' → ∀ u, (fun (u : Value) (w : World) => ∃ a' n' c', u = .slice a' n' c' ∧ VecAt IntS w a' n' c' (groupsB (⟨fr, to, ms, lim, tx⟩ : QP) ss ps)) u w → (fun (u : Value) (w : World) => ∃ a' n' c', u = .slice a' n' c' ∧ VecAt IntS w a' n' c' (groupsB (⟨fr, to, ms, lim, tx⟩ : QP) ss ps)) u w' from fun w w' hb u ⟨a', n', c', e1, e2⟩ => ⟨a', n', c', e1, e2.kept hb⟩)
          clear hjn hfew hos hop hvs hvp hwb
          go_wp2_with fail
          refine wp_region_fill (by kernel_rfl) (by kernel_rfl) (by kernel_rfl) (Below wt.heap.size wt) (FV (fun j_9 => match j_9 with | 0 => some (.agg #[.int .i64 fr, .int .i64 to, .slice a n c, .int .i64 lim, .bool tx]) | 1 => some (.slice sa k sc) | 2 => some (.slice pa j pc) | 3 => some (.agg #[.slice sa k sc, .slice pa j pc]) | 4 => none | 5 => some (.agg #[.int .i64 fr, .int .i64 to, .slice a n c, .int .i64 lim, .bool tx]) | 6 => some (.agg #[.slice a9 k c9, .slice b9 j d9]) | 7 => none | 8 => some (.bool true) | 9 => some (.bool true) | 10 => some (.agg #[.int .i64 fr, .int .i64 to, .slice a n c, .int .i64 lim, .bool tx]) | 11 => some (.agg #[.string ky, .int .i64 wi, .string pt, .int .i64 first, .int .i64 last, .int .i64 erw, .int .i64 esz, .int .u32 esm, .int .i64 ebn]) | 12 => some (.bool wb) | 13 => some (.agg #[.int .i64 fr, .int .i64 to, .slice a n c, .int .i64 lim, .bool tx]) | 14 => some (.agg #[.string ky, .int .i64 wi, .string pt, .int .i64 first, .int .i64 last, .int .i64 erw, .int .i64 esz, .int .u32 esm, .int .i64 ebn]) | 15 => some (.bool wb) | 16 => some (.bool true) | 17 => some (.bool true) | 18 => some (.bool true) | _ => none) (fun (u : Value) (w : World) => ∃ a' n' c', u = .slice a' n' c' ∧ VecAt IntS w a' n' c' (groupsB (⟨fr, to, ms, lim, tx⟩ : QP) ss ps))) (Below.refl _ _).drew ?_ ?_
          · intro i9 o ho V w9 K hJ hdep hK
            have HJ := Lib.hid hJ
            simp only [fill, slotOf, List.size_toArray, List.length_cons, List.length_nil, Nat.reduceAdd, List.getElem?_toArray, List.getElem?_cons_zero, List.getElem?_cons_succ, Option.bind_some, Act.put, List.setIfInBounds_toArray, List.set_cons_zero, List.set_cons_succ] at hK ⊢
            have hin : i9 < 19 := (Array.getElem?_eq_some_iff.1 ho).1
            have hcs : i9 = 0 ∨ i9 = 1 ∨ i9 = 2 ∨ i9 = 3 ∨ i9 = 4 ∨ i9 = 5 ∨ i9 = 6 ∨ i9 = 7 ∨ i9 = 8 ∨ i9 = 9 ∨ i9 = 10 ∨ i9 = 11 ∨ i9 = 12 ∨ i9 = 13 ∨ i9 = 14 ∨ i9 = 15 ∨ i9 = 16 ∨ i9 = 17 ∨ i9 = 18 := by omega
            clear hin
            rcases hcs with rfl | rfl | rfl | rfl | rfl | rfl | rfl | rfl | rfl | rfl | rfl | rfl | rfl | rfl | rfl | rfl | rfl | rfl | rfl
            · obtain rfl := Option.some.inj ho.symm
              have hq9 := HQT.out w9 hJ
              have f0 := hq9.1
              have f1 := hq9.2.1
              have f2 := hq9.2.2.1
              have f3 := hq9.2.2.2.1
              have f4 := hq9.2.2.2.2
              clear hq9
              clear hdep ho hJ
              try simp only [fill, slotOf, List.size_toArray, List.length_cons, List.length_nil, Nat.reduceAdd, List.getElem?_toArray, List.getElem?_cons_zero, List.getElem?_cons_succ, Option.bind_some, Act.put, List.setIfInBounds_toArray, List.set_cons_zero, List.set_cons_succ] at hK ⊢
              go_simp
              exact hK (.agg #[.int .i64 fr, .int .i64 to, .slice a n c, .int .i64 lim, .bool tx]) _ HJ.out rfl (fun j y h => h) _ rfl
            · obtain rfl := Option.some.inj ho.symm
              clear hdep ho hJ
              try simp only [fill, slotOf, List.size_toArray, List.length_cons, List.length_nil, Nat.reduceAdd, List.getElem?_toArray, List.getElem?_cons_zero, List.getElem?_cons_succ, Option.bind_some, Act.put, List.setIfInBounds_toArray, List.set_cons_zero, List.set_cons_succ] at hK ⊢
              go_simp
              exact hK (.slice sa k sc) _ HJ.out rfl (fun j y h => h) _ rfl
            · obtain rfl := Option.some.inj ho.symm
              clear hdep ho hJ
              try simp only [fill, slotOf, List.size_toArray, List.length_cons, List.length_nil, Nat.reduceAdd, List.getElem?_toArray, List.getElem?_cons_zero, List.getElem?_cons_succ, Option.bind_some, Act.put, List.setIfInBounds_toArray, List.set_cons_zero, List.set_cons_succ] at hK ⊢
              go_simp
              exact hK (.slice pa j pc) _ HJ.out rfl (fun j y h => h) _ rfl
            · obtain rfl := Option.some.inj ho.symm
              have d1 : V 1 = .slice sa k sc := hdep ⟨1, .data⟩ (by simp) rfl
              have d2 : V 2 = .slice pa j pc := hdep ⟨2, .data⟩ (by simp) rfl
              clear hdep ho hJ
              try simp only [fill, slotOf, List.size_toArray, List.length_cons, List.length_nil, Nat.reduceAdd, List.getElem?_toArray, List.getElem?_cons_zero, List.getElem?_cons_succ, Option.bind_some, Act.put, List.setIfInBounds_toArray, List.set_cons_zero, List.set_cons_succ] at hK ⊢
              rw [d1, d2] at hK ⊢
              go_simp
              exact hK (.agg #[.slice sa k sc, .slice pa j pc]) _ HJ.out rfl (fun j y h => h) _ rfl
            · obtain rfl := Option.some.inj ho.symm
              have d0 : V 0 = .agg #[.int .i64 fr, .int .i64 to, .slice a n c, .int .i64 lim, .bool tx] := hdep ⟨0, .data⟩ (by simp) rfl
              have d3 : V 3 = .agg #[.slice sa k sc, .slice pa j pc] := hdep ⟨3, .data⟩ (by simp) rfl
              clear hdep ho hJ
              try simp only [fill, slotOf, List.size_toArray, List.length_cons, List.length_nil, Nat.reduceAdd, List.getElem?_toArray, List.getElem?_cons_zero, List.getElem?_cons_succ, Option.bind_some, Act.put, List.setIfInBounds_toArray, List.set_cons_zero, List.set_cons_succ] at hK ⊢
              rw [d0, d3] at hK ⊢
              go_simp
              refine (HC4.out w9 HJ.out).mono ?_
              rintro e w8 ⟨a', n', c', rfl, hv, hb8⟩
              exact hK (.slice a' n' c') _ (HJ.out.trans (hb8.mono HJ.out.size)) ⟨a', n', c', rfl, hv⟩ (FV.mono (HSM.out _ _ hb8)) _ rfl
            · obtain rfl := Option.some.inj ho.symm
              have hq9 := HQT.out w9 hJ
              have f0 := hq9.1
              have f1 := hq9.2.1
              have f2 := hq9.2.2.1
              have f3 := hq9.2.2.2.1
              have f4 := hq9.2.2.2.2
              clear hq9
              clear hdep ho hJ
              try simp only [fill, slotOf, List.size_toArray, List.length_cons, List.length_nil, Nat.reduceAdd, List.getElem?_toArray, List.getElem?_cons_zero, List.getElem?_cons_succ, Option.bind_some, Act.put, List.setIfInBounds_toArray, List.set_cons_zero, List.set_cons_succ] at hK ⊢
              go_simp
              exact hK (.agg #[.int .i64 fr, .int .i64 to, .slice a n c, .int .i64 lim, .bool tx]) _ HJ.out rfl (fun j y h => h) _ rfl
            · obtain rfl := Option.some.inj ho.symm
              have hxb := (hJ.block bi HIL.out).trans HIB.out
              have f0 : w9.cell? ⟨bi, 0, none⟩ = some (.slice a9 k c9) := cell_blk hxb rfl
              have f1 : w9.cell? ⟨bi, 1, none⟩ = some (.slice b9 j d9) := cell_blk hxb rfl
              clear hxb
              clear hdep ho hJ
              try simp only [fill, slotOf, List.size_toArray, List.length_cons, List.length_nil, Nat.reduceAdd, List.getElem?_toArray, List.getElem?_cons_zero, List.getElem?_cons_succ, Option.bind_some, Act.put, List.setIfInBounds_toArray, List.set_cons_zero, List.set_cons_succ] at hK ⊢
              go_simp
              exact hK (.agg #[.slice a9 k c9, .slice b9 j d9]) _ HJ.out rfl (fun j y h => h) _ rfl
            · obtain rfl := Option.some.inj ho.symm
              have d5 : V 5 = .agg #[.int .i64 fr, .int .i64 to, .slice a n c, .int .i64 lim, .bool tx] := hdep ⟨5, .data⟩ (by simp) rfl
              have d6 : V 6 = .agg #[.slice a9 k c9, .slice b9 j d9] := hdep ⟨6, .data⟩ (by simp) rfl
              clear hdep ho hJ
              try simp only [fill, slotOf, List.size_toArray, List.length_cons, List.length_nil, Nat.reduceAdd, List.getElem?_toArray, List.getElem?_cons_zero, List.getElem?_cons_succ, Option.bind_some, Act.put, List.setIfInBounds_toArray, List.set_cons_zero, List.set_cons_succ] at hK ⊢
              rw [d5, d6] at hK ⊢
              go_simp
              refine (HC7.out w9 HJ.out).mono ?_
              rintro e w8 ⟨a', n', c', rfl, hv, hb8⟩
              exact hK (.slice a' n' c') _ (HJ.out.trans (hb8.mono HJ.out.size)) ⟨a', n', c', rfl, hv⟩ (FV.mono (HSM.out _ _ hb8)) _ rfl
            · have hoo := Option.some.inj ho.symm
              obtain ⟨a4, n4, c4, eV4, hv4⟩ : ∃ a' n' c', V 4 = .slice a' n' c' ∧ VecAt IntS w9 a' n' c' (groupsB (⟨fr, to, ms, lim, tx⟩ : QP) ss ps) := hdep ⟨4, .data⟩ (by rw [hoo]; simp) rfl
              obtain ⟨a7, n7, c7, eV7, hv7⟩ : ∃ a' n' c', V 7 = .slice a' n' c' ∧ VecAt IntS w9 a' n' c' (groupsB (⟨fr, to, ms, lim, tx⟩ : QP) ss ps) := hdep ⟨7, .data⟩ (by rw [hoo]; simp) rfl
              have HSI := Lib.hid (sameints_any hv4 hv7)
              subst hoo
              clear hdep ho hJ hv4 hv7
              try simp only [fill, slotOf, List.size_toArray, List.length_cons, List.length_nil, Nat.reduceAdd, List.getElem?_toArray, List.getElem?_cons_zero, List.getElem?_cons_succ, Option.bind_some, Act.put, List.setIfInBounds_toArray, List.set_cons_zero, List.set_cons_succ] at hK ⊢
              rw [eV4, eV7] at hK ⊢
              go_simp
              refine (HSI.out).mono ?_
              rintro e w8 ⟨rfl, hb8⟩
              exact hK (.bool true) _ (HJ.out.trans (hb8.mono HJ.out.size)) rfl (FV.mono (HSM.out _ _ hb8)) _ rfl
            · obtain rfl := Option.some.inj ho.symm
              have d8 : V 8 = .bool true := hdep ⟨8, .data⟩ (by simp) rfl
              clear hdep ho hJ
              try simp only [fill, slotOf, List.size_toArray, List.length_cons, List.length_nil, Nat.reduceAdd, List.getElem?_toArray, List.getElem?_cons_zero, List.getElem?_cons_succ, Option.bind_some, Act.put, List.setIfInBounds_toArray, List.set_cons_zero, List.set_cons_succ] at hK ⊢
              rw [d8] at hK ⊢
              go_simp
              exact hK (.bool true) _ HJ.out rfl (fun j y h => h) _ rfl
            · obtain rfl := Option.some.inj ho.symm
              have d9 : V 9 = .bool true := hdep ⟨9, .guard⟩ (by simp) rfl
              have hq9 := HQT.out w9 hJ
              have f0 := hq9.1
              have f1 := hq9.2.1
              have f2 := hq9.2.2.1
              have f3 := hq9.2.2.2.1
              have f4 := hq9.2.2.2.2
              clear hq9
              clear hdep ho hJ
              try simp only [fill, slotOf, List.size_toArray, List.length_cons, List.length_nil, Nat.reduceAdd, List.getElem?_toArray, List.getElem?_cons_zero, List.getElem?_cons_succ, Option.bind_some, Act.put, List.setIfInBounds_toArray, List.set_cons_zero, List.set_cons_succ] at hK ⊢
              rw [d9] at hK ⊢
              go_simp
              exact hK (.agg #[.int .i64 fr, .int .i64 to, .slice a n c, .int .i64 lim, .bool tx]) _ HJ.out rfl (fun j y h => h) _ rfl
            · obtain rfl := Option.some.inj ho.symm
              have d9 : V 9 = .bool true := hdep ⟨9, .guard⟩ (by simp) rfl
              have hx9 := HXT.out w9 hJ
              have f0 := hx9.1
              have f1 := hx9.2.1
              have f2 := hx9.2.2.1
              have f3 := hx9.2.2.2.1
              have f4 := hx9.2.2.2.2.1
              have f5 := hx9.2.2.2.2.2.1
              have f6 := hx9.2.2.2.2.2.2.1
              have f7 := hx9.2.2.2.2.2.2.2.1
              have f8 := hx9.2.2.2.2.2.2.2.2
              clear hx9
              clear hdep ho hJ
              try simp only [fill, slotOf, List.size_toArray, List.length_cons, List.length_nil, Nat.reduceAdd, List.getElem?_toArray, List.getElem?_cons_zero, List.getElem?_cons_succ, Option.bind_some, Act.put, List.setIfInBounds_toArray, List.set_cons_zero, List.set_cons_succ] at hK ⊢
              rw [d9] at hK ⊢
              go_simp
              exact hK (.agg #[.string ky, .int .i64 wi, .string pt, .int .i64 first, .int .i64 last, .int .i64 erw, .int .i64 esz, .int .u32 esm, .int .i64 ebn]) _ HJ.out rfl (fun j y h => h) _ rfl
            · obtain rfl := Option.some.inj ho.symm
              have d10 : V 10 = .agg #[.int .i64 fr, .int .i64 to, .slice a n c, .int .i64 lim, .bool tx] := hdep ⟨10, .data⟩ (by simp) rfl
              have d11 : V 11 = .agg #[.string ky, .int .i64 wi, .string pt, .int .i64 first, .int .i64 last, .int .i64 erw, .int .i64 esz, .int .u32 esm, .int .i64 ebn] := hdep ⟨11, .data⟩ (by simp) rfl
              have d9 : V 9 = .bool true := hdep ⟨9, .guard⟩ (by simp) rfl
              clear hdep ho hJ
              try simp only [fill, slotOf, List.size_toArray, List.length_cons, List.length_nil, Nat.reduceAdd, List.getElem?_toArray, List.getElem?_cons_zero, List.getElem?_cons_succ, Option.bind_some, Act.put, List.setIfInBounds_toArray, List.set_cons_zero, List.set_cons_succ] at hK ⊢
              rw [d10, d11, d9] at hK ⊢
              go_simp
              refine (HC12.out w9 HJ.out).mono ?_
              rintro e w8 ⟨rfl, hb8⟩
              exact hK (.bool wb) _ (HJ.out.trans (hb8.mono HJ.out.size)) rfl (FV.mono (HSM.out _ _ hb8)) _ rfl
            · obtain rfl := Option.some.inj ho.symm
              have d9 : V 9 = .bool true := hdep ⟨9, .guard⟩ (by simp) rfl
              have hq9 := HQT.out w9 hJ
              have f0 := hq9.1
              have f1 := hq9.2.1
              have f2 := hq9.2.2.1
              have f3 := hq9.2.2.2.1
              have f4 := hq9.2.2.2.2
              clear hq9
              clear hdep ho hJ
              try simp only [fill, slotOf, List.size_toArray, List.length_cons, List.length_nil, Nat.reduceAdd, List.getElem?_toArray, List.getElem?_cons_zero, List.getElem?_cons_succ, Option.bind_some, Act.put, List.setIfInBounds_toArray, List.set_cons_zero, List.set_cons_succ] at hK ⊢
              rw [d9] at hK ⊢
              go_simp
              exact hK (.agg #[.int .i64 fr, .int .i64 to, .slice a n c, .int .i64 lim, .bool tx]) _ HJ.out rfl (fun j y h => h) _ rfl
            · obtain rfl := Option.some.inj ho.symm
              have d9 : V 9 = .bool true := hdep ⟨9, .guard⟩ (by simp) rfl
              have hx9 := HXT.out w9 hJ
              have f0 := hx9.1
              have f1 := hx9.2.1
              have f2 := hx9.2.2.1
              have f3 := hx9.2.2.2.1
              have f4 := hx9.2.2.2.2.1
              have f5 := hx9.2.2.2.2.2.1
              have f6 := hx9.2.2.2.2.2.2.1
              have f7 := hx9.2.2.2.2.2.2.2.1
              have f8 := hx9.2.2.2.2.2.2.2.2
              clear hx9
              clear hdep ho hJ
              try simp only [fill, slotOf, List.size_toArray, List.length_cons, List.length_nil, Nat.reduceAdd, List.getElem?_toArray, List.getElem?_cons_zero, List.getElem?_cons_succ, Option.bind_some, Act.put, List.setIfInBounds_toArray, List.set_cons_zero, List.set_cons_succ] at hK ⊢
              rw [d9] at hK ⊢
              go_simp
              exact hK (.agg #[.string ky, .int .i64 wi, .string pt, .int .i64 first, .int .i64 last, .int .i64 erw, .int .i64 esz, .int .u32 esm, .int .i64 ebn]) _ HJ.out rfl (fun j y h => h) _ rfl
            · obtain rfl := Option.some.inj ho.symm
              have d13 : V 13 = .agg #[.int .i64 fr, .int .i64 to, .slice a n c, .int .i64 lim, .bool tx] := hdep ⟨13, .data⟩ (by simp) rfl
              have d14 : V 14 = .agg #[.string ky, .int .i64 wi, .string pt, .int .i64 first, .int .i64 last, .int .i64 erw, .int .i64 esz, .int .u32 esm, .int .i64 ebn] := hdep ⟨14, .data⟩ (by simp) rfl
              have d9 : V 9 = .bool true := hdep ⟨9, .guard⟩ (by simp) rfl
              clear hdep ho hJ
              try simp only [fill, slotOf, List.size_toArray, List.length_cons, List.length_nil, Nat.reduceAdd, List.getElem?_toArray, List.getElem?_cons_zero, List.getElem?_cons_succ, Option.bind_some, Act.put, List.setIfInBounds_toArray, List.set_cons_zero, List.set_cons_succ] at hK ⊢
              rw [d13, d14, d9] at hK ⊢
              go_simp
              refine (HC15.out w9 HJ.out).mono ?_
              rintro e w8 ⟨rfl, hb8⟩
              exact hK (.bool wb) _ (HJ.out.trans (hb8.mono HJ.out.size)) rfl (FV.mono (HSM.out _ _ hb8)) _ rfl
            · obtain rfl := Option.some.inj ho.symm
              have d12 : V 12 = .bool wb := hdep ⟨12, .data⟩ (by simp) rfl
              have d15 : V 15 = .bool wb := hdep ⟨15, .data⟩ (by simp) rfl
              have d9 : V 9 = .bool true := hdep ⟨9, .guard⟩ (by simp) rfl
              have e1 : (wb == wb) = true := by simp
              clear hdep ho hJ
              try simp only [fill, slotOf, List.size_toArray, List.length_cons, List.length_nil, Nat.reduceAdd, List.getElem?_toArray, List.getElem?_cons_zero, List.getElem?_cons_succ, Option.bind_some, Act.put, List.setIfInBounds_toArray, List.set_cons_zero, List.set_cons_succ] at hK ⊢
              rw [d12, d15, d9] at hK ⊢
              go_simp
              exact hK (.bool true) _ HJ.out rfl (fun j y h => h) _ rfl
            · obtain rfl := Option.some.inj ho.symm
              have d9 : V 9 = .bool true := hdep ⟨9, .data⟩ (by simp) rfl
              have d16 : V 16 = .bool true := hdep ⟨16, .data⟩ (by simp) rfl
              clear hdep ho hJ
              try simp only [fill, slotOf, List.size_toArray, List.length_cons, List.length_nil, Nat.reduceAdd, List.getElem?_toArray, List.getElem?_cons_zero, List.getElem?_cons_succ, Option.bind_some, Act.put, List.setIfInBounds_toArray, List.set_cons_zero, List.set_cons_succ] at hK ⊢
              rw [d9, d16] at hK ⊢
              go_simp
              exact hK (.bool true) _ HJ.out rfl (fun j y h => h) _ rfl
            · obtain rfl := Option.some.inj ho.symm
              have d17 : V 17 = .bool true := hdep ⟨17, .data⟩ (by simp) rfl
              clear hdep ho hJ
              try simp only [fill, slotOf, List.size_toArray, List.length_cons, List.length_nil, Nat.reduceAdd, List.getElem?_toArray, List.getElem?_cons_zero, List.getElem?_cons_succ, Option.bind_some, Act.put, List.setIfInBounds_toArray, List.set_cons_zero, List.set_cons_succ] at hK ⊢
              rw [d17] at hK ⊢
              go_simp
              exact hK (.bool true) _ HJ.out rfl (fun j y h => h) _ rfl
          · intro V w9 hJ hall
            have dL : V 18 = .bool true := hall 18 (by decide)
            have HJ9 := Lib.hid hJ
            clear hall hJ
            simp only [fill, slotOf, List.size_toArray, List.length_cons, List.length_nil, Nat.reduceAdd, List.getElem?_toArray, List.getElem?_cons_zero, List.getElem?_cons_succ, Option.bind_some, Act.put, List.setIfInBounds_toArray, List.set_cons_zero, List.set_cons_succ]
            rw [dL]
            clear dL
            go_wp2_with fail
            go_ret
            exact ⟨rfl, HBWR.out.trans (HJ9.out.mono HBWR.out.size)⟩

end Go.Proofs.Ytjbljplgkbnpmaa
end SecQGrp4

/- Put together out of XWantPl, XWant. -/
import Derived.Test.YtjbljplgkbnpmaaQPlain
import Derived.Test.YtjbljplgkbnpmaaLabPa
import Derived.Test.YtjbljplgkbnpmaaLabStrP
import Derived.Test.YtjbljplgkbnpmaaQRA
section SecWants0
/- Which entries a query wants, plainly; and that no row of a part that isn't wanted is kept. -/
namespace Go.Proofs.Ytjbljplgkbnpmaa
open Go.RowKit LabPlain RecPlain Stab
set_option linter.unusedVariables false

/-- does one label of a part speak against one of the first k matchers? -/
def wantTo (x : Lab) (ms : List Mat) : Nat → Bool
  | 0 => true
  | k + 1 => wantTo x ms k && (!decide ((ms.getD k mat0).1 = x.1) || meetsB [x] [ms.getD k mat0])
def wantsTo (P : List Lab) (ms : List Mat) : Nat → Bool
  | 0 => true
  | k + 1 => wantsTo P ms k && wantTo (P.getD k lab0) ms ms.length
def wantsB (q : QP) (first last : Int) (s : ByteArray) : Bool :=
  qRight q && decide (first < q.to) && decide (q.fr ≤ last) && (match setIn s with | none => false | some P => wantsTo P q.ms P.length)
theorem wantTo_no {x : Lab} {ms : List Mat} {k : Nat} (h : (!decide ((ms.getD k mat0).1 = x.1) || meetsB [x] [ms.getD k mat0]) = false) : ∀ d, wantTo x ms (k + 1 + d) = false
  | 0 => by rw [wantTo, h, Bool.and_false]
  | d + 1 => by rw [← Nat.add_assoc, wantTo, wantTo_no h d]; rfl
theorem wantsTo_no {P : List Lab} {ms : List Mat} {k : Nat} (h : wantTo (P.getD k lab0) ms ms.length = false) : ∀ d, wantsTo P ms (k + 1 + d) = false
  | 0 => by rw [wantsTo, h, Bool.and_false]
  | d + 1 => by rw [← Nat.add_assoc, wantsTo, wantsTo_no h d]; rfl
theorem wantTo_yes {x : Lab} {ms : List Mat} : ∀ {n : Nat}, (∀ k, k < n → (ms.getD k mat0).1 = x.1 → meetsB [x] [ms.getD k mat0] = true) → wantTo x ms n = true
  | 0, _ => rfl
  | n + 1, h => by
    rw [wantTo, wantTo_yes (fun k hk => h k (by omega)), Bool.true_and]
    by_cases e : (ms.getD n mat0).1 = x.1
    · rw [h n (by omega) e, Bool.or_true]
    · rw [decide_eq_false e]; rfl
theorem wantsTo_yes {P : List Lab} {ms : List Mat} : ∀ {n : Nat}, (∀ k, k < n → wantTo (P.getD k lab0) ms ms.length = true) → wantsTo P ms n = true
  | 0, _ => rfl
  | n + 1, h => by rw [wantsTo, wantsTo_yes (fun k hk => h k (by omega)), h n (by omega)]; rfl
theorem meetTo_get {L : List Lab} {ms : List Mat} : ∀ {n : Nat}, meetTo L ms n = true → ∀ k, k < n → (asksB (ms.getD k mat0) && meet1 (lst L (ms.getD k mat0).1 L.length) (ms.getD k mat0).2.1 (ms.getD k mat0).2.2) = true
  | 0, _, k, hk => absurd hk (Nat.not_lt_zero k)
  | n + 1, h, k, hk => by
    rw [meetTo, Bool.and_eq_true] at h
    rcases Nat.lt_or_ge k n with e | e
    · exact meetTo_get h.1 k e
    · obtain rfl : k = n := by omega
      exact h.2
theorem one_set {L : List Lab} (h : isSet L = true) {x : Lab} (hx : x ∈ L) : isSet [x] = true :=
  (isSet_iff _).2 ⟨by simp, fun y hy => by rw [List.mem_singleton.1 hy]; exact ((isSet_iff _).1 h).2.1 x hx, List.pairwise_singleton _ _⟩
theorem part_mem {L : List Lab} {ss : List ByteArray} {x : Lab} (h : x ∈ partTo L ss L.length) : x ∈ L := by
  rw [part_filter] at h
  exact (List.mem_filter.1 h).1
theorem one_meets {L : List Lab} {ms : List Mat} (hs : isSet L = true) (hm : meetsB L ms = true) {x : Lab} (hx : x ∈ L) {k : Nat} (hk : k < ms.length) (he : (ms.getD k mat0).1 = x.1) : meetsB [x] [ms.getD k mat0] = true := by
  unfold meetsB at hm
  rw [Bool.and_eq_true] at hm
  have h1 := meetTo_get hm.2 k hk
  rw [Bool.and_eq_true] at h1
  obtain ⟨i, hi, rfl⟩ := List.getElem_of_mem hx
  have hup : upTo L L.length = true := by unfold isSet at hs; exact ((Bool.and_eq_true _ _).mp hs).2
  have e0 : L.getD i lab0 = L[i] := by simp [hi]
  obtain ⟨d, hd⟩ : ∃ d, L.length = i + 1 + d := ⟨L.length - (i + 1), by omega⟩
  have h2 := lst_stay hup (k := i) (nm := (ms.getD k mat0).1) (by rw [e0, he]) d (by omega)
  rw [← hd, e0] at h2
  rw [h2] at h1
  obtain ⟨mt, hmt⟩ : ∃ mt, mt = ms.getD k mat0 := ⟨_, rfl⟩
  rw [← hmt] at h1 he ⊢
  unfold meetsB
  rw [one_set hs hx, Bool.true_and]
  show (true && (asksB mt && meet1 (lst [L[i]] mt.1 1) mt.2.1 mt.2.2)) = true
  have h3 : lst [L[i]] mt.1 1 = (L[i].2, true) := by
    show (if L[i].1 = mt.1 then _ else _) = _
    rw [if_pos he.symm]; rfl
  rw [h3, h1.1, h1.2]; rfl
/-- a row that is kept speaks for its part -/
theorem kept_wants {q : QP} {L : List Lab} {ss : List ByteArray} (hs : isSet L = true) (hm : meetsB L q.ms = true) : wantsTo (partTo L ss L.length) q.ms (partTo L ss L.length).length = true := by
  refine wantsTo_yes fun k hk => wantTo_yes fun j hj he => ?_
  have e0 : (partTo L ss L.length).getD k lab0 = (partTo L ss L.length)[k] := by simp [hk]
  rw [e0] at he ⊢
  exact one_meets hs hm (part_mem (List.getElem_mem hk)) hj he
theorem spares {q : QP} {L : List Lab} {ss : List ByteArray} {t first last : Int} (hs : isSet L = true) (hr : qRight q = true) (hk : q.fr ≤ t ∧ t < q.to ∧ meetsB L q.ms = true) (h1 : first ≤ t) (h2 : t ≤ last) : wantsB q first last (textOf (partTo L ss L.length)) = true := by
  unfold wantsB
  rw [hr, decide_eq_true (by omega : first < q.to), decide_eq_true (by omega : q.fr ≤ last), setIn_whole (part_set hs ss)]
  show (true && true && true && wantsTo _ _ _) = true
  rw [kept_wants hs hk.2.2]; rfl
end Go.Proofs.Ytjbljplgkbnpmaa
end SecWants0
section SecWants1
/- query.overlaps and query.Wants, walked. -/
namespace Go.Proofs.Ytjbljplgkbnpmaa
open Go.ChangeShapes Go.WideShapes Go.Deep Go.RowKit LabPlain RecPlain Stab
set_option linter.unusedVariables false

theorem labs_one (w : World) (x1 x2 : ByteArray) (t : TypeId) (h : x1.size ≤ 140737488355328 ∧ x2.size ≤ 140737488355328) : LabsAt (w.alloc (.cells #[.string x1, .string x2] t)) (some ⟨w.heap.size, 0, none⟩) 1 1 [(x1, x2)] := by
  have hblk := heap_alloc_new w (.cells #[.string x1, .string x2] t)
  refine ⟨rfl, Nat.le_refl _, by omega, (fun e => by cases e), (fun x hx => by rw [List.mem_singleton.1 hx]; exact h), fun _ => ⟨w.heap.size, 0, rfl, (Array.getElem?_eq_some_iff.1 hblk).1, fun i hi => ?_⟩⟩
  obtain rfl : i = 0 := by omega
  exact ⟨by rw [cell_of_row _ _ _ _ _ (0, 0) hblk]; rfl, by rw [cell_of_row _ _ _ _ _ (0, 0) hblk]; rfl⟩
theorem mats_one (w : World) (x : Mat) (t : TypeId) (h : x.1.size ≤ 140737488355328 ∧ x.2.2.size ≤ 140737488355328) : MatsAt (w.alloc (.cells #[.string x.1, .int .i64 x.2.1, .string x.2.2] t)) (some ⟨w.heap.size, 0, none⟩) 1 1 [x] := by
  have hblk := heap_alloc_new w (.cells #[.string x.1, .int .i64 x.2.1, .string x.2.2] t)
  refine ⟨rfl, Nat.le_refl _, by omega, (fun e => by cases e), (fun y hy => by rw [List.mem_singleton.1 hy]; exact h), fun _ => ⟨w.heap.size, 0, rfl, (Array.getElem?_eq_some_iff.1 hblk).1, fun i hi => ?_⟩⟩
  obtain rfl : i = 0 := by omega
  exact ⟨by rw [cell_of_row _ _ _ _ _ (0, 0) hblk]; rfl, by rw [cell_of_row _ _ _ _ _ (0, 0) hblk]; rfl, by rw [cell_of_row _ _ _ _ _ (0, 0) hblk]; rfl⟩

set_option maxRecDepth 100000 in
set_option maxHeartbeats 1000000 in
theorem overlaps_any {w : World} {a : Option Addr} {n c : Nat} {fr to lim : Int} {tx : Bool} (first last : Int) :
    Calls Try.prog 90 #[.agg #[.int .i64 fr, .int .i64 to, .slice a n c, .int .i64 lim, .bool tx], .int .i64 first, .int .i64 last] w fun e w' => e = .returned (.bool (decide (first < to) && decide (fr ≤ last))) ∧ Below w.heap.size w w' := by
  have HB := Lib.hid (show Below w.heap.size w (w.alloc (.cells #[.int .i64 fr, .int .i64 to, .slice a n c, .int .i64 lim, .bool tx] 76)) from (Below.refl _ _).alloc (Nat.le_refl _) _)
  obtain ⟨r, hr⟩ : ∃ r, r = (decide (first < to) && decide (fr ≤ last)) := ⟨_, rfl⟩
  rw [← hr]
  by_cases c1 : first < to
  case neg =>
    have z1 : decide (first < to) = false := decide_eq_false c1
    have HE := Lib.hid (show r = false from by rw [hr, z1]; rfl)
    clear hr
    go_enter Try.func90, Try.ntmps90
    go_wp2_with fail
    go_ret
    rw [HE.out]
    exact ⟨rfl, HB.out⟩
  case pos =>
    have z1 : decide (first < to) = true := decide_eq_true c1
    by_cases c2 : fr ≤ last
    case neg =>
      have z2 : decide (fr ≤ last) = false := decide_eq_false c2
      have HE := Lib.hid (show r = false from by rw [hr, z1, z2]; rfl)
      clear hr
      go_enter Try.func90, Try.ntmps90
      go_wp2_with fail
      go_ret
      rw [HE.out]
      exact ⟨rfl, HB.out⟩
    case pos =>
      have z2 : decide (fr ≤ last) = true := decide_eq_true c2
      have HE := Lib.hid (show r = true from by rw [hr, z1, z2]; rfl)
      clear hr
      go_enter Try.func90, Try.ntmps90
      go_wp2_with fail
      go_ret
      rw [HE.out]
      exact ⟨rfl, HB.out⟩

set_option maxRecDepth 100000 in
set_option maxHeartbeats 4000000 in
theorem wants_any {w : World} {a : Option Addr} {n c : Nat} {ms : List Mat} {fr to lim : Int} {tx : Bool} (h : MatsAt w a n c ms) (ky pt : ByteArray) (wi first last rw sz sm bn : Int) (hpt : pt.size ≤ 1000) (mx : Int) (hmx : w.cell? ⟨0, 0, none⟩ = some (.int .i64 mx)) :
    Calls Try.prog 62 #[.agg #[.int .i64 fr, .int .i64 to, .slice a n c, .int .i64 lim, .bool tx], .agg #[.string ky, .int .i64 wi, .string pt, .int .i64 first, .int .i64 last, .int .i64 rw, .int .i64 sz, .int .u32 sm, .int .i64 bn]] w fun e w' => e = .returned (.bool (wantsB (⟨fr, to, ms, lim, tx⟩ : QP) first last pt)) ∧ Below w.heap.size w w' := by
  obtain ⟨w2, hw2⟩ : ∃ w2, w2 = (w.alloc (.cells #[.int .i64 fr, .int .i64 to, .slice a n c, .int .i64 lim, .bool tx] 76)).alloc (.cells #[.string ky, .int .i64 wi, .string pt, .int .i64 first, .int .i64 last, .int .i64 rw, .int .i64 sz, .int .u32 sm, .int .i64 bn] 85) := ⟨_, rfl⟩
  have s1 : (w.alloc (.cells #[.int .i64 fr, .int .i64 to, .slice a n c, .int .i64 lim, .bool tx] 76)).heap.size = w.heap.size + 1 := Array.size_push _
  have hb1 : Below w.heap.size w (w.alloc (.cells #[.int .i64 fr, .int .i64 to, .slice a n c, .int .i64 lim, .bool tx] 76)) := (Below.refl _ _).alloc (Nat.le_refl _) _
  have hb2 : Below w.heap.size w w2 := by rw [hw2]; exact hb1.alloc hb1.size _
  have hq : ∀ w3, Below w2.heap.size w2 w3 → ∀ j u, (#[.int .i64 fr, .int .i64 to, .slice a n c, .int .i64 lim, .bool tx] : Array Value)[j]? = some u → w3.cell? ⟨w.heap.size, j, none⟩ = some u := fun w3 h3 j u hu => by
    have hb12 : Below (w.alloc (.cells #[.int .i64 fr, .int .i64 to, .slice a n c, .int .i64 lim, .bool tx] 76)).heap.size (w.alloc (.cells #[.int .i64 fr, .int .i64 to, .slice a n c, .int .i64 lim, .bool tx] 76)) w2 := by rw [hw2]; exact (Below.refl _ _).alloc (Nat.le_refl _) _
    exact box_cell (hb12.trans (h3.mono hb12.size)) hu
  have hx : ∀ w3, Below w2.heap.size w2 w3 → ∀ j u, (#[.string ky, .int .i64 wi, .string pt, .int .i64 first, .int .i64 last, .int .i64 rw, .int .i64 sz, .int .u32 sm, .int .i64 bn] : Array Value)[j]? = some u → w3.cell? ⟨w.heap.size + 1, j, none⟩ = some u := fun w3 h3 j u hu => by
    rw [hw2] at h3
    rw [← s1]
    exact box_cell h3 hu
  have h0 : 0 < w.heap.size := World.block_lt_of_cell? w _ hmx
  have HMX := Lib.hid (show ∀ w', Below w.heap.size w w' → w'.cell? ⟨0, 0, none⟩ = some (.int .i64 mx) from fun w' hb => (hb.cell (p := ⟨0, 0, none⟩) h0).trans hmx)
  have HQ := Lib.hid hq
  have HX := Lib.hid hx
  have HB := Lib.hid hb2
  have HM0 := Lib.hid h
  have HML := Lib.hid h.len
  have HM := Lib.hid (h.keep hb2 (Nat.le_refl _))
  have HW := Lib.hid hw2
  have HPT := Lib.hid hpt
  have hcap := h.cap
  have hcm := h.capm
  clear h hb1 hb2 hq hx hw2 s1 hmx h0 hpt
  obtain ⟨r, hr⟩ : ∃ r, r = wantsB (⟨fr, to, ms, lim, tx⟩ : QP) first last pt := ⟨_, rfl⟩
  rw [← hr]
  have HRES := Lib.hid hr
  clear hr
  go_enter Try.func62, Try.ntmps62
  go_wp2_with fail
  rw [← HW.out]
  have q0 : w2.cell? ⟨w.heap.size, 0, none⟩ = some (.int .i64 fr) := HQ.out _ (Below.refl _ _) 0 _ rfl
  have q1 : w2.cell? ⟨w.heap.size, 1, none⟩ = some (.int .i64 to) := HQ.out _ (Below.refl _ _) 1 _ rfl
  have q2 : w2.cell? ⟨w.heap.size, 2, none⟩ = some (.slice a n c) := HQ.out _ (Below.refl _ _) 2 _ rfl
  have q3 : w2.cell? ⟨w.heap.size, 3, none⟩ = some (.int .i64 lim) := HQ.out _ (Below.refl _ _) 3 _ rfl
  have q4 : w2.cell? ⟨w.heap.size, 4, none⟩ = some (.bool tx) := HQ.out _ (Below.refl _ _) 4 _ rfl
  go_wp2_with fail
  refine (qright_any HM.out).mono ?_
  rintro e w3 ⟨rfl, hb3⟩
  have HB23 := Lib.hid hb3
  have HB3 := Lib.hid (HB.out.trans (hb3.mono HB.out.size))
  clear q0 q1 q2 q3 q4 hb3
  cases hqr : qRight (⟨fr, to, ms, lim, tx⟩ : QP) with
  | false =>
    have HE := Lib.hid (show r = false from by rw [HRES.out]; unfold wantsB; rw [hqr]; rfl)
    clear hqr
    go_wp2_with fail
    go_ret
    rw [HE.out]
    exact ⟨rfl, HB3.out⟩
  | true =>
    have HQR := Lib.hid hqr
    clear hqr
    have q0 : w3.cell? ⟨w.heap.size, 0, none⟩ = some (.int .i64 fr) := HQ.out _ HB23.out 0 _ rfl
    have q1 : w3.cell? ⟨w.heap.size, 1, none⟩ = some (.int .i64 to) := HQ.out _ HB23.out 1 _ rfl
    have q2 : w3.cell? ⟨w.heap.size, 2, none⟩ = some (.slice a n c) := HQ.out _ HB23.out 2 _ rfl
    have q3 : w3.cell? ⟨w.heap.size, 3, none⟩ = some (.int .i64 lim) := HQ.out _ HB23.out 3 _ rfl
    have q4 : w3.cell? ⟨w.heap.size, 4, none⟩ = some (.bool tx) := HQ.out _ HB23.out 4 _ rfl
    have x3 : w3.cell? ⟨w.heap.size + 1, 3, none⟩ = some (.int .i64 first) := HX.out _ HB23.out 3 _ rfl
    have x4 : w3.cell? ⟨w.heap.size + 1, 4, none⟩ = some (.int .i64 last) := HX.out _ HB23.out 4 _ rfl
    go_wp2_with fail
    refine (overlaps_any first last).mono ?_
    rintro e w4 ⟨rfl, hb4⟩
    have HB24 := Lib.hid (HB23.out.trans (hb4.mono HB23.out.size))
    have HB4 := Lib.hid (HB.out.trans (HB24.out.mono HB.out.size))
    clear q0 q1 q2 q3 q4 x3 x4 hb4
    cases ho : (decide (first < to) && decide (fr ≤ last)) with
    | false =>
      have HE := Lib.hid (show r = false from by rw [HRES.out]; unfold wantsB; rw [HQR.out, Bool.true_and, ho]; rfl)
      clear ho
      go_wp2_with fail
      go_ret
      rw [HE.out]
      exact ⟨rfl, HB4.out⟩
    | true =>
      have HO := Lib.hid ho
      clear ho
      have x2 : w4.cell? ⟨w.heap.size + 1, 2, none⟩ = some (.string pt) := HX.out _ HB24.out 2 _ rfl
      go_wp2_with fail
      refine (parse_any pt HPT.out mx w4 (HMX.out _ HB4.out)).mono ?_
      rintro e w5 ⟨pa, pn, pc, rfl, hP, hb5⟩
      have HB25 := Lib.hid (HB24.out.trans (hb5.mono HB24.out.size))
      have HB5 := Lib.hid (HB.out.trans (HB25.out.mono HB.out.size))
      clear x2 hb5
      cases hs : setIn pt with
      | none =>
        have HE := Lib.hid (show r = false from by rw [HRES.out]; unfold wantsB; rw [hs]; simp)
        simp only [Option.isSome_none, Bool.false_eq_true, if_false]
        clear hs hP
        go_wp2_with fail
        go_ret
        rw [HE.out]
        exact ⟨rfl, HB5.out⟩
      | some P =>
        have HE := Lib.hid (show r = wantsTo P ms P.length from by rw [HRES.out]; unfold wantsB; rw [hs, HQR.out, Bool.true_and, HO.out, Bool.true_and])
        rw [hs] at hP
        simp only [Option.getD_some] at hP
        simp only [Option.isSome_some, if_true]
        have HP := Lib.hid hP
        have HPL := Lib.hid hP.len
        have hpc := hP.cap
        have hpm := hP.capm
        clear hs hP
        go_wp2_with fail
        go_loopw [8, 10, 33, 40] (fun s8 s10 s33 s40 wr => ∃ k : Nat, k ≤ pn ∧ s33 = .int .i64 (k : Int) ∧ Hid (wantsTo P ms k = true) ∧ Hid (Below w5.heap.size w5 wr)) (fun _ _ s33 _ _ => pn - (intOf s33).toNat)
        case atStart => exact ⟨0, by omega, rfl, Lib.hid rfl, Lib.hid (Below.refl _ _)⟩
        case round =>
          obtain ⟨k, hkn, rfl, HU, HBR⟩ := hrel
          rename World => wr
          by_cases hlt : k < pn
          · have hlti : (k : Int) < (pn : Int) := by omega
            have hkp := HP.out.kept HBR.out
            obtain ⟨b, off, rfl, hltb, hcell⟩ := hkp.cells (by omega)
            obtain ⟨l1, l2⟩ := hcell k hlt
            have hsz := HP.out.size _ (lab_mem (l := P) (i := k) (by rw [HPL.out]; exact hlt))
            obtain ⟨y1, hy1⟩ : ∃ y, y = (P.getD k lab0).1 := ⟨_, rfl⟩
            obtain ⟨y2, hy2⟩ : ∃ y, y = (P.getD k lab0).2 := ⟨_, rfl⟩
            rw [← hy1] at l1 hsz
            rw [← hy2] at l2 hsz
            have HY := Lib.hid (show P.getD k lab0 = (y1, y2) from by rw [hy1, hy2])
            have HSZ := Lib.hid hsz
            obtain ⟨wx, hwx⟩ : ∃ wx, wx = wr.alloc (.cells #[.string y1, .string y2] 41) := ⟨_, rfl⟩
            obtain ⟨bx, hbx⟩ : ∃ bx, bx = wr.heap.size := ⟨_, rfl⟩
            have hxb : wx.heap[bx]? = some (.cells #[.string y1, .string y2] 41 (0, 0)) := by rw [hwx, hbx]; exact heap_alloc_new wr _
            have hbwx : Below wr.heap.size wr wx := by rw [hwx]; exact (Below.refl _ _).alloc (Nat.le_refl _) _
            have HXB := Lib.hid hxb
            have HXL := Lib.hid (Array.getElem?_eq_some_iff.1 hxb).1
            have HB5X := Lib.hid (HBR.out.trans (hbwx.mono HBR.out.size))
            have HB2X := Lib.hid (HB25.out.trans (HB5X.out.mono HB25.out.size))
            have HWX := Lib.hid hwx
            have HBXE := Lib.hid hbx
            have q2 : (wr.alloc (.cells #[.string y1, .string y2] 41)).cell? ⟨w.heap.size, 2, none⟩ = some (.slice a n c) := by
              rw [← HWX.out]; exact HQ.out _ HB2X.out 2 _ rfl
            clear hkp hcell hy1 hy2 hsz hwx hbx hxb hbwx hltb
            go_wp2_with fail
            rw [← HWX.out, ← HBXE.out]
            clear q2
            go_loopw [10, 40] (fun s10 s40 wq => ∃ j : Nat, j ≤ n ∧ s40 = .int .i64 (j : Int) ∧ Hid (wantTo (y1, y2) ms j = true) ∧ Hid (Below wx.heap.size wx wq)) (fun _ s40 _ => n - (intOf s40).toNat)
            case atStart => exact ⟨0, by omega, rfl, Lib.hid rfl, Lib.hid (Below.refl _ _)⟩
            case round =>
              obtain ⟨j, hjn, rfl, HV, HBQ⟩ := hrel
              rename World => wq
              have HB2Q := Lib.hid (HB2X.out.trans (HBQ.out.mono HB2X.out.size))
              by_cases hjlt : j < n
              · have hjlti : (j : Int) < (n : Int) := by omega
                have hmk := HM.out.kept HB2Q.out
                obtain ⟨b', off', rfl, hltb', hcell'⟩ := hmk.cells (by omega)
                obtain ⟨m1, m2, m3⟩ := hcell' j hjlt
                have hsz' := HM.out.size _ (mat_mem (l := ms) (i := j) (by rw [HML.out]; exact hjlt))
                obtain ⟨z, hz⟩ : ∃ z, z = ms.getD j mat0 := ⟨_, rfl⟩
                rw [← hz] at m1 m2 m3 hsz'
                have HZ := Lib.hid hz
                obtain ⟨z1, z2, z3⟩ := z
                simp only at m1 m2 m3
                have HSZ2 := Lib.hid hsz'
                have p1 : wq.cell? ⟨bx, 0, none⟩ = some (.string y1) := cell_blk ((HBQ.out.block bx HXL.out).trans HXB.out) rfl
                have p2 : wq.cell? ⟨bx, 1, none⟩ = some (.string y2) := cell_blk ((HBQ.out.block bx HXL.out).trans HXB.out) rfl
                have HBQM := Lib.hid (HBQ.out.alloc HBQ.out.size (.cells #[.string z1, .int .i64 z2, .string z3] 46))
                have hbxq : bx < wq.heap.size := Nat.lt_of_lt_of_le HXL.out HBQ.out.size
                have HB5Q := Lib.hid (HB5.out.trans ((HB5X.out.trans (HBQM.out.mono HB5X.out.size)).mono HB5.out.size))
                clear hmk hcell' hz hsz' hltb'
                by_cases c1 : z1 = y1
                · have e1 : (z1.toList == y1.toList) = true := by rw [c1]; simp
                  have HC1 := Lib.hid c1
                  have HBA := Lib.hid (HBQM.out.alloc HBQM.out.size (.cells #[.string y1, .string y2] 41))
                  have HBB := Lib.hid (HBA.out.alloc HBA.out.size (.cells #[.string z1, .int .i64 z2, .string z3] 46))
                  have HME := Lib.hid (show Calls Try.prog 30 #[.slice (some ⟨wq.heap.size + 1, 0, none⟩) 1 1, .slice (some ⟨wq.heap.size + 1 + 1, 0, none⟩) 1 1] (((wq.alloc (.cells #[.string z1, .int .i64 z2, .string z3] 46)).alloc (.cells #[.string y1, .string y2] 41)).alloc (.cells #[.string z1, .int .i64 z2, .string z3] 46)) fun e w' => e = .returned (.bool (meetsB [(y1, y2)] [(z1, z2, z3)])) ∧ Below (((wq.alloc (.cells #[.string z1, .int .i64 z2, .string z3] 46)).alloc (.cells #[.string y1, .string y2] 41)).alloc (.cells #[.string z1, .int .i64 z2, .string z3] 46)).heap.size (((wq.alloc (.cells #[.string z1, .int .i64 z2, .string z3] 46)).alloc (.cells #[.string y1, .string y2] 41)).alloc (.cells #[.string z1, .int .i64 z2, .string z3] 46)) w' from by
                    have e1 : (wq.alloc (.cells #[.string z1, .int .i64 z2, .string z3] 46)).heap.size = wq.heap.size + 1 := Array.size_push _
                    have e2 : ((wq.alloc (.cells #[.string z1, .int .i64 z2, .string z3] 46)).alloc (.cells #[.string y1, .string y2] 41)).heap.size = wq.heap.size + 1 + 1 := by rw [← e1]; exact Array.size_push _
                    have h1 := meets_any ((labs_one (wq.alloc (.cells #[.string z1, .int .i64 z2, .string z3] 46)) y1 y2 41 HSZ.out).kept ((Below.refl _ _).alloc (Nat.le_refl _) (.cells #[.string z1, .int .i64 z2, .string z3] 46))) (mats_one ((wq.alloc (.cells #[.string z1, .int .i64 z2, .string z3] 46)).alloc (.cells #[.string y1, .string y2] 41)) (z1, z2, z3) 46 HSZ2.out)
                    rw [e1, e2] at h1
                    exact h1)
                  clear c1
                  go_wp2_with fail
                  refine HME.out.mono ?_
                  rintro e w6 ⟨rfl, hb6⟩
                  have HB6 := Lib.hid (HBB.out.trans (hb6.mono HBB.out.size))
                  have HB56 := Lib.hid (HB5.out.trans ((HB5X.out.trans (HB6.out.mono HB5X.out.size)).mono HB5.out.size))
                  clear hb6 m1 m2 m3 p1 p2
                  cases hm : meetsB [(y1, y2)] [(z1, z2, z3)] with
                  | false =>
                    have HF := Lib.hid (show r = false from by
                      rw [HE.out]
                      have h1 := wantTo_no (x := (y1, y2)) (ms := ms) (k := j) (by rw [← HZ.out, HC1.out]; rw [HC1.out] at hm; simp [hm]) (n - (j + 1))
                      rw [show j + 1 + (n - (j + 1)) = ms.length from by rw [HML.out]; omega] at h1
                      have h2 := wantsTo_no (P := P) (ms := ms) (k := k) (by rw [HY.out]; exact h1) (pn - (k + 1))
                      rw [show k + 1 + (pn - (k + 1)) = P.length from by rw [HPL.out]; omega] at h2
                      exact h2)
                    clear hm
                    go_wp2_with fail
                    go_ret
                    rw [HF.out]
                    exact ⟨rfl, HB56.out⟩
                  | true =>
                    have HV2 := Lib.hid (show wantTo (y1, y2) ms (j + 1) = true from by rw [wantTo, HV.out, ← HZ.out, hm, Bool.or_true]; rfl)
                    clear hm
                    have q2 : w6.cell? ⟨w.heap.size, 2, none⟩ = some (.slice (some ⟨b', off', none⟩) n c) := HQ.out _ (HB2X.out.trans (HB6.out.mono HB2X.out.size)) 2 _ rfl
                    go_wp2_with fail
                    go_roundw
                    case rel => exact ⟨j + 1, by omega, by go_num, HV2, HB6⟩
                    case measure => simp [intOf]; omega
                · have e1 : (z1.toList == y1.toList) = false := by
                    rw [beq_eq_false_iff_ne]
                    exact fun e => c1 (ByteArray.ext (Array.toList_inj.1 (by rw [← ByteArray.toList_eq, ← ByteArray.toList_eq]; exact e)))
                  have HV2 := Lib.hid (show wantTo (y1, y2) ms (j + 1) = true from by rw [wantTo, HV.out, ← HZ.out, decide_eq_false c1]; rfl)
                  clear c1
                  go_wp2_with fail
                  go_roundw
                  case rel => exact ⟨j + 1, by omega, by go_num, HV2, HBQM⟩
                  case measure => simp [intOf]; omega
              · obtain rfl : j = n := by omega
                have HU2 := Lib.hid (show wantsTo P ms (k + 1) = true from by rw [wantsTo, HU.out, HY.out, HML.out, HV.out]; rfl)
                clear hjlt
                have HBN := Lib.hid (HB5X.out.trans (HBQ.out.mono HB5X.out.size))
                go_wp2_with fail
                go_roundw
                case rel => exact ⟨k + 1, by omega, by go_num, HU2, HBN⟩
                case measure => simp [intOf]; omega
          · obtain rfl : k = pn := by omega
            have HF := Lib.hid (show r = true from by rw [HE.out, HPL.out, HU.out])
            clear hlt
            go_wp2_with fail
            go_ret
            rw [HF.out]
            exact ⟨rfl, HB5.out.trans (HBR.out.mono HB5.out.size)⟩
end Go.Proofs.Ytjbljplgkbnpmaa
end SecWants1

/- The law BayBoxes, walked. Written by genbayboxes.py. -/
import Derived.Test.YtpcohkhdbjimgaaBayOpen
namespace Go.Proofs.Ytpcohkhdbjimgaa
open Go.RowKit Go.Conc
set_option linter.unusedVariables false

theorem RAt.drew {w : World} {P room : Nat} {a : Option Addr} {c : Nat} {xs : List Int} (h : RAt w P room a c xs) : RAt w.drew P room a c xs := ⟨h.blk, ⟨h.row.len, h.row.cap, h.row.capm, h.row.nl, h.row.cells⟩, h.ne⟩
theorem RAt.drewN {w : World} {P room : Nat} {a : Option Addr} {c : Nat} {xs : List Int} (h : RAt w P room a c xs) (q : Nat) : RAt (w.drewN q) P room a c xs := ⟨h.blk, ⟨h.row.len, h.row.cap, h.row.capm, h.row.nl, h.row.cells⟩, h.ne⟩
theorem room_nil (w : World) : Calls Try.prog 12 #[.pointer none] w fun e w' => e = .returned (.int .i64 0) ∧ w' = w := by
  go_enter Try.func12, Try.ntmps12
  go_wp2_with fail
  go_ret
  exact ⟨rfl, rfl⟩
theorem len_nil (w : World) : Calls Try.prog 11 #[.pointer none] w fun e w' => e = .returned (.int .i64 0) ∧ w' = w := by
  go_enter Try.func11, Try.ntmps11
  go_wp2_with fail
  go_ret
  exact ⟨rfl, rfl⟩

set_option maxRecDepth 100000 in
set_option maxHeartbeats 8000000 in
theorem bay_boxes (rm : Int) (la : Option Addr) (n lc : Nat) (l : List (Int × Int)) (w : World) (hrm : (Lit.int .i64 rm).wf = true) (h : ActsAt w la n lc l) :
    Calls Try.prog 3 #[.int .i64 rm, .slice la n lc] w fun e w' => e = .returned (.bool true) ∧ Below w.heap.size w w' := by
  have HH := Lib.hid h
  have HLL := Lib.hid h.len
  have lcap := h.cap
  have lcm := h.capm
  clear h hrm
  by_cases hr : 1 ≤ rm ∧ rm ≤ 2048
  case neg =>
    have HNO := Lib.hid (new_no rm hr w)
    have hrs : rm < 1 ∨ (1 ≤ rm ∧ 2048 < rm) := by omega
    clear hr
    by_cases g1 : 300 < n
    · have g1i : (300 : Int) < (n : Int) := by omega
      clear g1
      rcases hrs with hrs | ⟨hrs, hrt⟩
      all_goals
        go_enter Try.func3, Try.ntmps3
        go_wp2_with fail
        refine HNO.out.mono ?_
        rintro e w1 ⟨rfl, rfl⟩
        go_wp2_with fail
        refine (lives_any w1).mono ?_
        rintro e w2 ⟨rfl, hb2⟩
        have HB2 := Lib.hid hb2
        clear hb2
        go_wp2_with fail
        refine (lives_any w2).mono ?_
        rintro e w3 ⟨rfl, hb3⟩
        have HB3 := Lib.hid (HB2.out.trans (hb3.mono HB2.out.size))
        clear hb3
        go_wp2_with fail
        go_ret
        exact ⟨rfl, HB3.out⟩
    · have g1i : (n : Int) ≤ 300 := by omega
      clear g1
      rcases hrs with hrs | ⟨hrs, hrt⟩
      all_goals
        go_enter Try.func3, Try.ntmps3
        go_wp2_with fail
        refine HNO.out.mono ?_
        rintro e w1 ⟨rfl, rfl⟩
        go_wp2_with fail
        refine (lives_any w1).mono ?_
        rintro e w2 ⟨rfl, hb2⟩
        have HB2 := Lib.hid hb2
        clear hb2
        go_wp2_with fail
        refine (take_nil w2).mono ?_
        rintro e w3 ⟨rfl, rfl⟩
        go_wp2_with fail
        refine (put_nil 1 w3).mono ?_
        rintro e w4 ⟨rfl, rfl⟩
        go_wp2_with fail
        refine (len_nil w4).mono ?_
        rintro e w5 ⟨rfl, rfl⟩
        go_wp2_with fail
        refine (room_nil w5).mono ?_
        rintro e w6 ⟨rfl, rfl⟩
        go_wp2_with fail
        refine (drain_nil w6).mono ?_
        rintro e w7 ⟨rfl, rfl⟩
        go_wp2_with fail
        go_ret
        exact ⟨rfl, HB2.out⟩
  obtain ⟨room, rfl⟩ : ∃ room : Nat, rm = (room : Int) := ⟨rm.toNat, by omega⟩
  have hr1 : 1 ≤ room := by omega
  have hr2 : room ≤ 2048 := by omega
  have hri : (1 : Int) ≤ (room : Int) := by omega
  have hrj : (room : Int) ≤ 2048 := by omega
  have hd1 : decide ((room : Int) < 1) = false := decide_eq_false (by omega)
  have hd2 : decide ((2048 : Int) < (room : Int)) = false := decide_eq_false (by omega)
  have HYES := Lib.hid (new_yes room hr1 hr2 w)
  clear hr
  by_cases g1 : 300 < n
  · have g1i : (300 : Int) < (n : Int) := by omega
    clear g1
    go_enter Try.func3, Try.ntmps3
    go_wp2_with fail
    refine HYES.out.mono ?_
    rintro e w1 ⟨rfl, hx1, hb1⟩
    have HB1 := Lib.hid hb1
    clear hx1 hb1
    go_wp2_with fail
    refine (lives_any w1).mono ?_
    rintro e w2 ⟨rfl, hb2⟩
    have HB2 := Lib.hid (HB1.out.trans (hb2.mono HB1.out.size))
    clear hb2
    go_wp2_with fail
    refine (lives_any w2).mono ?_
    rintro e w3 ⟨rfl, hb3⟩
    have HB3 := Lib.hid (HB2.out.trans (hb3.mono HB2.out.size))
    clear hb3
    go_wp2_with fail
    go_ret
    exact ⟨rfl, HB3.out⟩
  · have g1i : (n : Int) ≤ 300 := by omega
    clear g1
    go_enter Try.func3, Try.ntmps3
    go_wp2_with fail
    refine HYES.out.mono ?_
    obtain ⟨B, hB⟩ : ∃ B, B = w.heap.size + 1 := ⟨_, rfl⟩
    obtain ⟨C, hC⟩ : ∃ C, C = w.heap.size := ⟨_, rfl⟩
    rw [← hB, ← hC]
    rintro e w1 ⟨rfl, hx1, hb1⟩
    rw [hC] at hb1
    have HX1 := Lib.hid hx1
    have HB1 := Lib.hid hb1
    have hCw : w.heap.size ≤ C := by omega
    have hBw : w.heap.size ≤ B := by omega
    have HBCE := Lib.hid (And.intro hB hC)
    clear hx1 hb1 hB hC
    go_wp2_with fail
    refine (lives_any w1).mono ?_
    rintro e w2 ⟨rfl, hb2⟩
    have HB2 := Lib.hid (HB1.out.trans (hb2.mono HB1.out.size))
    have HX2 := Lib.hid (HX1.out.kept hb2)
    clear hb2
    obtain ⟨P, hP⟩ : ∃ P, P = w2.heap.size := ⟨_, rfl⟩
    obtain ⟨w3, hw3⟩ : ∃ w3, w3 = w2.alloc (.cells #[.slice none 0 0, .int .i64 (room : Int)] 34) := ⟨_, rfl⟩
    have hbelow : Below w2.heap.size w2 w3 := by rw [hw3]; exact (Below.refl _ _).alloc (Nat.le_refl _) _
    have HB3 := Lib.hid (HB2.out.trans (hbelow.mono HB2.out.size))
    have HX3 := Lib.hid (HX2.out.kept hbelow)
    have HR3 := Lib.hid (show RAt w3 P room none 0 [] from ⟨by rw [hw3, hP]; exact heap_alloc_new w2 _, IntsAt.empty _ _ _ (by omega) (fun _ => rfl), fun b off s e => by cases e⟩)
    have hPw : w.heap.size ≤ P := by have := HB2.out.size; omega
    have hPC : ¬ some P = some C := fun e => by have := HX2.out.ltC; simp only [Option.some.injEq] at e; omega
    have HW3 := Lib.hid hw3
    have HPE := Lib.hid hP
    clear hw3 hP hbelow
    go_wp2_with fail
    rw [← HW3.out, ← HPE.out]
    go_loopw [82] (fun s82 wr => ∃ (k : Nat) (a : Option Addr) (c : Nat) (xs : List Int), k ≤ n ∧ s82 = .int .i64 (k : Int) ∧ Hid (BoxAt wr B C room xs) ∧ Hid (RAt wr P room a c xs) ∧ Hid (xs.length ≤ room) ∧ Hid (Below w.heap.size w wr)) (fun s82 _ => n - (intOf s82).toNat)
    case atStart => exact ⟨0, _, _, [], by omega, rfl, HX3, HR3, Lib.hid (by simp), HB3⟩
    case round =>
      clear HX3 HR3 HB3
      obtain ⟨k, a, c, xs, hk, rfl, HX, HR, HLX, HB⟩ := hrel
      rename World => wr
      by_cases hkn : k < n
      · obtain ⟨lb, off, rfl, hlt, hcell⟩ := (HH.out.kept HB.out).cells (by omega)
        obtain ⟨h1, h2⟩ := hcell k hkn
        obtain ⟨kd, hkd⟩ : ∃ x, x = (l.getD k (0, 0)).1 := ⟨_, rfl⟩
        obtain ⟨x, hx⟩ : ∃ x, x = (l.getD k (0, 0)).2 := ⟨_, rfl⟩
        rw [← hkd] at h1
        rw [← hx] at h2
        have hki : (k : Int) < (n : Int) := by omega
        have hk00 : (0 : Int) ≤ (k : Int) := by omega
        obtain ⟨A, hA⟩ : ∃ A, A = wr.heap.size := ⟨_, rfl⟩
        obtain ⟨wA, hwA⟩ : ∃ wA, wA = wr.alloc (.cells #[.int .i64 kd, .int .i64 x] 36) := ⟨_, rfl⟩
        have hbl : Below wr.heap.size wr wA := by rw [hwA]; exact (Below.refl _ _).alloc (Nat.le_refl _) _
        have hblk : wA.heap[A]? = some (.cells #[.int .i64 kd, .int .i64 x] 36 (0, 0)) := by rw [hwA, hA]; exact heap_alloc_new wr _
        have a0 : wA.cell? ⟨A, 0, none⟩ = some (.int .i64 kd) := by rw [cell_of_row wA A 0 _ _ (0, 0) hblk]; rfl
        have a1 : wA.cell? ⟨A, 1, none⟩ = some (.int .i64 x) := by rw [cell_of_row wA A 1 _ _ (0, 0) hblk]; rfl
        have HXA := Lib.hid (HX.out.kept hbl)
        have HRA := Lib.hid (HR.out.kept hbl)
        have HBA := Lib.hid (HB.out.trans (hbl.mono HB.out.size))
        have hAC : ¬ some A = some C := fun e => by have := HX.out.ltC; simp only [Option.some.injEq] at e; omega
        have hAP : ¬ some A = some P := fun e => by have := HR.out.lt; simp only [Option.some.injEq] at e; omega
        have HWA := Lib.hid hwA
        have HAE := Lib.hid hA
        have hlx := HLX.out
        clear hwA hA hbl hblk hkd hx hcell
        by_cases k0 : kd = 0
        · have hq0 : (kd == 0) = true := by rw [beq_iff_eq]; exact k0
          clear k0
          by_cases hlr : xs.length < room
          · have HPUT := Lib.hid (put_room (w := wA.drew) ⟨HXA.out.blk, HXA.out.ch⟩ x hlr)
            have HCH := Lib.hid HXA.out.ch
            have HRD := Lib.hid HRA.out.drew
            go_wp2_with fail
            rw [← HWA.out, ← HAE.out]
            go_region_held3 (fun w' => w'.cell? ⟨A, 1, none⟩ = some (.int .i64 x)) (first | go_keep | exact hg4.cell (hg3.cell (w := wA.drew) a1 hAC) hAP | exact hg3.cell (w := wA.drew) a1 hAC) (first | (go_at_call 10; refine HPUT.out.mono ?_; rintro r w3 ⟨rfl, hx3, hg3⟩) | (go_at_call 14; refine (rput_room (HRD.out.chan hg3 HCH.out.choose_spec.choose_spec) x hlr hr2).mono ?_; rintro r w4 ⟨rfl, ⟨a4, c4, hr4⟩, hg4⟩))
            have HBw3 := Lib.hid ((Below.drew HBA.out).grown hg3 HBA.out.size (fun j hj => by simp only [Option.some.injEq] at hj; omega))
            have HR3 := Lib.hid (HRD.out.chan hg3 HCH.out.choose_spec.choose_spec)
            have HXf := Lib.hid (hx3.aside HR3.out.blk hg4)
            have HRf := Lib.hid hr4
            have HBf := Lib.hid (HBw3.out.grown hg4 HBw3.out.size (fun j hj => by simp only [Option.some.injEq] at hj; omega))
            have hlf : (xs ++ [x]).length ≤ room := by rw [List.length_append]; show xs.length + 1 ≤ room; omega
            clear hx3 hg3 hr4 hg4
            obtain ⟨nl, hnl⟩ : ∃ nl, nl = (xs ++ [x]).length := ⟨_, rfl⟩
            have hlf2 : nl ≤ room := by omega
            have HLN := Lib.hid (show ∀ q, Calls Try.prog 11 #[.pointer (some ⟨B, 0, none⟩)] (w4.drewN q) fun e w' => e = .returned (.int .i64 (nl : Int)) ∧ w' = w4.drewN q from fun q => by rw [hnl]; exact len_any ⟨HXf.out.blk, HXf.out.ch⟩)
            have HRM := Lib.hid (show ∀ q, Calls Try.prog 12 #[.pointer (some ⟨B, 0, none⟩)] (w4.drewN q) fun e w' => e = .returned (.int .i64 ((room - nl : Nat) : Int)) ∧ ∃ m, w' = (w4.drewN q).drewN m from fun q => by rw [hnl]; exact room_any ⟨HXf.out.blk, HXf.out.ch⟩ hlf hr2)
            have p0 : w4.cell? ⟨P, 0, none⟩ = some (.slice a4 nl c4) := by rw [hnl]; exact HRf.out.c0
            have hwr : IntKind.i64.wrap ((room : Int) - (nl : Int)) = ((room - nl : Nat) : Int) := by rw [IntWalk.i64_in _ (by omega)]; omega
            have HNL := Lib.hid hnl
            have HLF := Lib.hid hlf
            clear hnl hlf hlf2
            go_wp2_with fail
            go_quiet ((first | (go_at_call 11; exact Calls.quiet_of_same (HLN.out _)) | (go_at_call 12; exact Calls.quiet_of (HRM.out _))))
            go_wp2_with fail
            go_roundw
            case rel => exact ⟨k + 1, _, _, _, by omega, by go_num, Lib.hid ⟨HXf.out.blk, HXf.out.ch⟩, Lib.hid (HRf.out.drewN _), HLF, Lib.hid (below_drewN HBf.out _)⟩
            case measure => simp [intOf] <;> omega
          · replace hlr : room ≤ xs.length := by omega
            have HPUT := Lib.hid (put_full (w := wA.drew) ⟨HXA.out.blk, HXA.out.ch⟩ x hlr)
            have HRPUT := Lib.hid ((rput_full HRA.out.drew x hlr).mono fun e w' ⟨he, hq⟩ => (⟨he, by obtain ⟨q, rfl⟩ := hq; exact ⟨⟨HXA.out.blk, HXA.out.ch⟩, HRA.out.drew.drewN q, below_drewN (Below.drew HBA.out) q, a1⟩⟩ : e = Ending.returned (Value.bool false) ∧ BoxAt w' B C room xs ∧ RAt w' P room a c xs ∧ Below w.heap.size w w' ∧ w'.cell? ⟨A, 1, none⟩ = some (Value.int IntKind.i64 x)))
            go_wp2_with fail
            rw [← HWA.out, ← HAE.out]
            go_region_held3 (fun w' => w'.cell? ⟨A, 1, none⟩ = some (.int .i64 x)) (first | exact hk4 | go_keep | exact a1) (first | (go_at_call 10; refine HPUT.out.mono ?_; rintro r w3 ⟨rfl, rfl⟩) | (go_at_call 14; refine HRPUT.out.mono ?_; rintro r w4 ⟨rfl, hx4, hr4, hb4, hk4⟩))
            have HXf := Lib.hid hx4
            have HRf := Lib.hid hr4
            have HBf := Lib.hid hb4
            have hlf := hlx
            clear hx4 hr4 hb4 hk4
            obtain ⟨nl, hnl⟩ : ∃ nl, nl = (xs).length := ⟨_, rfl⟩
            have hlf2 : nl ≤ room := by omega
            have HLN := Lib.hid (show ∀ q, Calls Try.prog 11 #[.pointer (some ⟨B, 0, none⟩)] (w4.drewN q) fun e w' => e = .returned (.int .i64 (nl : Int)) ∧ w' = w4.drewN q from fun q => by rw [hnl]; exact len_any ⟨HXf.out.blk, HXf.out.ch⟩)
            have HRM := Lib.hid (show ∀ q, Calls Try.prog 12 #[.pointer (some ⟨B, 0, none⟩)] (w4.drewN q) fun e w' => e = .returned (.int .i64 ((room - nl : Nat) : Int)) ∧ ∃ m, w' = (w4.drewN q).drewN m from fun q => by rw [hnl]; exact room_any ⟨HXf.out.blk, HXf.out.ch⟩ hlf hr2)
            have p0 : w4.cell? ⟨P, 0, none⟩ = some (.slice a nl c) := by rw [hnl]; exact HRf.out.c0
            have hwr : IntKind.i64.wrap ((room : Int) - (nl : Int)) = ((room - nl : Nat) : Int) := by rw [IntWalk.i64_in _ (by omega)]; omega
            have HNL := Lib.hid hnl
            have HLF := Lib.hid hlf
            clear hnl hlf hlf2
            go_wp2_with fail
            go_quiet ((first | (go_at_call 11; exact Calls.quiet_of_same (HLN.out _)) | (go_at_call 12; exact Calls.quiet_of (HRM.out _))))
            go_wp2_with fail
            go_roundw
            case rel => exact ⟨k + 1, _, _, _, by omega, by go_num, Lib.hid ⟨HXf.out.blk, HXf.out.ch⟩, Lib.hid (HRf.out.drewN _), HLF, Lib.hid (below_drewN HBf.out _)⟩
            case measure => simp [intOf] <;> omega
        · have hq0 : (kd == 0) = false := by rw [beq_eq_false_iff_ne]; exact k0
          by_cases k1 : kd = 1
          · have hq1 : (kd == 1) = true := by rw [beq_iff_eq]; exact k1
            clear k0 k1
            rcases xs with _ | ⟨x0, r⟩
            · go_wp2_with fail
              rw [← HWA.out, ← HAE.out]
              refine (take_none HXA.out).mono ?_
              rintro e w3 ⟨rfl, rfl⟩
              go_wp2_with fail
              refine (rtake_none HRA.out).mono ?_
              rintro e w4 ⟨rfl, rfl⟩
              have HXf := HXA
              have HRf := HRA
              have HBf := HBA
              have hlf := hlx
              obtain ⟨nl, hnl⟩ : ∃ nl, nl = (([] : List Int)).length := ⟨_, rfl⟩
              have hlf2 : nl ≤ room := by omega
              have HLN := Lib.hid (show ∀ q, Calls Try.prog 11 #[.pointer (some ⟨B, 0, none⟩)] (w4.drewN q) fun e w' => e = .returned (.int .i64 (nl : Int)) ∧ w' = w4.drewN q from fun q => by rw [hnl]; exact len_any ⟨HXf.out.blk, HXf.out.ch⟩)
              have HRM := Lib.hid (show ∀ q, Calls Try.prog 12 #[.pointer (some ⟨B, 0, none⟩)] (w4.drewN q) fun e w' => e = .returned (.int .i64 ((room - nl : Nat) : Int)) ∧ ∃ m, w' = (w4.drewN q).drewN m from fun q => by rw [hnl]; exact room_any ⟨HXf.out.blk, HXf.out.ch⟩ hlf hr2)
              have p0 : w4.cell? ⟨P, 0, none⟩ = some (.slice a nl c) := by rw [hnl]; exact HRf.out.c0
              have hwr : IntKind.i64.wrap ((room : Int) - (nl : Int)) = ((room - nl : Nat) : Int) := by rw [IntWalk.i64_in _ (by omega)]; omega
              have HNL := Lib.hid hnl
              have HLF := Lib.hid hlf
              clear hnl hlf hlf2
              go_wp2_with fail
              go_quiet ((first | (go_at_call 11; exact Calls.quiet_of_same (HLN.out _)) | (go_at_call 12; exact Calls.quiet_of (HRM.out _))))
              go_wp2_with fail
              go_roundw
              case rel => exact ⟨k + 1, _, _, _, by omega, by go_num, Lib.hid ⟨HXf.out.blk, HXf.out.ch⟩, Lib.hid (HRf.out.drewN _), HLF, Lib.hid (below_drewN HBf.out _)⟩
              case measure => simp [intOf] <;> omega
            · go_wp2_with fail
              rw [← HWA.out, ← HAE.out]
              refine (take_some HXA.out).mono ?_
              rintro e w3 ⟨rfl, hx3, hg3⟩
              have HBw3 := Lib.hid (HBA.out.grown hg3 HBA.out.size (fun j hj => by simp only [Option.some.injEq] at hj; omega))
              have HR3 := Lib.hid (HRA.out.chan hg3 HXA.out.ch.choose_spec.choose_spec)
              have HX3 := Lib.hid hx3
              clear hx3 hg3
              go_wp2_with fail
              refine (rtake_some HR3.out).mono ?_
              rintro e w4 ⟨rfl, ⟨a4, c4, hr4⟩, hg4⟩
              have HXf := Lib.hid (HX3.out.aside HR3.out.blk hg4)
              have HRf := Lib.hid hr4
              have HBf := Lib.hid (HBw3.out.grown hg4 HBw3.out.size (fun j hj => by simp only [Option.some.injEq] at hj; omega))
              have hlf : r.length ≤ room := by rw [List.length_cons] at hlx; omega
              clear hr4 hg4
              obtain ⟨nl, hnl⟩ : ∃ nl, nl = (r).length := ⟨_, rfl⟩
              have hlf2 : nl ≤ room := by omega
              have HLN := Lib.hid (show ∀ q, Calls Try.prog 11 #[.pointer (some ⟨B, 0, none⟩)] (w4.drewN q) fun e w' => e = .returned (.int .i64 (nl : Int)) ∧ w' = w4.drewN q from fun q => by rw [hnl]; exact len_any ⟨HXf.out.blk, HXf.out.ch⟩)
              have HRM := Lib.hid (show ∀ q, Calls Try.prog 12 #[.pointer (some ⟨B, 0, none⟩)] (w4.drewN q) fun e w' => e = .returned (.int .i64 ((room - nl : Nat) : Int)) ∧ ∃ m, w' = (w4.drewN q).drewN m from fun q => by rw [hnl]; exact room_any ⟨HXf.out.blk, HXf.out.ch⟩ hlf hr2)
              have p0 : w4.cell? ⟨P, 0, none⟩ = some (.slice a4 nl c4) := by rw [hnl]; exact HRf.out.c0
              have hwr : IntKind.i64.wrap ((room : Int) - (nl : Int)) = ((room - nl : Nat) : Int) := by rw [IntWalk.i64_in _ (by omega)]; omega
              have HNL := Lib.hid hnl
              have HLF := Lib.hid hlf
              clear hnl hlf hlf2
              go_wp2_with fail
              go_quiet ((first | (go_at_call 11; exact Calls.quiet_of_same (HLN.out _)) | (go_at_call 12; exact Calls.quiet_of (HRM.out _))))
              go_wp2_with fail
              go_roundw
              case rel => exact ⟨k + 1, _, _, _, by omega, by go_num, Lib.hid ⟨HXf.out.blk, HXf.out.ch⟩, Lib.hid (HRf.out.drewN _), HLF, Lib.hid (below_drewN HBf.out _)⟩
              case measure => simp [intOf] <;> omega
          · have hq1 : (kd == 1) = false := by rw [beq_eq_false_iff_ne]; exact k1
            clear k0 k1
            have HDR := Lib.hid (drain_any (w := wA.drew) ⟨HXA.out.blk, HXA.out.ch⟩ (by omega))
            have HCH := Lib.hid HXA.out.ch
            have HRD := Lib.hid HRA.out.drew
            have p00 := HRA.out.c0
            obtain ⟨nx, hnx⟩ : ∃ nx, nx = xs.length := ⟨_, rfl⟩
            rw [← hnx] at p00 HDR
            have HROW := Lib.hid (show ∀ w3, wA.drew.grownBy w3 (some C) → IntsAt w3 a nx c xs from fun w3 hg => by rw [hnx]; exact (HRD.out.chan hg HCH.out.choose_spec.choose_spec).row)
            have HNX := Lib.hid hnx
            have hltP := HRA.out.lt
            clear hnx
            go_wp2_with fail
            rw [← HWA.out, ← HAE.out]
            go_region_held3 (fun w' => w'.cell? ⟨P, 0, none⟩ = some (.slice a nx c)) (first | go_keep | exact (hb4.cell (p := ⟨P, 0, none⟩) (Nat.lt_of_lt_of_le hltP hg3.size)).trans (hg3.cell (w := wA.drew) p00 hPC) | exact hg3.cell (w := wA.drew) p00 hPC) (first | (go_at_call 13; refine HDR.out.mono ?_; rintro r w3 ⟨da, dc, rfl, hi3, hx3, hg3⟩) | (go_at_call 16; refine (sameints_any hi3 (HROW.out _ hg3)).mono ?_; rw [decide_eq_true rfl]; rintro r w4 ⟨rfl, hb4⟩))
            have HBw3 := Lib.hid ((Below.drew HBA.out).grown hg3 HBA.out.size (fun j hj => by simp only [Option.some.injEq] at hj; omega))
            have HBw4 := Lib.hid (HBw3.out.trans (hb4.mono HBw3.out.size))
            have HX4 := Lib.hid (hx3.kept hb4)
            have HR4 := Lib.hid ((HRD.out.chan hg3 HCH.out.choose_spec.choose_spec).kept hb4)
            have q0 := HR4.out.c0
            have qf := HR4.out.f 0
            obtain ⟨wS, hwS⟩ : ∃ wS, wS = w4.setCell ⟨P, 0, none⟩ (.slice none 0 0) := ⟨_, rfl⟩
            have HXf := Lib.hid (show BoxAt wS B C room [] by rw [hwS]; exact HX4.out.aside HR4.out.blk (grown_set w4 P 0 _))
            have HRf := Lib.hid (show RAt wS P room none 0 [] by rw [hwS]; exact RAt.laid (ys := []) HR4.out.blk (IntsAt.empty _ _ _ (by omega) (fun _ => rfl)) (fun b off s e => by cases e))
            have HBf := Lib.hid (show Below w.heap.size w wS by rw [hwS]; exact HBw4.out.setCell (p := ⟨P, 0, none⟩) hPw _)
            have hlf : ([] : List Int).length ≤ room := by simp
            have HWS := Lib.hid hwS
            rw [← HNX.out] at q0
            clear hx3 hg3 hb4 hi3 hwS
            go_wp2_with fail
            rw [← HWS.out]
            obtain ⟨nl, hnl⟩ : ∃ nl, nl = (([] : List Int)).length := ⟨_, rfl⟩
            have hlf2 : nl ≤ room := by omega
            have HLN := Lib.hid (show ∀ q, Calls Try.prog 11 #[.pointer (some ⟨B, 0, none⟩)] (wS.drewN q) fun e w' => e = .returned (.int .i64 (nl : Int)) ∧ w' = wS.drewN q from fun q => by rw [hnl]; exact len_any ⟨HXf.out.blk, HXf.out.ch⟩)
            have HRM := Lib.hid (show ∀ q, Calls Try.prog 12 #[.pointer (some ⟨B, 0, none⟩)] (wS.drewN q) fun e w' => e = .returned (.int .i64 ((room - nl : Nat) : Int)) ∧ ∃ m, w' = (wS.drewN q).drewN m from fun q => by rw [hnl]; exact room_any ⟨HXf.out.blk, HXf.out.ch⟩ hlf hr2)
            have p0 : wS.cell? ⟨P, 0, none⟩ = some (.slice none nl 0) := by rw [hnl]; exact HRf.out.c0
            have hwr : IntKind.i64.wrap ((room : Int) - (nl : Int)) = ((room - nl : Nat) : Int) := by rw [IntWalk.i64_in _ (by omega)]; omega
            have HNL := Lib.hid hnl
            have HLF := Lib.hid hlf
            clear hnl hlf hlf2
            try go_wp2_with fail
            go_quiet ((first | (go_at_call 11; exact Calls.quiet_of_same (HLN.out _)) | (go_at_call 12; exact Calls.quiet_of (HRM.out _))))
            go_wp2_with fail
            go_roundw
            case rel => exact ⟨k + 1, _, _, _, by omega, by go_num, Lib.hid ⟨HXf.out.blk, HXf.out.ch⟩, Lib.hid (HRf.out.drewN _), HLF, Lib.hid (below_drewN HBf.out _)⟩
            case measure => simp [intOf] <;> omega
      · obtain rfl : n = k := by omega
        clear hkn
        go_wp2_with fail
        go_ret
        exact ⟨rfl, HB.out⟩
end Go.Proofs.Ytpcohkhdbjimgaa

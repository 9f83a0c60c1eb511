/- A bay made; what fits into it; its Len and Most, walked. -/
import Derived.Test.YtpcohkhdbjimgaaByA
import Derived.BigRegion
import Derived.BigQuiet
import Derived.Deep.CutBlock
import Derived.Deep.RegionLaw
import Derived.WalkSmall
namespace Go.Proofs.Ytpcohkhdbjimgaa
open Go.RowKit Go.Conc
set_option linter.unusedVariables false

theorem bay_no (room : Int) (h : ¬ (1 ≤ room ∧ room ≤ 2048)) (w : World) :
    Calls Try.prog 18 #[.int .i64 room] w fun e w' => e = .returned (.pointer none) ∧ w' = w := by
  have hr := roomy_any room w
  rw [show (decide (1 ≤ room) && decide (room ≤ 2048)) = false by rw [← Bool.not_eq_true, Bool.and_eq_true, decide_eq_true_eq, decide_eq_true_eq]; exact h] at hr
  have HR := Lib.hid hr
  clear hr
  go_enter Try.func18, Try.ntmps18
  go_wp2_with fail
  refine HR.out.mono ?_
  rintro e w' ⟨rfl, rfl⟩
  go_wp2_with fail
  first | go_ret2 | go_ret
  exact ⟨rfl, rfl⟩
theorem bay_new (room : Nat) (h1 : 1 ≤ room) (h2 : room ≤ 2048) (w : World) :
    Calls Try.prog 18 #[.int .i64 (room : Int)] w fun e w' => e = .returned (.pointer (some ⟨w.heap.size + 1, 0, none⟩)) ∧ BayAt w' (w.heap.size + 1) w.heap.size room [] ∧ Below w.heap.size w w' := by
  have hr := roomy_any (room : Int) w
  rw [decide_eq_true (show (1 : Int) ≤ (room : Int) by omega), decide_eq_true (show (room : Int) ≤ 2048 by omega)] at hr
  have HR := Lib.hid hr
  have hmk := @run_makeMap Try.prog
  clear hr
  go_enter Try.func18, Try.ntmps18
  go_wp2_with fail
  refine HR.out.mono ?_
  rintro e w' ⟨rfl, rfl⟩
  rename World => w
  go_wp2_with fail
  first | go_ret2 | go_ret
  have e1 := GM.made TB slit boxC w
  have hs : (w.alloc (.map #[] 0)).heap.size = w.heap.size + 1 := by simp
  have e2 := heap_new (w.alloc (.map #[] 0)) (.cells #[.int .i64 (room : Int), .map (some w.heap.size)] 67)
  rw [hs] at e2
  have hb : Below (w.alloc (.map #[] 0)).heap.size (w.alloc (.map #[] 0)) ((w.alloc (.map #[] 0)).alloc (.cells #[.int .i64 (room : Int), .map (some w.heap.size)] 67)) := (Below.refl _ _).alloc (Nat.le_refl _) _
  refine ⟨by simp, ⟨e2, e1.below hb, (fun p hp => by cases hp), (fun p hp => by cases hp), fun p hp => by cases hp⟩, ((Below.refl _ _).alloc (Nat.le_refl _) _).alloc (by simp) _⟩
/-- what is counted under a key -/
def cntAt (m : List (ByteArray × Nat)) (k : ByteArray) : Nat := (getK slit k m).getD 0
def cntK (ks : List (ByteArray × Int)) (k : ByteArray) : Nat := (ks.filter fun x => decide (x.1 = k)).length
theorem cntAt_put {k : ByteArray} {z : Nat} {m : List (ByteArray × Nat)} (j : ByteArray) : cntAt (putK slit k z m) j = if j = k then z else cntAt m j := by
  unfold cntAt
  by_cases e : j = k
  · subst e
    rw [if_pos rfl, get_put_same litS]; rfl
  · rw [if_neg e, get_put_ne litS e]
theorem elimC (m : List (ByteArray × Nat)) (k : ByteArray) : (getK slit k m).elim (.int .i64 0) cntC = .int .i64 (cntAt m k : Int) := by
  unfold cntAt cntC
  cases getK slit k m <;> rfl
def boxP (l : List (ByteArray × BoxV)) (k : ByteArray) : Option Addr := (getK slit k l).map fun b => ⟨b.B, 0, none⟩
theorem elimB (l : List (ByteArray × BoxV)) (k : ByteArray) : (getK slit k l).elim (.pointer none) boxC = .pointer (boxP l k) := by
  unfold boxP boxC
  cases getK slit k l <;> rfl
theorem len_nil (w : World) : Calls Try.prog 11 #[.pointer none] w fun e w' => e = .returned (.int .i64 0) ∧ w' = w := by
  go_enter Try.func11, Try.ntmps11
  go_wp2_with fail
  go_ret
  exact ⟨rfl, rfl⟩
theorem len_at {w : World} {Y M room : Nat} {l : List (ByteArray × BoxV)} (h : BayAt w Y M room l) (k : ByteArray) :
    Calls Try.prog 11 #[.pointer (boxP l k)] w fun e w' => e = .returned (.int .i64 ((cont l k).length : Int)) ∧ w' = w := by
  unfold boxP cont
  cases hg : getK slit k l with
  | none => exact len_nil w
  | some b => exact len_any (h.box (k, b) (get_mem slit_inj hg))
theorem BayAt.drewN {w : World} {Y M room : Nat} {l : List (ByteArray × BoxV)} (h : BayAt w Y M room l) (q : Nat) : BayAt (w.drewN q) Y M room l := h.same (fun _ _ => rfl) (fun _ _ => rfl)
theorem cont_fit {w : World} {Y M room : Nat} {l : List (ByteArray × BoxV)} (h : BayAt w Y M room l) (k : ByteArray) : (cont l k).length ≤ room := by
  unfold cont
  cases hg : getK slit k l with
  | none => exact Nat.zero_le _
  | some b => exact h.fit (k, b) (get_mem slit_inj hg)
def okAt (room : Nat) (l : List (ByteArray × BoxV)) (ks : List (ByteArray × Int)) (i : Nat) : Prop := (cont l (ks.getD i KdS.z).1).length + cntK (ks.take (i + 1)) (ks.getD i KdS.z).1 ≤ room
instance (room : Nat) (l : List (ByteArray × BoxV)) (ks : List (ByteArray × Int)) (i : Nat) : Decidable (okAt room l ks i) := by unfold okAt; exact inferInstance
def fitsB (room : Nat) (l : List (ByteArray × BoxV)) (ks : List (ByteArray × Int)) : Bool := (List.range ks.length).all fun i => decide (okAt room l ks i)
theorem fits_yes {room : Nat} {l : List (ByteArray × BoxV)} {ks : List (ByteArray × Int)} (h : ∀ i, i < ks.length → okAt room l ks i) : fitsB room l ks = true := by
  unfold fitsB
  rw [List.all_eq_true]
  exact fun i hi => decide_eq_true (h i (List.mem_range.1 hi))
theorem fits_no {room : Nat} {l : List (ByteArray × BoxV)} {ks : List (ByteArray × Int)} {i : Nat} (hi : i < ks.length) (h : ¬ okAt room l ks i) : fitsB room l ks = false := by
  rw [Bool.eq_false_iff]
  intro e
  unfold fitsB at e
  rw [List.all_eq_true] at e
  exact h (by simpa using e i (List.mem_range.2 hi))
theorem fits_ok {room : Nat} {l : List (ByteArray × BoxV)} {ks : List (ByteArray × Int)} (h : fitsB room l ks = true) {i : Nat} (hi : i < ks.length) : okAt room l ks i := by
  unfold fitsB at h
  rw [List.all_eq_true] at h
  simpa using h i (List.mem_range.2 hi)
theorem cntK_succ {ks : List (ByteArray × Int)} {i : Nat} (hi : i < ks.length) (k : ByteArray) : cntK (ks.take (i + 1)) k = cntK (ks.take i) k + (if (ks.getD i KdS.z).1 = k then 1 else 0) := by
  unfold cntK
  rw [List.take_add_one, List.getElem?_eq_getElem hi, List.filter_append, List.length_append]
  have e : ks.getD i KdS.z = ks[i] := by rw [List.getD_eq_getElem?_getD, List.getElem?_eq_getElem hi]; rfl
  rw [e]
  congr 1
  rw [Option.toList_some, List.filter_cons]
  split <;> rename_i hh <;> simp at hh <;> simp [hh]
theorem cntK_le (ks : List (ByteArray × Int)) (i : Nat) (k : ByteArray) : cntK (ks.take i) k ≤ i := by
  unfold cntK
  have h1 := List.length_filter_le (fun x : ByteArray × Int => decide (x.1 = k)) (ks.take i)
  have h2 := List.length_take_le i ks
  omega
set_option maxRecDepth 100000 in
set_option maxHeartbeats 8000000 in
theorem fits_any {w : World} {Y M room : Nat} {l : List (ByteArray × BoxV)} (h : BayAt w Y M room l) {a : Option Addr} {n c : Nat} {ks : List (ByteArray × Int)} (hk : VecAt KdS w a n c ks) (hn : n ≤ 40) (hr : room ≤ 2048) :
    Calls Try.prog 29 #[.pointer (some ⟨Y, 0, none⟩), .slice a n c] w fun e w' => e = .returned (.bool (fitsB room l ks)) ∧ Below w.heap.size w w' := by
  have HH := Lib.hid h
  have HV := Lib.hid hk
  have hcp := hk.cap
  have hcm := hk.capm
  have hmk := @run_makeMap Try.prog
  obtain ⟨Mm, hMm⟩ : ∃ Mm, Mm = w.heap.size := ⟨_, rfl⟩
  obtain ⟨W1, hW1⟩ : ∃ W1, W1 = w.alloc (.map #[] 0) := ⟨_, rfl⟩
  have hb1 : Below w.heap.size w W1 := by rw [hW1]; exact (Below.refl _ _).alloc (Nat.le_refl _) _
  have hm1 : GM TC slit cntC W1 Mm [] := by rw [hW1, hMm]; exact GM.made TC slit cntC w
  have HMM := Lib.hid hMm
  have HW1 := Lib.hid hW1
  have HB1 := Lib.hid hb1
  have HM1 := Lib.hid hm1
  clear h hk hMm hW1 hb1 hm1
  go_enter Try.func29, Try.ntmps29
  go_upto_region 4 with fail
  rw [← HW1.out, ← HMM.out]
  clear hmk
  go_wp2_with fail
  go_loopw [16] (fun s16 wr => ∃ (i : Nat) (m : List (ByteArray × Nat)), i ≤ n ∧ s16 = .int .i64 i ∧ m.length ≤ i ∧ Hid (GM TC slit cntC wr Mm m) ∧ Hid (∀ k, cntAt m k = cntK (ks.take i) k) ∧ Hid (∀ j, j < i → okAt room l ks j) ∧ Hid (Below w.heap.size w wr)) (fun s16 _ => n - (intOf s16).toNat)
  case atStart => exact ⟨0, [], by omega, rfl, Nat.le_refl _, HM1, Lib.hid (fun k => rfl), Lib.hid (fun j hj => by omega), HB1⟩
  case round =>
    clear HM1 HB1
    obtain ⟨i, m, hi, rfl, hml, HM, HC, HO, HB⟩ := hrel
    rename World => wr
    by_cases hin : i < n
    · obtain ⟨b, off, rfl, _, hks, hc⟩ := (HV.out.kept HB.out).get hin
      obtain ⟨x, hx⟩ : ∃ x, x = ks.getD i KdS.z := ⟨_, rfl⟩
      rw [← hx] at hc hks
      have hks' : x.1.size ≤ 1000000000000000 := hks
      obtain ⟨k, hkk⟩ : ∃ k, k = x.1 := ⟨_, rfl⟩
      have c0 : wr.cell? ⟨b, off + i * 2, none⟩ = some (.string k) := hc 0 _ (by rw [hkk]; rfl)
      have c1 : wr.cell? ⟨b, off + i * 2 + 1, none⟩ = some (.int .i64 x.2) := hc 1 _ rfl
      rw [← hkk] at hks'
      obtain ⟨bx, hbx⟩ : ∃ bx, bx = wr.heap.size := ⟨_, rfl⟩
      obtain ⟨W3, hW3⟩ : ∃ W3, W3 = wr.alloc (.cells #[.string k, .int .i64 x.2] 47) := ⟨_, rfl⟩
      have hb3 : Below wr.heap.size wr W3 := by rw [hW3]; exact (Below.refl _ _).alloc (Nat.le_refl _) _
      have hk3 : W3.heap[bx]? = some (.cells #[.string k, .int .i64 x.2] 47 (0, 0)) := by rw [hW3, hbx]; exact heap_new wr _
      have hm3 := HM.out.below hb3
      have d0 := cell_blk2 hk3 (i := 0) (u := .string k) rfl
      have hlk := lookC hm3 k hks'
      rw [elimC] at hlk
      obtain ⟨z, hz⟩ : ∃ z, z = cntAt m k := ⟨_, rfl⟩
      rw [← hz] at hlk
      have hzi : z ≤ i := by rw [hz, HC.out k]; exact cntK_le ks i k
      have wz : IntKind.i64.wrap ((z : Int) + 1) = (z : Int) + 1 := IntWalk.i64_in _ (by omega)
      obtain ⟨W4, hst, hm4, htn⟩ := storeC hm3 k hks' (z + 1) (by omega)
      rw [show ((z + 1 : Nat) : Int) = (z : Int) + 1 from by push_cast; rfl] at hst
      have hF4 : Frm (fun i => i = Mm) W3 W4 := (Frm.refl (fun i => i = Mm) W3).turned (.inl rfl) htn
      have hMmw := HMM.out
      have hbw3 := HB.out.trans (hb3.mono HB.out.size)
      have hbw4 := hbw3.trans (hF4.toBelow hbw3.size (fun i e => by omega))
      have hMlt := HM.out.lt
      have hk4 := hF4.at hk3 (by omega : ¬ bx = Mm)
      have e0 := cell_blk2 hk4 (i := 0) (u := .string k) rfl
      have hba := HH.out.below hbw4
      have y0 := cell_blk2 hba.blk (i := 0) (u := .int .i64 (room : Int)) rfl
      have y1 := cell_blk2 hba.blk (i := 1) (u := .map (some M)) rfl
      have hlB : ∀ q, (Instr.lookup 65 (.map (some M)) (.string k) false).run Try.prog (W4.drewN q) = .ok (.pointer (boxP l k)) (W4.drewN q) := fun q => by
        have := lookB (hba.drewN q).map k hks'
        rwa [elimB] at this
      have hlC : ∀ q, (Instr.lookup 75 (.map (some Mm)) (.string k) false).run Try.prog (W4.drewN q) = .ok (.int .i64 ((z : Int) + 1)) (W4.drewN q) := fun q => by
        have := lookC (hm4.same (w' := W4.drewN q) rfl) k hks'
        rwa [elimC, cntAt_put, if_pos rfl, show ((z + 1 : Nat) : Int) = (z : Int) + 1 from by push_cast; rfl] at this
      have HLN := Lib.hid (fun q : Nat => len_at (hba.drewN q) k)
      obtain ⟨cl, hcl⟩ : ∃ cl, cl = (cont l k).length := ⟨_, rfl⟩
      rw [← hcl] at HLN
      have hclr : cl ≤ 2048 := by rw [hcl]; have := cont_fit HH.out k; omega
      have wc : IntKind.i64.wrap ((cl : Int) + ((z : Int) + 1)) = (cl : Int) + ((z : Int) + 1) := IntWalk.i64_in _ (by omega)
      have hcs := cntK_succ (ks := ks) (i := i) (by rw [HV.out.len]; exact hin)
      rw [← hx] at hcs
      have hok : okAt room l ks i ↔ cl + (z + 1) ≤ room := by
        unfold okAt
        rw [← hx, hcs, if_pos rfl, ← hkk, ← hcl, ← HC.out k, ← hz]
      have HM4 := Lib.hid hm4
      have HB4 := Lib.hid hbw4
      have HC4 : Hid (∀ j, cntAt (putK slit k (z + 1) m) j = cntK (ks.take (i + 1)) j) := Lib.hid (fun j => by
        rw [cntAt_put, hcs, ← hkk]
        by_cases e : j = k
        · subst e; rw [if_pos rfl, if_pos rfl, ← HC.out, ← hz]
        · rw [if_neg e, if_neg (fun g => e g.symm), HC.out]; rfl)
      have hml4 : (putK slit k (z + 1) m).length ≤ i + 1 := by
        have := ins_len (lit := slit) (k, z + 1) (dropK slit k m)
        have h2 := List.length_filter_le (fun p : ByteArray × Nat => !(slit p.1).sameKey (slit k)) m
        unfold putK
        unfold dropK at this ⊢
        omega
      have HW3 := Lib.hid hW3
      have HBX := Lib.hid hbx
      have zi : (i : Int) < (n : Int) := by omega
      have zi0 : (0 : Int) ≤ (i : Int) := by omega
      have wi : IntKind.i64.wrap ((i : Int) + 1) = (i : Int) + 1 := IntWalk.i64_in _ (by omega)
      clear hc hks hx hkk hbx hW3 hb3 hk3 hm3 hz hm4 htn hF4 hMmw hbw3 hbw4 hMlt hk4 hba hcl hcs
      go_upto_region 7 with fail
      rw [← HW3.out, ← HBX.out]
      clear c0 c1
      go_upto_region 8 with fail
      clear hlk hst d0
      go_quiet (exact Calls.quiet_of_same (HLN.out _))
      rename Nat => nq
      have HB5 := Lib.hid (HB4.out.trans ((below_drewN (Below.refl W4.heap.size W4) nq).mono HB4.out.size))
      have HM5 := Lib.hid (HM4.out.same (w' := W4.drewN nq) rfl)
      by_cases hg : cl + (z + 1) ≤ room
      · have HOK := Lib.hid (hok.2 hg)
        have g1 : ¬ (room : Int) < (cl : Int) + ((z : Int) + 1) := by omega
        clear hg hok hlB hlC e0 y0 y1
        go_wp2_with fail
        go_roundw
        case rel => exact ⟨i + 1, _, by omega, by push_cast; rfl, hml4, HM5, HC4, Lib.hid (fun j hj => by
          rcases Nat.lt_or_ge j i with g | g
          · exact HO.out j g
          · obtain rfl : j = i := by omega
            exact HOK.out), HB5⟩
        case measure => simp only [intOf]; omega
      · have HNO := Lib.hid (fits_no (l := l) (ks := ks) (room := room) (i := i) (by rw [HV.out.len]; exact hin) (fun g => hg (hok.1 g)))
        have g1 : (room : Int) < (cl : Int) + ((z : Int) + 1) := by omega
        clear hg hok hlB hlC e0 y0 y1
        go_wp2_with fail
        first | go_ret2 | go_ret
        exact ⟨by rw [HNO.out]; rfl, HB5.out⟩
    · have e : i = n := by omega
      have HY := Lib.hid (fits_yes (room := room) (l := l) (ks := ks) (fun j hj => HO.out j (by rw [HV.out.len] at hj; omega)))
      go_wp2_with fail
      first | go_ret2 | go_ret
      exact ⟨by rw [HY.out]; rfl, HB.out⟩
end Go.Proofs.Ytpcohkhdbjimgaa

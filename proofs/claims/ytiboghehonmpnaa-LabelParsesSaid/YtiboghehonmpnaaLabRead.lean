/- The reference's read, walked. -/
import Derived.Test.YtiboghehonmpnaaLabParsePlain
namespace Go.Proofs.Ytiboghehonmpnaa
open Go.RowKit LabPlain
set_option linter.unusedVariables false

theorem ext_toList (s : ByteArray) (a b : Nat) : (s.extract a b).toList = ((tb s).drop a).take (b - a) := Lib.extract_toList s a b
theorem bs_toL (xs : List Nat) : (bs xs).toList = xs.map UInt8.ofNat := by rw [show (bs xs).toList = tb (bs xs) from ByteArray.toList_eq _, tb_bs]
def rdp (l : List UInt8) (x : Nat) : Bool := decide ((qb x).length = 3) && decide (l.take 3 = (qb x).map UInt8.ofNat)
theorem rd_bs {l r : List UInt8} (h : l = 92 :: r) : rd l = ((List.range 256).find? (rdp l)).map fun x => (UInt8.ofNat x, 3) := by
  rw [h, rd_cons, if_pos rfl]; rfl
/-- what read answers -/
def rdN (l : List UInt8) : Nat × Nat := match rd l with
  | none => (0, 0)
  | some (c, n) => (c.toNat, n)

set_option maxRecDepth 100000 in
set_option maxHeartbeats 2000000 in
theorem read_any (s : ByteArray) (hs : s.size ≤ 1000) (k : Nat) (hk : k < s.size) (w : World) :
    Calls Try.prog 33 #[.string s, .int .i64 (k : Int)] w fun e w' => e = .returned (.tuple #[.int .u8 ((rdN ((tb s).drop k)).1 : Int), .int .i64 ((rdN ((tb s).drop k)).2 : Int)]) ∧ Below w.heap.size w w' := by
  obtain ⟨c, hc⟩ : ∃ c : Nat, c = (s[k]'hk).toNat := ⟨_, rfl⟩
  have hsk : (s[k]'hk).toNat = c := hc.symm
  have hcl : c < 256 := by rw [hc]; exact UInt8.toNat_lt _
  have hk2 : k < (tb s).length := by rw [tb_len]; exact hk
  have hd : (tb s).drop k = (s[k]'hk) :: (tb s).drop (k + 1) := by rw [List.drop_eq_getElem_cons hk2]; rfl
  have hki : (k : Int) < (s.size : Int) := by omega
  have hk0 : (0 : Int) ≤ (k : Int) := by omega
  have hk1 : (k : Int) + 1 ≤ (s.size : Int) := by omega
  have HC := Lib.hid hc
  have HD := Lib.hid hd
  by_cases h92 : c = 92
  · have hq : ((c : Int) != 92) = false := by simp [h92]
    have e92 : (s[k]'hk) = 92 := UInt8.toNat_inj.1 (by rw [← hc, h92]; rfl)
    have HRD := Lib.hid (rd_bs (l := (tb s).drop k) (r := (tb s).drop (k + 1)) (by rw [hd, e92]))
    have hdl : ((tb s).drop k).length = s.size - k := by rw [List.length_drop, tb_len]
    have HDL := Lib.hid hdl
    clear hc hd h92 e92 hk2 hdl
    go_enter Try.func33, Try.ntmps33
    go_wp2_with fail
    go_loopw [6] (fun s6 wr => ∃ x : Nat, x ≤ 256 ∧ s6 = .int .i64 (x : Int) ∧ Hid (∀ y, y < x → rdp ((tb s).drop k) y = false) ∧ Hid (Below w.heap.size w wr)) (fun s6 _ => 256 - (intOf s6).toNat)
    case atStart => exact ⟨0, by omega, rfl, Lib.hid (fun y hy => absurd hy (Nat.not_lt_zero _)), Lib.hid (Below.refl _ _)⟩
    case round =>
      obtain ⟨x, hx, rfl, HU, HB⟩ := hrel
      rename World => wr
      by_cases hx2 : x < 256
      · have hxi : (x : Int) < 256 := by omega
        have hx0 : (0 : Int) ≤ (x : Int) := by omega
        have hxm : (x : Int) % 256 = (x : Int) := by omega
        obtain ⟨q, hqe⟩ : ∃ q, q = bs (qb x) := ⟨_, rfl⟩
        have hqs : q.size = (qb x).length := by rw [hqe, bs_size]
        have hql : q.toList = (qb x).map UInt8.ofNat := by rw [hqe, bs_toL]
        have hby := byte_any x hx2 wr
        rw [← hqe] at hby
        have HBY := Lib.hid hby
        have HQL := Lib.hid hql
        have step : ∀ b, rdp ((tb s).drop k) x = b → b = false → ∀ y, y < x + 1 → rdp ((tb s).drop k) y = false := fun b hb hf y hy => by
          rcases Nat.lt_or_ge y x with g | g
          · exact HU.out y g
          · obtain rfl : y = x := by omega
            rw [hb, hf]
        clear hqe hby hql
        by_cases h3 : (qb x).length = 3
        · have hq3 : q.size = 3 := by omega
          have hqi : ((q.size : Int) == 3) = true := by rw [hq3]; rfl
          by_cases hr : k + 3 ≤ s.size
          · have hri : (3 : Int) ≤ (s.size : Int) - (k : Int) := by omega
            have hk3 : (k : Int) + 3 ≤ (s.size : Int) := by omega
            have hcmp : ((s.extract k (k + 3)).toList == q.toList) = rdp ((tb s).drop k) x := by
              rw [ext_toList, HQL.out, show k + 3 - k = 3 by omega]
              unfold rdp
              rw [decide_eq_true h3, Bool.true_and]
              by_cases hh : ((tb s).drop k).take 3 = (qb x).map UInt8.ofNat
              · rw [decide_eq_true hh, beq_iff_eq]; exact hh
              · rw [decide_eq_false hh, beq_eq_false_iff_ne]; exact hh
            cases hp : rdp ((tb s).drop k) x with
            | true =>
              rw [hp] at hcmp
              have HR := Lib.hid (show rdN ((tb s).drop k) = (x, 3) by
                have hf : (List.range 256).find? (rdp ((tb s).drop k)) = some x := List.find?_range_eq_some.2 ⟨hp, List.mem_range.2 hx2, fun j hj => by rw [HU.out j hj]; rfl⟩
                unfold rdN
                rw [HRD.out, hf]
                show ((UInt8.ofNat x).toNat, 3) = _
                rw [UInt8.toNat_ofNat', Nat.mod_eq_of_lt hx2])
              clear hqs hq3 h3 hr hp step
              go_wp2_with fail
              refine HBY.out.mono ?_
              rintro e w2 ⟨rfl, hb2⟩
              have HB2 := Lib.hid (HB.out.trans (hb2.mono HB.out.size))
              clear hb2
              go_wp2_with fail
              go_ret2
              rw [HR.out]; exact ⟨rfl, HB2.out⟩
            | false =>
              rw [hp] at hcmp
              have HU2 := Lib.hid (step _ hp rfl)
              clear hqs hq3 h3 hr hp step
              go_wp2_with fail
              refine HBY.out.mono ?_
              rintro e w2 ⟨rfl, hb2⟩
              have HB2 := Lib.hid (HB.out.trans (hb2.mono HB.out.size))
              clear hb2
              go_wp2_with fail
              go_roundw
              case rel => exact ⟨x + 1, by omega, by go_num, HU2, HB2⟩
              case measure => simp [intOf] <;> omega
          · have hri : (s.size : Int) - (k : Int) < 3 := by omega
            have HU2 := Lib.hid (step false (by
              unfold rdp
              rw [decide_eq_true h3, Bool.true_and, decide_eq_false]
              intro e
              have e2 := congrArg List.length e
              rw [List.length_take, List.length_map, h3, HDL.out] at e2
              omega) rfl)
            clear hqs hq3 h3 hr step
            go_wp2_with fail
            refine HBY.out.mono ?_
            rintro e w2 ⟨rfl, hb2⟩
            have HB2 := Lib.hid (HB.out.trans (hb2.mono HB.out.size))
            clear hb2
            go_wp2_with fail
            go_roundw
            case rel => exact ⟨x + 1, by omega, by go_num, HU2, HB2⟩
            case measure => simp [intOf] <;> omega
        · have hqi : ((q.size : Int) == 3) = false := by rw [beq_eq_false_iff_ne]; omega
          have HU2 := Lib.hid (step false (by unfold rdp; rw [decide_eq_false h3, Bool.false_and]) rfl)
          clear hqs h3 step
          go_wp2_with fail
          refine HBY.out.mono ?_
          rintro e w2 ⟨rfl, hb2⟩
          have HB2 := Lib.hid (HB.out.trans (hb2.mono HB.out.size))
          clear hb2
          go_wp2_with fail
          go_roundw
          case rel => exact ⟨x + 1, by omega, by go_num, HU2, HB2⟩
          case measure => simp [intOf] <;> omega
      · obtain rfl : x = 256 := by omega
        have HR := Lib.hid (show rdN ((tb s).drop k) = (0, 0) by
          have hf : (List.range 256).find? (rdp ((tb s).drop k)) = none := List.find?_range_eq_none.2 fun j hj => by rw [HU.out j hj]; rfl
          unfold rdN
          rw [HRD.out, hf]; rfl)
        clear hx2
        go_wp2_with fail
        go_ret2
        rw [HR.out]; exact ⟨rfl, HB.out⟩
  · have hq : ((c : Int) != 92) = true := by rw [bne_iff_ne]; omega
    obtain ⟨q, hqe⟩ : ∃ q, q = bs (qb c) := ⟨_, rfl⟩
    have hby := fun w1 => byte_any c hcl w1
    rw [← hqe] at hby
    have HBY := Lib.hid hby
    have hne : (s[k]'hk) ≠ 92 := fun e => h92 (by rw [hc, e]; rfl)
    have hcmp : (q.toList == (s.extract k (k + 1)).toList) = plainC c := by
      rw [ext_toList, hqe, bs_toL, show k + 1 - k = 1 by omega, hd, List.take_succ_cons, List.take_zero]
      cases hp : plainC c with
      | true =>
        have : (qb c).map UInt8.ofNat = [s[k]'hk] := by unfold qb; rw [if_pos hp, hc]; simp
        rw [this]; simp
      | false =>
        have : (qb c).length = 3 := by unfold qb; rw [if_neg (by simp [hp])]; rfl
        rw [beq_eq_false_iff_ne]
        intro e
        have e2 := congrArg List.length e
        rw [List.length_map, this] at e2
        simp at e2
    have hrd : rd ((tb s).drop k) = if plainC c then some (s[k]'hk, 1) else none := by rw [hd, rd_cons, if_neg hne, ← hc]
    have hw0 : IntKind.i64.wrap (k : Int) = (k : Int) := IntWalk.i64_in _ (by omega)
    have hw1 : IntKind.i64.wrap ((k : Int) + 1) = (k : Int) + 1 := IntWalk.i64_in _ (by omega)
    have hk01 : (0 : Int) ≤ (k : Int) + 1 := by omega
    have hkk1 : (k : Int) ≤ (k : Int) + 1 := by omega
    cases hp : plainC c with
    | true =>
      rw [hp] at hcmp hrd
      have HR := Lib.hid (show rdN ((tb s).drop k) = (c, 1) by unfold rdN; rw [hrd]; show ((s[k]'hk).toNat, 1) = _; rw [← hc])
      clear hrd hp hqe hby hc hd h92 hne hk2
      go_enter Try.func33, Try.ntmps33
      go_wp2_with fail
      go_region_held3 (fun w' => True) (trivial) (first | (go_at_call 37; refine (HBY.out _).mono ?_; rintro r w3 ⟨rfl, hbq⟩))
      have HB2 := Lib.hid ((Below.refl w.heap.size w).drew.trans hbq)
      clear hbq
      go_wp2_with fail
      go_ret2
      rw [HR.out]; exact ⟨rfl, HB2.out⟩
    | false =>
      rw [hp] at hcmp hrd
      have HR := Lib.hid (show rdN ((tb s).drop k) = (0, 0) by unfold rdN; rw [hrd]; rfl)
      clear hrd hp hqe hby hc hd h92 hne hk2
      go_enter Try.func33, Try.ntmps33
      go_wp2_with fail
      go_region_held3 (fun w' => True) (trivial) (first | (go_at_call 37; refine (HBY.out _).mono ?_; rintro r w3 ⟨rfl, hbq⟩))
      have HB2 := Lib.hid ((Below.refl w.heap.size w).drew.trans hbq)
      clear hbq
      go_wp2_with fail
      go_ret2
      rw [HR.out]; exact ⟨rfl, HB2.out⟩
end Go.Proofs.Ytiboghehonmpnaa

/- Texts put together by packtpl2.py: LabRP, MfPf, CrcSum, CrcSeal, CrcOpen, MfD3. -/
import Derived.Test.YtbdgcfimbblncaaGreatDoorPkMR1
import Derived.Test.YtbdgcfimbblncaaGreatDoorPkMR4
import Derived.Test.YtbdgcfimbblncaaGreatDoorPkMR5
import Derived.Test.YtbdgcfimbblncaaGreatDoorPkMR7
import Derived.Test.YtbdgcfimbblncaaGreatDoorPkMR8
import Derived.Test.YtbdgcfimbblncaaGreatDoorPkMR9
import Derived.OwnWalk
section PkMR10_0
/- Put together out of XLabRead, XLabRParse. -/
section SecLabRP0
/- The reference's read, walked. -/
namespace Go.Proofs.YtbdgcfimbblncaaGreatDoor
open Go.RowKit LabPlain
set_option linter.unusedVariables false

theorem ext_toList (s : ByteArray) (a b : Nat) : (s.extract a b).toList = ((tb s).drop a).take (b - a) := Lib.extract_toList s a b
theorem bs_toL (xs : List Nat) : (bs xs).toList = xs.map UInt8.ofNat := by rw [show (bs xs).toList = tb (bs xs) from ByteArray.toList_eq _, tb_bs]
def rdp (l : List UInt8) (x : Nat) : Bool := decide ((qb x).length = 3) && decide (l.take 3 = (qb x).map UInt8.ofNat)
theorem rd_bs {l r : List UInt8} (h : l = 92 :: r) : rd l = ((List.range 256).find? (rdp l)).map fun x => (UInt8.ofNat x, 3) := by
  rw [h, rd_cons, if_pos rfl]; rfl
/-- what read answers -/
def rdN (l : List UInt8) : Nat × Nat := match rd l with
  | none => (0, 0)
  | some (c, n) => (c.toNat, n)

set_option maxRecDepth 100000 in
set_option maxHeartbeats 2000000 in
theorem read_any (s : ByteArray) (hs : s.size ≤ 1300) (k : Nat) (hk : k < s.size) (w : World) :
    Calls Tryz.prog 112 #[.string s, .int .i64 (k : Int)] w fun e w' => e = .returned (.tuple #[.int .u8 ((rdN ((tb s).drop k)).1 : Int), .int .i64 ((rdN ((tb s).drop k)).2 : Int)]) ∧ Below w.heap.size w w' := by
  obtain ⟨c, hc⟩ : ∃ c : Nat, c = (s[k]'hk).toNat := ⟨_, rfl⟩
  have hsk : (s[k]'hk).toNat = c := hc.symm
  have hcl : c < 256 := by rw [hc]; exact UInt8.toNat_lt _
  have hk2 : k < (tb s).length := by rw [tb_len]; exact hk
  have hd : (tb s).drop k = (s[k]'hk) :: (tb s).drop (k + 1) := by rw [List.drop_eq_getElem_cons hk2]; rfl
  have hki : (k : Int) < (s.size : Int) := by omega
  have hk0 : (0 : Int) ≤ (k : Int) := by omega
  have hk1 : (k : Int) + 1 ≤ (s.size : Int) := by omega
  have HC := Lib.hid hc
  have HD := Lib.hid hd
  by_cases h92 : c = 92
  · have hq : ((c : Int) != 92) = false := by simp [h92]
    have e92 : (s[k]'hk) = 92 := UInt8.toNat_inj.1 (by rw [← hc, h92]; rfl)
    have HRD := Lib.hid (rd_bs (l := (tb s).drop k) (r := (tb s).drop (k + 1)) (by rw [hd, e92]))
    have hdl : ((tb s).drop k).length = s.size - k := by rw [List.length_drop, tb_len]
    have HDL := Lib.hid hdl
    clear hc hd h92 e92 hk2 hdl
    go_enter Tryz.func112, Tryz.ntmps112
    go_wp2_with fail
    go_loopw [6] (fun s6 wr => ∃ x : Nat, x ≤ 256 ∧ s6 = .int .i64 (x : Int) ∧ Hid (∀ y, y < x → rdp ((tb s).drop k) y = false) ∧ Hid (Below w.heap.size w wr)) (fun s6 _ => 256 - (intOf s6).toNat)
    case atStart => exact ⟨0, by omega, rfl, Lib.hid (fun y hy => absurd hy (Nat.not_lt_zero _)), Lib.hid (Below.refl _ _)⟩
    case round =>
      obtain ⟨x, hx, rfl, HU, HB⟩ := hrel
      rename World => wr
      by_cases hx2 : x < 256
      · have hxi : (x : Int) < 256 := by omega
        have hx0 : (0 : Int) ≤ (x : Int) := by omega
        have hxm : (x : Int) % 256 = (x : Int) := by omega
        obtain ⟨q, hqe⟩ : ∃ q, q = bs (qb x) := ⟨_, rfl⟩
        have hqs : q.size = (qb x).length := by rw [hqe, bs_size]
        have hql : q.toList = (qb x).map UInt8.ofNat := by rw [hqe, bs_toL]
        have hby := byte_any x hx2 wr
        rw [← hqe] at hby
        have HBY := Lib.hid hby
        have HQL := Lib.hid hql
        have step : ∀ b, rdp ((tb s).drop k) x = b → b = false → ∀ y, y < x + 1 → rdp ((tb s).drop k) y = false := fun b hb hf y hy => by
          rcases Nat.lt_or_ge y x with g | g
          · exact HU.out y g
          · obtain rfl : y = x := by omega
            rw [hb, hf]
        clear hqe hby hql
        by_cases h3 : (qb x).length = 3
        · have hq3 : q.size = 3 := by omega
          have hqi : ((q.size : Int) == 3) = true := by rw [hq3]; rfl
          by_cases hr : k + 3 ≤ s.size
          · have hri : (3 : Int) ≤ (s.size : Int) - (k : Int) := by omega
            have hk3 : (k : Int) + 3 ≤ (s.size : Int) := by omega
            have hcmp : ((s.extract k (k + 3)).toList == q.toList) = rdp ((tb s).drop k) x := by
              rw [ext_toList, HQL.out, show k + 3 - k = 3 by omega]
              unfold rdp
              rw [decide_eq_true h3, Bool.true_and]
              by_cases hh : ((tb s).drop k).take 3 = (qb x).map UInt8.ofNat
              · rw [decide_eq_true hh, beq_iff_eq]; exact hh
              · rw [decide_eq_false hh, beq_eq_false_iff_ne]; exact hh
            cases hp : rdp ((tb s).drop k) x with
            | true =>
              rw [hp] at hcmp
              have HR := Lib.hid (show rdN ((tb s).drop k) = (x, 3) by
                have hf : (List.range 256).find? (rdp ((tb s).drop k)) = some x := List.find?_range_eq_some.2 ⟨hp, List.mem_range.2 hx2, fun j hj => by rw [HU.out j hj]; rfl⟩
                unfold rdN
                rw [HRD.out, hf]
                show ((UInt8.ofNat x).toNat, 3) = _
                rw [UInt8.toNat_ofNat', Nat.mod_eq_of_lt hx2])
              clear hqs hq3 h3 hr hp step
              go_wp2_with fail
              refine HBY.out.mono ?_
              rintro e w2 ⟨rfl, hb2⟩
              have HB2 := Lib.hid (HB.out.trans (hb2.mono HB.out.size))
              clear hb2
              go_wp2_with fail
              go_ret2
              rw [HR.out]; exact ⟨rfl, HB2.out⟩
            | false =>
              rw [hp] at hcmp
              have HU2 := Lib.hid (step _ hp rfl)
              clear hqs hq3 h3 hr hp step
              go_wp2_with fail
              refine HBY.out.mono ?_
              rintro e w2 ⟨rfl, hb2⟩
              have HB2 := Lib.hid (HB.out.trans (hb2.mono HB.out.size))
              clear hb2
              go_wp2_with fail
              go_roundw
              case rel => exact ⟨x + 1, by omega, by go_num, HU2, HB2⟩
              case measure => simp [intOf] <;> omega
          · have hri : (s.size : Int) - (k : Int) < 3 := by omega
            have HU2 := Lib.hid (step false (by
              unfold rdp
              rw [decide_eq_true h3, Bool.true_and, decide_eq_false]
              intro e
              have e2 := congrArg List.length e
              rw [List.length_take, List.length_map, h3, HDL.out] at e2
              omega) rfl)
            clear hqs hq3 h3 hr step
            go_wp2_with fail
            refine HBY.out.mono ?_
            rintro e w2 ⟨rfl, hb2⟩
            have HB2 := Lib.hid (HB.out.trans (hb2.mono HB.out.size))
            clear hb2
            go_wp2_with fail
            go_roundw
            case rel => exact ⟨x + 1, by omega, by go_num, HU2, HB2⟩
            case measure => simp [intOf] <;> omega
        · have hqi : ((q.size : Int) == 3) = false := by rw [beq_eq_false_iff_ne]; omega
          have HU2 := Lib.hid (step false (by unfold rdp; rw [decide_eq_false h3, Bool.false_and]) rfl)
          clear hqs h3 step
          go_wp2_with fail
          refine HBY.out.mono ?_
          rintro e w2 ⟨rfl, hb2⟩
          have HB2 := Lib.hid (HB.out.trans (hb2.mono HB.out.size))
          clear hb2
          go_wp2_with fail
          go_roundw
          case rel => exact ⟨x + 1, by omega, by go_num, HU2, HB2⟩
          case measure => simp [intOf] <;> omega
      · obtain rfl : x = 256 := by omega
        have HR := Lib.hid (show rdN ((tb s).drop k) = (0, 0) by
          have hf : (List.range 256).find? (rdp ((tb s).drop k)) = none := List.find?_range_eq_none.2 fun j hj => by rw [HU.out j hj]; rfl
          unfold rdN
          rw [HRD.out, hf]; rfl)
        clear hx2
        go_wp2_with fail
        go_ret2
        rw [HR.out]; exact ⟨rfl, HB.out⟩
  · have hq : ((c : Int) != 92) = true := by rw [bne_iff_ne]; omega
    obtain ⟨q, hqe⟩ : ∃ q, q = bs (qb c) := ⟨_, rfl⟩
    have hby := fun w1 => byte_any c hcl w1
    rw [← hqe] at hby
    have HBY := Lib.hid hby
    have hne : (s[k]'hk) ≠ 92 := fun e => h92 (by rw [hc, e]; rfl)
    have hcmp : (q.toList == (s.extract k (k + 1)).toList) = plainC c := by
      rw [ext_toList, hqe, bs_toL, show k + 1 - k = 1 by omega, hd, List.take_succ_cons, List.take_zero]
      cases hp : plainC c with
      | true =>
        have : (qb c).map UInt8.ofNat = [s[k]'hk] := by unfold qb; rw [if_pos hp, hc]; simp
        rw [this]; simp
      | false =>
        have : (qb c).length = 3 := by unfold qb; rw [if_neg (by simp [hp])]; rfl
        rw [beq_eq_false_iff_ne]
        intro e
        have e2 := congrArg List.length e
        rw [List.length_map, this] at e2
        simp at e2
    have hrd : rd ((tb s).drop k) = if plainC c then some (s[k]'hk, 1) else none := by rw [hd, rd_cons, if_neg hne, ← hc]
    have hw0 : IntKind.i64.wrap (k : Int) = (k : Int) := IntWalk.i64_in _ (by omega)
    have hw1 : IntKind.i64.wrap ((k : Int) + 1) = (k : Int) + 1 := IntWalk.i64_in _ (by omega)
    have hk01 : (0 : Int) ≤ (k : Int) + 1 := by omega
    have hkk1 : (k : Int) ≤ (k : Int) + 1 := by omega
    cases hp : plainC c with
    | true =>
      rw [hp] at hcmp hrd
      have HR := Lib.hid (show rdN ((tb s).drop k) = (c, 1) by unfold rdN; rw [hrd]; show ((s[k]'hk).toNat, 1) = _; rw [← hc])
      clear hrd hp hqe hby hc hd h92 hne hk2
      go_enter Tryz.func112, Tryz.ntmps112
      go_wp2_with fail
      go_region_held3 (fun w' => True) (trivial) (first | (go_at_call 133; refine (HBY.out _).mono ?_; rintro r w3 ⟨rfl, hbq⟩))
      have HB2 := Lib.hid ((Below.refl w.heap.size w).drew.trans hbq)
      clear hbq
      go_wp2_with fail
      go_ret2
      rw [HR.out]; exact ⟨rfl, HB2.out⟩
    | false =>
      rw [hp] at hcmp hrd
      have HR := Lib.hid (show rdN ((tb s).drop k) = (0, 0) by unfold rdN; rw [hrd]; rfl)
      clear hrd hp hqe hby hc hd h92 hne hk2
      go_enter Tryz.func112, Tryz.ntmps112
      go_wp2_with fail
      go_region_held3 (fun w' => True) (trivial) (first | (go_at_call 133; refine (HBY.out _).mono ?_; rintro r w3 ⟨rfl, hbq⟩))
      have HB2 := Lib.hid ((Below.refl w.heap.size w).drew.trans hbq)
      clear hbq
      go_wp2_with fail
      go_ret2
      rw [HR.out]; exact ⟨rfl, HB2.out⟩
end Go.Proofs.YtbdgcfimbblncaaGreatDoor
end SecLabRP0
section SecLabRP1
/- The reference's Parse, walked. -/
namespace Go.Proofs.YtbdgcfimbblncaaGreatDoor
open Go.RowKit LabPlain
set_option linter.unusedVariables false

theorem grown_set (w : World) (g j : Nat) (u : Value) : w.grownBy (w.setCell ⟨g, j, none⟩ u) (some g) :=
  ⟨rfl, rfl, rfl, by simp, fun k _ hk => heap_setCell_other w ⟨g, j, none⟩ k u (fun e => hk (by simp [e]))⟩
/-- a label's block -/
def LabBlk (w : World) (X : Nat) (a b : ByteArray) : Prop := w.heap[X]? = some (.cells #[.string a, .string b] 150 (0, 0))
theorem LabBlk.c0 {w : World} {X : Nat} {a b : ByteArray} (h : LabBlk w X a b) : w.cell? ⟨X, 0, none⟩ = some (.string a) := by rw [cell_of_row w X 0 _ _ (0, 0) h]; rfl
theorem LabBlk.c1 {w : World} {X : Nat} {a b : ByteArray} (h : LabBlk w X a b) : w.cell? ⟨X, 1, none⟩ = some (.string b) := by rw [cell_of_row w X 1 _ _ (0, 0) h]; rfl
theorem LabBlk.f {w : World} {X : Nat} {a b : ByteArray} (h : LabBlk w X a b) (j : Nat) : w.frozen? ⟨X, j, none⟩ = false := frozen_of_row w X j _ _ h
theorem LabBlk.set0 {w : World} {X : Nat} {a b : ByteArray} (h : LabBlk w X a b) (u : ByteArray) : LabBlk (w.setCell ⟨X, 0, none⟩ (.string u)) X u b := by
  have := heap_setCell_same w X 0 _ _ (.string u) h
  unfold LabBlk; rw [this]; simp
theorem LabBlk.set1 {w : World} {X : Nat} {a b : ByteArray} (h : LabBlk w X a b) (u : ByteArray) : LabBlk (w.setCell ⟨X, 1, none⟩ (.string u)) X a u := by
  have := heap_setCell_same w X 1 _ _ (.string u) h
  unfold LabBlk; rw [this]; simp
theorem LabBlk.kept {w w' : World} {X : Nat} {a b : ByteArray} (h : LabBlk w X a b) (hb : Below w.heap.size w w') : LabBlk w' X a b := by
  have hlt : X < w.heap.size := (Array.getElem?_eq_some_iff.1 h).1
  unfold LabBlk; rw [hb.block X hlt]; exact h
theorem own_not {w : World} {base n X : Nat} {e : TypeId} {size : Nat} {v : Value} {xs : List Value} (h : w.ownsRow base e size v n xs) (hX : w.heap.size ≤ X) : v.ownBlock = none ∨ v.ownBlock ≠ some X := by
  cases hv : v.ownBlock with
  | none => exact .inl rfl
  | some g => refine .inr fun e => ?_; have := (h.lt g hv).2; simp at e; omega
theorem step1_none {l : List UInt8} {c : UInt8} {r : List UInt8} (h : l.dropWhile okU = 61 :: 34 :: c :: r) (hv : rdVal ((c :: r).length + 1) [] (c :: r) = none) : step1 l = none := by
  unfold step1; rw [h]
  show (if (61 : UInt8) = 61 ∧ (34 : UInt8) = 34 then _ else none) = _
  rw [if_pos ⟨rfl, rfl⟩, hv]
theorem step1_some {l : List UInt8} {c : UInt8} {r v r2 : List UInt8} (h : l.dropWhile okU = 61 :: 34 :: c :: r) (hv : rdVal ((c :: r).length + 1) [] (c :: r) = some (v, r2)) : step1 l = some ((bt (l.takeWhile okU), bt v), r2) := by
  unfold step1; rw [h]
  show (if (61 : UInt8) = 61 ∧ (34 : UInt8) = 34 then _ else none) = _
  rw [if_pos ⟨rfl, rfl⟩, hv]
theorem step1_short {l : List UInt8} (h : (l.dropWhile okU).length < 3) : step1 l = none := by
  unfold step1
  rcases hd : l.dropWhile okU with _ | ⟨e, _ | ⟨q, _ | ⟨c, r⟩⟩⟩
  · rfl
  · rfl
  · rfl
  · rw [hd] at h; simp only [List.length_cons] at h; omega
theorem step1_no {l : List UInt8} {e q : UInt8} {r : List UInt8} (h : l.dropWhile okU = e :: q :: r) (hne : ¬ (e = 61 ∧ q = 34)) : step1 l = none := by
  unfold step1; rw [h]
  rcases r with _ | ⟨c, r⟩
  · rfl
  · show (if e = 61 ∧ q = 34 then _ else none) = _
    rw [if_neg hne]

set_option maxRecDepth 100000 in
set_option maxHeartbeats 8000000 in
theorem rparse_any (s : ByteArray) (hs : s.size ≤ 1300) (w : World) :
    Calls Tryz.prog 80 #[.string s] w fun e w' => ∃ a n c, e = .returned (.tuple #[.slice a n c, .bool (setIn s).isSome]) ∧ LabsAt w' a n c ((setIn s).getD []) ∧ Below w.heap.size w w' := by
  obtain ⟨i0, hi, hz0, hz1, hz2⟩ := info_parts lab_info
  obtain ⟨R, hR⟩ : ∃ R, R = setIn s := ⟨_, rfl⟩
  rw [← hR]
  unfold setIn at hR
  have hb0 : Below w.heap.size w (w.alloc (.cells #[] 150)) := (Below.refl _ _).alloc (Nat.le_refl _) _
  have HB0 := Lib.hid hb0
  have HO0 := Lib.hid (World.ownsRow_lit (base := w.heap.size) (e := 150) (size := 2) w #[] 0 (Nat.le_refl _) (by unfold maxLen; omega) rfl)
  clear hb0
  by_cases h2 : s.size < 2
  · rw [if_pos (.inl h2)] at hR
    have HR := Lib.hid hR
    have h2i : (s.size : Int) < 2 := by omega
    clear hR h2
    go_enter Tryz.func80, Tryz.ntmps80
    go_wp2_with fail
    go_ret2
    rw [HR.out]; exact ⟨none, 0, 0, rfl, LabsAt.empty _ _ _ (by omega) (fun _ => rfl), HB0.out⟩
  have h2i : (2 : Int) ≤ (s.size : Int) := by omega
  have z0 : 0 < s.size := by omega
  obtain ⟨c0, hc0⟩ : ∃ c : Nat, c = (s[0]'z0).toNat := ⟨_, rfl⟩
  have hs0 : (s[0]'z0).toNat = c0 := hc0.symm
  have ha0 : at_ s 0 = c0 := by rw [at_get s 0 z0, hc0]
  have z1 : s.size - 1 < s.size := by omega
  obtain ⟨c1, hc1⟩ : ∃ c : Nat, c = (s[s.size - 1]'z1).toNat := ⟨_, rfl⟩
  have hs1 : (s[s.size - 1]'z1).toNat = c1 := hc1.symm
  have ha1 : at_ s (s.size - 1) = c1 := by rw [at_get s _ z1, hc1]
  have hi0 : (0 : Int) ≤ (s.size : Int) - 1 := by omega
  have hi1 : (s.size : Int) - 1 < (s.size : Int) := by omega
  have hi2 : ((s.size : Int) - 1).toNat = s.size - 1 := by omega
  rw [ha0, ha1] at hR
  clear ha0 ha1 hc0 hc1
  by_cases hq0 : c0 = 123
  case neg =>
    rw [if_pos (.inr (.inl hq0))] at hR
    have HR := Lib.hid hR
    have hq : ((c0 : Int) != 123) = true := by rw [bne_iff_ne]; omega
    clear hR hq0 h2
    go_enter Tryz.func80, Tryz.ntmps80
    go_wp2_with fail
    go_ret2
    rw [HR.out]; exact ⟨none, 0, 0, rfl, LabsAt.empty _ _ _ (by omega) (fun _ => rfl), HB0.out⟩
  have hq : ((c0 : Int) != 123) = false := by simp [hq0]
  by_cases hq1 : c1 = 125
  case neg =>
    rw [if_pos (.inr (.inr hq1))] at hR
    have HR := Lib.hid hR
    have hqq : ((c1 : Int) != 125) = true := by rw [bne_iff_ne]; omega
    clear hR hq0 h2 hq1
    go_enter Tryz.func80, Tryz.ntmps80
    go_wp2_with fail
    go_ret2
    rw [HR.out]; exact ⟨none, 0, 0, rfl, LabsAt.empty _ _ _ (by omega) (fun _ => rfl), HB0.out⟩
  have hqq : ((c1 : Int) != 125) = false := by simp [hq1]
  rw [if_neg (by omega)] at hR
  clear hq0 h2 hq1
  by_cases he : tb s = [123, 125]
  · rw [if_pos he] at hR
    have HR := Lib.hid hR
    have hes : (s.toList == [123, 125]) = true := by rw [show s.toList = tb s from ByteArray.toList_eq _, he]; rfl
    clear hR he
    go_enter Tryz.func80, Tryz.ntmps80
    go_wp2_with fail
    go_ret2
    rw [HR.out]; exact ⟨_, 0, 0, rfl, LabsAt.empty _ _ _ (by omega) (fun e => by cases e), HB0.out⟩
  · rw [if_neg he] at hR
    have HR := Lib.hid hR
    have hes : (s.toList == [123, 125]) = false := by rw [show s.toList = tb s from ByteArray.toList_eq _, beq_eq_false_iff_ne]; exact he
    clear hR he
    go_enter Tryz.func80, Tryz.ntmps80
    go_wp2_with fail
    clear hq hqq hes hs0 hs1 hi0 hi1 hi2 h2i z0 z1
    go_loopw [4, 5] (fun s4 s5 wr => ∃ (k m cp : Nat) (a : Option Addr) (acc : List Lab), k ≤ s.size ∧ m ≤ 5 ∧ s5 = .int .i64 (k : Int) ∧ s4 = .slice a m cp ∧ Hid (acc.length = m) ∧ Hid (∀ x ∈ acc, x.1.size ≤ 1300 ∧ x.2.size ≤ 1300) ∧ Hid (R = rparseF (5 - m) acc ((tb s).drop k)) ∧ Hid (wr.ownsRow w.heap.size 150 2 (.slice a m cp) m (lcells acc)) ∧ Hid (Below w.heap.size w wr)) (fun s4 _ _ => 5 - lenOf s4)
    case atStart => exact ⟨1, 0, 0, _, [], by omega, by omega, rfl, rfl, Lib.hid rfl, Lib.hid (fun x hx => by cases hx), HR, HO0, HB0⟩
    case round =>
      clear HO0 HB0 HR
      obtain ⟨k, m, cp, a, acc, hk, hm5, rfl, rfl, HA, HS, HR, HO, HB⟩ := hrel
      rename World => wr
      have hbs := HB.out.size
      by_cases hm : m < 5
      · have hmi : (m : Int) < 5 := by omega
        obtain ⟨kk, hkk⟩ : ∃ kk, 5 - m = kk + 1 := ⟨4 - m, by omega⟩
        have hR := HR.out
        rw [hkk] at hR
        have HRK := Lib.hid hR
        obtain ⟨l, hl⟩ : ∃ l, l = (tb s).drop k := ⟨_, rfl⟩
        obtain ⟨X, hX⟩ : ∃ X, X = wr.heap.size := ⟨_, rfl⟩
        obtain ⟨w2, hw2⟩ : ∃ w2, w2 = wr.alloc (.cells #[.string { data := #[] }, .string { data := #[] }] 150) := ⟨_, rfl⟩
        have HB2 := Lib.hid (show Below w.heap.size w w2 by rw [hw2]; exact HB.out.alloc hbs _)
        have HO2 := Lib.hid (show w2.ownsRow w.heap.size 150 2 (.slice a m cp) m (lcells acc) by rw [hw2]; exact HO.out.alloc _)
        have HK2 := Lib.hid (show LabBlk w2 X (bt []) (bt []) by unfold LabBlk; rw [hw2, hX]; exact heap_alloc_new wr _)
        have HNX := Lib.hid (show (Value.slice a m cp).ownBlock = none ∨ (Value.slice a m cp).ownBlock ≠ some X from own_not HO.out (by omega))
        have HXW := Lib.hid (show w.heap.size ≤ X by omega)
        have HW2 := Lib.hid hw2
        have HXE := Lib.hid hX
        have HLE := Lib.hid hl
        clear hw2 hX hR hl
        go_wp2_with fail
        rw [← HW2.out, ← HXE.out]
        go_loopw [5] (fun s5 wq => ∃ (p : Nat) (done : List UInt8), k ≤ p ∧ p ≤ s.size ∧ done.length ≤ p ∧ s5 = .int .i64 (p : Int) ∧ Hid (l.takeWhile okU = done ++ ((tb s).drop p).takeWhile okU ∧ l.dropWhile okU = ((tb s).drop p).dropWhile okU) ∧ Hid (LabBlk wq X (bt done) (bt [])) ∧ Hid (wq.ownsRow w.heap.size 150 2 (.slice a m cp) m (lcells acc)) ∧ Hid (Below w.heap.size w wq)) (fun s5 _ => s.size - (intOf s5).toNat)
        case atStart => exact ⟨k, [], by omega, by omega, by simp, rfl, Lib.hid ⟨by rw [HLE.out]; rfl, by rw [HLE.out]⟩, HK2, HO2, HB2⟩
        case round =>
          clear HK2 HO2 HB2 HB HO
          obtain ⟨p, done, hkp, hps, hdl, rfl, HT, HK, HO, HB⟩ := hrel
          rename World => wq
          have hbq := HB.out.size
          have hk0 := HK.out.c0
          have hk1 := HK.out.c1
          have hf0 := HK.out.f 0
          have hf1 := HK.out.f 1
          by_cases hp : p < s.size
          · have hpi : (p : Int) < (s.size : Int) := by omega
            have hp0 : (0 : Int) ≤ (p : Int) := by omega
            obtain ⟨c, hc⟩ : ∃ c : Nat, c = (s[p]'hp).toNat := ⟨_, rfl⟩
            have hsp : (s[p]'hp).toNat = c := hc.symm
            have hcl : c < 256 := by rw [hc]; exact UInt8.toNat_lt _
            have hdp : (tb s).drop p = (s[p]'hp) :: (tb s).drop (p + 1) := tb_at s p hp
            have HLT := Lib.hid (letter_any c hcl wq)
            cases hoc : okC c with
            | true =>
              have HOC := Lib.hid hoc
              have hou : okU (s[p]'hp) = true := by unfold okU; rw [← hc]; exact hoc
              have HT2 := Lib.hid (show l.takeWhile okU = (done ++ [s[p]'hp]) ++ ((tb s).drop (p + 1)).takeWhile okU ∧ l.dropWhile okU = ((tb s).drop (p + 1)).dropWhile okU by
                have h1 := HT.out
                rw [hdp, List.takeWhile_cons_of_pos hou, List.dropWhile_cons_of_pos hou] at h1
                exact ⟨by rw [h1.1]; simp, h1.2⟩)
              have hes : (s.extract p (p + 1)).size = 1 := by simp; omega
              have hes2 : min (p + 1) s.size - p = 1 := by omega
              have hds : (bt done).size ≤ 1300 := by rw [bt_size]; omega
              have hff : ¬ 9223372036854775807 < (bt done).size + 1 := by omega
              have hw1 : IntKind.i64.wrap ((p : Int) + 1) = (p : Int) + 1 := IntWalk.i64_in _ (by omega)
              have hpp : (p : Int) ≤ (p : Int) + 1 := by omega
              have hpq : (0 : Int) ≤ (p : Int) + 1 := by omega
              have hpr : (p : Int) + 1 ≤ (s.size : Int) := by omega
              have HE := Lib.hid (show bt done ++ s.extract p (p + 1) = bt (done ++ [s[p]'hp]) by
                apply tb_inj
                rw [tb_append, tb_bt, tb_bt, show tb (s.extract p (p + 1)) = ((tb s).drop p).take (p + 1 - p) from Lib.extract_data s p (p + 1), hdp, show p + 1 - p = 1 by omega, List.take_succ_cons, List.take_zero])
              have HSET := Lib.hid (show LabBlk (wq.setCell ⟨X, 0, none⟩ (.string (bt done ++ s.extract p (p + 1)))) X (bt (done ++ [s[p]'hp])) (bt []) by
                have := HK.out.set0 (bt done ++ s.extract p (p + 1))
                rw [HE.out] at this ⊢; exact this)
              have HOS := Lib.hid (HO.out.kept (grown_set _ X 0 (.string (bt done ++ s.extract p (p + 1)))) HNX.out)
              have HBS := Lib.hid (HB.out.setCell (p := ⟨X, 0, none⟩) HXW.out (.string (bt done ++ s.extract p (p + 1))))
              clear hc hdp hou hoc
              go_wp2_with fail
              refine HLT.out.mono ?_
              rw [HOC.out]
              rintro e w3 ⟨rfl, rfl⟩
              go_wp2_with fail
              go_region
              go_wp2_with fail
              go_roundw
              case rel => exact ⟨p + 1, _, by omega, by omega, by rw [List.length_append]; show done.length + 1 ≤ p + 1; omega, by go_num, HT2, HSET, Lib.hid HOS.out.drew, Lib.hid HBS.out.drew⟩
              case measure => simp [intOf] <;> omega
            | false =>
              have HOC := Lib.hid hoc
              have hou : ¬ okU (s[p]'hp) = true := by unfold okU; rw [← hc, hoc]; decide
              have hT2 : l.takeWhile okU = done ∧ l.dropWhile okU = (tb s).drop p := by
                have h1 := HT.out
                rw [hdp, List.takeWhile_cons_of_neg hou, List.dropWhile_cons_of_neg hou, ← hdp] at h1
                exact ⟨by rw [h1.1]; simp, h1.2⟩
              clear hou hdp
              by_cases hsh : s.size - p < 3
              · have HRR := Lib.hid (show R = none by
                  have hR2 := HRK.out
                  rw [← HLE.out, rparseF, step1_short (by rw [hT2.2, List.length_drop, tb_len]; exact hsh)] at hR2
                  exact hR2)
                have hshi : (s.size : Int) - (p : Int) < 3 := by omega
                clear hc hoc hT2 hsh
                go_wp2_with fail
                refine HLT.out.mono ?_
                rw [HOC.out]
                rintro e w3 ⟨rfl, rfl⟩
                go_wp2_with fail
                go_ret2
                rw [HRR.out]; exact ⟨none, 0, 0, rfl, LabsAt.empty _ _ _ (by omega) (fun _ => rfl), HB.out⟩
              · have hshi : (3 : Int) ≤ (s.size : Int) - (p : Int) := by omega
                have hp2 : p + 1 < s.size := by omega
                have hp3 : p + 2 < s.size := by omega
                have hw1 : IntKind.i64.wrap ((p : Int) + 1) = (p : Int) + 1 := IntWalk.i64_in _ (by omega)
                have hp2i : (p : Int) + 1 < (s.size : Int) := by omega
                have hp20 : (0 : Int) ≤ (p : Int) + 1 := by omega
                obtain ⟨c2, hc2⟩ : ∃ c : Nat, c = (s[p + 1]'hp2).toNat := ⟨_, rfl⟩
                have hsp2 : (s[p + 1]'hp2).toNat = c2 := hc2.symm
                have hno : ¬ ((s[p]'hp) = 61 ∧ (s[p + 1]'hp2) = 34) → R = none := fun hne => by
                  have hR2 := HRK.out
                  rw [← HLE.out, rparseF, step1_no (hT2.2.trans ((tb_at s p hp).trans (congrArg _ (tb_at s (p + 1) hp2)))) hne] at hR2
                  exact hR2
                by_cases h61 : c = 61
                case neg =>
                  have hq61 : ((c : Int) != 61) = true := by rw [bne_iff_ne]; omega
                  have HRR := Lib.hid (hno fun h => h61 (by rw [hc, h.1]; rfl))
                  clear hc hc2 hoc hT2 hno h61 hsh
                  go_wp2_with fail
                  refine HLT.out.mono ?_
                  rw [HOC.out]
                  rintro e w3 ⟨rfl, rfl⟩
                  go_wp2_with fail
                  go_ret2
                  rw [HRR.out]; exact ⟨none, 0, 0, rfl, LabsAt.empty _ _ _ (by omega) (fun _ => rfl), HB.out⟩
                have hq61 : ((c : Int) != 61) = false := by simp [h61]
                have e61 : (s[p]'hp) = 61 := UInt8.toNat_inj.1 (by rw [← hc, h61]; rfl)
                by_cases h34 : c2 = 34
                case neg =>
                  have hq34 : ((c2 : Int) != 34) = true := by rw [bne_iff_ne]; omega
                  have HRR := Lib.hid (hno fun h => h34 (by rw [hc2, h.2]; rfl))
                  clear hc hc2 hoc hT2 hno h61 h34 e61 hsh
                  go_wp2_with fail
                  refine HLT.out.mono ?_
                  rw [HOC.out]
                  rintro e w3 ⟨rfl, rfl⟩
                  go_wp2_with fail
                  go_ret2
                  rw [HRR.out]; exact ⟨none, 0, 0, rfl, LabsAt.empty _ _ _ (by omega) (fun _ => rfl), HB.out⟩
                have hq34 : ((c2 : Int) != 34) = false := by simp [h34]
                have e34 : (s[p + 1]'hp2) = 34 := UInt8.toNat_inj.1 (by rw [← hc2, h34]; rfl)
                clear hno hsh
                obtain ⟨V, hV⟩ : ∃ V, V = rdVal (((tb s).drop (p + 2)).length + 1) [] ((tb s).drop (p + 2)) := ⟨_, rfl⟩
                have HT3 := Lib.hid (show l.takeWhile okU = done ∧ l.dropWhile okU = 61 :: 34 :: (s[p + 2]'hp3) :: (tb s).drop (p + 3) ∧ V = rdVal (((s[p + 2]'hp3) :: (tb s).drop (p + 3)).length + 1) [] ((s[p + 2]'hp3) :: (tb s).drop (p + 3)) by
                  have hd2 := tb_at s (p + 2) hp3
                  refine ⟨hT2.1, ?_, by rw [hV, hd2]⟩
                  rw [hT2.2, tb_at s p hp, tb_at s (p + 1) hp2, hd2, e61, e34])
                have HVS := Lib.hid (show V = rdVal (s.size - (p + 2) + 1) [] ((tb s).drop (p + 2)) by rw [hV, List.length_drop, tb_len])
                have hw4 : IntKind.i64.wrap ((p : Int) + 2) = (p : Int) + 2 := IntWalk.i64_in _ (by omega)
                clear hV hT2 hc hc2 e61 e34 h61 h34 hoc
                go_wp2_with fail
                refine HLT.out.mono ?_
                rw [HOC.out]
                rintro e w3 ⟨rfl, rfl⟩
                go_wp2_with fail
                rename World => wq
                clear hk0 hk1 hf0 hf1
                go_loopw [5] (fun s5 wv => ∃ (p' f : Nat) (vs : List UInt8), p' ≤ s.size ∧ vs.length ≤ p' ∧ s5 = .int .i64 (p' : Int) ∧ Hid (s.size - p' < f) ∧ Hid (V = rdVal f vs ((tb s).drop p')) ∧ Hid (LabBlk wv X (bt done) (bt vs)) ∧ Hid (wv.ownsRow w.heap.size 150 2 (.slice a m cp) m (lcells acc)) ∧ Hid (Below w.heap.size w wv)) (fun s5 _ => s.size - (intOf s5).toNat)
                case atStart => exact ⟨p + 2, _, [], by omega, by simp, by go_num, Lib.hid (by omega), HVS, HK, HO, HB⟩
                case round =>
                  clear HK HO HB HVS
                  obtain ⟨p', f, vs, hps', hvl, rfl, HFL, HVV, HK, HO, HB⟩ := hrel
                  rename World => wv
                  have hbv := HB.out.size
                  have hk0 := HK.out.c0
                  have hk1 := HK.out.c1
                  have hf0 := HK.out.f 0
                  have hf1 := HK.out.f 1
                  by_cases hp' : p' < s.size
                  · have hpi' : (p' : Int) < (s.size : Int) := by omega
                    have hp0' : (0 : Int) ≤ (p' : Int) := by omega
                    obtain ⟨b, hb⟩ : ∃ b : Nat, b = (s[p']'hp').toNat := ⟨_, rfl⟩
                    have hsb : (s[p']'hp').toNat = b := hb.symm
                    have hdp : (tb s).drop p' = (s[p']'hp') :: (tb s).drop (p' + 1) := tb_at s p' hp'
                    by_cases h34b : b = 34
                    · have hb8 : (s[p']'hp') = 34 := UInt8.toNat_inj.1 (by rw [← hb, h34b]; rfl)
                      have hq34 : ((b : Int) != 34) = false := by simp [h34b]
                      rw [hb8] at hdp
                      clear hb h34b
                      have HV := Lib.hid (show V = some (vs, 34 :: (tb s).drop (p' + 1)) by
                        obtain ⟨f, rfl⟩ : ∃ f', f = f' + 1 := ⟨f - 1, by have := HFL.out; omega⟩
                        rw [HVV.out, hdp, rdVal, if_pos rfl])
                      have hst : step1 l = some ((bt done, bt vs), 34 :: (tb s).drop (p' + 1)) := by
                        rw [step1_some HT3.out.2.1 (HT3.out.2.2 ▸ HV.out), HT3.out.1]
                      have hR2 := HRK.out
                      rw [← HLE.out, rparseF, hst] at hR2
                      have HA2 := Lib.hid (show (acc ++ [(bt done, bt vs)]).length = m + 1 by rw [List.length_append, HA.out]; rfl)
                      have HS2 := Lib.hid (show ∀ x ∈ acc ++ [(bt done, bt vs)], x.1.size ≤ 1300 ∧ x.2.size ≤ 1300 from fun x hx => by
                        rcases List.mem_append.1 hx with h | h
                        · exact HS.out x h
                        · rw [List.mem_singleton] at h
                          rw [h]; exact ⟨by show (bt done).size ≤ 1300; rw [bt_size]; omega, by show (bt vs).size ≤ 1300; rw [bt_size]; omega⟩)
                      have hw5 : IntKind.i64.wrap ((p' : Int) + 1) = (p' : Int) + 1 := IntWalk.i64_in _ (by omega)
                      by_cases hp2 : p' + 1 < s.size
                      · have hp2i : (p' : Int) + 1 < (s.size : Int) := by omega
                        have hp20 : (0 : Int) ≤ (p' : Int) + 1 := by omega
                        obtain ⟨d, hd⟩ : ∃ d : Nat, d = (s[p' + 1]'hp2).toNat := ⟨_, rfl⟩
                        have hsd : (s[p' + 1]'hp2).toNat = d := hd.symm
                        have hdp2 : (tb s).drop (p' + 1) = (s[p' + 1]'hp2) :: (tb s).drop (p' + 2) := tb_at s (p' + 1) hp2
                        rw [hdp2] at hR2
                        replace hR2 : R = if (s[p' + 1]'hp2) = 44 then rparseF kk (acc ++ [(bt done, bt vs)]) ((tb s).drop (p' + 2)) else if (s[p' + 1]'hp2) = 125 ∧ (tb s).drop (p' + 2) = [] ∧ isSet (acc ++ [(bt done, bt vs)]) = true then some (acc ++ [(bt done, bt vs)]) else none := hR2
                        by_cases h44 : d = 44
                        · have e44 : (s[p' + 1]'hp2) = 44 := UInt8.toNat_inj.1 (by rw [← hd, h44]; rfl)
                          rw [if_pos e44] at hR2
                          have hq44 : ((d : Int) != 44) = false := by simp [h44]
                          have HRR := Lib.hid (show R = rparseF (5 - (m + 1)) (acc ++ [(bt done, bt vs)]) ((tb s).drop (p' + 2)) by rw [show 5 - (m + 1) = kk by omega]; exact hR2)
                          clear hR2 hd hdp2 e44 h44 hst hb8 hdp
                          have HBA1 := Lib.hid (HB.out.alloc HB.out.size (.cells #[.string (bt done), .string (bt vs)] 150))
                          have HOA1 := Lib.hid (HO.out.alloc (.cells #[.string (bt done), .string (bt vs)] 150))
                          have hba1 := HB.out.size
                          go_wp2_with (at_builtin; refine wpList_append_own_at _ rfl (.tmp 102) (.tmp 104) 112 rfl w.heap.size 150 i0 _ 2 32 Tryz.underlying112 hi hz0 hz1 hz2 rfl (by decide) _ _ _ rfl HOA1.out ⟨wv.heap.size, 0, none⟩ 1 1 [.string (bt done), .string (bt vs)] rfl rfl (two_src _ _ _ _) (lcells_one [(bt done, bt vs)]) (by unfold maxLen; omega) (by omega) (by simp; omega) ?_)
                          intro v5 w5 ho5 hg5 _ _
                          obtain ⟨g5, c5, rfl⟩ := own_some2 ho5 (by omega)
                          have HB5 := Lib.hid (below_own HBA1.out HOA1.out hg5 (Nat.le_refl _) (by simp; omega))
                          have HO5 := Lib.hid (show w5.ownsRow w.heap.size 150 2 (.slice (some ⟨g5, 0, none⟩) (m + 1) c5) (m + 1) (lcells (acc ++ [(bt done, bt vs)])) by rw [lcells_append]; exact ho5)
                          clear ho5 hg5
                          go_wp2_with fail
                          go_roundw
                          case rel => exact ⟨p' + 2, m + 1, c5, _, _, by omega, by omega, by go_num, rfl, HA2, HS2, HRR, HO5, HB5⟩
                          case measure => simp [lenOf] <;> omega
                        · have e44 : (s[p' + 1]'hp2) ≠ 44 := fun e => h44 (by rw [hd, e]; rfl)
                          rw [if_neg e44] at hR2
                          have hq44 : ((d : Int) != 44) = true := by rw [bne_iff_ne]; omega
                          by_cases hlast : p' + 2 = s.size
                          · have hql : ((p' : Int) + 1 != (s.size : Int) - 1) = false := by
                              have : (p' : Int) + 1 = (s.size : Int) - 1 := by omega
                              simp [this]
                            have hnil : (tb s).drop (p' + 2) = [] := List.drop_eq_nil_of_le (by rw [tb_len]; omega)
                            by_cases h125 : d = 125
                            · have e125 : (s[p' + 1]'hp2) = 125 := UInt8.toNat_inj.1 (by rw [← hd, h125]; rfl)
                              have hq125 : ((d : Int) != 125) = false := by simp [h125]
                              have HLS := Lib.hid (fun x hx => (⟨Nat.le_trans (HS2.out x hx).1 (by omega), Nat.le_trans (HS2.out x hx).2 (by omega)⟩ : x.1.size ≤ 140737488355328 ∧ x.2.size ≤ 140737488355328))
                              cases hset : isSet (acc ++ [(bt done, bt vs)]) with
                              | true =>
                                rw [if_pos ⟨e125, hnil, hset⟩] at hR2
                                have HRR := Lib.hid hR2
                                have HSET := Lib.hid hset
                                clear hR2 hd hdp2 e44 h44 hst hb8 hdp hset e125 h125 hnil
                                have HBA1 := Lib.hid (HB.out.alloc HB.out.size (.cells #[.string (bt done), .string (bt vs)] 150))
                                have HOA1 := Lib.hid (HO.out.alloc (.cells #[.string (bt done), .string (bt vs)] 150))
                                have hba1 := HB.out.size
                                go_wp2_with (at_builtin; refine wpList_append_own_at _ rfl (.tmp 102) (.tmp 104) 112 rfl w.heap.size 150 i0 _ 2 32 Tryz.underlying112 hi hz0 hz1 hz2 rfl (by decide) _ _ _ rfl HOA1.out ⟨wv.heap.size, 0, none⟩ 1 1 [.string (bt done), .string (bt vs)] rfl rfl (two_src _ _ _ _) (lcells_one [(bt done, bt vs)]) (by unfold maxLen; omega) (by omega) (by simp; omega) ?_)
                                intro v5 w5 ho5 hg5 _ _
                                obtain ⟨g5, c5, rfl⟩ := own_some2 ho5 (by omega)
                                have HB5 := Lib.hid (below_own HBA1.out HOA1.out hg5 (Nat.le_refl _) (by simp; omega))
                                have HO5 := Lib.hid (show w5.ownsRow w.heap.size 150 2 (.slice (some ⟨g5, 0, none⟩) (m + 1) c5) (m + 1) (lcells (acc ++ [(bt done, bt vs)])) by rw [lcells_append]; exact ho5)
                                clear ho5 hg5
                                obtain ⟨a9, c9, he9, hat⟩ := LabsAt.ofOwn HO5.out HA2.out HLS.out
                                simp only [Value.slice.injEq, true_and] at he9
                                obtain ⟨rfl, rfl⟩ := he9
                                have HAT := Lib.hid hat
                                clear hat
                                go_wp2_with fail
                                refine (rright_any HAT.out).mono ?_
                                rw [HSET.out]
                                rintro e w6 ⟨rfl, hb6⟩
                                have HB6 := Lib.hid (HB5.out.trans (hb6.mono HB5.out.size))
                                have HAT6 := Lib.hid (HAT.out.kept hb6)
                                clear hb6
                                go_wp2_with fail
                                go_ret2
                                rw [HRR.out]; exact ⟨_, _, _, rfl, HAT6.out, HB6.out⟩
                              | false =>
                                rw [if_neg (by rintro ⟨_, _, h⟩; rw [hset] at h; cases h)] at hR2
                                have HRR := Lib.hid hR2
                                have HSET := Lib.hid hset
                                clear hR2 hd hdp2 e44 h44 hst hb8 hdp hset e125 h125 hnil
                                have HBA1 := Lib.hid (HB.out.alloc HB.out.size (.cells #[.string (bt done), .string (bt vs)] 150))
                                have HOA1 := Lib.hid (HO.out.alloc (.cells #[.string (bt done), .string (bt vs)] 150))
                                have hba1 := HB.out.size
                                go_wp2_with (at_builtin; refine wpList_append_own_at _ rfl (.tmp 102) (.tmp 104) 112 rfl w.heap.size 150 i0 _ 2 32 Tryz.underlying112 hi hz0 hz1 hz2 rfl (by decide) _ _ _ rfl HOA1.out ⟨wv.heap.size, 0, none⟩ 1 1 [.string (bt done), .string (bt vs)] rfl rfl (two_src _ _ _ _) (lcells_one [(bt done, bt vs)]) (by unfold maxLen; omega) (by omega) (by simp; omega) ?_)
                                intro v5 w5 ho5 hg5 _ _
                                obtain ⟨g5, c5, rfl⟩ := own_some2 ho5 (by omega)
                                have HB5 := Lib.hid (below_own HBA1.out HOA1.out hg5 (Nat.le_refl _) (by simp; omega))
                                have HO5 := Lib.hid (show w5.ownsRow w.heap.size 150 2 (.slice (some ⟨g5, 0, none⟩) (m + 1) c5) (m + 1) (lcells (acc ++ [(bt done, bt vs)])) by rw [lcells_append]; exact ho5)
                                clear ho5 hg5
                                obtain ⟨a9, c9, he9, hat⟩ := LabsAt.ofOwn HO5.out HA2.out HLS.out
                                simp only [Value.slice.injEq, true_and] at he9
                                obtain ⟨rfl, rfl⟩ := he9
                                have HAT := Lib.hid hat
                                clear hat
                                go_wp2_with fail
                                refine (rright_any HAT.out).mono ?_
                                rw [HSET.out]
                                rintro e w6 ⟨rfl, hb6⟩
                                have HB6 := Lib.hid (HB5.out.trans (hb6.mono HB5.out.size))
                                clear hb6
                                go_wp2_with fail
                                go_ret2
                                rw [HRR.out]; exact ⟨none, 0, 0, rfl, LabsAt.empty _ _ _ (by omega) (fun _ => rfl), HB6.out⟩
                            · rw [if_neg (by rintro ⟨h, _⟩; exact h125 (by rw [hd, h]; rfl))] at hR2
                              have hq125 : ((d : Int) != 125) = true := by rw [bne_iff_ne]; omega
                              have HRR := Lib.hid hR2
                              clear hR2 hd hdp2 e44 h44 hst hb8 hdp h125 hnil
                              have HBA1 := Lib.hid (HB.out.alloc HB.out.size (.cells #[.string (bt done), .string (bt vs)] 150))
                              have HOA1 := Lib.hid (HO.out.alloc (.cells #[.string (bt done), .string (bt vs)] 150))
                              have hba1 := HB.out.size
                              go_wp2_with (at_builtin; refine wpList_append_own_at _ rfl (.tmp 102) (.tmp 104) 112 rfl w.heap.size 150 i0 _ 2 32 Tryz.underlying112 hi hz0 hz1 hz2 rfl (by decide) _ _ _ rfl HOA1.out ⟨wv.heap.size, 0, none⟩ 1 1 [.string (bt done), .string (bt vs)] rfl rfl (two_src _ _ _ _) (lcells_one [(bt done, bt vs)]) (by unfold maxLen; omega) (by omega) (by simp; omega) ?_)
                              intro v5 w5 ho5 hg5 _ _
                              obtain ⟨g5, c5, rfl⟩ := own_some2 ho5 (by omega)
                              have HB5 := Lib.hid (below_own HBA1.out HOA1.out hg5 (Nat.le_refl _) (by simp; omega))
                              have HO5 := Lib.hid (show w5.ownsRow w.heap.size 150 2 (.slice (some ⟨g5, 0, none⟩) (m + 1) c5) (m + 1) (lcells (acc ++ [(bt done, bt vs)])) by rw [lcells_append]; exact ho5)
                              clear ho5 hg5
                              go_wp2_with fail
                              go_ret2
                              rw [HRR.out]; exact ⟨none, 0, 0, rfl, LabsAt.empty _ _ _ (by omega) (fun _ => rfl), HB5.out⟩
                          · have hql : ((p' : Int) + 1 != (s.size : Int) - 1) = true := by rw [bne_iff_ne]; omega
                            rw [if_neg (by
                              rintro ⟨_, h, _⟩
                              have := congrArg List.length h
                              rw [List.length_drop, tb_len] at this
                              simp at this; omega)] at hR2
                            have HRR := Lib.hid hR2
                            clear hR2 hd hdp2 e44 h44 hst hb8 hdp
                            have HBA1 := Lib.hid (HB.out.alloc HB.out.size (.cells #[.string (bt done), .string (bt vs)] 150))
                            have HOA1 := Lib.hid (HO.out.alloc (.cells #[.string (bt done), .string (bt vs)] 150))
                            have hba1 := HB.out.size
                            go_wp2_with (at_builtin; refine wpList_append_own_at _ rfl (.tmp 102) (.tmp 104) 112 rfl w.heap.size 150 i0 _ 2 32 Tryz.underlying112 hi hz0 hz1 hz2 rfl (by decide) _ _ _ rfl HOA1.out ⟨wv.heap.size, 0, none⟩ 1 1 [.string (bt done), .string (bt vs)] rfl rfl (two_src _ _ _ _) (lcells_one [(bt done, bt vs)]) (by unfold maxLen; omega) (by omega) (by simp; omega) ?_)
                            intro v5 w5 ho5 hg5 _ _
                            obtain ⟨g5, c5, rfl⟩ := own_some2 ho5 (by omega)
                            have HB5 := Lib.hid (below_own HBA1.out HOA1.out hg5 (Nat.le_refl _) (by simp; omega))
                            have HO5 := Lib.hid (show w5.ownsRow w.heap.size 150 2 (.slice (some ⟨g5, 0, none⟩) (m + 1) c5) (m + 1) (lcells (acc ++ [(bt done, bt vs)])) by rw [lcells_append]; exact ho5)
                            clear ho5 hg5
                            go_wp2_with fail
                            go_ret2
                            rw [HRR.out]; exact ⟨none, 0, 0, rfl, LabsAt.empty _ _ _ (by omega) (fun _ => rfl), HB5.out⟩
                      · have hp2i : (s.size : Int) ≤ (p' : Int) + 1 := by omega
                        rw [List.drop_eq_nil_of_le (by rw [tb_len]; omega)] at hR2
                        replace hR2 : R = none := hR2
                        have HRR := Lib.hid hR2
                        clear hR2 hst hb8 hdp
                        have HBA1 := Lib.hid (HB.out.alloc HB.out.size (.cells #[.string (bt done), .string (bt vs)] 150))
                        have HOA1 := Lib.hid (HO.out.alloc (.cells #[.string (bt done), .string (bt vs)] 150))
                        have hba1 := HB.out.size
                        go_wp2_with (at_builtin; refine wpList_append_own_at _ rfl (.tmp 102) (.tmp 104) 112 rfl w.heap.size 150 i0 _ 2 32 Tryz.underlying112 hi hz0 hz1 hz2 rfl (by decide) _ _ _ rfl HOA1.out ⟨wv.heap.size, 0, none⟩ 1 1 [.string (bt done), .string (bt vs)] rfl rfl (two_src _ _ _ _) (lcells_one [(bt done, bt vs)]) (by unfold maxLen; omega) (by omega) (by simp; omega) ?_)
                        intro v5 w5 ho5 hg5 _ _
                        obtain ⟨g5, c5, rfl⟩ := own_some2 ho5 (by omega)
                        have HB5 := Lib.hid (below_own HBA1.out HOA1.out hg5 (Nat.le_refl _) (by simp; omega))
                        have HO5 := Lib.hid (show w5.ownsRow w.heap.size 150 2 (.slice (some ⟨g5, 0, none⟩) (m + 1) c5) (m + 1) (lcells (acc ++ [(bt done, bt vs)])) by rw [lcells_append]; exact ho5)
                        clear ho5 hg5
                        go_wp2_with fail
                        go_ret2
                        rw [HRR.out]; exact ⟨none, 0, 0, rfl, LabsAt.empty _ _ _ (by omega) (fun _ => rfl), HB5.out⟩
                    · have hne : (s[p']'hp') ≠ 34 := fun e => h34b (by rw [hb, e]; rfl)
                      have hq34 : ((b : Int) != 34) = true := by rw [bne_iff_ne]; omega
                      have hread := read_any s hs p' hp' wv
                      have hrdv : ∀ (x : Option (UInt8 × Nat)), rd ((tb s).drop p') = x → ∀ f', f = f' + 1 → rdVal f vs ((tb s).drop p') = match x with
                          | none => none
                          | some (x, n) => rdVal f' (vs ++ [x]) (((tb s).drop p').drop n) := fun x hx f' hf => by
                        rw [hdp] at hx ⊢
                        rw [hf, rdVal, if_neg hne, hx]
                        rfl
                      obtain ⟨f, rfl⟩ : ∃ f', f = f' + 1 := ⟨f - 1, by have := HFL.out; omega⟩
                      cases hrd : rd ((tb s).drop p') with
                      | none =>
                        have hrn : rdN ((tb s).drop p') = (0, 0) := by unfold rdN; rw [hrd]
                        rw [hrn] at hread
                        have hVn : V = none := by rw [HVV.out, hrdv _ hrd f rfl]
                        have HRR := Lib.hid (show R = none by
                          have hR2 := HRK.out
                          rw [← HLE.out, rparseF, step1_none HT3.out.2.1 (HT3.out.2.2 ▸ hVn)] at hR2
                          exact hR2)
                        have HRE := Lib.hid hread
                        clear hrd hrn hread hVn hrdv hdp hne hb h34b
                        go_wp2_with fail
                        refine HRE.out.mono ?_
                        rintro e w6 ⟨rfl, hb6⟩
                        have HB6 := Lib.hid (HB.out.trans (hb6.mono hbv))
                        clear hb6
                        go_wp2_with fail
                        go_ret2
                        rw [HRR.out]; exact ⟨none, 0, 0, rfl, LabsAt.empty _ _ _ (by omega) (fun _ => rfl), HB6.out⟩
                      | some y =>
                        obtain ⟨y, n⟩ := y
                        have hsd := rd_sound hrd
                        have hnl : n ≤ s.size - p' := by have := hsd.2.2; rw [List.length_drop, tb_len] at this; exact this
                        have hn0 : 0 < n := hsd.2.1
                        have hrn : rdN ((tb s).drop p') = (y.toNat, n) := by unfold rdN; rw [hrd]
                        rw [hrn] at hread
                        have hV2 := hrdv _ hrd f rfl
                        rw [← HVV.out] at hV2
                        replace hV2 : V = rdVal f (vs ++ [y]) (((tb s).drop p').drop n) := hV2
                        rw [List.drop_drop] at hV2
                        obtain ⟨z, hz⟩ : ∃ z : Nat, z = y.toNat := ⟨_, rfl⟩
                        have hz256 : z < 256 := by rw [hz]; exact UInt8.toNat_lt _
                        rw [← hz] at hread
                        have HVV2 := Lib.hid hV2
                        have HZ := Lib.hid (show bs [z] = bt [y] by apply tb_inj; rw [tb_bs, hz]; simp [tb_bt])
                        have HRE := Lib.hid hread
                        have hnz : ((n : Int) == 0) = false := by rw [beq_eq_false_iff_ne]; omega
                        have hwn : IntKind.i64.wrap ((p' : Int) + (n : Int)) = (p' : Int) + (n : Int) := IntWalk.i64_in _ (by omega)
                        have hvs : (bt vs).size ≤ 1300 := by rw [bt_size]; omega
                        have hzs : (bs [z]).size = 1 := by rw [bs_size]; rfl
                        have hff : ¬ 9223372036854775807 < (bt vs).size + 1 := by omega
                        clear hrd hrn hread hV2 hrdv hdp hne hb h34b hsd hz
                        go_wp2_with fail
                        refine HRE.out.mono ?_
                        rintro e w6 ⟨rfl, hb6⟩
                        have HB6 := Lib.hid (HB.out.trans (hb6.mono hbv))
                        have HO6 := Lib.hid (own_below HO.out hb6)
                        have HK6 := Lib.hid (HK.out.kept hb6)
                        have hbb6 := HB6.out.size
                        have HBA := Lib.hid (HB6.out.alloc hbb6 (.cells #[.int .u8 (z : Int)] 5))
                        have HOA := Lib.hid (HO6.out.alloc (.cells #[.int .u8 (z : Int)] 5))
                        have hKA : LabBlk (w6.alloc (.cells #[.int .u8 (z : Int)] 5)) X (bt done) (bt vs) := HK6.out.kept ((Below.refl _ _).alloc (Nat.le_refl _) _)
                        have HKA := Lib.hid hKA
                        have e0 := hKA.c0
                        have e1 := hKA.c1
                        have ef0 := hKA.f 0
                        have ef1 := hKA.f 1
                        have k0 := HK6.out.c0
                        have k1 := HK6.out.c1
                        have kf1 := HK6.out.f 1
                        have hcv : (convert 30 9 (.slice (some ⟨w6.heap.size, 0, none⟩) 1 1)).run Tryz.prog (w6.alloc (.cells #[.int .u8 (z : Int)] 5)) = .ok (.string (bs [z])) (w6.alloc (.cells #[.int .u8 (z : Int)] 5)) := (BytesAt.lit w6 #[.int .u8 (z : Int)] [z] rfl (by intro x hx; simp at hx; omega) (by simp) (by simp)).conv
                        have HSET := Lib.hid (show LabBlk ((w6.alloc (.cells #[.int .u8 (z : Int)] 5)).setCell ⟨X, 1, none⟩ (.string (bt vs ++ bs [z]))) X (bt done) (bt (vs ++ [y])) by
                          have := hKA.set1 (bt vs ++ bs [z])
                          rw [HZ.out] at this ⊢
                          rw [show bt vs ++ bt [y] = bt (vs ++ [y]) from by apply tb_inj; rw [tb_append, tb_bt, tb_bt, tb_bt]] at this ⊢
                          exact this)
                        have HOS := Lib.hid (HOA.out.kept (grown_set _ X 1 (.string (bt vs ++ bs [z]))) HNX.out)
                        have HBS := Lib.hid (HBA.out.setCell (p := ⟨X, 1, none⟩) HXW.out (.string (bt vs ++ bs [z])))
                        clear hb6 hKA
                        go_wp2_with fail
                        go_roundw
                        case rel => exact ⟨p' + n, f, _, by omega, by rw [List.length_append]; show vs.length + 1 ≤ p' + n; omega, by go_num, Lib.hid (by have := HFL.out; omega), HVV2, HSET, HOS, HBS⟩
                        case measure => simp [intOf] <;> omega
                  · have hpe : p' = s.size := by omega
                    have hpi' : (s.size : Int) ≤ (p' : Int) := by omega
                    have hV0 : V = some (vs, []) := by
                      obtain ⟨f, rfl⟩ : ∃ f', f = f' + 1 := ⟨f - 1, by have := HFL.out; omega⟩
                      rw [HVV.out, List.drop_eq_nil_of_le (by rw [tb_len]; omega), rdVal]
                    have hst : step1 l = some ((bt done, bt vs), []) := by
                      rw [step1_some HT3.out.2.1 (HT3.out.2.2 ▸ hV0), HT3.out.1]
                    have HRR := Lib.hid (show R = none by
                      have hR2 := HRK.out
                      rw [← HLE.out, rparseF, hst] at hR2
                      exact hR2)
                    have hw5 : IntKind.i64.wrap ((p' : Int) + 1) = (p' : Int) + 1 := IntWalk.i64_in _ (by omega)
                    have hp2i : (s.size : Int) ≤ (p' : Int) + 1 := by omega
                    clear hst hV0 hpe hp'
                    have HBA1 := Lib.hid (HB.out.alloc HB.out.size (.cells #[.string (bt done), .string (bt vs)] 150))
                    have HOA1 := Lib.hid (HO.out.alloc (.cells #[.string (bt done), .string (bt vs)] 150))
                    have hba1 := HB.out.size
                    go_wp2_with (at_builtin; refine wpList_append_own_at _ rfl (.tmp 102) (.tmp 104) 112 rfl w.heap.size 150 i0 _ 2 32 Tryz.underlying112 hi hz0 hz1 hz2 rfl (by decide) _ _ _ rfl HOA1.out ⟨wv.heap.size, 0, none⟩ 1 1 [.string (bt done), .string (bt vs)] rfl rfl (two_src _ _ _ _) (lcells_one [(bt done, bt vs)]) (by unfold maxLen; omega) (by omega) (by simp; omega) ?_)
                    intro v5 w5 ho5 hg5 _ _
                    obtain ⟨g5, c5, rfl⟩ := own_some2 ho5 (by omega)
                    have HB5 := Lib.hid (below_own HBA1.out HOA1.out hg5 (Nat.le_refl _) (by simp; omega))
                    have HO5 := Lib.hid (show w5.ownsRow w.heap.size 150 2 (.slice (some ⟨g5, 0, none⟩) (m + 1) c5) (m + 1) (lcells (acc ++ [(bt done, bt vs)])) by rw [lcells_append]; exact ho5)
                    clear ho5 hg5
                    go_wp2_with fail
                    go_ret2
                    rw [HRR.out]; exact ⟨none, 0, 0, rfl, LabsAt.empty _ _ _ (by omega) (fun _ => rfl), HB5.out⟩
          · have hpe : p = s.size := by omega
            have hpi : (s.size : Int) ≤ (p : Int) := by omega
            have hshi : (s.size : Int) - (p : Int) < 3 := by omega
            have HRR := Lib.hid (show R = none by
              have hR2 := HRK.out
              have h1 := HT.out
              rw [List.drop_eq_nil_of_le (by rw [tb_len]; omega)] at h1
              rw [← HLE.out, rparseF, step1_short (by rw [h1.2]; simp)] at hR2
              exact hR2)
            clear hpe hp
            go_wp2_with fail
            go_ret2
            rw [HRR.out]; exact ⟨none, 0, 0, rfl, LabsAt.empty _ _ _ (by omega) (fun _ => rfl), HB.out⟩
      · obtain rfl : m = 5 := by omega
        have HRR := Lib.hid (show R = none by rw [HR.out]; rfl)
        have HLS := Lib.hid (fun x hx => (⟨Nat.le_trans (HS.out x hx).1 (by omega), Nat.le_trans (HS.out x hx).2 (by omega)⟩ : x.1.size ≤ 140737488355328 ∧ x.2.size ≤ 140737488355328))
        have HSET := Lib.hid (show isSet acc = false by unfold isSet; rw [HA.out]; rfl)
        obtain ⟨a9, c9, he9, hat⟩ := LabsAt.ofOwn HO.out HA.out HLS.out
        simp only [Value.slice.injEq, true_and] at he9
        obtain ⟨rfl, rfl⟩ := he9
        have HAT := Lib.hid hat
        clear hat hm
        by_cases hlast : k + 1 = s.size
        · have hql : ((k : Int) != (s.size : Int) - 1) = false := by
            have : (k : Int) = (s.size : Int) - 1 := by omega
            simp [this]
          have hkl : k < s.size := by omega
          have hki : (k : Int) < (s.size : Int) := by omega
          have hk00 : (0 : Int) ≤ (k : Int) := by omega
          obtain ⟨d, hd⟩ : ∃ d : Nat, d = (s[k]'hkl).toNat := ⟨_, rfl⟩
          have hsd : (s[k]'hkl).toNat = d := hd.symm
          clear hd
          by_cases h125 : d = 125
          · have hq125 : ((d : Int) != 125) = false := by simp [h125]
            clear h125
            go_wp2_with fail
            refine (rright_any HAT.out).mono ?_
            rw [HSET.out]
            rintro e w6 ⟨rfl, hb6⟩
            have HB6 := Lib.hid (HB.out.trans (hb6.mono hbs))
            clear hb6
            go_wp2_with fail
            go_ret2
            rw [HRR.out]; exact ⟨none, 0, 0, rfl, LabsAt.empty _ _ _ (by omega) (fun _ => rfl), HB6.out⟩
          · have hq125 : ((d : Int) != 125) = true := by rw [bne_iff_ne]; omega
            clear h125
            go_wp2_with fail
            go_ret2
            rw [HRR.out]; exact ⟨none, 0, 0, rfl, LabsAt.empty _ _ _ (by omega) (fun _ => rfl), HB.out⟩
        · have hql : ((k : Int) != (s.size : Int) - 1) = true := by rw [bne_iff_ne]; omega
          clear hlast
          go_wp2_with fail
          go_ret2
          rw [HRR.out]; exact ⟨none, 0, 0, rfl, LabsAt.empty _ _ _ (by omega) (fun _ => rfl), HB.out⟩
end Go.Proofs.YtbdgcfimbblncaaGreatDoor
end SecLabRP1
end PkMR10_0
section PkMR10_1
/- Manifests: Right with the real Parse, Encode of a wrong manifest (parted from XMfQE, XMfQT, XMfCW). -/
namespace Go.Proofs.YtbdgcfimbblncaaGreatDoor
open Go.RowKit NumsPlain LabPlain CrcPlain
set_option linter.unusedVariables false

def pfS (t : ByteArray) : Int := if (setIn t).isSome then 0 else 4
theorem pfS_is (t : ByteArray) : (pfS t == 0) = (setIn t).isSome := by unfold pfS; cases (setIn t).isSome <;> rfl

theorem cmpS_lt9 (y x : ByteArray) : cmpS y x < 0 ↔ ltB y x = true := by
  unfold cmpS
  cases h : ltB y x with
  | true => simp
  | false =>
    simp only [Bool.false_eq_true, if_false]
    split <;> simp
theorem cmp3_lt9 (y x : Int) : cmp3 y x < 0 ↔ y < x := by
  unfold cmp3
  by_cases h : y < x
  · simp [h]
  · simp only [h, if_false, iff_false]
    split <;> simp
def MaxAt (mx : Int) (w : World) : Prop := w.cell? ⟨1, 0, none⟩ = some (.int .i64 mx)
theorem MaxAt.below {mx : Int} {w w' : World} (h : MaxAt mx w) (hb : Below w.heap.size w w') : MaxAt mx w' := (hb.cell (p := ⟨1, 0, none⟩) (World.block_lt_of_cell? w _ h)).trans h
theorem par_any {mx : Int} {w : World} (h : MaxAt mx w) {le : List EntV} (hk : ∀ x ∈ le, x.part.size ≤ 1300) : ∀ (W : World) (x : EntV), x ∈ le → Below w.heap.size w W → Calls Tryz.prog 82 #[.string x.part] W fun e w' => ParIs (pfS x.part) e ∧ Below W.heap.size W w' := fun W x hx hb => by
  refine (parse_any x.part (hk x hx) mx W (h.below hb)).mono ?_
  rintro e w' ⟨a, n, c, rfl, _, hb2⟩
  exact ⟨⟨a, n, c, rfl⟩, hb2⟩

set_option maxRecDepth 100000 in
set_option maxHeartbeats 2000000 in
theorem mencode_no {w : World} (pf : ByteArray → Int) {s d hz : Int} {ea ma oa : Option Addr} {en ec mn mc on oc : Nat} {le : List EntV} {lm : List (Int × Int)} {lo : List (Int × Int × Int)} (hE : VecAt EntS w ea en ec le) (hM : VecAt MarkS w ma mn mc lm) (hO : VecAt OwnS w oa on oc lo) (hP : ∀ (W : World) (x : EntV), x ∈ le → Below w.heap.size w W → Calls Tryz.prog 82 #[.string x.part] W fun e w' => ParIs (pf x.part) e ∧ Below W.heap.size W w')
    (h : ¬ IsMan pf s d hz en le mn lm on lo) :
    Calls Tryz.prog 9 #[.agg #[.int .i64 s, .int .i64 d, .int .i64 hz, .slice ea en ec, .slice ma mn mc, .slice oa on oc]] w fun e w' => e = .returned (.tuple #[.slice none 0 0, .int .i64 4]) ∧ Below w.heap.size w w' := by
  obtain ⟨wa, hwa⟩ : ∃ wa, wa = w.alloc (.cells #[.int .i64 s, .int .i64 d, .int .i64 hz, .slice ea en ec, .slice ma mn mc, .slice oa on oc] 26) := ⟨_, rfl⟩
  have ba : Below w.heap.size w wa := by rw [hwa]; exact (Below.refl _ _).alloc (Nat.le_refl _) _
  have HR := Lib.hid (mright_any pf (hE.kept ba) (hM.kept ba) (hO.kept ba) (s := s) (d := d) (hz := hz) (fun W x hx hb => hP W x hx (ba.trans (hb.mono ba.size))))
  have HIM := Lib.hid h
  have HBA := Lib.hid ba
  have HWA := Lib.hid hwa
  clear hE hM hO hP h hwa ba
  go_enter Tryz.func9, Tryz.ntmps9
  go_wp2_with fail
  rw [← HWA.out]
  go_wp2_with fail
  refine HR.out.mono ?_
  rintro e w1 ⟨⟨b1, rfl, hb1⟩, hbl⟩
  have hbf : b1 = false := by
    cases b1 with
    | false => rfl
    | true => exact absurd (hb1.1 rfl) HIM.out
  subst hbf
  have HB1 := Lib.hid (HBA.out.trans (hbl.mono HBA.out.size))
  clear hb1 hbl
  go_wp2_with fail
  go_ret2
  exact ⟨rfl, HB1.out⟩

end Go.Proofs.YtbdgcfimbblncaaGreatDoor
end PkMR10_1
section PkMR10_2
/- Package crc's Sum, walked, given what the table holds. -/
namespace Go.Proofs.YtbdgcfimbblncaaGreatDoor
open Go.RowKit CrcPlain
set_option linter.unusedVariables false

/-- the checksum -/
def crcN (l : List Nat) : Nat := 4294967295 ^^^ reg 4294967295 l
theorem ones_twice (r : Nat) : 4294967295 ^^^ (4294967295 ^^^ r) = r := by rw [← Nat.xor_assoc, Nat.xor_self, Nat.zero_xor]
theorem reg_append : ∀ (xs ys : List Nat) (c : Nat), reg c (xs ++ ys) = reg (reg c xs) ys
  | [], _, _ => rfl
  | x :: xs, ys, c => by simp only [List.cons_append, reg]; exact reg_append xs ys _
theorem crcN_app (l xs : List Nat) : 4294967295 ^^^ reg (4294967295 ^^^ crcN l) xs = crcN (l ++ xs) := by
  unfold crcN; rw [ones_twice, reg_append]
theorem crcN_nil : crcN [] = 0 := by simp [crcN, reg]
theorem crcN_lt (l : List Nat) (h : ∀ x ∈ l, x < 256) : crcN l < 4294967296 := Nat.xor_lt_two_pow (n := 32) (by decide) (reg_lt l _ h (by decide))

theorem Table.below {w w' : World} (h : Table w) (hb : Below w.heap.size w w') : Table w' := fun r hr => by
  have h1 := h r hr
  have h2 := World.block_lt_of_cell? w _ h1
  exact (hb.cell (p := ⟨0, r, none⟩) h2).trans h1

/-- parts that lie in memory -/
structure Parts (w : World) (a : Option Addr) (m c : Nat) (X : Nat → List Nat) : Prop where
  cap : m ≤ c
  capm : c ≤ 9223372036854775807
  cells : 0 < m → ∃ b off, a = some ⟨b, off, none⟩ ∧ b < w.heap.size ∧ ∀ i, i < m → ∃ a1 n1 c1, w.cell? ⟨b, off + i, none⟩ = some (.slice a1 n1 c1) ∧ BytesAt w a1 n1 c1 (X i)

def flat (X : Nat → List Nat) (k : Nat) : List Nat := (List.range k).flatMap X
theorem flat_succ (X : Nat → List Nat) (k : Nat) : flat X (k + 1) = flat X k ++ X k := by simp [flat, List.range_succ]

set_option maxHeartbeats 400000 in
theorem dsum_any {w : World} {B d : Nat} (hB : w.heap[B]? = some (.cells #[.int .u32 (d : Int)] 146 (0, 0))) :
    Calls Tryz.prog 110 #[.pointer (some ⟨B, 0, none⟩)] w fun e w' => e = .returned (.int .u32 (d : Int)) ∧ w = w' := by
  have h0 : w.cell? ⟨B, 0, none⟩ = some (.int .u32 (d : Int)) := by rw [cell_of_row w B 0 _ _ (0, 0) hB]; rfl
  clear hB
  go_enter Tryz.func110, Tryz.ntmps110
  go_wp2_with fail
  go_ret
  exact ⟨rfl, rfl⟩

set_option maxRecDepth 100000 in
set_option maxHeartbeats 2000000 in
theorem sum_any {w : World} (hT : Table w) {a : Option Addr} {m c : Nat} {X : Nat → List Nat} (h : Parts w a m c X) (hby : ∀ k, k ≤ m → ∀ x ∈ flat X k, x < 256) :
    Calls Tryz.prog 78 #[.slice a m c] w fun e w' => e = .returned (.int .u32 ((crcN (flat X m) : Nat) : Int)) ∧ Below w.heap.size w w' := by
  have hcap := h.cap
  have hcm := h.capm
  have HC := Lib.hid h.cells
  have HT := Lib.hid hT
  have HBY := Lib.hid hby
  clear h hT hby
  obtain ⟨D, hD⟩ : ∃ D, D = w.heap.size := ⟨_, rfl⟩
  have HD := Lib.hid hD
  obtain ⟨w0, hw0⟩ : ∃ w0, w0 = w.alloc (.cells #[.int .u32 0] 146) := ⟨_, rfl⟩
  have HB0 := Lib.hid (show Below w.heap.size w w0 by rw [hw0]; exact (Below.refl _ _).alloc (Nat.le_refl _) _)
  have HK0 := Lib.hid (show w0.heap[D]? = some (.cells #[.int .u32 ((crcN (flat X 0) : Nat) : Int)] 146 (0, 0)) by
    rw [hw0, hD, show flat X 0 = [] from rfl, crcN_nil]; exact heap_alloc_new w _)
  have HW0 := Lib.hid hw0
  clear hD hw0
  go_enter Tryz.func78, Tryz.ntmps78
  go_wp2_with fail
  rw [← HW0.out, ← HD.out]
  go_loopw [5, 8] (fun s5 s8 wr => ∃ k : Nat, k ≤ m ∧ s8 = .int .i64 k ∧ Hid (wr.heap[D]? = some (.cells #[.int .u32 ((crcN (flat X k) : Nat) : Int)] 146 (0, 0))) ∧ Hid (Below w.heap.size w wr)) (fun _ s8 _ => m - (intOf s8).toNat)
  case atStart => exact ⟨0, by omega, rfl, HK0, HB0⟩
  case round =>
    obtain ⟨k, hk, rfl, HK, HB⟩ := hrel
    rename World => wr
    by_cases hkm : k < m
    · obtain ⟨b, off, rfl, hlt, hc⟩ := HC.out (by omega)
      obtain ⟨a1, n1, c1, h1, h2⟩ := hc k hkm
      have hck := (HB.out.cell (p := ⟨b, off + k, none⟩) hlt).trans h1
      have HWR := Lib.hid (write_any (crcN_lt _ (HBY.out k hk)) HK.out (HT.out.below HB.out) (h2.kept HB.out))
      clear hc h1 h2
      go_wp2_with fail
      refine HWR.out.mono ?_
      rintro e w2 ⟨rfl, hw2⟩
      have hg : wr.grownBy w2 (some D) := by
        rw [hw2]
        exact ⟨rfl, rfl, rfl, by simp, fun j _ hj => heap_setCell_other wr ⟨D, 0, none⟩ j _ (fun e => hj (by simp [e]))⟩
      have HB2 := Lib.hid (HB.out.grown hg HB.out.size (fun j hj => by cases hj; exact Nat.le_of_eq HD.out.symm))
      have HK2 := Lib.hid (show w2.heap[D]? = some (.cells #[.int .u32 ((crcN (flat X (k + 1)) : Nat) : Int)] 146 (0, 0)) by
        rw [hw2, heap_setCell_same wr D 0 _ _ _ HK.out, crcN_app, ← flat_succ]; rfl)
      clear hg hw2
      go_wp2_with fail
      go_roundw
      case rel => exact ⟨k + 1, by omega, by go_num, HK2, HB2⟩
      case measure => simp [intOf]; omega
    · have hkm2 : k = m := by omega
      subst hkm2
      have HS := Lib.hid (dsum_any HK.out)
      go_wp2_with fail
      refine HS.out.mono ?_
      rintro e w2 ⟨rfl, rfl⟩
      go_wp2_with fail
      go_ret
      exact ⟨rfl, HB.out⟩
end Go.Proofs.YtbdgcfimbblncaaGreatDoor
end PkMR10_2
section PkMR10_3
/- Package crc's Seal, walked, given what the table holds. Condition: at most 100,000 bytes. -/
namespace Go.Proofs.YtbdgcfimbblncaaGreatDoor
open Go.RowKit CrcPlain
set_option linter.unusedVariables false

/-- the first k of a number's bytes, the lowest first -/
def le (s : Nat) (k : Nat) : List Nat := (List.range k).map fun i => s / 2 ^ (8 * i) % 256
theorem le_succ (s k : Nat) : le s (k + 1) = le s k ++ [s / 2 ^ (8 * k) % 256] := by simp [le, List.range_succ]
theorem le_len (s k : Nat) : (le s k).length = k := by simp [le]
theorem le_byte (s k : Nat) : ∀ x ∈ le s k, x < 256 := by
  intro x hx
  simp only [le, List.mem_map] at hx
  obtain ⟨i, _, rfl⟩ := hx
  exact Nat.mod_lt _ (by omega)
def sealed (l : List Nat) : List Nat := l ++ le (crcN l) 4

set_option maxRecDepth 100000 in
set_option maxHeartbeats 2000000 in
theorem seal_any {w : World} (hT : Table w) {a : Option Addr} {n c : Nat} {xs : List Nat} (h : BytesAt w a n c xs) (hn : n ≤ 1000000) :
    Calls Tryz.prog 29 #[.slice a n c] w fun e w' => ∃ a' c', e = .returned (.slice a' (n + 4) c') ∧ BytesAt w' a' (n + 4) c' (sealed xs) ∧ Below w.heap.size w w' ∧ (∀ b off s, a' = some ⟨b, off, s⟩ → w.heap.size ≤ b) ∧ w'.ownsRow w.heap.size 5 1 (.slice a' (n + 4) c') (n + 4) (bv (sealed xs)) := by
  obtain ⟨i0, hi, hz0, hz1, hz2⟩ := info_parts info_u8
  have HH := Lib.hid h
  have hlen := h.len
  have HBX := Lib.hid h.byte
  have hf1 : flat (fun _ => xs) 1 = xs := by simp [flat]
  obtain ⟨w0, hw0⟩ : ∃ w0, w0 = w.alloc (.cells #[.slice a n c] 30) := ⟨_, rfl⟩
  have hb0 : Below w.heap.size w w0 := by rw [hw0]; exact (Below.refl _ _).alloc (Nat.le_refl _) _
  have hpt : Parts w0 (some ⟨w.heap.size, 0, none⟩) 1 1 (fun _ => xs) := ⟨Nat.le_refl _, by omega, fun _ => ⟨w.heap.size, 0, rfl, by rw [hw0]; simp, fun i hi => ⟨a, n, c, by
    obtain rfl : i = 0 := by omega
    rw [hw0]; simp, h.kept hb0⟩⟩⟩
  have hsum := sum_any (hT.below hb0) hpt (fun k hk x hx => by
    simp only [flat, List.mem_flatMap] at hx
    obtain ⟨_, _, hx⟩ := hx
    exact h.byte x hx)
  rw [hf1] at hsum
  obtain ⟨s, hs⟩ : ∃ s, s = crcN xs := ⟨_, rfl⟩
  have hs32 : s < 4294967296 := by rw [hs]; exact crcN_lt xs h.byte
  rw [← hs] at hsum
  have HS := Lib.hid hs
  have HS32 := Lib.hid hs32
  have HSUM := Lib.hid hsum
  have HW0 := Lib.hid hw0
  have HB0 := Lib.hid hb0
  have e1 : IntKind.i64.wrap ((n : Int) + 4) = ((n + 4 : Nat) : Int) := by rw [IntWalk.i64_in _ (by omega)]; omega
  clear h hT hf1 hpt hsum hs hs32 hw0 hb0
  go_enter Tryz.func29, Tryz.ntmps29
  go_wp2_with fail
  rw [← HW0.out]
  refine HSUM.out.mono ?_
  rintro e w1 ⟨rfl, hb1⟩
  have HB1 := Lib.hid (HB0.out.trans (hb1.mono HB0.out.size))
  have HH1 := Lib.hid ((HH.out.kept HB0.out).kept hb1)
  clear hb1
  have hs1 := HB1.out.size
  go_wp2_with (refine wpList_make_own _ rfl (.const (.int .i64 0)) (.tmp 11) 30 rfl w.heap.size 5 i0 (.int .u8 0) 1 Tryz.underlying30 hi hz0 hz1 .i64 .i64 _ (n + 4) rfl rfl (by omega) (by rw [hz2]; omega) (by unfold maxLen; omega) hs1 ?_)
  intro w2 hown2 hgrow2
  have HO2 := Lib.hid hown2
  have hb12 : Below w1.heap.size w1 w2 := ⟨hgrow2.os, hgrow2.tape, hgrow2.output, hgrow2.size, fun k hk => hgrow2.block k hk (by simp)⟩
  have HB2 := Lib.hid (HB1.out.trans (hb12.mono hs1))
  have HH2 := Lib.hid (HH1.out.kept hb12)
  have hs2 := HB2.out.size
  have hgo := HO2.out
  clear hown2 hgrow2 hb12
  go_wp2_with (at_builtin; refine wpList_append_bytes rfl (.tmp 13) (.tmp 14) rfl w.heap.size _ _ [] rfl hgo _ _ _ _ rfl HH2.out (by omega) hs2 ?_)
  intro v3 w3 hown3 hgrow3
  have HB3 := Lib.hid (HB2.out.grown hgrow3 hs2 (fun k hk => (hgo.lt k hk).1))
  have HO3 := Lib.hid (show w3.ownsRow w.heap.size 5 1 v3 (n + 0) (bv (xs ++ le s 0)) by simpa [le] using hown3)
  clear hgo hown3 hgrow3 hs1 hs2
  go_wp2_with fail
  go_loopw [4, 5, 16] (fun s4 s5 s16 wr => ∃ k : Nat, k ≤ 4 ∧ s16 = .int .i64 k ∧ Hid (wr.ownsRow w.heap.size 5 1 s4 (n + k) (bv (xs ++ le s k))) ∧ Hid (Below w.heap.size w wr)) (fun _ _ s16 _ => 4 - (intOf s16).toNat)
  case atStart => exact ⟨0, by omega, rfl, HO3, HB3⟩
  case round =>
    obtain ⟨k, hk, rfl, HO, HB⟩ := hrel
    rename World => wr
    by_cases hk4 : k < 4
    · have e8 : IntKind.i64.wrap (8 * (k : Int)) = ((8 * k : Nat) : Int) := by rw [IntWalk.i64_in _ (by omega)]; omega
      have hgo := HO.out
      have hbs := HB.out.size
      go_wp2_with (at_builtin; refine wpList_append_own _ rfl (.tmp 19) (.tmp 25) 30 rfl w.heap.size 5 i0 (.int .u8 0) 1 1 Tryz.underlying30 hi hz0 hz1 hz2 rfl (by decide) _ _ _ rfl (hgo.alloc _) ⟨wr.heap.size, 0, none⟩ 1 1 [.int .u8 ((s : Int) / 2 ^ (8 * k) % 256)] rfl rfl (one_src _ _ _) (one_oneCell rfl) (by unfold maxLen; omega) (by omega) (by simp; omega) ?_)
      intro v' w4 hown' hgrow _
      have HO4 := Lib.hid hown'
      have HB4 := Lib.hid ((HB.out.alloc HB.out.size _).grown hgrow (by simp; omega) (fun k hk => (hgo.lt k hk).1))
      clear hown' hgrow hgo
      go_wp2_with fail
      go_roundw
      case rel =>
        refine ⟨k + 1, by omega, by go_num, Lib.hid ?_, HB4⟩
        have e1 : (s : Int) / 2 ^ (8 * k) % 256 = ((s / 2 ^ (8 * k) % 256 : Nat) : Int) := by push_cast; rfl
        have := HO4.out
        rw [e1] at this
        rw [le_succ, ← List.append_assoc, bv_append]
        exact this
      case measure => simp [intOf]; omega
    · have hk42 : k = 4 := by omega
      subst hk42
      have hby : ∀ x ∈ xs ++ le s 4, x < 256 := by
        intro x hx
        rcases List.mem_append.1 hx with g | g
        · exact HBX.out x g
        · exact le_byte s 4 x g
      obtain ⟨a', c', rfl, hba, hfa⟩ := BytesAt.ofOwn HO.out hby (by omega)
      have HBA := Lib.hid hba
      clear hba hby
      go_wp2_with fail
      go_ret
      refine ⟨a', c', rfl, ?_, HB.out, hfa, ?_⟩
      · unfold sealed
        rw [← HS.out]
        exact HBA.out
      · unfold sealed
        rw [← HS.out]
        exact HO.out
end Go.Proofs.YtbdgcfimbblncaaGreatDoor
end PkMR10_3
section PkMR10_4
/- Package crc's Open, walked, given what the table holds. Condition: at most 100,000 bytes. -/
namespace Go.Proofs.YtbdgcfimbblncaaGreatDoor
open Go.RowKit CrcPlain
set_option linter.unusedVariables false

set_option maxHeartbeats 400000 in
theorem equal_any {a a' : Option Addr} {n n' c c' : Nat} {xs ys : List Nat} {w : World} (hx : BytesAt w a n c xs) (hy : BytesAt w a' n' c' ys) :
    Calls Tryz.prog 90 #[.slice a n c, .slice a' n' c'] w fun e w' => e = .returned (.bool (xs == ys)) ∧ w = w' := by
  have h1 := hx.conv
  have h2 := hy.conv
  have he := bs_eq hx.byte hy.byte
  clear hx hy
  go_enter Tryz.func90, Tryz.ntmps90
  go_wp2
  go_ret
  exact ⟨by rw [← he]; rfl, rfl⟩

/-- what Open answers: the text, the error -/
def op (xs : List Nat) : List Nat × Nat :=
  if xs.length < 4 then ([], 3) else if sealed (xs.take (xs.length - 4)) = xs then (xs.take (xs.length - 4), 0) else ([], 6)

set_option maxRecDepth 100000 in
set_option maxHeartbeats 2000000 in
theorem open_any {w : World} (hT : Table w) {a : Option Addr} {n c : Nat} {xs : List Nat} (h : BytesAt w a n c xs) (hn : n ≤ 1000000) :
    Calls Tryz.prog 47 #[.slice a n c] w fun e w' => ∃ a' m' c', e = .returned (.tuple #[.slice a' m' c', .int .i64 ((op xs).2 : Int)]) ∧ BytesAt w' a' m' c' (op xs).1 ∧ Below w.heap.size w w' ∧ w'.ownsRow w.heap.size 5 1 (.slice a' m' c') m' (bv (op xs).1) := by
  have hlen := h.len
  have hempty : ∀ w, BytesAt w none 0 0 [] := fun w => BytesAt.empty w none 0 (by omega) (fun _ => rfl)
  have HEM := Lib.hid hempty
  have hcap := h.cap
  have hcm := h.capm
  have HL := Lib.hid hlen
  clear hempty hlen
  by_cases h4 : n < 4
  · have HO := Lib.hid (show op xs = ([], 3) by unfold op; rw [if_pos (by rw [HL.out]; exact h4)])
    have h4' : (n : Int) < 4 := by omega
    clear h hT
    go_enter Tryz.func47, Tryz.ntmps47
    go_wp2_with fail
    go_ret2
    rw [HO.out]
    exact ⟨none, 0, 0, rfl, HEM.out _, Below.refl _ _, own_nil_bytes _ _⟩
  · obtain ⟨m, rfl⟩ : ∃ m, n = m + 4 := ⟨n - 4, by omega⟩
    have e1 : IntKind.i64.wrap (((m + 4 : Nat) : Int) - 4) = (m : Int) := by rw [IntWalk.i64_in _ (by omega)]; omega
    have h4' : (4 : Int) ≤ ((m + 4 : Nat) : Int) := by omega
    have HC := Lib.hid (clone_own (h.upto m (by omega)))
    have HBY := Lib.hid (h.upto m (by omega)).byte
    have HH := Lib.hid h
    have HT := Lib.hid hT
    have ho : op xs = if sealed (xs.take m) = xs then (xs.take m, 0) else ([], 6) := by
      unfold op; rw [if_neg (by rw [HL.out]; omega), HL.out]; rfl
    have HO := Lib.hid ho
    clear h hT ho h4
    go_enter Tryz.func47, Tryz.ntmps47
    go_wp2_with fail
    refine HC.out.mono ?_
    rintro e w1 ⟨v1, rfl, hown1, hbel1⟩
    obtain ⟨a1, c1, rfl, hb1, _⟩ := BytesAt.ofOwn hown1 HBY.out (by omega)
    have HO1 := Lib.hid hown1
    have HB1 := Lib.hid hb1
    have HBE1 := Lib.hid hbel1
    have HS := Lib.hid (seal_any (HT.out.below hbel1) hb1 (by omega))
    clear hb1 hbel1 hown1
    go_wp2_with fail
    refine HS.out.mono ?_
    rintro e w2 ⟨a2, c2, rfl, hb2, hbel2, _⟩
    have HB2 := Lib.hid hb2
    have HBE2 := Lib.hid (HBE1.out.trans (hbel2.mono HBE1.out.size))
    have HB12 := Lib.hid (HB1.out.kept hbel2)
    have HO2 := Lib.hid (own_below HO1.out hbel2)
    clear hb2 hbel2
    go_wp2_with fail
    refine (equal_any HB2.out (HH.out.kept HBE2.out)).mono ?_
    rintro e w3 ⟨rfl, rfl⟩
    by_cases heq : sealed (xs.take m) = xs
    · have hv : (sealed (xs.take m) == xs) = true := by rw [heq]; exact beq_self_eq_true _
      rw [hv]
      have HV := Lib.hid (show op xs = (xs.take m, 0) by rw [HO.out, if_pos heq])
      clear heq hv
      go_wp2_with fail
      go_ret2
      rw [HV.out]
      exact ⟨a1, m, c1, rfl, HB12.out, HBE2.out, HO2.out⟩
    · have hv : (sealed (xs.take m) == xs) = false := by rw [beq_eq_false_iff_ne]; exact heq
      rw [hv]
      have HV := Lib.hid (show op xs = ([], 6) by rw [HO.out, if_neg heq])
      clear heq hv
      go_wp2_with fail
      go_ret2
      rw [HV.out]
      exact ⟨none, 0, 0, rfl, HEM.out _, HBE2.out, own_nil_bytes _ _⟩

theorem op_sealed (xs : List Nat) : op (sealed xs) = (xs, 0) := by
  have hl : (sealed xs).length = xs.length + 4 := by simp [sealed, le_len]
  have ht : (sealed xs).take ((sealed xs).length - 4) = xs := by
    rw [hl, show xs.length + 4 - 4 = xs.length from by omega]; simp [sealed]
  unfold op
  rw [if_neg (by omega), ht, if_pos rfl]
end Go.Proofs.YtbdgcfimbblncaaGreatDoor
end PkMR10_4
section PkMR10_5
/- Manifests: package manifest's Decode of any bytes, walked. Written by genmfd3.py. -/
namespace Go.Proofs.YtbdgcfimbblncaaGreatDoor
open Go.RowKit NumsPlain LabPlain CrcPlain
set_option linter.unusedVariables false

/-- what bytes say, by these limits -/
structure RdM where
  b : List Nat
  g : Nat
  c : Nat
  f : Nat
  ne : Nat
  le : List EntV
  nm : Nat
  lm : List (Int × Int)
  no : Nat
  lo : List (Int × Int × Int)
  st : Nat × Nat
def rdO (xs : List Nat) (mw k2 : Int) (b : List Nat) (g c f ne : Nat) (le : List EntV) (nm : Nat) (lm : List (Int × Int)) (s : Nat × Nat) : RdM :=
  ⟨b, g, c, f, ne, le, nm, lm, rN xs 8 s, vlK (fun s => owV xs k2 mw s) (fun s => owS xs k2 mw s) (rN xs 8 s) (sN xs 8 s), stK (fun s => owS xs k2 mw s) (rN xs 8 s) (sN xs 8 s)⟩
def rdMk (xs : List Nat) (mw k1 k2 : Int) (b : List Nat) (g c f ne : Nat) (le : List EntV) (s : Nat × Nat) : RdM :=
  rdO xs mw k2 b g c f ne le (rN xs 64 s) (vlK (fun s => mkV xs k1 mw s) (fun s => mkS xs k1 mw s) (rN xs 64 s) (sN xs 64 s)) (stK (fun s => mkS xs k1 mw s) (rN xs 64 s) (sN xs 64 s))
def rdE (xs : List Nat) (mw mr mz k1 k2 : Int) (b : List Nat) (g c f : Nat) (s : Nat × Nat) : RdM :=
  rdMk xs mw k1 k2 b g c f (rN xs 256 s) (vlK (fun s => enV xs mw mr mz s) (fun s => enS xs mw mr mz s) (rN xs 256 s) (sN xs 256 s)) (stK (fun s => enS xs mw mr mz s) (rN xs 256 s) (sN xs 256 s))
def rdM (xs : List Nat) (mw mr mz k1 k2 : Int) : RdM :=
  rdE xs mw mr mz k1 k2 (cb xs 0 0 5).1 (rN xs mw (cb xs 0 0 5).2) (rN xs mw (sN xs mw (cb xs 0 0 5).2)) (rN xs mw (sN xs mw (sN xs mw (cb xs 0 0 5).2))) (sN xs mw (sN xs mw (sN xs mw (cb xs 0 0 5).2)))
def hdB (b : List Nat) : Bool := (bs b).toList == [77, 65, 78, 73, 1]
/-- are they a manifest's? -/
def OkM (xs : List Nat) (r : RdM) : Prop := hdB r.b = true ∧ cend xs.length r.st.1 r.st.2 = 0 ∧ IsMan pfS r.g r.c r.f r.ne r.le r.nm r.lm r.no r.lo
def DecIs (xs : List Nat) (r : RdM) (er : Nat) (e : Ending) (w : World) : Prop :=
  (er ≠ 0 ∧ e = .returned (.tuple #[.agg #[.int .i64 0, .int .i64 0, .int .i64 0, .slice none 0 0, .slice none 0 0, .slice none 0 0], .int .i64 (er : Int)])) ∨
  (er = 0 ∧ ¬ OkM xs r ∧ e = .returned (.tuple #[.agg #[.int .i64 0, .int .i64 0, .int .i64 0, .slice none 0 0, .slice none 0 0, .slice none 0 0], .int .i64 4])) ∨
  (er = 0 ∧ OkM xs r ∧ ∃ ea ec ma mc oa oc, e = .returned (.tuple #[.agg #[.int .i64 (r.g : Int), .int .i64 (r.c : Int), .int .i64 (r.f : Int), .slice ea r.ne ec, .slice ma r.nm mc, .slice oa r.no oc], .int .i64 0]) ∧ VecAt EntS w ea r.ne ec r.le ∧ VecAt MarkS w ma r.nm mc r.lm ∧ VecAt OwnS w oa r.no oc r.lo)
theorem ct_most (xs : List Nat) (i e : Nat) {m : Nat} : (ct xs i e (m : Int)).1.length ≤ m := by
  have h1 : ((ccn xs i 0 (m : Int) 5).1 : Int) ≤ (m : Int) := ccn_le (by omega)
  unfold ct
  split
  · simp
  · split
    · simp
    · unfold cb
      split
      · simp
      · split
        · simp
        · simp only [List.length_take, Int.toNat_natCast]; omega
theorem en_sizes (xs : List Nat) (mw mr mz : Int) (s : Nat × Nat) : (enV xs mw mr mz s).key.size ≤ 40 ∧ (enV xs mw mr mz s).part.size ≤ 1024 := by
  refine ⟨?_, ?_⟩
  · show (bs (rT xs 40 s)).size ≤ _
    rw [bs_size9]
    exact ct_most (m := 40) xs s.1 s.2
  · show (bs (rT xs 1024 _)).size ≤ _
    rw [bs_size9]
    exact ct_most (m := 1024) xs _ _
theorem vlK_mem {α : Type} {v : Nat × Nat → α} {g : Nat × Nat → Nat × Nat} {s : Nat × Nat} : ∀ {k : Nat} {x : α}, x ∈ vlK v g k s → ∃ t, x = v t
  | 0, x, h => by cases h
  | k + 1, x, h => by
    rcases List.mem_append.1 h with q | q
    · exact vlK_mem q
    · exact ⟨_, List.mem_singleton.1 q⟩
theorem VecAt.drewN {α : Type} {S : Sty α} {w : World} {a : Option Addr} {n c : Nat} {l : List α} (h : VecAt S w a n c l) (k : Nat) : VecAt S (w.drewN k) a n c l := h.kept ⟨rfl, rfl, rfl, Nat.le_refl _, fun _ _ => rfl⟩
theorem Ob.of {B : Nat} {w w' : World} (h : w.grownBy w' (some B)) : Ob B w w' := ⟨h.size, fun k hk hn => h.block k hk (fun e => hn (by cases e; rfl))⟩

set_option maxRecDepth 100000 in
set_option maxHeartbeats 16000000 in
theorem mdecode_any {w : World} (hT : Table w) {mx : Int} (hmx : MaxAt mx w) {a : Option Addr} {n c : Nat} {ys : List Nat} (h : BytesAt w a n c ys) (hn : n ≤ 1000000) :
    Calls Tryz.prog 16 #[.slice a n c] w fun e w' => DecIs (op ys).1 (rdM (op ys).1 1099511627776 2048 262144 64 8) (op ys).2 e w' ∧ Below w.heap.size w w' := by
  obtain ⟨wa, hwa⟩ : ∃ wa, wa = w.alloc (.cells #[.int .i64 0, .int .i64 0, .int .i64 0, .slice none 0 0, .slice none 0 0, .slice none 0 0] 26) := ⟨_, rfl⟩
  have ba : Below w.heap.size w wa := by rw [hwa]; exact (Below.refl _ _).alloc (Nat.le_refl _) _
  have ga : wa.heap[w.heap.size]? = some (.cells #[.int .i64 0, .int .i64 0, .int .i64 0, .slice none 0 0, .slice none 0 0, .slice none 0 0] 26 (0, 0)) := by rw [hwa]; exact heap_alloc_new _ _
  have hop := open_any (hT.below ba) (h.kept ba) hn
  obtain ⟨xs, hxs⟩ : ∃ xs, xs = (op ys).1 := ⟨_, rfl⟩
  obtain ⟨er, her⟩ : ∃ er, er = (op ys).2 := ⟨_, rfl⟩
  have hop2 : Calls Tryz.prog 47 #[.slice a n c] wa fun e w' => ∃ a' m' c', e = .returned (.tuple #[.slice a' m' c', .int .i64 (er : Int)]) ∧ BytesAt w' a' m' c' xs ∧ Below wa.heap.size wa w' := by
    refine hop.mono ?_
    rintro e w' ⟨a', m', c', e1, e2, e3, _⟩
    rw [hxs, her]
    exact ⟨a', m', c', e1, e2, e3⟩
  rw [← hxs, ← her]
  have HOP := Lib.hid hop2
  have HX := Lib.hid hmx
  have HBA := Lib.hid ba
  have HGA := Lib.hid ga
  have HWA := Lib.hid hwa
  clear hT hmx h hn hwa ba ga hop hxs her hop2
  go_enter Tryz.func16, Tryz.ntmps16
  go_wp2_with fail
  rw [← HWA.out]
  refine HOP.out.mono ?_
  rintro e w1 ⟨a1, m1, c1, rfl, hb1, hbl1⟩
  have HB1 := Lib.hid (HBA.out.trans (hbl1.mono HBA.out.size))
  have HR1 := Lib.hid ((hbl1.block w.heap.size (Array.getElem?_eq_some_iff.1 HGA.out).1).trans HGA.out)
  have HLR := Lib.hid (Array.getElem?_eq_some_iff.1 HR1.out).1
  by_cases her : er = 0
  case neg =>
    have z0 : ((er : Int) != 0) = true := by rw [bne_iff_ne]; omega
    have HER := Lib.hid her
    clear hb1 hbl1 her
    have rx0 : w1.cell? ⟨w.heap.size, 0, none⟩ = some (.int .i64 0) := cell_blk HR1.out rfl
    have rxf0 : w1.frozen? ⟨w.heap.size, 0, none⟩ = false := fro_blk HR1.out 0
    have rx1 : w1.cell? ⟨w.heap.size, 1, none⟩ = some (.int .i64 0) := cell_blk HR1.out rfl
    have rxf1 : w1.frozen? ⟨w.heap.size, 1, none⟩ = false := fro_blk HR1.out 1
    have rx2 : w1.cell? ⟨w.heap.size, 2, none⟩ = some (.int .i64 0) := cell_blk HR1.out rfl
    have rxf2 : w1.frozen? ⟨w.heap.size, 2, none⟩ = false := fro_blk HR1.out 2
    have rx3 : w1.cell? ⟨w.heap.size, 3, none⟩ = some (.slice none 0 0) := cell_blk HR1.out rfl
    have rxf3 : w1.frozen? ⟨w.heap.size, 3, none⟩ = false := fro_blk HR1.out 3
    have rx4 : w1.cell? ⟨w.heap.size, 4, none⟩ = some (.slice none 0 0) := cell_blk HR1.out rfl
    have rxf4 : w1.frozen? ⟨w.heap.size, 4, none⟩ = false := fro_blk HR1.out 4
    have rx5 : w1.cell? ⟨w.heap.size, 5, none⟩ = some (.slice none 0 0) := cell_blk HR1.out rfl
    have rxf5 : w1.frozen? ⟨w.heap.size, 5, none⟩ = false := fro_blk HR1.out 5
    go_wp2_with fail
    have hr9 := set6 HR1.out (.int .i64 0) (.int .i64 0) (.int .i64 0) (.slice none 0 0) (.slice none 0 0) (.slice none 0 0)
    refine bodyPost_ret (ret_cell_tmp rfl _ _ w.heap.size 26 #[.int .i64 0, .int .i64 0, .int .i64 0, .slice none 0 0, .slice none 0 0, .slice none 0 0] _ _ rfl hr9 Tryz.underlying26 rfl (by kernel_rfl)) rfl ?_
    exact ⟨.inl ⟨HER.out, rfl⟩, below6 HB1.out (Nat.le_refl _) _ _ _ _ _ _⟩
  subst her
  have z0 : (((0 : Nat) : Int) != 0) = false := by decide
  have HNEW := Lib.hid (new_any hb1)
  have HXL := Lib.hid hb1.len
  have HREA := Lib.hid hb1.reach
  clear hb1 hbl1
  go_wp2_with fail
  refine HNEW.out.mono ?_
  rintro e w2 ⟨B, a2, c2, rfl, hc2, hb2, hB, _⟩
  have HB2 := Lib.hid (HB1.out.trans (hb2.mono HB1.out.size))
  have HR2 := Lib.hid ((hb2.block w.heap.size HLR.out).trans HR1.out)
  have HLO := Lib.hid hc2.lo
  have HBB := Lib.hid (show w.heap.size < B from by have := HLR.out; omega)
  have HCB := Lib.hid (cb_any hc2 5 (by decide) (by decide))
  clear hc2 hb2 hB
  go_wp2_with fail
  refine HCB.out.mono ?_
  rintro e w3 ⟨⟨a3, c3, rfl, hby⟩, hc3, hg3⟩
  obtain ⟨t0, ht0⟩ : ∃ t, t = cb xs 0 0 5 := ⟨_, rfl⟩
  rw [← ht0] at hby hc3 ⊢
  have hcv := hby.conv
  have HB3 := Lib.hid (HB2.out.grown hg3 HB2.out.size (fun k e => by cases e; exact Nat.le_of_lt HBB.out))
  have HR3 := Lib.hid ((hg3.block w.heap.size (Array.getElem?_eq_some_iff.1 HR2.out).1 (by intro e; cases e; exact absurd HBB.out (Nat.lt_irrefl _))).trans HR2.out)
  have HS3 := Lib.hid hg3.size
  obtain ⟨t1, ht1⟩ : ∃ t, t = ccn xs t0.2.1 t0.2.2 1099511627776 2 := ⟨_, rfl⟩
  have hn4 := cnum_any hc3 1099511627776 (by decide) (by decide)
  rw [← ht1] at hn4
  have HT0 := Lib.hid ht0
  have HN4 := Lib.hid hn4
  have HT1 := Lib.hid ht1
  clear hc3 hg3 hn4 ht1 hby ht0
  go_wp2_with fail
  clear hcv
  refine HN4.out.mono ?_
  rintro e w4 ⟨rfl, hc4, hg4⟩
  have HB4 := Lib.hid (HB3.out.grown hg4 HB3.out.size (fun k e => by cases e; exact Nat.le_of_lt HBB.out))
  have HR4 := Lib.hid ((hg4.block w.heap.size (Array.getElem?_eq_some_iff.1 HR3.out).1 (by intro e; cases e; exact absurd HBB.out (Nat.lt_irrefl _))).trans HR3.out)
  have HS4 := Lib.hid (Nat.le_trans HS3.out hg4.size)
  obtain ⟨t2, ht2⟩ : ∃ t, t = ccn xs t1.2.1 t1.2.2 1099511627776 2 := ⟨_, rfl⟩
  have hn5 := cnum_any hc4 1099511627776 (by decide) (by decide)
  rw [← ht2] at hn5
  have HN5 := Lib.hid hn5
  have HT2 := Lib.hid ht2
  clear hc4 hg4 hn5 ht2 
  go_wp2_with fail
  refine HN5.out.mono ?_
  rintro e w5 ⟨rfl, hc5, hg5⟩
  have HB5 := Lib.hid (HB4.out.grown hg5 HB4.out.size (fun k e => by cases e; exact Nat.le_of_lt HBB.out))
  have HR5 := Lib.hid ((hg5.block w.heap.size (Array.getElem?_eq_some_iff.1 HR4.out).1 (by intro e; cases e; exact absurd HBB.out (Nat.lt_irrefl _))).trans HR4.out)
  have HS5 := Lib.hid (Nat.le_trans HS4.out hg5.size)
  obtain ⟨t3, ht3⟩ : ∃ t, t = ccn xs t2.2.1 t2.2.2 1099511627776 2 := ⟨_, rfl⟩
  have hn6 := cnum_any hc5 1099511627776 (by decide) (by decide)
  rw [← ht3] at hn6
  have HN6 := Lib.hid hn6
  have HT3 := Lib.hid ht3
  clear hc5 hg5 hn6 ht3 
  go_wp2_with fail
  refine HN6.out.mono ?_
  rintro e w6 ⟨rfl, hc6, hg6⟩
  have HB6 := Lib.hid (HB5.out.grown hg6 HB5.out.size (fun k e => by cases e; exact Nat.le_of_lt HBB.out))
  have HR6 := Lib.hid ((hg6.block w.heap.size (Array.getElem?_eq_some_iff.1 HR5.out).1 (by intro e; cases e; exact absurd HBB.out (Nat.lt_irrefl _))).trans HR5.out)
  have HS6 := Lib.hid (Nat.le_trans HS5.out hg6.size)
  obtain ⟨X, hX⟩ : ∃ X, X = w6.heap.size := ⟨_, rfl⟩
  obtain ⟨wx, hwx⟩ : ∃ wx, wx = w6.alloc (.cells #[.int .i64 (t1.1 : Int), .int .i64 (t2.1 : Int), .int .i64 (t3.1 : Int), .slice none 0 0, .slice none 0 0, .slice none 0 0] 26) := ⟨_, rfl⟩
  have bx : Below w6.heap.size w6 wx := by rw [hwx]; exact (Below.refl _ _).alloc (Nat.le_refl _) _
  have HXX := Lib.hid (show wx.heap[X]? = some (.cells #[.int .i64 (t1.1 : Int), .int .i64 (t2.1 : Int), .int .i64 (t3.1 : Int), .slice none 0 0, .slice none 0 0, .slice none 0 0] 26 (0, 0)) from by rw [hwx, hX]; exact heap_alloc_new _ _)
  have HXB := Lib.hid (show w2.heap.size ≤ X ∧ w.heap.size < X ∧ B < X from by have h1 := HS6.out; have h2 := HLO.out.1; have h3 := HBB.out; omega)
  have HXS := Lib.hid (Array.getElem?_eq_some_iff.1 HXX.out).1
  have hcx := hc6.keptB bx
  have HBX := Lib.hid (HB6.out.trans (bx.mono HB6.out.size))
  have HRX := Lib.hid ((bx.block w.heap.size (Array.getElem?_eq_some_iff.1 HR6.out).1).trans HR6.out)
  have hE := eachE_any (e := t3.2.2) (i := t3.2.1) hcx
  have HEA := Lib.hid hE
  have HWX := Lib.hid hwx
  have HXE := Lib.hid hX
  clear hX hwx bx hc6 hg6 hcx hE
  go_wp2_with fail
  rw [← HWX.out, ← HXE.out]
  refine HEA.out.mono ?_
  rintro e v1 ⟨ea, ec, rfl, ho, hc, hg⟩
  obtain ⟨ne, hne⟩ : ∃ z, z = rN xs 256 (t3.2.1, t3.2.2) := ⟨_, rfl⟩
  obtain ⟨le, hle⟩ : ∃ z, z = vlK (fun s => enV xs 1099511627776 2048 262144 s) (fun s => enS xs 1099511627776 2048 262144 s) (rN xs 256 (t3.2.1, t3.2.2)) (sN xs 256 (t3.2.1, t3.2.2)) := ⟨_, rfl⟩
  obtain ⟨sE, hsE⟩ : ∃ z, z = stK (fun s => enS xs 1099511627776 2048 262144 s) (rN xs 256 (t3.2.1, t3.2.2)) (sN xs 256 (t3.2.1, t3.2.2)) := ⟨_, rfl⟩
  rw [← hle, ← hne] at ho
  rw [← hsE] at hc
  rw [← hne]
  have Hne := Lib.hid hne
  have Hle := Lib.hid hle
  have HsE := Lib.hid hsE
  have HLNE := Lib.hid (show le.length = ne from by rw [hle, vlK_len, hne])
  have HADE := Lib.hid (show ∀ b off s, ea = some ⟨b, off, s⟩ → b ≠ w.heap.size ∧ b ≠ X ∧ b ≠ B from fun b off s e => by have h1 := own_addr ho b off s e; have h2 := HXB.out; have h3 := HXS.out; omega)
  have hva := VecAt.ofOwn (S := EntS) ho HLNE.out (fun x hx => by rw [hle] at hx; obtain ⟨t, rfl⟩ := vlK_mem hx; exact enV_ok (by rw [HXL.out]; exact HREA.out))
  have HXV := Lib.hid ((hg.block X (Array.getElem?_eq_some_iff.1 HXX.out).1 (by intro e; cases e; exact absurd HXB.out.2.2 (Nat.lt_irrefl _))).trans HXX.out)
  have HBV := Lib.hid (HBX.out.grown hg HBX.out.size (fun k e => by cases e; exact Nat.le_of_lt HBB.out))
  have HRV := Lib.hid ((hg.block w.heap.size (Array.getElem?_eq_some_iff.1 HRX.out).1 (by intro e; cases e; exact absurd HBB.out (Nat.lt_irrefl _))).trans HRX.out)
  have HSVE := Lib.hid (Nat.le_trans (Nat.le_of_lt HXS.out) hg.size)
  have xc : v1.cell? ⟨X, 3, none⟩ = some (.slice none 0 0) := cell_blk HXV.out rfl
  have xf : v1.frozen? ⟨X, 3, none⟩ = false := fro_blk HXV.out 3
  obtain ⟨u1, hu⟩ : ∃ z, z = v1.setCell ⟨X, 3, none⟩ (.slice ea ne ec) := ⟨_, rfl⟩
  have HXU := Lib.hid (show u1.heap[X]? = some (.cells #[.int .i64 (t1.1 : Int), .int .i64 (t2.1 : Int), .int .i64 (t3.1 : Int), .slice ea ne ec, .slice none 0 0, .slice none 0 0] 26 (0, 0)) from by rw [hu]; exact heap_set HXV.out 3 _)
  have HCU := Lib.hid (show CurAt 123 u1 B a2 m1 c2 xs sE.1 sE.2 from by rw [hu]; exact hc.set (X := X) (j := 3) HLO.out HXB.out.1 _)
  have HBU := Lib.hid (show Below w.heap.size w u1 from by rw [hu]; exact HBV.out.setCell (p := ⟨X, 3, none⟩) (Nat.le_of_lt HXB.out.2.1) _)
  have HRU := Lib.hid (show u1.heap[w.heap.size]? = some (.cells #[.int .i64 0, .int .i64 0, .int .i64 0, .slice none 0 0, .slice none 0 0, .slice none 0 0] 26 (0, 0)) from by rw [hu]; exact (Below.heap_setCell _ ⟨X, 3, none⟩ _ w.heap.size (by show w.heap.size ≠ X; have := HXB.out; omega)).trans HRV.out)
  have HSUE := Lib.hid (show X < u1.heap.size from (Array.getElem?_eq_some_iff.1 HXU.out).1)
  have os : Ob X v1 u1 := by rw [hu]; exact Ob.set HXV.out _
  have HVE := Lib.hid (hva.ob os (fun _ h => h) (fun b off s e => (HADE.out b off s e).2.1))
  have hE := eachM_any HCU.out
  rw [hu] at hE
  have HMA := Lib.hid hE
  have HUE := Lib.hid hu
  clear hne hle hsE ho hc hg hva os hu hE HXV HBV HRV
  go_wp2_with fail
  clear xc xf
  refine HMA.out.mono ?_
  rintro e v2 ⟨ma, mc, rfl, ho, hc, hg⟩
  rw [← HUE.out] at ho hg
  obtain ⟨nm, hnm⟩ : ∃ z, z = rN xs 64 (sE.1, sE.2) := ⟨_, rfl⟩
  obtain ⟨lm, hlm⟩ : ∃ z, z = vlK (fun s => mkV xs 64 1099511627776 s) (fun s => mkS xs 64 1099511627776 s) (rN xs 64 (sE.1, sE.2)) (sN xs 64 (sE.1, sE.2)) := ⟨_, rfl⟩
  obtain ⟨sM, hsM⟩ : ∃ z, z = stK (fun s => mkS xs 64 1099511627776 s) (rN xs 64 (sE.1, sE.2)) (sN xs 64 (sE.1, sE.2)) := ⟨_, rfl⟩
  rw [← hlm, ← hnm] at ho
  rw [← hsM] at hc
  rw [← hnm]
  have Hnm := Lib.hid hnm
  have Hlm := Lib.hid hlm
  have HsM := Lib.hid hsM
  have HLNM := Lib.hid (show lm.length = nm from by rw [hlm, vlK_len, hnm])
  have HADM := Lib.hid (show ∀ b off s, ma = some ⟨b, off, s⟩ → b ≠ w.heap.size ∧ b ≠ X ∧ b ≠ B from fun b off s e => by have h1 := own_addr ho b off s e; have h2 := HXB.out; have h3 := HSUE.out; omega)
  have hva := VecAt.ofOwn (S := MarkS) ho HLNM.out (fun _ _ => trivial)
  have HXV := Lib.hid ((hg.block X (Array.getElem?_eq_some_iff.1 HXU.out).1 (by intro e; cases e; exact absurd HXB.out.2.2 (Nat.lt_irrefl _))).trans HXU.out)
  have HBV := Lib.hid (HBU.out.grown hg HBU.out.size (fun k e => by cases e; exact Nat.le_of_lt HBB.out))
  have HRV := Lib.hid ((hg.block w.heap.size (Array.getElem?_eq_some_iff.1 HRU.out).1 (by intro e; cases e; exact absurd HBB.out (Nat.lt_irrefl _))).trans HRU.out)
  have HSVM := Lib.hid (Nat.le_trans (Nat.le_of_lt HSUE.out) hg.size)
  have HVE := Lib.hid (HVE.out.ob (Ob.of hg) (fun _ h => h) (fun b off s e => (HADE.out b off s e).2.2))
  have xc : v2.cell? ⟨X, 4, none⟩ = some (.slice none 0 0) := cell_blk HXV.out rfl
  have xf : v2.frozen? ⟨X, 4, none⟩ = false := fro_blk HXV.out 4
  obtain ⟨u2, hu⟩ : ∃ z, z = v2.setCell ⟨X, 4, none⟩ (.slice ma nm mc) := ⟨_, rfl⟩
  have HXU := Lib.hid (show u2.heap[X]? = some (.cells #[.int .i64 (t1.1 : Int), .int .i64 (t2.1 : Int), .int .i64 (t3.1 : Int), .slice ea ne ec, .slice ma nm mc, .slice none 0 0] 26 (0, 0)) from by rw [hu]; exact heap_set HXV.out 4 _)
  have HCU := Lib.hid (show CurAt 123 u2 B a2 m1 c2 xs sM.1 sM.2 from by rw [hu]; exact hc.set (X := X) (j := 4) HLO.out HXB.out.1 _)
  have HBU := Lib.hid (show Below w.heap.size w u2 from by rw [hu]; exact HBV.out.setCell (p := ⟨X, 4, none⟩) (Nat.le_of_lt HXB.out.2.1) _)
  have HRU := Lib.hid (show u2.heap[w.heap.size]? = some (.cells #[.int .i64 0, .int .i64 0, .int .i64 0, .slice none 0 0, .slice none 0 0, .slice none 0 0] 26 (0, 0)) from by rw [hu]; exact (Below.heap_setCell _ ⟨X, 4, none⟩ _ w.heap.size (by show w.heap.size ≠ X; have := HXB.out; omega)).trans HRV.out)
  have HSUM := Lib.hid (show X < u2.heap.size from (Array.getElem?_eq_some_iff.1 HXU.out).1)
  have os : Ob X v2 u2 := by rw [hu]; exact Ob.set HXV.out _
  have HVM := Lib.hid (hva.ob os (fun _ h => h) (fun b off s e => (HADM.out b off s e).2.1))
  have HVE := Lib.hid (HVE.out.ob os (fun _ h => h) (fun b off s e => (HADE.out b off s e).2.1))
  have hE := eachO_any HCU.out
  rw [hu] at hE
  have HOA := Lib.hid hE
  have HUE := Lib.hid hu
  clear hnm hlm hsM ho hc hg hva os hu hE HXV HBV HRV
  go_wp2_with fail
  clear xc xf
  refine HOA.out.mono ?_
  rintro e v3 ⟨oa, oc, rfl, ho, hc, hg⟩
  rw [← HUE.out] at ho hg
  obtain ⟨no, hno⟩ : ∃ z, z = rN xs 8 (sM.1, sM.2) := ⟨_, rfl⟩
  obtain ⟨lo, hlo⟩ : ∃ z, z = vlK (fun s => owV xs 8 1099511627776 s) (fun s => owS xs 8 1099511627776 s) (rN xs 8 (sM.1, sM.2)) (sN xs 8 (sM.1, sM.2)) := ⟨_, rfl⟩
  obtain ⟨sO, hsO⟩ : ∃ z, z = stK (fun s => owS xs 8 1099511627776 s) (rN xs 8 (sM.1, sM.2)) (sN xs 8 (sM.1, sM.2)) := ⟨_, rfl⟩
  rw [← hlo, ← hno] at ho
  rw [← hsO] at hc
  rw [← hno]
  have Hno := Lib.hid hno
  have Hlo := Lib.hid hlo
  have HsO := Lib.hid hsO
  have HLNO := Lib.hid (show lo.length = no from by rw [hlo, vlK_len, hno])
  have HADO := Lib.hid (show ∀ b off s, oa = some ⟨b, off, s⟩ → b ≠ w.heap.size ∧ b ≠ X ∧ b ≠ B from fun b off s e => by have h1 := own_addr ho b off s e; have h2 := HXB.out; have h3 := HSUM.out; omega)
  have hva := VecAt.ofOwn (S := OwnS) ho HLNO.out (fun _ _ => trivial)
  have HXV := Lib.hid ((hg.block X (Array.getElem?_eq_some_iff.1 HXU.out).1 (by intro e; cases e; exact absurd HXB.out.2.2 (Nat.lt_irrefl _))).trans HXU.out)
  have HBV := Lib.hid (HBU.out.grown hg HBU.out.size (fun k e => by cases e; exact Nat.le_of_lt HBB.out))
  have HRV := Lib.hid ((hg.block w.heap.size (Array.getElem?_eq_some_iff.1 HRU.out).1 (by intro e; cases e; exact absurd HBB.out (Nat.lt_irrefl _))).trans HRU.out)
  have HSVO := Lib.hid (Nat.le_trans (Nat.le_of_lt HSUM.out) hg.size)
  have HVE := Lib.hid (HVE.out.ob (Ob.of hg) (fun _ h => h) (fun b off s e => (HADE.out b off s e).2.2))
  have HVM := Lib.hid (HVM.out.ob (Ob.of hg) (fun _ h => h) (fun b off s e => (HADM.out b off s e).2.2))
  have xc : v3.cell? ⟨X, 5, none⟩ = some (.slice none 0 0) := cell_blk HXV.out rfl
  have xf : v3.frozen? ⟨X, 5, none⟩ = false := fro_blk HXV.out 5
  obtain ⟨u3, hu⟩ : ∃ z, z = v3.setCell ⟨X, 5, none⟩ (.slice oa no oc) := ⟨_, rfl⟩
  have HXU := Lib.hid (show u3.heap[X]? = some (.cells #[.int .i64 (t1.1 : Int), .int .i64 (t2.1 : Int), .int .i64 (t3.1 : Int), .slice ea ne ec, .slice ma nm mc, .slice oa no oc] 26 (0, 0)) from by rw [hu]; exact heap_set HXV.out 5 _)
  have HCU := Lib.hid (show CurAt 123 u3 B a2 m1 c2 xs sO.1 sO.2 from by rw [hu]; exact hc.set (X := X) (j := 5) HLO.out HXB.out.1 _)
  have HBU := Lib.hid (show Below w.heap.size w u3 from by rw [hu]; exact HBV.out.setCell (p := ⟨X, 5, none⟩) (Nat.le_of_lt HXB.out.2.1) _)
  have HRU := Lib.hid (show u3.heap[w.heap.size]? = some (.cells #[.int .i64 0, .int .i64 0, .int .i64 0, .slice none 0 0, .slice none 0 0, .slice none 0 0] 26 (0, 0)) from by rw [hu]; exact (Below.heap_setCell _ ⟨X, 5, none⟩ _ w.heap.size (by show w.heap.size ≠ X; have := HXB.out; omega)).trans HRV.out)
  have HSUO := Lib.hid (show X < u3.heap.size from (Array.getElem?_eq_some_iff.1 HXU.out).1)
  have os : Ob X v3 u3 := by rw [hu]; exact Ob.set HXV.out _
  have HVO := Lib.hid (hva.ob os (fun _ h => h) (fun b off s e => (HADO.out b off s e).2.1))
  have HVE := Lib.hid (HVE.out.ob os (fun _ h => h) (fun b off s e => (HADE.out b off s e).2.1))
  have HVM := Lib.hid (HVM.out.ob os (fun _ h => h) (fun b off s e => (HADM.out b off s e).2.1))
  have HRD := Lib.hid (show rdM xs 1099511627776 2048 262144 64 8 = ⟨t0.1, t1.1, t2.1, t3.1, ne, le, nm, lm, no, lo, sO⟩ from by
    unfold rdM rdE rdMk rdO
    rw [hno, hlo, hsO, Hnm.out, Hlm.out, HsM.out, Hne.out, Hle.out, HsE.out, HT3.out, HT2.out, HT1.out, HT0.out]
    rfl)
  have hcu := HCU.out
  have HEND := Lib.hid (show Calls Tryz.prog 57 #[.pointer (some ⟨B, 0, none⟩)] (v3.setCell ⟨X, 5, none⟩ (.slice oa no oc)) fun r w' => r = .returned (.int .i64 (cend m1 sO.1 sO.2 : Int)) ∧ ∃ q, w' = (v3.setCell ⟨X, 5, none⟩ (.slice oa no oc)).drewN q from by rw [← hu]; exact end_any hcu)
  obtain ⟨ce, hce⟩ : ∃ ce, ce = cend m1 sO.1 sO.2 := ⟨_, rfl⟩
  rw [← hce] at HEND
  have HCE := Lib.hid (show cend xs.length sO.1 sO.2 = ce from by rw [HXL.out]; exact hce.symm)
  have HUE := Lib.hid hu
  have HPS := Lib.hid (show ∀ x ∈ le, x.part.size ≤ 1300 from fun x hx => by
    rw [Hle.out] at hx
    obtain ⟨t, rfl⟩ := vlK_mem hx
    have := (en_sizes xs 1099511627776 2048 262144 t).2
    omega)
  have HMX := Lib.hid (HX.out.below HBU.out)
  have HRV3 := HRV
  clear hno hlo hsO ho hc hg hva os hu hcu hce HXV HBV HRV
  cases hh : hdB t0.1 with
  | false =>
    have z1 : ((bs t0.1).toList == [77, 65, 78, 73, 1]) = false := hh
    have z1b : ¬ (bs t0.1).toList = [77, 65, 78, 73, 1] := fun e => by unfold hdB at hh; rw [e] at hh; cases hh
    have z1c : ((bs t0.1).toList == (⟨#[77, 65, 78, 73, 1]⟩ : ByteArray).toList) = false := by rw [show (⟨#[77, 65, 78, 73, 1]⟩ : ByteArray).toList = [77, 65, 78, 73, 1] from by rw [ByteArray.toList_eq]]; exact hh
    have HNO := Lib.hid (show ¬ OkM xs (rdM xs 1099511627776 2048 262144 64 8) from fun q => by have h1 := q.1; rw [HRD.out] at h1; rw [hh] at h1; cases h1)
    have HRZ := Lib.hid HRU.out
    rw [HUE.out] at HRZ
    have HBZ := Lib.hid HBU.out
    rw [HUE.out] at HBZ
    clear hh
    have hrx : w.heap.size ≠ X := by have := HXB.out; omega
    have rx0 : v3.cell? ⟨w.heap.size, 0, none⟩ = some (.int .i64 0) := cell_blk HRV3.out rfl
    have rxf0 : v3.frozen? ⟨w.heap.size, 0, none⟩ = false := fro_blk HRV3.out 0
    have rx1 : v3.cell? ⟨w.heap.size, 1, none⟩ = some (.int .i64 0) := cell_blk HRV3.out rfl
    have rxf1 : v3.frozen? ⟨w.heap.size, 1, none⟩ = false := fro_blk HRV3.out 1
    have rx2 : v3.cell? ⟨w.heap.size, 2, none⟩ = some (.int .i64 0) := cell_blk HRV3.out rfl
    have rxf2 : v3.frozen? ⟨w.heap.size, 2, none⟩ = false := fro_blk HRV3.out 2
    have rx3 : v3.cell? ⟨w.heap.size, 3, none⟩ = some (.slice none 0 0) := cell_blk HRV3.out rfl
    have rxf3 : v3.frozen? ⟨w.heap.size, 3, none⟩ = false := fro_blk HRV3.out 3
    have rx4 : v3.cell? ⟨w.heap.size, 4, none⟩ = some (.slice none 0 0) := cell_blk HRV3.out rfl
    have rxf4 : v3.frozen? ⟨w.heap.size, 4, none⟩ = false := fro_blk HRV3.out 4
    have rx5 : v3.cell? ⟨w.heap.size, 5, none⟩ = some (.slice none 0 0) := cell_blk HRV3.out rfl
    have rxf5 : v3.frozen? ⟨w.heap.size, 5, none⟩ = false := fro_blk HRV3.out 5
    go_wp2_with fail
    have hr9 := set6 HRZ.out (.int .i64 0) (.int .i64 0) (.int .i64 0) (.slice none 0 0) (.slice none 0 0) (.slice none 0 0)
    refine bodyPost_ret (ret_cell_tmp rfl _ _ w.heap.size 26 #[.int .i64 0, .int .i64 0, .int .i64 0, .slice none 0 0, .slice none 0 0, .slice none 0 0] _ _ rfl hr9 Tryz.underlying26 rfl (by kernel_rfl)) rfl ?_
    exact ⟨.inr (.inl ⟨rfl, HNO.out, rfl⟩), below6 HBZ.out (Nat.le_refl _) _ _ _ _ _ _⟩
  | true =>
  have z1b : (bs t0.1).toList = [77, 65, 78, 73, 1] := by unfold hdB at hh; rw [beq_iff_eq] at hh; exact hh
  have z1 : ((bs t0.1).toList == [77, 65, 78, 73, 1]) = true := hh
  have z1c : ((bs t0.1).toList == (⟨#[77, 65, 78, 73, 1]⟩ : ByteArray).toList) = true := by rw [show (⟨#[77, 65, 78, 73, 1]⟩ : ByteArray).toList = [77, 65, 78, 73, 1] from by rw [ByteArray.toList_eq]]; exact hh
  have HHH := Lib.hid hh
  clear hh
  go_wp2_with fail
  clear xc xf
  refine HEND.out.mono ?_
  rintro e w9 ⟨rfl, qq, hw9⟩
  rw [← HUE.out] at hw9
  have hd9 : Below u3.heap.size u3 w9 := by rw [hw9]; exact ⟨rfl, rfl, rfl, Nat.le_refl _, fun _ _ => rfl⟩
  have HX9 := Lib.hid ((hd9.block X HSUO.out).trans HXU.out)
  have HB9 := Lib.hid (HBU.out.trans (hd9.mono HBU.out.size))
  have HR9 := Lib.hid ((hd9.block w.heap.size (Array.getElem?_eq_some_iff.1 HRU.out).1).trans HRU.out)
  have HVE9 := Lib.hid (HVE.out.kept hd9)
  have HVM9 := Lib.hid (HVM.out.kept hd9)
  have HVO9 := Lib.hid (HVO.out.kept hd9)
  have HS9 := Lib.hid (Nat.lt_of_lt_of_le HSUO.out hd9.size)
  clear hw9 hd9
  by_cases hz9 : ce = 0
  case neg =>
    have z2 : ((ce : Int) != 0) = true := by rw [bne_iff_ne]; omega
    have HNO := Lib.hid (show ¬ OkM xs (rdM xs 1099511627776 2048 262144 64 8) from fun q => by have h1 := q.2.1; rw [HRD.out, HCE.out] at h1; exact hz9 h1)
    clear hz9
    have rx0 : w9.cell? ⟨w.heap.size, 0, none⟩ = some (.int .i64 0) := cell_blk HR9.out rfl
    have rxf0 : w9.frozen? ⟨w.heap.size, 0, none⟩ = false := fro_blk HR9.out 0
    have rx1 : w9.cell? ⟨w.heap.size, 1, none⟩ = some (.int .i64 0) := cell_blk HR9.out rfl
    have rxf1 : w9.frozen? ⟨w.heap.size, 1, none⟩ = false := fro_blk HR9.out 1
    have rx2 : w9.cell? ⟨w.heap.size, 2, none⟩ = some (.int .i64 0) := cell_blk HR9.out rfl
    have rxf2 : w9.frozen? ⟨w.heap.size, 2, none⟩ = false := fro_blk HR9.out 2
    have rx3 : w9.cell? ⟨w.heap.size, 3, none⟩ = some (.slice none 0 0) := cell_blk HR9.out rfl
    have rxf3 : w9.frozen? ⟨w.heap.size, 3, none⟩ = false := fro_blk HR9.out 3
    have rx4 : w9.cell? ⟨w.heap.size, 4, none⟩ = some (.slice none 0 0) := cell_blk HR9.out rfl
    have rxf4 : w9.frozen? ⟨w.heap.size, 4, none⟩ = false := fro_blk HR9.out 4
    have rx5 : w9.cell? ⟨w.heap.size, 5, none⟩ = some (.slice none 0 0) := cell_blk HR9.out rfl
    have rxf5 : w9.frozen? ⟨w.heap.size, 5, none⟩ = false := fro_blk HR9.out 5
    go_wp2_with fail
    have hr9 := set6 HR9.out (.int .i64 0) (.int .i64 0) (.int .i64 0) (.slice none 0 0) (.slice none 0 0) (.slice none 0 0)
    refine bodyPost_ret (ret_cell_tmp rfl _ _ w.heap.size 26 #[.int .i64 0, .int .i64 0, .int .i64 0, .slice none 0 0, .slice none 0 0, .slice none 0 0] _ _ rfl hr9 Tryz.underlying26 rfl (by kernel_rfl)) rfl ?_
    exact ⟨.inr (.inl ⟨rfl, HNO.out, rfl⟩), below6 HB9.out (Nat.le_refl _) _ _ _ _ _ _⟩
  subst hz9
  have z2 : (((0 : Nat) : Int) != 0) = false := by decide
  have p0 : w9.cell? ⟨X, 0, none⟩ = some (.int .i64 (t1.1 : Int)) := cell_blk HX9.out rfl
  have p1 : w9.cell? ⟨X, 1, none⟩ = some (.int .i64 (t2.1 : Int)) := cell_blk HX9.out rfl
  have p2 : w9.cell? ⟨X, 2, none⟩ = some (.int .i64 (t3.1 : Int)) := cell_blk HX9.out rfl
  have p3 : w9.cell? ⟨X, 3, none⟩ = some (.slice ea ne ec) := cell_blk HX9.out rfl
  have p4 : w9.cell? ⟨X, 4, none⟩ = some (.slice ma nm mc) := cell_blk HX9.out rfl
  have p5 : w9.cell? ⟨X, 5, none⟩ = some (.slice oa no oc) := cell_blk HX9.out rfl
  have HMR := Lib.hid (mright_any pfS HVE9.out HVM9.out HVO9.out (s := (t1.1 : Int)) (d := (t2.1 : Int)) (hz := (t3.1 : Int)) (par_any (HX.out.below HB9.out) HPS.out))
  go_wp2_with fail
  refine HMR.out.mono ?_
  rintro e w10 ⟨⟨b9, rfl, hb9⟩, hd10⟩
  have HX10 := Lib.hid ((hd10.block X HS9.out).trans HX9.out)
  have HB10 := Lib.hid (HB9.out.trans (hd10.mono HB9.out.size))
  have HR10 := Lib.hid ((hd10.block w.heap.size (Array.getElem?_eq_some_iff.1 HR9.out).1).trans HR9.out)
  have HVE10 := Lib.hid (HVE9.out.kept hd10)
  have HVM10 := Lib.hid (HVM9.out.kept hd10)
  have HVO10 := Lib.hid (HVO9.out.kept hd10)
  have HB9' := Lib.hid hb9
  clear hd10 hb9 p0 p1 p2 p3 p4 p5
  have rx0 : w10.cell? ⟨w.heap.size, 0, none⟩ = some (.int .i64 0) := cell_blk HR10.out rfl
  have rxf0 : w10.frozen? ⟨w.heap.size, 0, none⟩ = false := fro_blk HR10.out 0
  have rx1 : w10.cell? ⟨w.heap.size, 1, none⟩ = some (.int .i64 0) := cell_blk HR10.out rfl
  have rxf1 : w10.frozen? ⟨w.heap.size, 1, none⟩ = false := fro_blk HR10.out 1
  have rx2 : w10.cell? ⟨w.heap.size, 2, none⟩ = some (.int .i64 0) := cell_blk HR10.out rfl
  have rxf2 : w10.frozen? ⟨w.heap.size, 2, none⟩ = false := fro_blk HR10.out 2
  have rx3 : w10.cell? ⟨w.heap.size, 3, none⟩ = some (.slice none 0 0) := cell_blk HR10.out rfl
  have rxf3 : w10.frozen? ⟨w.heap.size, 3, none⟩ = false := fro_blk HR10.out 3
  have rx4 : w10.cell? ⟨w.heap.size, 4, none⟩ = some (.slice none 0 0) := cell_blk HR10.out rfl
  have rxf4 : w10.frozen? ⟨w.heap.size, 4, none⟩ = false := fro_blk HR10.out 4
  have rx5 : w10.cell? ⟨w.heap.size, 5, none⟩ = some (.slice none 0 0) := cell_blk HR10.out rfl
  have rxf5 : w10.frozen? ⟨w.heap.size, 5, none⟩ = false := fro_blk HR10.out 5
  cases b9 with
  | false =>
    have HNO := Lib.hid (show ¬ OkM xs (rdM xs 1099511627776 2048 262144 64 8) from fun q => by have h1 := q.2.2; rw [HRD.out] at h1; have := HB9'.out.2 h1; cases this)
    go_wp2_with fail
    have hr9 := set6 HR10.out (.int .i64 0) (.int .i64 0) (.int .i64 0) (.slice none 0 0) (.slice none 0 0) (.slice none 0 0)
    refine bodyPost_ret (ret_cell_tmp rfl _ _ w.heap.size 26 #[.int .i64 0, .int .i64 0, .int .i64 0, .slice none 0 0, .slice none 0 0, .slice none 0 0] _ _ rfl hr9 Tryz.underlying26 rfl (by kernel_rfl)) rfl ?_
    exact ⟨.inr (.inl ⟨rfl, HNO.out, rfl⟩), below6 HB10.out (Nat.le_refl _) _ _ _ _ _ _⟩
  | true =>
    have HOKM := Lib.hid (show OkM xs (rdM xs 1099511627776 2048 262144 64 8) from by
      unfold OkM
      rw [HRD.out]
      exact ⟨HHH.out, HCE.out, HB9'.out.1 (by first | rfl | trivial)⟩)
    have p0 : w10.cell? ⟨X, 0, none⟩ = some (.int .i64 (t1.1 : Int)) := cell_blk HX10.out rfl
    have p1 : w10.cell? ⟨X, 1, none⟩ = some (.int .i64 (t2.1 : Int)) := cell_blk HX10.out rfl
    have p2 : w10.cell? ⟨X, 2, none⟩ = some (.int .i64 (t3.1 : Int)) := cell_blk HX10.out rfl
    have p3 : w10.cell? ⟨X, 3, none⟩ = some (.slice ea ne ec) := cell_blk HX10.out rfl
    have p4 : w10.cell? ⟨X, 4, none⟩ = some (.slice ma nm mc) := cell_blk HX10.out rfl
    have p5 : w10.cell? ⟨X, 5, none⟩ = some (.slice oa no oc) := cell_blk HX10.out rfl
    have hrx : w.heap.size ≠ X := by have := HXB.out; omega
    go_wp2_with fail
    have hr9 := set6 HR10.out (.int .i64 (t1.1 : Int)) (.int .i64 (t2.1 : Int)) (.int .i64 (t3.1 : Int)) (.slice ea ne ec) (.slice ma nm mc) (.slice oa no oc)
    refine bodyPost_ret (ret_cell_tmp rfl _ _ w.heap.size 26 #[.int .i64 (t1.1 : Int), .int .i64 (t2.1 : Int), .int .i64 (t3.1 : Int), .slice ea ne ec, .slice ma nm mc, .slice oa no oc] _ _ rfl hr9 Tryz.underlying26 rfl (by kernel_rfl)) rfl ?_
    refine ⟨.inr (.inr ⟨rfl, HOKM.out, ?_⟩), below6 HB10.out (Nat.le_refl _) _ _ _ _ _ _⟩
    rw [HRD.out]
    exact ⟨ea, ec, ma, mc, oa, oc, rfl, vec6o HVE10.out (fun _ _ _ h => h) (fun b off s e => (HADE.out b off s e).1) _ _ _ _ _ _, vec6o HVM10.out (fun _ _ _ h => h) (fun b off s e => (HADM.out b off s e).1) _ _ _ _ _ _, vec6o HVO10.out (fun _ _ _ h => h) (fun b off s e => (HADO.out b off s e).1) _ _ _ _ _ _⟩
end Go.Proofs.YtbdgcfimbblncaaGreatDoor
end PkMR10_5

/- Texts put together by packtpl2.py: LabRP, MfPf, CrcOpen, MfD3, MfBP. -/
import Derived.Test.YtbdgcfimbblncaaGreatDoorPkMB1
import Derived.Test.YtbdgcfimbblncaaGreatDoorPkMB3
import Derived.Test.YtbdgcfimbblncaaGreatDoorPkMB5
import Derived.Test.YtbdgcfimbblncaaGreatDoorPkMB6
section PkMB7_0
/- Put together out of XLabRead, XLabRParse. -/
section SecLabRP0
/- The reference's read, walked. -/
namespace Go.Proofs.YtbdgcfimbblncaaGreatDoor
open Go.RowKit LabPlain
set_option linter.unusedVariables false

theorem ext_toList (s : ByteArray) (a b : Nat) : (s.extract a b).toList = ((tb s).drop a).take (b - a) := Lib.extract_toList s a b
theorem bs_toL (xs : List Nat) : (bs xs).toList = xs.map UInt8.ofNat := by rw [show (bs xs).toList = tb (bs xs) from ByteArray.toList_eq _, tb_bs]
def rdp (l : List UInt8) (x : Nat) : Bool := decide ((qb x).length = 3) && decide (l.take 3 = (qb x).map UInt8.ofNat)
theorem rd_bs {l r : List UInt8} (h : l = 92 :: r) : rd l = ((List.range 256).find? (rdp l)).map fun x => (UInt8.ofNat x, 3) := by
  rw [h, rd_cons, if_pos rfl]; rfl
/-- what read answers -/
def rdN (l : List UInt8) : Nat × Nat := match rd l with
  | none => (0, 0)
  | some (c, n) => (c.toNat, n)

set_option maxRecDepth 100000 in
set_option maxHeartbeats 2000000 in
theorem read_any (s : ByteArray) (hs : s.size ≤ 1300) (k : Nat) (hk : k < s.size) (w : World) :
    Calls Tryz.prog 112 #[.string s, .int .i64 (k : Int)] w fun e w' => e = .returned (.tuple #[.int .u8 ((rdN ((tb s).drop k)).1 : Int), .int .i64 ((rdN ((tb s).drop k)).2 : Int)]) ∧ Below w.heap.size w w' := by
  obtain ⟨c, hc⟩ : ∃ c : Nat, c = (s[k]'hk).toNat := ⟨_, rfl⟩
  have hsk : (s[k]'hk).toNat = c := hc.symm
  have hcl : c < 256 := by rw [hc]; exact UInt8.toNat_lt _
  have hk2 : k < (tb s).length := by rw [tb_len]; exact hk
  have hd : (tb s).drop k = (s[k]'hk) :: (tb s).drop (k + 1) := by rw [List.drop_eq_getElem_cons hk2]; rfl
  have hki : (k : Int) < (s.size : Int) := by omega
  have hk0 : (0 : Int) ≤ (k : Int) := by omega
  have hk1 : (k : Int) + 1 ≤ (s.size : Int) := by omega
  have HC := Lib.hid hc
  have HD := Lib.hid hd
  by_cases h92 : c = 92
  · have hq : ((c : Int) != 92) = false := by simp [h92]
    have e92 : (s[k]'hk) = 92 := UInt8.toNat_inj.1 (by rw [← hc, h92]; rfl)
    have HRD := Lib.hid (rd_bs (l := (tb s).drop k) (r := (tb s).drop (k + 1)) (by rw [hd, e92]))
    have hdl : ((tb s).drop k).length = s.size - k := by rw [List.length_drop, tb_len]
    have HDL := Lib.hid hdl
    clear hc hd h92 e92 hk2 hdl
    go_enter Tryz.func112, Tryz.ntmps112
    go_wp2_with fail
    go_loopw [6] (fun s6 wr => ∃ x : Nat, x ≤ 256 ∧ s6 = .int .i64 (x : Int) ∧ Hid (∀ y, y < x → rdp ((tb s).drop k) y = false) ∧ Hid (Below w.heap.size w wr)) (fun s6 _ => 256 - (intOf s6).toNat)
    case atStart => exact ⟨0, by omega, rfl, Lib.hid (fun y hy => absurd hy (Nat.not_lt_zero _)), Lib.hid (Below.refl _ _)⟩
    case round =>
      obtain ⟨x, hx, rfl, HU, HB⟩ := hrel
      rename World => wr
      by_cases hx2 : x < 256
      · have hxi : (x : Int) < 256 := by omega
        have hx0 : (0 : Int) ≤ (x : Int) := by omega
        have hxm : (x : Int) % 256 = (x : Int) := by omega
        obtain ⟨q, hqe⟩ : ∃ q, q = bs (qb x) := ⟨_, rfl⟩
        have hqs : q.size = (qb x).length := by rw [hqe, bs_size]
        have hql : q.toList = (qb x).map UInt8.ofNat := by rw [hqe, bs_toL]
        have hby := byte_any x hx2 wr
        rw [← hqe] at hby
        have HBY := Lib.hid hby
        have HQL := Lib.hid hql
        have step : ∀ b, rdp ((tb s).drop k) x = b → b = false → ∀ y, y < x + 1 → rdp ((tb s).drop k) y = false := fun b hb hf y hy => by
          rcases Nat.lt_or_ge y x with g | g
          · exact HU.out y g
          · obtain rfl : y = x := by omega
            rw [hb, hf]
        clear hqe hby hql
        by_cases h3 : (qb x).length = 3
        · have hq3 : q.size = 3 := by omega
          have hqi : ((q.size : Int) == 3) = true := by rw [hq3]; rfl
          by_cases hr : k + 3 ≤ s.size
          · have hri : (3 : Int) ≤ (s.size : Int) - (k : Int) := by omega
            have hk3 : (k : Int) + 3 ≤ (s.size : Int) := by omega
            have hcmp : ((s.extract k (k + 3)).toList == q.toList) = rdp ((tb s).drop k) x := by
              rw [ext_toList, HQL.out, show k + 3 - k = 3 by omega]
              unfold rdp
              rw [decide_eq_true h3, Bool.true_and]
              by_cases hh : ((tb s).drop k).take 3 = (qb x).map UInt8.ofNat
              · rw [decide_eq_true hh, beq_iff_eq]; exact hh
              · rw [decide_eq_false hh, beq_eq_false_iff_ne]; exact hh
            cases hp : rdp ((tb s).drop k) x with
            | true =>
              rw [hp] at hcmp
              have HR := Lib.hid (show rdN ((tb s).drop k) = (x, 3) by
                have hf : (List.range 256).find? (rdp ((tb s).drop k)) = some x := List.find?_range_eq_some.2 ⟨hp, List.mem_range.2 hx2, fun j hj => by rw [HU.out j hj]; rfl⟩
                unfold rdN
                rw [HRD.out, hf]
                show ((UInt8.ofNat x).toNat, 3) = _
                rw [UInt8.toNat_ofNat', Nat.mod_eq_of_lt hx2])
              clear hqs hq3 h3 hr hp step
              go_wp2_with fail
              refine HBY.out.mono ?_
              rintro e w2 ⟨rfl, hb2⟩
              have HB2 := Lib.hid (HB.out.trans (hb2.mono HB.out.size))
              clear hb2
              go_wp2_with fail
              go_ret2
              rw [HR.out]; exact ⟨rfl, HB2.out⟩
            | false =>
              rw [hp] at hcmp
              have HU2 := Lib.hid (step _ hp rfl)
              clear hqs hq3 h3 hr hp step
              go_wp2_with fail
              refine HBY.out.mono ?_
              rintro e w2 ⟨rfl, hb2⟩
              have HB2 := Lib.hid (HB.out.trans (hb2.mono HB.out.size))
              clear hb2
              go_wp2_with fail
              go_roundw
              case rel => exact ⟨x + 1, by omega, by go_num, HU2, HB2⟩
              case measure => simp [intOf] <;> omega
          · have hri : (s.size : Int) - (k : Int) < 3 := by omega
            have HU2 := Lib.hid (step false (by
              unfold rdp
              rw [decide_eq_true h3, Bool.true_and, decide_eq_false]
              intro e
              have e2 := congrArg List.length e
              rw [List.length_take, List.length_map, h3, HDL.out] at e2
              omega) rfl)
            clear hqs hq3 h3 hr step
            go_wp2_with fail
            refine HBY.out.mono ?_
            rintro e w2 ⟨rfl, hb2⟩
            have HB2 := Lib.hid (HB.out.trans (hb2.mono HB.out.size))
            clear hb2
            go_wp2_with fail
            go_roundw
            case rel => exact ⟨x + 1, by omega, by go_num, HU2, HB2⟩
            case measure => simp [intOf] <;> omega
        · have hqi : ((q.size : Int) == 3) = false := by rw [beq_eq_false_iff_ne]; omega
          have HU2 := Lib.hid (step false (by unfold rdp; rw [decide_eq_false h3, Bool.false_and]) rfl)
          clear hqs h3 step
          go_wp2_with fail
          refine HBY.out.mono ?_
          rintro e w2 ⟨rfl, hb2⟩
          have HB2 := Lib.hid (HB.out.trans (hb2.mono HB.out.size))
          clear hb2
          go_wp2_with fail
          go_roundw
          case rel => exact ⟨x + 1, by omega, by go_num, HU2, HB2⟩
          case measure => simp [intOf] <;> omega
      · obtain rfl : x = 256 := by omega
        have HR := Lib.hid (show rdN ((tb s).drop k) = (0, 0) by
          have hf : (List.range 256).find? (rdp ((tb s).drop k)) = none := List.find?_range_eq_none.2 fun j hj => by rw [HU.out j hj]; rfl
          unfold rdN
          rw [HRD.out, hf]; rfl)
        clear hx2
        go_wp2_with fail
        go_ret2
        rw [HR.out]; exact ⟨rfl, HB.out⟩
  · have hq : ((c : Int) != 92) = true := by rw [bne_iff_ne]; omega
    obtain ⟨q, hqe⟩ : ∃ q, q = bs (qb c) := ⟨_, rfl⟩
    have hby := fun w1 => byte_any c hcl w1
    rw [← hqe] at hby
    have HBY := Lib.hid hby
    have hne : (s[k]'hk) ≠ 92 := fun e => h92 (by rw [hc, e]; rfl)
    have hcmp : (q.toList == (s.extract k (k + 1)).toList) = plainC c := by
      rw [ext_toList, hqe, bs_toL, show k + 1 - k = 1 by omega, hd, List.take_succ_cons, List.take_zero]
      cases hp : plainC c with
      | true =>
        have : (qb c).map UInt8.ofNat = [s[k]'hk] := by unfold qb; rw [if_pos hp, hc]; simp
        rw [this]; simp
      | false =>
        have : (qb c).length = 3 := by unfold qb; rw [if_neg (by simp [hp])]; rfl
        rw [beq_eq_false_iff_ne]
        intro e
        have e2 := congrArg List.length e
        rw [List.length_map, this] at e2
        simp at e2
    have hrd : rd ((tb s).drop k) = if plainC c then some (s[k]'hk, 1) else none := by rw [hd, rd_cons, if_neg hne, ← hc]
    have hw0 : IntKind.i64.wrap (k : Int) = (k : Int) := IntWalk.i64_in _ (by omega)
    have hw1 : IntKind.i64.wrap ((k : Int) + 1) = (k : Int) + 1 := IntWalk.i64_in _ (by omega)
    have hk01 : (0 : Int) ≤ (k : Int) + 1 := by omega
    have hkk1 : (k : Int) ≤ (k : Int) + 1 := by omega
    cases hp : plainC c with
    | true =>
      rw [hp] at hcmp hrd
      have HR := Lib.hid (show rdN ((tb s).drop k) = (c, 1) by unfold rdN; rw [hrd]; show ((s[k]'hk).toNat, 1) = _; rw [← hc])
      clear hrd hp hqe hby hc hd h92 hne hk2
      go_enter Tryz.func112, Tryz.ntmps112
      go_wp2_with fail
      go_region_held3 (fun w' => True) (trivial) (first | (go_at_call 133; refine (HBY.out _).mono ?_; rintro r w3 ⟨rfl, hbq⟩))
      have HB2 := Lib.hid ((Below.refl w.heap.size w).drew.trans hbq)
      clear hbq
      go_wp2_with fail
      go_ret2
      rw [HR.out]; exact ⟨rfl, HB2.out⟩
    | false =>
      rw [hp] at hcmp hrd
      have HR := Lib.hid (show rdN ((tb s).drop k) = (0, 0) by unfold rdN; rw [hrd]; rfl)
      clear hrd hp hqe hby hc hd h92 hne hk2
      go_enter Tryz.func112, Tryz.ntmps112
      go_wp2_with fail
      go_region_held3 (fun w' => True) (trivial) (first | (go_at_call 133; refine (HBY.out _).mono ?_; rintro r w3 ⟨rfl, hbq⟩))
      have HB2 := Lib.hid ((Below.refl w.heap.size w).drew.trans hbq)
      clear hbq
      go_wp2_with fail
      go_ret2
      rw [HR.out]; exact ⟨rfl, HB2.out⟩
end Go.Proofs.YtbdgcfimbblncaaGreatDoor
end SecLabRP0
section SecLabRP1
/- The reference's Parse, walked. -/
namespace Go.Proofs.YtbdgcfimbblncaaGreatDoor
open Go.RowKit LabPlain
set_option linter.unusedVariables false

theorem grown_set (w : World) (g j : Nat) (u : Value) : w.grownBy (w.setCell ⟨g, j, none⟩ u) (some g) :=
  ⟨rfl, rfl, rfl, by simp, fun k _ hk => heap_setCell_other w ⟨g, j, none⟩ k u (fun e => hk (by simp [e]))⟩
/-- a label's block -/
def LabBlk (w : World) (X : Nat) (a b : ByteArray) : Prop := w.heap[X]? = some (.cells #[.string a, .string b] 150 (0, 0))
theorem LabBlk.c0 {w : World} {X : Nat} {a b : ByteArray} (h : LabBlk w X a b) : w.cell? ⟨X, 0, none⟩ = some (.string a) := by rw [cell_of_row w X 0 _ _ (0, 0) h]; rfl
theorem LabBlk.c1 {w : World} {X : Nat} {a b : ByteArray} (h : LabBlk w X a b) : w.cell? ⟨X, 1, none⟩ = some (.string b) := by rw [cell_of_row w X 1 _ _ (0, 0) h]; rfl
theorem LabBlk.f {w : World} {X : Nat} {a b : ByteArray} (h : LabBlk w X a b) (j : Nat) : w.frozen? ⟨X, j, none⟩ = false := frozen_of_row w X j _ _ h
theorem LabBlk.set0 {w : World} {X : Nat} {a b : ByteArray} (h : LabBlk w X a b) (u : ByteArray) : LabBlk (w.setCell ⟨X, 0, none⟩ (.string u)) X u b := by
  have := heap_setCell_same w X 0 _ _ (.string u) h
  unfold LabBlk; rw [this]; simp
theorem LabBlk.set1 {w : World} {X : Nat} {a b : ByteArray} (h : LabBlk w X a b) (u : ByteArray) : LabBlk (w.setCell ⟨X, 1, none⟩ (.string u)) X a u := by
  have := heap_setCell_same w X 1 _ _ (.string u) h
  unfold LabBlk; rw [this]; simp
theorem LabBlk.kept {w w' : World} {X : Nat} {a b : ByteArray} (h : LabBlk w X a b) (hb : Below w.heap.size w w') : LabBlk w' X a b := by
  have hlt : X < w.heap.size := (Array.getElem?_eq_some_iff.1 h).1
  unfold LabBlk; rw [hb.block X hlt]; exact h
theorem own_not {w : World} {base n X : Nat} {e : TypeId} {size : Nat} {v : Value} {xs : List Value} (h : w.ownsRow base e size v n xs) (hX : w.heap.size ≤ X) : v.ownBlock = none ∨ v.ownBlock ≠ some X := by
  cases hv : v.ownBlock with
  | none => exact .inl rfl
  | some g => refine .inr fun e => ?_; have := (h.lt g hv).2; simp at e; omega
theorem step1_none {l : List UInt8} {c : UInt8} {r : List UInt8} (h : l.dropWhile okU = 61 :: 34 :: c :: r) (hv : rdVal ((c :: r).length + 1) [] (c :: r) = none) : step1 l = none := by
  unfold step1; rw [h]
  show (if (61 : UInt8) = 61 ∧ (34 : UInt8) = 34 then _ else none) = _
  rw [if_pos ⟨rfl, rfl⟩, hv]
theorem step1_some {l : List UInt8} {c : UInt8} {r v r2 : List UInt8} (h : l.dropWhile okU = 61 :: 34 :: c :: r) (hv : rdVal ((c :: r).length + 1) [] (c :: r) = some (v, r2)) : step1 l = some ((bt (l.takeWhile okU), bt v), r2) := by
  unfold step1; rw [h]
  show (if (61 : UInt8) = 61 ∧ (34 : UInt8) = 34 then _ else none) = _
  rw [if_pos ⟨rfl, rfl⟩, hv]
theorem step1_short {l : List UInt8} (h : (l.dropWhile okU).length < 3) : step1 l = none := by
  unfold step1
  rcases hd : l.dropWhile okU with _ | ⟨e, _ | ⟨q, _ | ⟨c, r⟩⟩⟩
  · rfl
  · rfl
  · rfl
  · rw [hd] at h; simp only [List.length_cons] at h; omega
theorem step1_no {l : List UInt8} {e q : UInt8} {r : List UInt8} (h : l.dropWhile okU = e :: q :: r) (hne : ¬ (e = 61 ∧ q = 34)) : step1 l = none := by
  unfold step1; rw [h]
  rcases r with _ | ⟨c, r⟩
  · rfl
  · show (if e = 61 ∧ q = 34 then _ else none) = _
    rw [if_neg hne]

set_option maxRecDepth 100000 in
set_option maxHeartbeats 8000000 in
theorem rparse_any (s : ByteArray) (hs : s.size ≤ 1300) (w : World) :
    Calls Tryz.prog 80 #[.string s] w fun e w' => ∃ a n c, e = .returned (.tuple #[.slice a n c, .bool (setIn s).isSome]) ∧ LabsAt w' a n c ((setIn s).getD []) ∧ Below w.heap.size w w' := by
  obtain ⟨i0, hi, hz0, hz1, hz2⟩ := info_parts lab_info
  obtain ⟨R, hR⟩ : ∃ R, R = setIn s := ⟨_, rfl⟩
  rw [← hR]
  unfold setIn at hR
  have hb0 : Below w.heap.size w (w.alloc (.cells #[] 150)) := (Below.refl _ _).alloc (Nat.le_refl _) _
  have HB0 := Lib.hid hb0
  have HO0 := Lib.hid (World.ownsRow_lit (base := w.heap.size) (e := 150) (size := 2) w #[] 0 (Nat.le_refl _) (by unfold maxLen; omega) rfl)
  clear hb0
  by_cases h2 : s.size < 2
  · rw [if_pos (.inl h2)] at hR
    have HR := Lib.hid hR
    have h2i : (s.size : Int) < 2 := by omega
    clear hR h2
    go_enter Tryz.func80, Tryz.ntmps80
    go_wp2_with fail
    go_ret2
    rw [HR.out]; exact ⟨none, 0, 0, rfl, LabsAt.empty _ _ _ (by omega) (fun _ => rfl), HB0.out⟩
  have h2i : (2 : Int) ≤ (s.size : Int) := by omega
  have z0 : 0 < s.size := by omega
  obtain ⟨c0, hc0⟩ : ∃ c : Nat, c = (s[0]'z0).toNat := ⟨_, rfl⟩
  have hs0 : (s[0]'z0).toNat = c0 := hc0.symm
  have ha0 : at_ s 0 = c0 := by rw [at_get s 0 z0, hc0]
  have z1 : s.size - 1 < s.size := by omega
  obtain ⟨c1, hc1⟩ : ∃ c : Nat, c = (s[s.size - 1]'z1).toNat := ⟨_, rfl⟩
  have hs1 : (s[s.size - 1]'z1).toNat = c1 := hc1.symm
  have ha1 : at_ s (s.size - 1) = c1 := by rw [at_get s _ z1, hc1]
  have hi0 : (0 : Int) ≤ (s.size : Int) - 1 := by omega
  have hi1 : (s.size : Int) - 1 < (s.size : Int) := by omega
  have hi2 : ((s.size : Int) - 1).toNat = s.size - 1 := by omega
  rw [ha0, ha1] at hR
  clear ha0 ha1 hc0 hc1
  by_cases hq0 : c0 = 123
  case neg =>
    rw [if_pos (.inr (.inl hq0))] at hR
    have HR := Lib.hid hR
    have hq : ((c0 : Int) != 123) = true := by rw [bne_iff_ne]; omega
    clear hR hq0 h2
    go_enter Tryz.func80, Tryz.ntmps80
    go_wp2_with fail
    go_ret2
    rw [HR.out]; exact ⟨none, 0, 0, rfl, LabsAt.empty _ _ _ (by omega) (fun _ => rfl), HB0.out⟩
  have hq : ((c0 : Int) != 123) = false := by simp [hq0]
  by_cases hq1 : c1 = 125
  case neg =>
    rw [if_pos (.inr (.inr hq1))] at hR
    have HR := Lib.hid hR
    have hqq : ((c1 : Int) != 125) = true := by rw [bne_iff_ne]; omega
    clear hR hq0 h2 hq1
    go_enter Tryz.func80, Tryz.ntmps80
    go_wp2_with fail
    go_ret2
    rw [HR.out]; exact ⟨none, 0, 0, rfl, LabsAt.empty _ _ _ (by omega) (fun _ => rfl), HB0.out⟩
  have hqq : ((c1 : Int) != 125) = false := by simp [hq1]
  rw [if_neg (by omega)] at hR
  clear hq0 h2 hq1
  by_cases he : tb s = [123, 125]
  · rw [if_pos he] at hR
    have HR := Lib.hid hR
    have hes : (s.toList == [123, 125]) = true := by rw [show s.toList = tb s from ByteArray.toList_eq _, he]; rfl
    clear hR he
    go_enter Tryz.func80, Tryz.ntmps80
    go_wp2_with fail
    go_ret2
    rw [HR.out]; exact ⟨_, 0, 0, rfl, LabsAt.empty _ _ _ (by omega) (fun e => by cases e), HB0.out⟩
  · rw [if_neg he] at hR
    have HR := Lib.hid hR
    have hes : (s.toList == [123, 125]) = false := by rw [show s.toList = tb s from ByteArray.toList_eq _, beq_eq_false_iff_ne]; exact he
    clear hR he
    go_enter Tryz.func80, Tryz.ntmps80
    go_wp2_with fail
    clear hq hqq hes hs0 hs1 hi0 hi1 hi2 h2i z0 z1
    go_loopw [4, 5] (fun s4 s5 wr => ∃ (k m cp : Nat) (a : Option Addr) (acc : List Lab), k ≤ s.size ∧ m ≤ 5 ∧ s5 = .int .i64 (k : Int) ∧ s4 = .slice a m cp ∧ Hid (acc.length = m) ∧ Hid (∀ x ∈ acc, x.1.size ≤ 1300 ∧ x.2.size ≤ 1300) ∧ Hid (R = rparseF (5 - m) acc ((tb s).drop k)) ∧ Hid (wr.ownsRow w.heap.size 150 2 (.slice a m cp) m (lcells acc)) ∧ Hid (Below w.heap.size w wr)) (fun s4 _ _ => 5 - lenOf s4)
    case atStart => exact ⟨1, 0, 0, _, [], by omega, by omega, rfl, rfl, Lib.hid rfl, Lib.hid (fun x hx => by cases hx), HR, HO0, HB0⟩
    case round =>
      clear HO0 HB0 HR
      obtain ⟨k, m, cp, a, acc, hk, hm5, rfl, rfl, HA, HS, HR, HO, HB⟩ := hrel
      rename World => wr
      have hbs := HB.out.size
      by_cases hm : m < 5
      · have hmi : (m : Int) < 5 := by omega
        obtain ⟨kk, hkk⟩ : ∃ kk, 5 - m = kk + 1 := ⟨4 - m, by omega⟩
        have hR := HR.out
        rw [hkk] at hR
        have HRK := Lib.hid hR
        obtain ⟨l, hl⟩ : ∃ l, l = (tb s).drop k := ⟨_, rfl⟩
        obtain ⟨X, hX⟩ : ∃ X, X = wr.heap.size := ⟨_, rfl⟩
        obtain ⟨w2, hw2⟩ : ∃ w2, w2 = wr.alloc (.cells #[.string { data := #[] }, .string { data := #[] }] 150) := ⟨_, rfl⟩
        have HB2 := Lib.hid (show Below w.heap.size w w2 by rw [hw2]; exact HB.out.alloc hbs _)
        have HO2 := Lib.hid (show w2.ownsRow w.heap.size 150 2 (.slice a m cp) m (lcells acc) by rw [hw2]; exact HO.out.alloc _)
        have HK2 := Lib.hid (show LabBlk w2 X (bt []) (bt []) by unfold LabBlk; rw [hw2, hX]; exact heap_alloc_new wr _)
        have HNX := Lib.hid (show (Value.slice a m cp).ownBlock = none ∨ (Value.slice a m cp).ownBlock ≠ some X from own_not HO.out (by omega))
        have HXW := Lib.hid (show w.heap.size ≤ X by omega)
        have HW2 := Lib.hid hw2
        have HXE := Lib.hid hX
        have HLE := Lib.hid hl
        clear hw2 hX hR hl
        go_wp2_with fail
        rw [← HW2.out, ← HXE.out]
        go_loopw [5] (fun s5 wq => ∃ (p : Nat) (done : List UInt8), k ≤ p ∧ p ≤ s.size ∧ done.length ≤ p ∧ s5 = .int .i64 (p : Int) ∧ Hid (l.takeWhile okU = done ++ ((tb s).drop p).takeWhile okU ∧ l.dropWhile okU = ((tb s).drop p).dropWhile okU) ∧ Hid (LabBlk wq X (bt done) (bt [])) ∧ Hid (wq.ownsRow w.heap.size 150 2 (.slice a m cp) m (lcells acc)) ∧ Hid (Below w.heap.size w wq)) (fun s5 _ => s.size - (intOf s5).toNat)
        case atStart => exact ⟨k, [], by omega, by omega, by simp, rfl, Lib.hid ⟨by rw [HLE.out]; rfl, by rw [HLE.out]⟩, HK2, HO2, HB2⟩
        case round =>
          clear HK2 HO2 HB2 HB HO
          obtain ⟨p, done, hkp, hps, hdl, rfl, HT, HK, HO, HB⟩ := hrel
          rename World => wq
          have hbq := HB.out.size
          have hk0 := HK.out.c0
          have hk1 := HK.out.c1
          have hf0 := HK.out.f 0
          have hf1 := HK.out.f 1
          by_cases hp : p < s.size
          · have hpi : (p : Int) < (s.size : Int) := by omega
            have hp0 : (0 : Int) ≤ (p : Int) := by omega
            obtain ⟨c, hc⟩ : ∃ c : Nat, c = (s[p]'hp).toNat := ⟨_, rfl⟩
            have hsp : (s[p]'hp).toNat = c := hc.symm
            have hcl : c < 256 := by rw [hc]; exact UInt8.toNat_lt _
            have hdp : (tb s).drop p = (s[p]'hp) :: (tb s).drop (p + 1) := tb_at s p hp
            have HLT := Lib.hid (letter_any c hcl wq)
            cases hoc : okC c with
            | true =>
              have HOC := Lib.hid hoc
              have hou : okU (s[p]'hp) = true := by unfold okU; rw [← hc]; exact hoc
              have HT2 := Lib.hid (show l.takeWhile okU = (done ++ [s[p]'hp]) ++ ((tb s).drop (p + 1)).takeWhile okU ∧ l.dropWhile okU = ((tb s).drop (p + 1)).dropWhile okU by
                have h1 := HT.out
                rw [hdp, List.takeWhile_cons_of_pos hou, List.dropWhile_cons_of_pos hou] at h1
                exact ⟨by rw [h1.1]; simp, h1.2⟩)
              have hes : (s.extract p (p + 1)).size = 1 := by simp; omega
              have hes2 : min (p + 1) s.size - p = 1 := by omega
              have hds : (bt done).size ≤ 1300 := by rw [bt_size]; omega
              have hff : ¬ 9223372036854775807 < (bt done).size + 1 := by omega
              have hw1 : IntKind.i64.wrap ((p : Int) + 1) = (p : Int) + 1 := IntWalk.i64_in _ (by omega)
              have hpp : (p : Int) ≤ (p : Int) + 1 := by omega
              have hpq : (0 : Int) ≤ (p : Int) + 1 := by omega
              have hpr : (p : Int) + 1 ≤ (s.size : Int) := by omega
              have HE := Lib.hid (show bt done ++ s.extract p (p + 1) = bt (done ++ [s[p]'hp]) by
                apply tb_inj
                rw [tb_append, tb_bt, tb_bt, show tb (s.extract p (p + 1)) = ((tb s).drop p).take (p + 1 - p) from Lib.extract_data s p (p + 1), hdp, show p + 1 - p = 1 by omega, List.take_succ_cons, List.take_zero])
              have HSET := Lib.hid (show LabBlk (wq.setCell ⟨X, 0, none⟩ (.string (bt done ++ s.extract p (p + 1)))) X (bt (done ++ [s[p]'hp])) (bt []) by
                have := HK.out.set0 (bt done ++ s.extract p (p + 1))
                rw [HE.out] at this ⊢; exact this)
              have HOS := Lib.hid (HO.out.kept (grown_set _ X 0 (.string (bt done ++ s.extract p (p + 1)))) HNX.out)
              have HBS := Lib.hid (HB.out.setCell (p := ⟨X, 0, none⟩) HXW.out (.string (bt done ++ s.extract p (p + 1))))
              clear hc hdp hou hoc
              go_wp2_with fail
              refine HLT.out.mono ?_
              rw [HOC.out]
              rintro e w3 ⟨rfl, rfl⟩
              go_wp2_with fail
              go_region
              go_wp2_with fail
              go_roundw
              case rel => exact ⟨p + 1, _, by omega, by omega, by rw [List.length_append]; show done.length + 1 ≤ p + 1; omega, by go_num, HT2, HSET, Lib.hid HOS.out.drew, Lib.hid HBS.out.drew⟩
              case measure => simp [intOf] <;> omega
            | false =>
              have HOC := Lib.hid hoc
              have hou : ¬ okU (s[p]'hp) = true := by unfold okU; rw [← hc, hoc]; decide
              have hT2 : l.takeWhile okU = done ∧ l.dropWhile okU = (tb s).drop p := by
                have h1 := HT.out
                rw [hdp, List.takeWhile_cons_of_neg hou, List.dropWhile_cons_of_neg hou, ← hdp] at h1
                exact ⟨by rw [h1.1]; simp, h1.2⟩
              clear hou hdp
              by_cases hsh : s.size - p < 3
              · have HRR := Lib.hid (show R = none by
                  have hR2 := HRK.out
                  rw [← HLE.out, rparseF, step1_short (by rw [hT2.2, List.length_drop, tb_len]; exact hsh)] at hR2
                  exact hR2)
                have hshi : (s.size : Int) - (p : Int) < 3 := by omega
                clear hc hoc hT2 hsh
                go_wp2_with fail
                refine HLT.out.mono ?_
                rw [HOC.out]
                rintro e w3 ⟨rfl, rfl⟩
                go_wp2_with fail
                go_ret2
                rw [HRR.out]; exact ⟨none, 0, 0, rfl, LabsAt.empty _ _ _ (by omega) (fun _ => rfl), HB.out⟩
              · have hshi : (3 : Int) ≤ (s.size : Int) - (p : Int) := by omega
                have hp2 : p + 1 < s.size := by omega
                have hp3 : p + 2 < s.size := by omega
                have hw1 : IntKind.i64.wrap ((p : Int) + 1) = (p : Int) + 1 := IntWalk.i64_in _ (by omega)
                have hp2i : (p : Int) + 1 < (s.size : Int) := by omega
                have hp20 : (0 : Int) ≤ (p : Int) + 1 := by omega
                obtain ⟨c2, hc2⟩ : ∃ c : Nat, c = (s[p + 1]'hp2).toNat := ⟨_, rfl⟩
                have hsp2 : (s[p + 1]'hp2).toNat = c2 := hc2.symm
                have hno : ¬ ((s[p]'hp) = 61 ∧ (s[p + 1]'hp2) = 34) → R = none := fun hne => by
                  have hR2 := HRK.out
                  rw [← HLE.out, rparseF, step1_no (hT2.2.trans ((tb_at s p hp).trans (congrArg _ (tb_at s (p + 1) hp2)))) hne] at hR2
                  exact hR2
                by_cases h61 : c = 61
                case neg =>
                  have hq61 : ((c : Int) != 61) = true := by rw [bne_iff_ne]; omega
                  have HRR := Lib.hid (hno fun h => h61 (by rw [hc, h.1]; rfl))
                  clear hc hc2 hoc hT2 hno h61 hsh
                  go_wp2_with fail
                  refine HLT.out.mono ?_
                  rw [HOC.out]
                  rintro e w3 ⟨rfl, rfl⟩
                  go_wp2_with fail
                  go_ret2
                  rw [HRR.out]; exact ⟨none, 0, 0, rfl, LabsAt.empty _ _ _ (by omega) (fun _ => rfl), HB.out⟩
                have hq61 : ((c : Int) != 61) = false := by simp [h61]
                have e61 : (s[p]'hp) = 61 := UInt8.toNat_inj.1 (by rw [← hc, h61]; rfl)
                by_cases h34 : c2 = 34
                case neg =>
                  have hq34 : ((c2 : Int) != 34) = true := by rw [bne_iff_ne]; omega
                  have HRR := Lib.hid (hno fun h => h34 (by rw [hc2, h.2]; rfl))
                  clear hc hc2 hoc hT2 hno h61 h34 e61 hsh
                  go_wp2_with fail
                  refine HLT.out.mono ?_
                  rw [HOC.out]
                  rintro e w3 ⟨rfl, rfl⟩
                  go_wp2_with fail
                  go_ret2
                  rw [HRR.out]; exact ⟨none, 0, 0, rfl, LabsAt.empty _ _ _ (by omega) (fun _ => rfl), HB.out⟩
                have hq34 : ((c2 : Int) != 34) = false := by simp [h34]
                have e34 : (s[p + 1]'hp2) = 34 := UInt8.toNat_inj.1 (by rw [← hc2, h34]; rfl)
                clear hno hsh
                obtain ⟨V, hV⟩ : ∃ V, V = rdVal (((tb s).drop (p + 2)).length + 1) [] ((tb s).drop (p + 2)) := ⟨_, rfl⟩
                have HT3 := Lib.hid (show l.takeWhile okU = done ∧ l.dropWhile okU = 61 :: 34 :: (s[p + 2]'hp3) :: (tb s).drop (p + 3) ∧ V = rdVal (((s[p + 2]'hp3) :: (tb s).drop (p + 3)).length + 1) [] ((s[p + 2]'hp3) :: (tb s).drop (p + 3)) by
                  have hd2 := tb_at s (p + 2) hp3
                  refine ⟨hT2.1, ?_, by rw [hV, hd2]⟩
                  rw [hT2.2, tb_at s p hp, tb_at s (p + 1) hp2, hd2, e61, e34])
                have HVS := Lib.hid (show V = rdVal (s.size - (p + 2) + 1) [] ((tb s).drop (p + 2)) by rw [hV, List.length_drop, tb_len])
                have hw4 : IntKind.i64.wrap ((p : Int) + 2) = (p : Int) + 2 := IntWalk.i64_in _ (by omega)
                clear hV hT2 hc hc2 e61 e34 h61 h34 hoc
                go_wp2_with fail
                refine HLT.out.mono ?_
                rw [HOC.out]
                rintro e w3 ⟨rfl, rfl⟩
                go_wp2_with fail
                rename World => wq
                clear hk0 hk1 hf0 hf1
                go_loopw [5] (fun s5 wv => ∃ (p' f : Nat) (vs : List UInt8), p' ≤ s.size ∧ vs.length ≤ p' ∧ s5 = .int .i64 (p' : Int) ∧ Hid (s.size - p' < f) ∧ Hid (V = rdVal f vs ((tb s).drop p')) ∧ Hid (LabBlk wv X (bt done) (bt vs)) ∧ Hid (wv.ownsRow w.heap.size 150 2 (.slice a m cp) m (lcells acc)) ∧ Hid (Below w.heap.size w wv)) (fun s5 _ => s.size - (intOf s5).toNat)
                case atStart => exact ⟨p + 2, _, [], by omega, by simp, by go_num, Lib.hid (by omega), HVS, HK, HO, HB⟩
                case round =>
                  clear HK HO HB HVS
                  obtain ⟨p', f, vs, hps', hvl, rfl, HFL, HVV, HK, HO, HB⟩ := hrel
                  rename World => wv
                  have hbv := HB.out.size
                  have hk0 := HK.out.c0
                  have hk1 := HK.out.c1
                  have hf0 := HK.out.f 0
                  have hf1 := HK.out.f 1
                  by_cases hp' : p' < s.size
                  · have hpi' : (p' : Int) < (s.size : Int) := by omega
                    have hp0' : (0 : Int) ≤ (p' : Int) := by omega
                    obtain ⟨b, hb⟩ : ∃ b : Nat, b = (s[p']'hp').toNat := ⟨_, rfl⟩
                    have hsb : (s[p']'hp').toNat = b := hb.symm
                    have hdp : (tb s).drop p' = (s[p']'hp') :: (tb s).drop (p' + 1) := tb_at s p' hp'
                    by_cases h34b : b = 34
                    · have hb8 : (s[p']'hp') = 34 := UInt8.toNat_inj.1 (by rw [← hb, h34b]; rfl)
                      have hq34 : ((b : Int) != 34) = false := by simp [h34b]
                      rw [hb8] at hdp
                      clear hb h34b
                      have HV := Lib.hid (show V = some (vs, 34 :: (tb s).drop (p' + 1)) by
                        obtain ⟨f, rfl⟩ : ∃ f', f = f' + 1 := ⟨f - 1, by have := HFL.out; omega⟩
                        rw [HVV.out, hdp, rdVal, if_pos rfl])
                      have hst : step1 l = some ((bt done, bt vs), 34 :: (tb s).drop (p' + 1)) := by
                        rw [step1_some HT3.out.2.1 (HT3.out.2.2 ▸ HV.out), HT3.out.1]
                      have hR2 := HRK.out
                      rw [← HLE.out, rparseF, hst] at hR2
                      have HA2 := Lib.hid (show (acc ++ [(bt done, bt vs)]).length = m + 1 by rw [List.length_append, HA.out]; rfl)
                      have HS2 := Lib.hid (show ∀ x ∈ acc ++ [(bt done, bt vs)], x.1.size ≤ 1300 ∧ x.2.size ≤ 1300 from fun x hx => by
                        rcases List.mem_append.1 hx with h | h
                        · exact HS.out x h
                        · rw [List.mem_singleton] at h
                          rw [h]; exact ⟨by show (bt done).size ≤ 1300; rw [bt_size]; omega, by show (bt vs).size ≤ 1300; rw [bt_size]; omega⟩)
                      have hw5 : IntKind.i64.wrap ((p' : Int) + 1) = (p' : Int) + 1 := IntWalk.i64_in _ (by omega)
                      by_cases hp2 : p' + 1 < s.size
                      · have hp2i : (p' : Int) + 1 < (s.size : Int) := by omega
                        have hp20 : (0 : Int) ≤ (p' : Int) + 1 := by omega
                        obtain ⟨d, hd⟩ : ∃ d : Nat, d = (s[p' + 1]'hp2).toNat := ⟨_, rfl⟩
                        have hsd : (s[p' + 1]'hp2).toNat = d := hd.symm
                        have hdp2 : (tb s).drop (p' + 1) = (s[p' + 1]'hp2) :: (tb s).drop (p' + 2) := tb_at s (p' + 1) hp2
                        rw [hdp2] at hR2
                        replace hR2 : R = if (s[p' + 1]'hp2) = 44 then rparseF kk (acc ++ [(bt done, bt vs)]) ((tb s).drop (p' + 2)) else if (s[p' + 1]'hp2) = 125 ∧ (tb s).drop (p' + 2) = [] ∧ isSet (acc ++ [(bt done, bt vs)]) = true then some (acc ++ [(bt done, bt vs)]) else none := hR2
                        by_cases h44 : d = 44
                        · have e44 : (s[p' + 1]'hp2) = 44 := UInt8.toNat_inj.1 (by rw [← hd, h44]; rfl)
                          rw [if_pos e44] at hR2
                          have hq44 : ((d : Int) != 44) = false := by simp [h44]
                          have HRR := Lib.hid (show R = rparseF (5 - (m + 1)) (acc ++ [(bt done, bt vs)]) ((tb s).drop (p' + 2)) by rw [show 5 - (m + 1) = kk by omega]; exact hR2)
                          clear hR2 hd hdp2 e44 h44 hst hb8 hdp
                          have HBA1 := Lib.hid (HB.out.alloc HB.out.size (.cells #[.string (bt done), .string (bt vs)] 150))
                          have HOA1 := Lib.hid (HO.out.alloc (.cells #[.string (bt done), .string (bt vs)] 150))
                          have hba1 := HB.out.size
                          go_wp2_with (at_builtin; refine wpList_append_own_at _ rfl (.tmp 102) (.tmp 104) 112 rfl w.heap.size 150 i0 _ 2 32 Tryz.underlying112 hi hz0 hz1 hz2 rfl (by decide) _ _ _ rfl HOA1.out ⟨wv.heap.size, 0, none⟩ 1 1 [.string (bt done), .string (bt vs)] rfl rfl (two_src _ _ _ _) (lcells_one [(bt done, bt vs)]) (by unfold maxLen; omega) (by omega) (by simp; omega) ?_)
                          intro v5 w5 ho5 hg5 _ _
                          obtain ⟨g5, c5, rfl⟩ := own_some2 ho5 (by omega)
                          have HB5 := Lib.hid (below_own HBA1.out HOA1.out hg5 (Nat.le_refl _) (by simp; omega))
                          have HO5 := Lib.hid (show w5.ownsRow w.heap.size 150 2 (.slice (some ⟨g5, 0, none⟩) (m + 1) c5) (m + 1) (lcells (acc ++ [(bt done, bt vs)])) by rw [lcells_append]; exact ho5)
                          clear ho5 hg5
                          go_wp2_with fail
                          go_roundw
                          case rel => exact ⟨p' + 2, m + 1, c5, _, _, by omega, by omega, by go_num, rfl, HA2, HS2, HRR, HO5, HB5⟩
                          case measure => simp [lenOf] <;> omega
                        · have e44 : (s[p' + 1]'hp2) ≠ 44 := fun e => h44 (by rw [hd, e]; rfl)
                          rw [if_neg e44] at hR2
                          have hq44 : ((d : Int) != 44) = true := by rw [bne_iff_ne]; omega
                          by_cases hlast : p' + 2 = s.size
                          · have hql : ((p' : Int) + 1 != (s.size : Int) - 1) = false := by
                              have : (p' : Int) + 1 = (s.size : Int) - 1 := by omega
                              simp [this]
                            have hnil : (tb s).drop (p' + 2) = [] := List.drop_eq_nil_of_le (by rw [tb_len]; omega)
                            by_cases h125 : d = 125
                            · have e125 : (s[p' + 1]'hp2) = 125 := UInt8.toNat_inj.1 (by rw [← hd, h125]; rfl)
                              have hq125 : ((d : Int) != 125) = false := by simp [h125]
                              have HLS := Lib.hid (fun x hx => (⟨Nat.le_trans (HS2.out x hx).1 (by omega), Nat.le_trans (HS2.out x hx).2 (by omega)⟩ : x.1.size ≤ 140737488355328 ∧ x.2.size ≤ 140737488355328))
                              cases hset : isSet (acc ++ [(bt done, bt vs)]) with
                              | true =>
                                rw [if_pos ⟨e125, hnil, hset⟩] at hR2
                                have HRR := Lib.hid hR2
                                have HSET := Lib.hid hset
                                clear hR2 hd hdp2 e44 h44 hst hb8 hdp hset e125 h125 hnil
                                have HBA1 := Lib.hid (HB.out.alloc HB.out.size (.cells #[.string (bt done), .string (bt vs)] 150))
                                have HOA1 := Lib.hid (HO.out.alloc (.cells #[.string (bt done), .string (bt vs)] 150))
                                have hba1 := HB.out.size
                                go_wp2_with (at_builtin; refine wpList_append_own_at _ rfl (.tmp 102) (.tmp 104) 112 rfl w.heap.size 150 i0 _ 2 32 Tryz.underlying112 hi hz0 hz1 hz2 rfl (by decide) _ _ _ rfl HOA1.out ⟨wv.heap.size, 0, none⟩ 1 1 [.string (bt done), .string (bt vs)] rfl rfl (two_src _ _ _ _) (lcells_one [(bt done, bt vs)]) (by unfold maxLen; omega) (by omega) (by simp; omega) ?_)
                                intro v5 w5 ho5 hg5 _ _
                                obtain ⟨g5, c5, rfl⟩ := own_some2 ho5 (by omega)
                                have HB5 := Lib.hid (below_own HBA1.out HOA1.out hg5 (Nat.le_refl _) (by simp; omega))
                                have HO5 := Lib.hid (show w5.ownsRow w.heap.size 150 2 (.slice (some ⟨g5, 0, none⟩) (m + 1) c5) (m + 1) (lcells (acc ++ [(bt done, bt vs)])) by rw [lcells_append]; exact ho5)
                                clear ho5 hg5
                                obtain ⟨a9, c9, he9, hat⟩ := LabsAt.ofOwn HO5.out HA2.out HLS.out
                                simp only [Value.slice.injEq, true_and] at he9
                                obtain ⟨rfl, rfl⟩ := he9
                                have HAT := Lib.hid hat
                                clear hat
                                go_wp2_with fail
                                refine (rright_any HAT.out).mono ?_
                                rw [HSET.out]
                                rintro e w6 ⟨rfl, hb6⟩
                                have HB6 := Lib.hid (HB5.out.trans (hb6.mono HB5.out.size))
                                have HAT6 := Lib.hid (HAT.out.kept hb6)
                                clear hb6
                                go_wp2_with fail
                                go_ret2
                                rw [HRR.out]; exact ⟨_, _, _, rfl, HAT6.out, HB6.out⟩
                              | false =>
                                rw [if_neg (by rintro ⟨_, _, h⟩; rw [hset] at h; cases h)] at hR2
                                have HRR := Lib.hid hR2
                                have HSET := Lib.hid hset
                                clear hR2 hd hdp2 e44 h44 hst hb8 hdp hset e125 h125 hnil
                                have HBA1 := Lib.hid (HB.out.alloc HB.out.size (.cells #[.string (bt done), .string (bt vs)] 150))
                                have HOA1 := Lib.hid (HO.out.alloc (.cells #[.string (bt done), .string (bt vs)] 150))
                                have hba1 := HB.out.size
                                go_wp2_with (at_builtin; refine wpList_append_own_at _ rfl (.tmp 102) (.tmp 104) 112 rfl w.heap.size 150 i0 _ 2 32 Tryz.underlying112 hi hz0 hz1 hz2 rfl (by decide) _ _ _ rfl HOA1.out ⟨wv.heap.size, 0, none⟩ 1 1 [.string (bt done), .string (bt vs)] rfl rfl (two_src _ _ _ _) (lcells_one [(bt done, bt vs)]) (by unfold maxLen; omega) (by omega) (by simp; omega) ?_)
                                intro v5 w5 ho5 hg5 _ _
                                obtain ⟨g5, c5, rfl⟩ := own_some2 ho5 (by omega)
                                have HB5 := Lib.hid (below_own HBA1.out HOA1.out hg5 (Nat.le_refl _) (by simp; omega))
                                have HO5 := Lib.hid (show w5.ownsRow w.heap.size 150 2 (.slice (some ⟨g5, 0, none⟩) (m + 1) c5) (m + 1) (lcells (acc ++ [(bt done, bt vs)])) by rw [lcells_append]; exact ho5)
                                clear ho5 hg5
                                obtain ⟨a9, c9, he9, hat⟩ := LabsAt.ofOwn HO5.out HA2.out HLS.out
                                simp only [Value.slice.injEq, true_and] at he9
                                obtain ⟨rfl, rfl⟩ := he9
                                have HAT := Lib.hid hat
                                clear hat
                                go_wp2_with fail
                                refine (rright_any HAT.out).mono ?_
                                rw [HSET.out]
                                rintro e w6 ⟨rfl, hb6⟩
                                have HB6 := Lib.hid (HB5.out.trans (hb6.mono HB5.out.size))
                                clear hb6
                                go_wp2_with fail
                                go_ret2
                                rw [HRR.out]; exact ⟨none, 0, 0, rfl, LabsAt.empty _ _ _ (by omega) (fun _ => rfl), HB6.out⟩
                            · rw [if_neg (by rintro ⟨h, _⟩; exact h125 (by rw [hd, h]; rfl))] at hR2
                              have hq125 : ((d : Int) != 125) = true := by rw [bne_iff_ne]; omega
                              have HRR := Lib.hid hR2
                              clear hR2 hd hdp2 e44 h44 hst hb8 hdp h125 hnil
                              have HBA1 := Lib.hid (HB.out.alloc HB.out.size (.cells #[.string (bt done), .string (bt vs)] 150))
                              have HOA1 := Lib.hid (HO.out.alloc (.cells #[.string (bt done), .string (bt vs)] 150))
                              have hba1 := HB.out.size
                              go_wp2_with (at_builtin; refine wpList_append_own_at _ rfl (.tmp 102) (.tmp 104) 112 rfl w.heap.size 150 i0 _ 2 32 Tryz.underlying112 hi hz0 hz1 hz2 rfl (by decide) _ _ _ rfl HOA1.out ⟨wv.heap.size, 0, none⟩ 1 1 [.string (bt done), .string (bt vs)] rfl rfl (two_src _ _ _ _) (lcells_one [(bt done, bt vs)]) (by unfold maxLen; omega) (by omega) (by simp; omega) ?_)
                              intro v5 w5 ho5 hg5 _ _
                              obtain ⟨g5, c5, rfl⟩ := own_some2 ho5 (by omega)
                              have HB5 := Lib.hid (below_own HBA1.out HOA1.out hg5 (Nat.le_refl _) (by simp; omega))
                              have HO5 := Lib.hid (show w5.ownsRow w.heap.size 150 2 (.slice (some ⟨g5, 0, none⟩) (m + 1) c5) (m + 1) (lcells (acc ++ [(bt done, bt vs)])) by rw [lcells_append]; exact ho5)
                              clear ho5 hg5
                              go_wp2_with fail
                              go_ret2
                              rw [HRR.out]; exact ⟨none, 0, 0, rfl, LabsAt.empty _ _ _ (by omega) (fun _ => rfl), HB5.out⟩
                          · have hql : ((p' : Int) + 1 != (s.size : Int) - 1) = true := by rw [bne_iff_ne]; omega
                            rw [if_neg (by
                              rintro ⟨_, h, _⟩
                              have := congrArg List.length h
                              rw [List.length_drop, tb_len] at this
                              simp at this; omega)] at hR2
                            have HRR := Lib.hid hR2
                            clear hR2 hd hdp2 e44 h44 hst hb8 hdp
                            have HBA1 := Lib.hid (HB.out.alloc HB.out.size (.cells #[.string (bt done), .string (bt vs)] 150))
                            have HOA1 := Lib.hid (HO.out.alloc (.cells #[.string (bt done), .string (bt vs)] 150))
                            have hba1 := HB.out.size
                            go_wp2_with (at_builtin; refine wpList_append_own_at _ rfl (.tmp 102) (.tmp 104) 112 rfl w.heap.size 150 i0 _ 2 32 Tryz.underlying112 hi hz0 hz1 hz2 rfl (by decide) _ _ _ rfl HOA1.out ⟨wv.heap.size, 0, none⟩ 1 1 [.string (bt done), .string (bt vs)] rfl rfl (two_src _ _ _ _) (lcells_one [(bt done, bt vs)]) (by unfold maxLen; omega) (by omega) (by simp; omega) ?_)
                            intro v5 w5 ho5 hg5 _ _
                            obtain ⟨g5, c5, rfl⟩ := own_some2 ho5 (by omega)
                            have HB5 := Lib.hid (below_own HBA1.out HOA1.out hg5 (Nat.le_refl _) (by simp; omega))
                            have HO5 := Lib.hid (show w5.ownsRow w.heap.size 150 2 (.slice (some ⟨g5, 0, none⟩) (m + 1) c5) (m + 1) (lcells (acc ++ [(bt done, bt vs)])) by rw [lcells_append]; exact ho5)
                            clear ho5 hg5
                            go_wp2_with fail
                            go_ret2
                            rw [HRR.out]; exact ⟨none, 0, 0, rfl, LabsAt.empty _ _ _ (by omega) (fun _ => rfl), HB5.out⟩
                      · have hp2i : (s.size : Int) ≤ (p' : Int) + 1 := by omega
                        rw [List.drop_eq_nil_of_le (by rw [tb_len]; omega)] at hR2
                        replace hR2 : R = none := hR2
                        have HRR := Lib.hid hR2
                        clear hR2 hst hb8 hdp
                        have HBA1 := Lib.hid (HB.out.alloc HB.out.size (.cells #[.string (bt done), .string (bt vs)] 150))
                        have HOA1 := Lib.hid (HO.out.alloc (.cells #[.string (bt done), .string (bt vs)] 150))
                        have hba1 := HB.out.size
                        go_wp2_with (at_builtin; refine wpList_append_own_at _ rfl (.tmp 102) (.tmp 104) 112 rfl w.heap.size 150 i0 _ 2 32 Tryz.underlying112 hi hz0 hz1 hz2 rfl (by decide) _ _ _ rfl HOA1.out ⟨wv.heap.size, 0, none⟩ 1 1 [.string (bt done), .string (bt vs)] rfl rfl (two_src _ _ _ _) (lcells_one [(bt done, bt vs)]) (by unfold maxLen; omega) (by omega) (by simp; omega) ?_)
                        intro v5 w5 ho5 hg5 _ _
                        obtain ⟨g5, c5, rfl⟩ := own_some2 ho5 (by omega)
                        have HB5 := Lib.hid (below_own HBA1.out HOA1.out hg5 (Nat.le_refl _) (by simp; omega))
                        have HO5 := Lib.hid (show w5.ownsRow w.heap.size 150 2 (.slice (some ⟨g5, 0, none⟩) (m + 1) c5) (m + 1) (lcells (acc ++ [(bt done, bt vs)])) by rw [lcells_append]; exact ho5)
                        clear ho5 hg5
                        go_wp2_with fail
                        go_ret2
                        rw [HRR.out]; exact ⟨none, 0, 0, rfl, LabsAt.empty _ _ _ (by omega) (fun _ => rfl), HB5.out⟩
                    · have hne : (s[p']'hp') ≠ 34 := fun e => h34b (by rw [hb, e]; rfl)
                      have hq34 : ((b : Int) != 34) = true := by rw [bne_iff_ne]; omega
                      have hread := read_any s hs p' hp' wv
                      have hrdv : ∀ (x : Option (UInt8 × Nat)), rd ((tb s).drop p') = x → ∀ f', f = f' + 1 → rdVal f vs ((tb s).drop p') = match x with
                          | none => none
                          | some (x, n) => rdVal f' (vs ++ [x]) (((tb s).drop p').drop n) := fun x hx f' hf => by
                        rw [hdp] at hx ⊢
                        rw [hf, rdVal, if_neg hne, hx]
                        rfl
                      obtain ⟨f, rfl⟩ : ∃ f', f = f' + 1 := ⟨f - 1, by have := HFL.out; omega⟩
                      cases hrd : rd ((tb s).drop p') with
                      | none =>
                        have hrn : rdN ((tb s).drop p') = (0, 0) := by unfold rdN; rw [hrd]
                        rw [hrn] at hread
                        have hVn : V = none := by rw [HVV.out, hrdv _ hrd f rfl]
                        have HRR := Lib.hid (show R = none by
                          have hR2 := HRK.out
                          rw [← HLE.out, rparseF, step1_none HT3.out.2.1 (HT3.out.2.2 ▸ hVn)] at hR2
                          exact hR2)
                        have HRE := Lib.hid hread
                        clear hrd hrn hread hVn hrdv hdp hne hb h34b
                        go_wp2_with fail
                        refine HRE.out.mono ?_
                        rintro e w6 ⟨rfl, hb6⟩
                        have HB6 := Lib.hid (HB.out.trans (hb6.mono hbv))
                        clear hb6
                        go_wp2_with fail
                        go_ret2
                        rw [HRR.out]; exact ⟨none, 0, 0, rfl, LabsAt.empty _ _ _ (by omega) (fun _ => rfl), HB6.out⟩
                      | some y =>
                        obtain ⟨y, n⟩ := y
                        have hsd := rd_sound hrd
                        have hnl : n ≤ s.size - p' := by have := hsd.2.2; rw [List.length_drop, tb_len] at this; exact this
                        have hn0 : 0 < n := hsd.2.1
                        have hrn : rdN ((tb s).drop p') = (y.toNat, n) := by unfold rdN; rw [hrd]
                        rw [hrn] at hread
                        have hV2 := hrdv _ hrd f rfl
                        rw [← HVV.out] at hV2
                        replace hV2 : V = rdVal f (vs ++ [y]) (((tb s).drop p').drop n) := hV2
                        rw [List.drop_drop] at hV2
                        obtain ⟨z, hz⟩ : ∃ z : Nat, z = y.toNat := ⟨_, rfl⟩
                        have hz256 : z < 256 := by rw [hz]; exact UInt8.toNat_lt _
                        rw [← hz] at hread
                        have HVV2 := Lib.hid hV2
                        have HZ := Lib.hid (show bs [z] = bt [y] by apply tb_inj; rw [tb_bs, hz]; simp [tb_bt])
                        have HRE := Lib.hid hread
                        have hnz : ((n : Int) == 0) = false := by rw [beq_eq_false_iff_ne]; omega
                        have hwn : IntKind.i64.wrap ((p' : Int) + (n : Int)) = (p' : Int) + (n : Int) := IntWalk.i64_in _ (by omega)
                        have hvs : (bt vs).size ≤ 1300 := by rw [bt_size]; omega
                        have hzs : (bs [z]).size = 1 := by rw [bs_size]; rfl
                        have hff : ¬ 9223372036854775807 < (bt vs).size + 1 := by omega
                        clear hrd hrn hread hV2 hrdv hdp hne hb h34b hsd hz
                        go_wp2_with fail
                        refine HRE.out.mono ?_
                        rintro e w6 ⟨rfl, hb6⟩
                        have HB6 := Lib.hid (HB.out.trans (hb6.mono hbv))
                        have HO6 := Lib.hid (own_below HO.out hb6)
                        have HK6 := Lib.hid (HK.out.kept hb6)
                        have hbb6 := HB6.out.size
                        have HBA := Lib.hid (HB6.out.alloc hbb6 (.cells #[.int .u8 (z : Int)] 5))
                        have HOA := Lib.hid (HO6.out.alloc (.cells #[.int .u8 (z : Int)] 5))
                        have hKA : LabBlk (w6.alloc (.cells #[.int .u8 (z : Int)] 5)) X (bt done) (bt vs) := HK6.out.kept ((Below.refl _ _).alloc (Nat.le_refl _) _)
                        have HKA := Lib.hid hKA
                        have e0 := hKA.c0
                        have e1 := hKA.c1
                        have ef0 := hKA.f 0
                        have ef1 := hKA.f 1
                        have k0 := HK6.out.c0
                        have k1 := HK6.out.c1
                        have kf1 := HK6.out.f 1
                        have hcv : (convert 30 9 (.slice (some ⟨w6.heap.size, 0, none⟩) 1 1)).run Tryz.prog (w6.alloc (.cells #[.int .u8 (z : Int)] 5)) = .ok (.string (bs [z])) (w6.alloc (.cells #[.int .u8 (z : Int)] 5)) := (BytesAt.lit w6 #[.int .u8 (z : Int)] [z] rfl (by intro x hx; simp at hx; omega) (by simp) (by simp)).conv
                        have HSET := Lib.hid (show LabBlk ((w6.alloc (.cells #[.int .u8 (z : Int)] 5)).setCell ⟨X, 1, none⟩ (.string (bt vs ++ bs [z]))) X (bt done) (bt (vs ++ [y])) by
                          have := hKA.set1 (bt vs ++ bs [z])
                          rw [HZ.out] at this ⊢
                          rw [show bt vs ++ bt [y] = bt (vs ++ [y]) from by apply tb_inj; rw [tb_append, tb_bt, tb_bt, tb_bt]] at this ⊢
                          exact this)
                        have HOS := Lib.hid (HOA.out.kept (grown_set _ X 1 (.string (bt vs ++ bs [z]))) HNX.out)
                        have HBS := Lib.hid (HBA.out.setCell (p := ⟨X, 1, none⟩) HXW.out (.string (bt vs ++ bs [z])))
                        clear hb6 hKA
                        go_wp2_with fail
                        go_roundw
                        case rel => exact ⟨p' + n, f, _, by omega, by rw [List.length_append]; show vs.length + 1 ≤ p' + n; omega, by go_num, Lib.hid (by have := HFL.out; omega), HVV2, HSET, HOS, HBS⟩
                        case measure => simp [intOf] <;> omega
                  · have hpe : p' = s.size := by omega
                    have hpi' : (s.size : Int) ≤ (p' : Int) := by omega
                    have hV0 : V = some (vs, []) := by
                      obtain ⟨f, rfl⟩ : ∃ f', f = f' + 1 := ⟨f - 1, by have := HFL.out; omega⟩
                      rw [HVV.out, List.drop_eq_nil_of_le (by rw [tb_len]; omega), rdVal]
                    have hst : step1 l = some ((bt done, bt vs), []) := by
                      rw [step1_some HT3.out.2.1 (HT3.out.2.2 ▸ hV0), HT3.out.1]
                    have HRR := Lib.hid (show R = none by
                      have hR2 := HRK.out
                      rw [← HLE.out, rparseF, hst] at hR2
                      exact hR2)
                    have hw5 : IntKind.i64.wrap ((p' : Int) + 1) = (p' : Int) + 1 := IntWalk.i64_in _ (by omega)
                    have hp2i : (s.size : Int) ≤ (p' : Int) + 1 := by omega
                    clear hst hV0 hpe hp'
                    have HBA1 := Lib.hid (HB.out.alloc HB.out.size (.cells #[.string (bt done), .string (bt vs)] 150))
                    have HOA1 := Lib.hid (HO.out.alloc (.cells #[.string (bt done), .string (bt vs)] 150))
                    have hba1 := HB.out.size
                    go_wp2_with (at_builtin; refine wpList_append_own_at _ rfl (.tmp 102) (.tmp 104) 112 rfl w.heap.size 150 i0 _ 2 32 Tryz.underlying112 hi hz0 hz1 hz2 rfl (by decide) _ _ _ rfl HOA1.out ⟨wv.heap.size, 0, none⟩ 1 1 [.string (bt done), .string (bt vs)] rfl rfl (two_src _ _ _ _) (lcells_one [(bt done, bt vs)]) (by unfold maxLen; omega) (by omega) (by simp; omega) ?_)
                    intro v5 w5 ho5 hg5 _ _
                    obtain ⟨g5, c5, rfl⟩ := own_some2 ho5 (by omega)
                    have HB5 := Lib.hid (below_own HBA1.out HOA1.out hg5 (Nat.le_refl _) (by simp; omega))
                    have HO5 := Lib.hid (show w5.ownsRow w.heap.size 150 2 (.slice (some ⟨g5, 0, none⟩) (m + 1) c5) (m + 1) (lcells (acc ++ [(bt done, bt vs)])) by rw [lcells_append]; exact ho5)
                    clear ho5 hg5
                    go_wp2_with fail
                    go_ret2
                    rw [HRR.out]; exact ⟨none, 0, 0, rfl, LabsAt.empty _ _ _ (by omega) (fun _ => rfl), HB5.out⟩
          · have hpe : p = s.size := by omega
            have hpi : (s.size : Int) ≤ (p : Int) := by omega
            have hshi : (s.size : Int) - (p : Int) < 3 := by omega
            have HRR := Lib.hid (show R = none by
              have hR2 := HRK.out
              have h1 := HT.out
              rw [List.drop_eq_nil_of_le (by rw [tb_len]; omega)] at h1
              rw [← HLE.out, rparseF, step1_short (by rw [h1.2]; simp)] at hR2
              exact hR2)
            clear hpe hp
            go_wp2_with fail
            go_ret2
            rw [HRR.out]; exact ⟨none, 0, 0, rfl, LabsAt.empty _ _ _ (by omega) (fun _ => rfl), HB.out⟩
      · obtain rfl : m = 5 := by omega
        have HRR := Lib.hid (show R = none by rw [HR.out]; rfl)
        have HLS := Lib.hid (fun x hx => (⟨Nat.le_trans (HS.out x hx).1 (by omega), Nat.le_trans (HS.out x hx).2 (by omega)⟩ : x.1.size ≤ 140737488355328 ∧ x.2.size ≤ 140737488355328))
        have HSET := Lib.hid (show isSet acc = false by unfold isSet; rw [HA.out]; rfl)
        obtain ⟨a9, c9, he9, hat⟩ := LabsAt.ofOwn HO.out HA.out HLS.out
        simp only [Value.slice.injEq, true_and] at he9
        obtain ⟨rfl, rfl⟩ := he9
        have HAT := Lib.hid hat
        clear hat hm
        by_cases hlast : k + 1 = s.size
        · have hql : ((k : Int) != (s.size : Int) - 1) = false := by
            have : (k : Int) = (s.size : Int) - 1 := by omega
            simp [this]
          have hkl : k < s.size := by omega
          have hki : (k : Int) < (s.size : Int) := by omega
          have hk00 : (0 : Int) ≤ (k : Int) := by omega
          obtain ⟨d, hd⟩ : ∃ d : Nat, d = (s[k]'hkl).toNat := ⟨_, rfl⟩
          have hsd : (s[k]'hkl).toNat = d := hd.symm
          clear hd
          by_cases h125 : d = 125
          · have hq125 : ((d : Int) != 125) = false := by simp [h125]
            clear h125
            go_wp2_with fail
            refine (rright_any HAT.out).mono ?_
            rw [HSET.out]
            rintro e w6 ⟨rfl, hb6⟩
            have HB6 := Lib.hid (HB.out.trans (hb6.mono hbs))
            clear hb6
            go_wp2_with fail
            go_ret2
            rw [HRR.out]; exact ⟨none, 0, 0, rfl, LabsAt.empty _ _ _ (by omega) (fun _ => rfl), HB6.out⟩
          · have hq125 : ((d : Int) != 125) = true := by rw [bne_iff_ne]; omega
            clear h125
            go_wp2_with fail
            go_ret2
            rw [HRR.out]; exact ⟨none, 0, 0, rfl, LabsAt.empty _ _ _ (by omega) (fun _ => rfl), HB.out⟩
        · have hql : ((k : Int) != (s.size : Int) - 1) = true := by rw [bne_iff_ne]; omega
          clear hlast
          go_wp2_with fail
          go_ret2
          rw [HRR.out]; exact ⟨none, 0, 0, rfl, LabsAt.empty _ _ _ (by omega) (fun _ => rfl), HB.out⟩
end Go.Proofs.YtbdgcfimbblncaaGreatDoor
end SecLabRP1
end PkMB7_0
section PkMB7_1
/- Manifests: Right with the real Parse, Encode of a wrong manifest (parted from XMfQE, XMfQT, XMfCW). -/
namespace Go.Proofs.YtbdgcfimbblncaaGreatDoor
open Go.RowKit NumsPlain LabPlain CrcPlain
set_option linter.unusedVariables false

def pfS (t : ByteArray) : Int := if (setIn t).isSome then 0 else 4
theorem pfS_is (t : ByteArray) : (pfS t == 0) = (setIn t).isSome := by unfold pfS; cases (setIn t).isSome <;> rfl

theorem cmpS_lt9 (y x : ByteArray) : cmpS y x < 0 ↔ ltB y x = true := by
  unfold cmpS
  cases h : ltB y x with
  | true => simp
  | false =>
    simp only [Bool.false_eq_true, if_false]
    split <;> simp
theorem cmp3_lt9 (y x : Int) : cmp3 y x < 0 ↔ y < x := by
  unfold cmp3
  by_cases h : y < x
  · simp [h]
  · simp only [h, if_false, iff_false]
    split <;> simp
def MaxAt (mx : Int) (w : World) : Prop := w.cell? ⟨1, 0, none⟩ = some (.int .i64 mx)
theorem MaxAt.below {mx : Int} {w w' : World} (h : MaxAt mx w) (hb : Below w.heap.size w w') : MaxAt mx w' := (hb.cell (p := ⟨1, 0, none⟩) (World.block_lt_of_cell? w _ h)).trans h
theorem par_any {mx : Int} {w : World} (h : MaxAt mx w) {le : List EntV} (hk : ∀ x ∈ le, x.part.size ≤ 1300) : ∀ (W : World) (x : EntV), x ∈ le → Below w.heap.size w W → Calls Tryz.prog 82 #[.string x.part] W fun e w' => ParIs (pfS x.part) e ∧ Below W.heap.size W w' := fun W x hx hb => by
  refine (parse_any x.part (hk x hx) mx W (h.below hb)).mono ?_
  rintro e w' ⟨a, n, c, rfl, _, hb2⟩
  exact ⟨⟨a, n, c, rfl⟩, hb2⟩

set_option maxRecDepth 100000 in
set_option maxHeartbeats 2000000 in
theorem mencode_no {w : World} (pf : ByteArray → Int) {s d hz : Int} {ea ma oa : Option Addr} {en ec mn mc on oc : Nat} {le : List EntV} {lm : List (Int × Int)} {lo : List (Int × Int × Int)} (hE : VecAt EntS w ea en ec le) (hM : VecAt MarkS w ma mn mc lm) (hO : VecAt OwnS w oa on oc lo) (hP : ∀ (W : World) (x : EntV), x ∈ le → Below w.heap.size w W → Calls Tryz.prog 82 #[.string x.part] W fun e w' => ParIs (pf x.part) e ∧ Below W.heap.size W w')
    (h : ¬ IsMan pf s d hz en le mn lm on lo) :
    Calls Tryz.prog 9 #[.agg #[.int .i64 s, .int .i64 d, .int .i64 hz, .slice ea en ec, .slice ma mn mc, .slice oa on oc]] w fun e w' => e = .returned (.tuple #[.slice none 0 0, .int .i64 4]) ∧ Below w.heap.size w w' := by
  obtain ⟨wa, hwa⟩ : ∃ wa, wa = w.alloc (.cells #[.int .i64 s, .int .i64 d, .int .i64 hz, .slice ea en ec, .slice ma mn mc, .slice oa on oc] 26) := ⟨_, rfl⟩
  have ba : Below w.heap.size w wa := by rw [hwa]; exact (Below.refl _ _).alloc (Nat.le_refl _) _
  have HR := Lib.hid (mright_any pf (hE.kept ba) (hM.kept ba) (hO.kept ba) (s := s) (d := d) (hz := hz) (fun W x hx hb => hP W x hx (ba.trans (hb.mono ba.size))))
  have HIM := Lib.hid h
  have HBA := Lib.hid ba
  have HWA := Lib.hid hwa
  clear hE hM hO hP h hwa ba
  go_enter Tryz.func9, Tryz.ntmps9
  go_wp2_with fail
  rw [← HWA.out]
  go_wp2_with fail
  refine HR.out.mono ?_
  rintro e w1 ⟨⟨b1, rfl, hb1⟩, hbl⟩
  have hbf : b1 = false := by
    cases b1 with
    | false => rfl
    | true => exact absurd (hb1.1 rfl) HIM.out
  subst hbf
  have HB1 := Lib.hid (HBA.out.trans (hbl.mono HBA.out.size))
  clear hb1 hbl
  go_wp2_with fail
  go_ret2
  exact ⟨rfl, HB1.out⟩

end Go.Proofs.YtbdgcfimbblncaaGreatDoor
end PkMB7_1
section PkMB7_2
/- Package crc's Open, walked, given what the table holds. Condition: at most 100,000 bytes. -/
namespace Go.Proofs.YtbdgcfimbblncaaGreatDoor
open Go.RowKit CrcPlain
set_option linter.unusedVariables false

set_option maxHeartbeats 400000 in
theorem equal_any {a a' : Option Addr} {n n' c c' : Nat} {xs ys : List Nat} {w : World} (hx : BytesAt w a n c xs) (hy : BytesAt w a' n' c' ys) :
    Calls Tryz.prog 90 #[.slice a n c, .slice a' n' c'] w fun e w' => e = .returned (.bool (xs == ys)) ∧ w = w' := by
  have h1 := hx.conv
  have h2 := hy.conv
  have he := bs_eq hx.byte hy.byte
  clear hx hy
  go_enter Tryz.func90, Tryz.ntmps90
  go_wp2
  go_ret
  exact ⟨by rw [← he]; rfl, rfl⟩

/-- what Open answers: the text, the error -/
def op (xs : List Nat) : List Nat × Nat :=
  if xs.length < 4 then ([], 3) else if sealed (xs.take (xs.length - 4)) = xs then (xs.take (xs.length - 4), 0) else ([], 6)

set_option maxRecDepth 100000 in
set_option maxHeartbeats 2000000 in
theorem open_any {w : World} (hT : Table w) {a : Option Addr} {n c : Nat} {xs : List Nat} (h : BytesAt w a n c xs) (hn : n ≤ 1000000) :
    Calls Tryz.prog 47 #[.slice a n c] w fun e w' => ∃ a' m' c', e = .returned (.tuple #[.slice a' m' c', .int .i64 ((op xs).2 : Int)]) ∧ BytesAt w' a' m' c' (op xs).1 ∧ Below w.heap.size w w' ∧ w'.ownsRow w.heap.size 5 1 (.slice a' m' c') m' (bv (op xs).1) := by
  have hlen := h.len
  have hempty : ∀ w, BytesAt w none 0 0 [] := fun w => BytesAt.empty w none 0 (by omega) (fun _ => rfl)
  have HEM := Lib.hid hempty
  have hcap := h.cap
  have hcm := h.capm
  have HL := Lib.hid hlen
  clear hempty hlen
  by_cases h4 : n < 4
  · have HO := Lib.hid (show op xs = ([], 3) by unfold op; rw [if_pos (by rw [HL.out]; exact h4)])
    have h4' : (n : Int) < 4 := by omega
    clear h hT
    go_enter Tryz.func47, Tryz.ntmps47
    go_wp2_with fail
    go_ret2
    rw [HO.out]
    exact ⟨none, 0, 0, rfl, HEM.out _, Below.refl _ _, own_nil_bytes _ _⟩
  · obtain ⟨m, rfl⟩ : ∃ m, n = m + 4 := ⟨n - 4, by omega⟩
    have e1 : IntKind.i64.wrap (((m + 4 : Nat) : Int) - 4) = (m : Int) := by rw [IntWalk.i64_in _ (by omega)]; omega
    have h4' : (4 : Int) ≤ ((m + 4 : Nat) : Int) := by omega
    have HC := Lib.hid (clone_own (h.upto m (by omega)))
    have HBY := Lib.hid (h.upto m (by omega)).byte
    have HH := Lib.hid h
    have HT := Lib.hid hT
    have ho : op xs = if sealed (xs.take m) = xs then (xs.take m, 0) else ([], 6) := by
      unfold op; rw [if_neg (by rw [HL.out]; omega), HL.out]; rfl
    have HO := Lib.hid ho
    clear h hT ho h4
    go_enter Tryz.func47, Tryz.ntmps47
    go_wp2_with fail
    refine HC.out.mono ?_
    rintro e w1 ⟨v1, rfl, hown1, hbel1⟩
    obtain ⟨a1, c1, rfl, hb1, _⟩ := BytesAt.ofOwn hown1 HBY.out (by omega)
    have HO1 := Lib.hid hown1
    have HB1 := Lib.hid hb1
    have HBE1 := Lib.hid hbel1
    have HS := Lib.hid (seal_any (HT.out.below hbel1) hb1 (by omega))
    clear hb1 hbel1 hown1
    go_wp2_with fail
    refine HS.out.mono ?_
    rintro e w2 ⟨a2, c2, rfl, hb2, hbel2, _⟩
    have HB2 := Lib.hid hb2
    have HBE2 := Lib.hid (HBE1.out.trans (hbel2.mono HBE1.out.size))
    have HB12 := Lib.hid (HB1.out.kept hbel2)
    have HO2 := Lib.hid (own_below HO1.out hbel2)
    clear hb2 hbel2
    go_wp2_with fail
    refine (equal_any HB2.out (HH.out.kept HBE2.out)).mono ?_
    rintro e w3 ⟨rfl, rfl⟩
    by_cases heq : sealed (xs.take m) = xs
    · have hv : (sealed (xs.take m) == xs) = true := by rw [heq]; exact beq_self_eq_true _
      rw [hv]
      have HV := Lib.hid (show op xs = (xs.take m, 0) by rw [HO.out, if_pos heq])
      clear heq hv
      go_wp2_with fail
      go_ret2
      rw [HV.out]
      exact ⟨a1, m, c1, rfl, HB12.out, HBE2.out, HO2.out⟩
    · have hv : (sealed (xs.take m) == xs) = false := by rw [beq_eq_false_iff_ne]; exact heq
      rw [hv]
      have HV := Lib.hid (show op xs = ([], 6) by rw [HO.out, if_neg heq])
      clear heq hv
      go_wp2_with fail
      go_ret2
      rw [HV.out]
      exact ⟨none, 0, 0, rfl, HEM.out _, HBE2.out, own_nil_bytes _ _⟩

theorem op_sealed (xs : List Nat) : op (sealed xs) = (xs, 0) := by
  have hl : (sealed xs).length = xs.length + 4 := by simp [sealed, le_len]
  have ht : (sealed xs).take ((sealed xs).length - 4) = xs := by
    rw [hl, show xs.length + 4 - 4 = xs.length from by omega]; simp [sealed]
  unfold op
  rw [if_neg (by omega), ht, if_pos rfl]
end Go.Proofs.YtbdgcfimbblncaaGreatDoor
end PkMB7_2
section PkMB7_3
/- Manifests: package manifest's Decode of any bytes, walked. Written by genmfd3.py. -/
namespace Go.Proofs.YtbdgcfimbblncaaGreatDoor
open Go.RowKit NumsPlain LabPlain CrcPlain
set_option linter.unusedVariables false

/-- what bytes say, by these limits -/
structure RdM where
  b : List Nat
  g : Nat
  c : Nat
  f : Nat
  ne : Nat
  le : List EntV
  nm : Nat
  lm : List (Int × Int)
  no : Nat
  lo : List (Int × Int × Int)
  st : Nat × Nat
def rdO (xs : List Nat) (mw k2 : Int) (b : List Nat) (g c f ne : Nat) (le : List EntV) (nm : Nat) (lm : List (Int × Int)) (s : Nat × Nat) : RdM :=
  ⟨b, g, c, f, ne, le, nm, lm, rN xs 8 s, vlK (fun s => owV xs k2 mw s) (fun s => owS xs k2 mw s) (rN xs 8 s) (sN xs 8 s), stK (fun s => owS xs k2 mw s) (rN xs 8 s) (sN xs 8 s)⟩
def rdMk (xs : List Nat) (mw k1 k2 : Int) (b : List Nat) (g c f ne : Nat) (le : List EntV) (s : Nat × Nat) : RdM :=
  rdO xs mw k2 b g c f ne le (rN xs 64 s) (vlK (fun s => mkV xs k1 mw s) (fun s => mkS xs k1 mw s) (rN xs 64 s) (sN xs 64 s)) (stK (fun s => mkS xs k1 mw s) (rN xs 64 s) (sN xs 64 s))
def rdE (xs : List Nat) (mw mr mz k1 k2 : Int) (b : List Nat) (g c f : Nat) (s : Nat × Nat) : RdM :=
  rdMk xs mw k1 k2 b g c f (rN xs 256 s) (vlK (fun s => enV xs mw mr mz s) (fun s => enS xs mw mr mz s) (rN xs 256 s) (sN xs 256 s)) (stK (fun s => enS xs mw mr mz s) (rN xs 256 s) (sN xs 256 s))
def rdM (xs : List Nat) (mw mr mz k1 k2 : Int) : RdM :=
  rdE xs mw mr mz k1 k2 (cb xs 0 0 5).1 (rN xs mw (cb xs 0 0 5).2) (rN xs mw (sN xs mw (cb xs 0 0 5).2)) (rN xs mw (sN xs mw (sN xs mw (cb xs 0 0 5).2))) (sN xs mw (sN xs mw (sN xs mw (cb xs 0 0 5).2)))
def hdB (b : List Nat) : Bool := (bs b).toList == [77, 65, 78, 73, 1]
/-- are they a manifest's? -/
def OkM (xs : List Nat) (r : RdM) : Prop := hdB r.b = true ∧ cend xs.length r.st.1 r.st.2 = 0 ∧ IsMan pfS r.g r.c r.f r.ne r.le r.nm r.lm r.no r.lo
def DecIs (xs : List Nat) (r : RdM) (er : Nat) (e : Ending) (w : World) : Prop :=
  (er ≠ 0 ∧ e = .returned (.tuple #[.agg #[.int .i64 0, .int .i64 0, .int .i64 0, .slice none 0 0, .slice none 0 0, .slice none 0 0], .int .i64 (er : Int)])) ∨
  (er = 0 ∧ ¬ OkM xs r ∧ e = .returned (.tuple #[.agg #[.int .i64 0, .int .i64 0, .int .i64 0, .slice none 0 0, .slice none 0 0, .slice none 0 0], .int .i64 4])) ∨
  (er = 0 ∧ OkM xs r ∧ ∃ ea ec ma mc oa oc, e = .returned (.tuple #[.agg #[.int .i64 (r.g : Int), .int .i64 (r.c : Int), .int .i64 (r.f : Int), .slice ea r.ne ec, .slice ma r.nm mc, .slice oa r.no oc], .int .i64 0]) ∧ VecAt EntS w ea r.ne ec r.le ∧ VecAt MarkS w ma r.nm mc r.lm ∧ VecAt OwnS w oa r.no oc r.lo)
theorem ct_most (xs : List Nat) (i e : Nat) {m : Nat} : (ct xs i e (m : Int)).1.length ≤ m := by
  have h1 : ((ccn xs i 0 (m : Int) 5).1 : Int) ≤ (m : Int) := ccn_le (by omega)
  unfold ct
  split
  · simp
  · split
    · simp
    · unfold cb
      split
      · simp
      · split
        · simp
        · simp only [List.length_take, Int.toNat_natCast]; omega
theorem en_sizes (xs : List Nat) (mw mr mz : Int) (s : Nat × Nat) : (enV xs mw mr mz s).key.size ≤ 40 ∧ (enV xs mw mr mz s).part.size ≤ 1024 := by
  refine ⟨?_, ?_⟩
  · show (bs (rT xs 40 s)).size ≤ _
    rw [bs_size9]
    exact ct_most (m := 40) xs s.1 s.2
  · show (bs (rT xs 1024 _)).size ≤ _
    rw [bs_size9]
    exact ct_most (m := 1024) xs _ _
theorem vlK_mem {α : Type} {v : Nat × Nat → α} {g : Nat × Nat → Nat × Nat} {s : Nat × Nat} : ∀ {k : Nat} {x : α}, x ∈ vlK v g k s → ∃ t, x = v t
  | 0, x, h => by cases h
  | k + 1, x, h => by
    rcases List.mem_append.1 h with q | q
    · exact vlK_mem q
    · exact ⟨_, List.mem_singleton.1 q⟩
theorem VecAt.drewN {α : Type} {S : Sty α} {w : World} {a : Option Addr} {n c : Nat} {l : List α} (h : VecAt S w a n c l) (k : Nat) : VecAt S (w.drewN k) a n c l := h.kept ⟨rfl, rfl, rfl, Nat.le_refl _, fun _ _ => rfl⟩
theorem Ob.of {B : Nat} {w w' : World} (h : w.grownBy w' (some B)) : Ob B w w' := ⟨h.size, fun k hk hn => h.block k hk (fun e => hn (by cases e; rfl))⟩

set_option maxRecDepth 100000 in
set_option maxHeartbeats 16000000 in
theorem mdecode_any {w : World} (hT : Table w) {mx : Int} (hmx : MaxAt mx w) {a : Option Addr} {n c : Nat} {ys : List Nat} (h : BytesAt w a n c ys) (hn : n ≤ 1000000) :
    Calls Tryz.prog 16 #[.slice a n c] w fun e w' => DecIs (op ys).1 (rdM (op ys).1 1099511627776 2048 262144 64 8) (op ys).2 e w' ∧ Below w.heap.size w w' := by
  obtain ⟨wa, hwa⟩ : ∃ wa, wa = w.alloc (.cells #[.int .i64 0, .int .i64 0, .int .i64 0, .slice none 0 0, .slice none 0 0, .slice none 0 0] 26) := ⟨_, rfl⟩
  have ba : Below w.heap.size w wa := by rw [hwa]; exact (Below.refl _ _).alloc (Nat.le_refl _) _
  have ga : wa.heap[w.heap.size]? = some (.cells #[.int .i64 0, .int .i64 0, .int .i64 0, .slice none 0 0, .slice none 0 0, .slice none 0 0] 26 (0, 0)) := by rw [hwa]; exact heap_alloc_new _ _
  have hop := open_any (hT.below ba) (h.kept ba) hn
  obtain ⟨xs, hxs⟩ : ∃ xs, xs = (op ys).1 := ⟨_, rfl⟩
  obtain ⟨er, her⟩ : ∃ er, er = (op ys).2 := ⟨_, rfl⟩
  have hop2 : Calls Tryz.prog 47 #[.slice a n c] wa fun e w' => ∃ a' m' c', e = .returned (.tuple #[.slice a' m' c', .int .i64 (er : Int)]) ∧ BytesAt w' a' m' c' xs ∧ Below wa.heap.size wa w' := by
    refine hop.mono ?_
    rintro e w' ⟨a', m', c', e1, e2, e3, _⟩
    rw [hxs, her]
    exact ⟨a', m', c', e1, e2, e3⟩
  rw [← hxs, ← her]
  have HOP := Lib.hid hop2
  have HX := Lib.hid hmx
  have HBA := Lib.hid ba
  have HGA := Lib.hid ga
  have HWA := Lib.hid hwa
  clear hT hmx h hn hwa ba ga hop hxs her hop2
  go_enter Tryz.func16, Tryz.ntmps16
  go_wp2_with fail
  rw [← HWA.out]
  refine HOP.out.mono ?_
  rintro e w1 ⟨a1, m1, c1, rfl, hb1, hbl1⟩
  have HB1 := Lib.hid (HBA.out.trans (hbl1.mono HBA.out.size))
  have HR1 := Lib.hid ((hbl1.block w.heap.size (Array.getElem?_eq_some_iff.1 HGA.out).1).trans HGA.out)
  have HLR := Lib.hid (Array.getElem?_eq_some_iff.1 HR1.out).1
  by_cases her : er = 0
  case neg =>
    have z0 : ((er : Int) != 0) = true := by rw [bne_iff_ne]; omega
    have HER := Lib.hid her
    clear hb1 hbl1 her
    have rx0 : w1.cell? ⟨w.heap.size, 0, none⟩ = some (.int .i64 0) := cell_blk HR1.out rfl
    have rxf0 : w1.frozen? ⟨w.heap.size, 0, none⟩ = false := fro_blk HR1.out 0
    have rx1 : w1.cell? ⟨w.heap.size, 1, none⟩ = some (.int .i64 0) := cell_blk HR1.out rfl
    have rxf1 : w1.frozen? ⟨w.heap.size, 1, none⟩ = false := fro_blk HR1.out 1
    have rx2 : w1.cell? ⟨w.heap.size, 2, none⟩ = some (.int .i64 0) := cell_blk HR1.out rfl
    have rxf2 : w1.frozen? ⟨w.heap.size, 2, none⟩ = false := fro_blk HR1.out 2
    have rx3 : w1.cell? ⟨w.heap.size, 3, none⟩ = some (.slice none 0 0) := cell_blk HR1.out rfl
    have rxf3 : w1.frozen? ⟨w.heap.size, 3, none⟩ = false := fro_blk HR1.out 3
    have rx4 : w1.cell? ⟨w.heap.size, 4, none⟩ = some (.slice none 0 0) := cell_blk HR1.out rfl
    have rxf4 : w1.frozen? ⟨w.heap.size, 4, none⟩ = false := fro_blk HR1.out 4
    have rx5 : w1.cell? ⟨w.heap.size, 5, none⟩ = some (.slice none 0 0) := cell_blk HR1.out rfl
    have rxf5 : w1.frozen? ⟨w.heap.size, 5, none⟩ = false := fro_blk HR1.out 5
    go_wp2_with fail
    have hr9 := set6 HR1.out (.int .i64 0) (.int .i64 0) (.int .i64 0) (.slice none 0 0) (.slice none 0 0) (.slice none 0 0)
    refine bodyPost_ret (ret_cell_tmp rfl _ _ w.heap.size 26 #[.int .i64 0, .int .i64 0, .int .i64 0, .slice none 0 0, .slice none 0 0, .slice none 0 0] _ _ rfl hr9 Tryz.underlying26 rfl (by kernel_rfl)) rfl ?_
    exact ⟨.inl ⟨HER.out, rfl⟩, below6 HB1.out (Nat.le_refl _) _ _ _ _ _ _⟩
  subst her
  have z0 : (((0 : Nat) : Int) != 0) = false := by decide
  have HNEW := Lib.hid (new_any hb1)
  have HXL := Lib.hid hb1.len
  have HREA := Lib.hid hb1.reach
  clear hb1 hbl1
  go_wp2_with fail
  refine HNEW.out.mono ?_
  rintro e w2 ⟨B, a2, c2, rfl, hc2, hb2, hB, _⟩
  have HB2 := Lib.hid (HB1.out.trans (hb2.mono HB1.out.size))
  have HR2 := Lib.hid ((hb2.block w.heap.size HLR.out).trans HR1.out)
  have HLO := Lib.hid hc2.lo
  have HBB := Lib.hid (show w.heap.size < B from by have := HLR.out; omega)
  have HCB := Lib.hid (cb_any hc2 5 (by decide) (by decide))
  clear hc2 hb2 hB
  go_wp2_with fail
  refine HCB.out.mono ?_
  rintro e w3 ⟨⟨a3, c3, rfl, hby⟩, hc3, hg3⟩
  obtain ⟨t0, ht0⟩ : ∃ t, t = cb xs 0 0 5 := ⟨_, rfl⟩
  rw [← ht0] at hby hc3 ⊢
  have hcv := hby.conv
  have HB3 := Lib.hid (HB2.out.grown hg3 HB2.out.size (fun k e => by cases e; exact Nat.le_of_lt HBB.out))
  have HR3 := Lib.hid ((hg3.block w.heap.size (Array.getElem?_eq_some_iff.1 HR2.out).1 (by intro e; cases e; exact absurd HBB.out (Nat.lt_irrefl _))).trans HR2.out)
  have HS3 := Lib.hid hg3.size
  obtain ⟨t1, ht1⟩ : ∃ t, t = ccn xs t0.2.1 t0.2.2 1099511627776 2 := ⟨_, rfl⟩
  have hn4 := cnum_any hc3 1099511627776 (by decide) (by decide)
  rw [← ht1] at hn4
  have HT0 := Lib.hid ht0
  have HN4 := Lib.hid hn4
  have HT1 := Lib.hid ht1
  clear hc3 hg3 hn4 ht1 hby ht0
  go_wp2_with fail
  clear hcv
  refine HN4.out.mono ?_
  rintro e w4 ⟨rfl, hc4, hg4⟩
  have HB4 := Lib.hid (HB3.out.grown hg4 HB3.out.size (fun k e => by cases e; exact Nat.le_of_lt HBB.out))
  have HR4 := Lib.hid ((hg4.block w.heap.size (Array.getElem?_eq_some_iff.1 HR3.out).1 (by intro e; cases e; exact absurd HBB.out (Nat.lt_irrefl _))).trans HR3.out)
  have HS4 := Lib.hid (Nat.le_trans HS3.out hg4.size)
  obtain ⟨t2, ht2⟩ : ∃ t, t = ccn xs t1.2.1 t1.2.2 1099511627776 2 := ⟨_, rfl⟩
  have hn5 := cnum_any hc4 1099511627776 (by decide) (by decide)
  rw [← ht2] at hn5
  have HN5 := Lib.hid hn5
  have HT2 := Lib.hid ht2
  clear hc4 hg4 hn5 ht2 
  go_wp2_with fail
  refine HN5.out.mono ?_
  rintro e w5 ⟨rfl, hc5, hg5⟩
  have HB5 := Lib.hid (HB4.out.grown hg5 HB4.out.size (fun k e => by cases e; exact Nat.le_of_lt HBB.out))
  have HR5 := Lib.hid ((hg5.block w.heap.size (Array.getElem?_eq_some_iff.1 HR4.out).1 (by intro e; cases e; exact absurd HBB.out (Nat.lt_irrefl _))).trans HR4.out)
  have HS5 := Lib.hid (Nat.le_trans HS4.out hg5.size)
  obtain ⟨t3, ht3⟩ : ∃ t, t = ccn xs t2.2.1 t2.2.2 1099511627776 2 := ⟨_, rfl⟩
  have hn6 := cnum_any hc5 1099511627776 (by decide) (by decide)
  rw [← ht3] at hn6
  have HN6 := Lib.hid hn6
  have HT3 := Lib.hid ht3
  clear hc5 hg5 hn6 ht3 
  go_wp2_with fail
  refine HN6.out.mono ?_
  rintro e w6 ⟨rfl, hc6, hg6⟩
  have HB6 := Lib.hid (HB5.out.grown hg6 HB5.out.size (fun k e => by cases e; exact Nat.le_of_lt HBB.out))
  have HR6 := Lib.hid ((hg6.block w.heap.size (Array.getElem?_eq_some_iff.1 HR5.out).1 (by intro e; cases e; exact absurd HBB.out (Nat.lt_irrefl _))).trans HR5.out)
  have HS6 := Lib.hid (Nat.le_trans HS5.out hg6.size)
  obtain ⟨X, hX⟩ : ∃ X, X = w6.heap.size := ⟨_, rfl⟩
  obtain ⟨wx, hwx⟩ : ∃ wx, wx = w6.alloc (.cells #[.int .i64 (t1.1 : Int), .int .i64 (t2.1 : Int), .int .i64 (t3.1 : Int), .slice none 0 0, .slice none 0 0, .slice none 0 0] 26) := ⟨_, rfl⟩
  have bx : Below w6.heap.size w6 wx := by rw [hwx]; exact (Below.refl _ _).alloc (Nat.le_refl _) _
  have HXX := Lib.hid (show wx.heap[X]? = some (.cells #[.int .i64 (t1.1 : Int), .int .i64 (t2.1 : Int), .int .i64 (t3.1 : Int), .slice none 0 0, .slice none 0 0, .slice none 0 0] 26 (0, 0)) from by rw [hwx, hX]; exact heap_alloc_new _ _)
  have HXB := Lib.hid (show w2.heap.size ≤ X ∧ w.heap.size < X ∧ B < X from by have h1 := HS6.out; have h2 := HLO.out.1; have h3 := HBB.out; omega)
  have HXS := Lib.hid (Array.getElem?_eq_some_iff.1 HXX.out).1
  have hcx := hc6.keptB bx
  have HBX := Lib.hid (HB6.out.trans (bx.mono HB6.out.size))
  have HRX := Lib.hid ((bx.block w.heap.size (Array.getElem?_eq_some_iff.1 HR6.out).1).trans HR6.out)
  have hE := eachE_any (e := t3.2.2) (i := t3.2.1) hcx
  have HEA := Lib.hid hE
  have HWX := Lib.hid hwx
  have HXE := Lib.hid hX
  clear hX hwx bx hc6 hg6 hcx hE
  go_wp2_with fail
  rw [← HWX.out, ← HXE.out]
  refine HEA.out.mono ?_
  rintro e v1 ⟨ea, ec, rfl, ho, hc, hg⟩
  obtain ⟨ne, hne⟩ : ∃ z, z = rN xs 256 (t3.2.1, t3.2.2) := ⟨_, rfl⟩
  obtain ⟨le, hle⟩ : ∃ z, z = vlK (fun s => enV xs 1099511627776 2048 262144 s) (fun s => enS xs 1099511627776 2048 262144 s) (rN xs 256 (t3.2.1, t3.2.2)) (sN xs 256 (t3.2.1, t3.2.2)) := ⟨_, rfl⟩
  obtain ⟨sE, hsE⟩ : ∃ z, z = stK (fun s => enS xs 1099511627776 2048 262144 s) (rN xs 256 (t3.2.1, t3.2.2)) (sN xs 256 (t3.2.1, t3.2.2)) := ⟨_, rfl⟩
  rw [← hle, ← hne] at ho
  rw [← hsE] at hc
  rw [← hne]
  have Hne := Lib.hid hne
  have Hle := Lib.hid hle
  have HsE := Lib.hid hsE
  have HLNE := Lib.hid (show le.length = ne from by rw [hle, vlK_len, hne])
  have HADE := Lib.hid (show ∀ b off s, ea = some ⟨b, off, s⟩ → b ≠ w.heap.size ∧ b ≠ X ∧ b ≠ B from fun b off s e => by have h1 := own_addr ho b off s e; have h2 := HXB.out; have h3 := HXS.out; omega)
  have hva := VecAt.ofOwn (S := EntS) ho HLNE.out (fun x hx => by rw [hle] at hx; obtain ⟨t, rfl⟩ := vlK_mem hx; exact enV_ok (by rw [HXL.out]; exact HREA.out))
  have HXV := Lib.hid ((hg.block X (Array.getElem?_eq_some_iff.1 HXX.out).1 (by intro e; cases e; exact absurd HXB.out.2.2 (Nat.lt_irrefl _))).trans HXX.out)
  have HBV := Lib.hid (HBX.out.grown hg HBX.out.size (fun k e => by cases e; exact Nat.le_of_lt HBB.out))
  have HRV := Lib.hid ((hg.block w.heap.size (Array.getElem?_eq_some_iff.1 HRX.out).1 (by intro e; cases e; exact absurd HBB.out (Nat.lt_irrefl _))).trans HRX.out)
  have HSVE := Lib.hid (Nat.le_trans (Nat.le_of_lt HXS.out) hg.size)
  have xc : v1.cell? ⟨X, 3, none⟩ = some (.slice none 0 0) := cell_blk HXV.out rfl
  have xf : v1.frozen? ⟨X, 3, none⟩ = false := fro_blk HXV.out 3
  obtain ⟨u1, hu⟩ : ∃ z, z = v1.setCell ⟨X, 3, none⟩ (.slice ea ne ec) := ⟨_, rfl⟩
  have HXU := Lib.hid (show u1.heap[X]? = some (.cells #[.int .i64 (t1.1 : Int), .int .i64 (t2.1 : Int), .int .i64 (t3.1 : Int), .slice ea ne ec, .slice none 0 0, .slice none 0 0] 26 (0, 0)) from by rw [hu]; exact heap_set HXV.out 3 _)
  have HCU := Lib.hid (show CurAt 123 u1 B a2 m1 c2 xs sE.1 sE.2 from by rw [hu]; exact hc.set (X := X) (j := 3) HLO.out HXB.out.1 _)
  have HBU := Lib.hid (show Below w.heap.size w u1 from by rw [hu]; exact HBV.out.setCell (p := ⟨X, 3, none⟩) (Nat.le_of_lt HXB.out.2.1) _)
  have HRU := Lib.hid (show u1.heap[w.heap.size]? = some (.cells #[.int .i64 0, .int .i64 0, .int .i64 0, .slice none 0 0, .slice none 0 0, .slice none 0 0] 26 (0, 0)) from by rw [hu]; exact (Below.heap_setCell _ ⟨X, 3, none⟩ _ w.heap.size (by show w.heap.size ≠ X; have := HXB.out; omega)).trans HRV.out)
  have HSUE := Lib.hid (show X < u1.heap.size from (Array.getElem?_eq_some_iff.1 HXU.out).1)
  have os : Ob X v1 u1 := by rw [hu]; exact Ob.set HXV.out _
  have HVE := Lib.hid (hva.ob os (fun _ h => h) (fun b off s e => (HADE.out b off s e).2.1))
  have hE := eachM_any HCU.out
  rw [hu] at hE
  have HMA := Lib.hid hE
  have HUE := Lib.hid hu
  clear hne hle hsE ho hc hg hva os hu hE HXV HBV HRV
  go_wp2_with fail
  clear xc xf
  refine HMA.out.mono ?_
  rintro e v2 ⟨ma, mc, rfl, ho, hc, hg⟩
  rw [← HUE.out] at ho hg
  obtain ⟨nm, hnm⟩ : ∃ z, z = rN xs 64 (sE.1, sE.2) := ⟨_, rfl⟩
  obtain ⟨lm, hlm⟩ : ∃ z, z = vlK (fun s => mkV xs 64 1099511627776 s) (fun s => mkS xs 64 1099511627776 s) (rN xs 64 (sE.1, sE.2)) (sN xs 64 (sE.1, sE.2)) := ⟨_, rfl⟩
  obtain ⟨sM, hsM⟩ : ∃ z, z = stK (fun s => mkS xs 64 1099511627776 s) (rN xs 64 (sE.1, sE.2)) (sN xs 64 (sE.1, sE.2)) := ⟨_, rfl⟩
  rw [← hlm, ← hnm] at ho
  rw [← hsM] at hc
  rw [← hnm]
  have Hnm := Lib.hid hnm
  have Hlm := Lib.hid hlm
  have HsM := Lib.hid hsM
  have HLNM := Lib.hid (show lm.length = nm from by rw [hlm, vlK_len, hnm])
  have HADM := Lib.hid (show ∀ b off s, ma = some ⟨b, off, s⟩ → b ≠ w.heap.size ∧ b ≠ X ∧ b ≠ B from fun b off s e => by have h1 := own_addr ho b off s e; have h2 := HXB.out; have h3 := HSUE.out; omega)
  have hva := VecAt.ofOwn (S := MarkS) ho HLNM.out (fun _ _ => trivial)
  have HXV := Lib.hid ((hg.block X (Array.getElem?_eq_some_iff.1 HXU.out).1 (by intro e; cases e; exact absurd HXB.out.2.2 (Nat.lt_irrefl _))).trans HXU.out)
  have HBV := Lib.hid (HBU.out.grown hg HBU.out.size (fun k e => by cases e; exact Nat.le_of_lt HBB.out))
  have HRV := Lib.hid ((hg.block w.heap.size (Array.getElem?_eq_some_iff.1 HRU.out).1 (by intro e; cases e; exact absurd HBB.out (Nat.lt_irrefl _))).trans HRU.out)
  have HSVM := Lib.hid (Nat.le_trans (Nat.le_of_lt HSUE.out) hg.size)
  have HVE := Lib.hid (HVE.out.ob (Ob.of hg) (fun _ h => h) (fun b off s e => (HADE.out b off s e).2.2))
  have xc : v2.cell? ⟨X, 4, none⟩ = some (.slice none 0 0) := cell_blk HXV.out rfl
  have xf : v2.frozen? ⟨X, 4, none⟩ = false := fro_blk HXV.out 4
  obtain ⟨u2, hu⟩ : ∃ z, z = v2.setCell ⟨X, 4, none⟩ (.slice ma nm mc) := ⟨_, rfl⟩
  have HXU := Lib.hid (show u2.heap[X]? = some (.cells #[.int .i64 (t1.1 : Int), .int .i64 (t2.1 : Int), .int .i64 (t3.1 : Int), .slice ea ne ec, .slice ma nm mc, .slice none 0 0] 26 (0, 0)) from by rw [hu]; exact heap_set HXV.out 4 _)
  have HCU := Lib.hid (show CurAt 123 u2 B a2 m1 c2 xs sM.1 sM.2 from by rw [hu]; exact hc.set (X := X) (j := 4) HLO.out HXB.out.1 _)
  have HBU := Lib.hid (show Below w.heap.size w u2 from by rw [hu]; exact HBV.out.setCell (p := ⟨X, 4, none⟩) (Nat.le_of_lt HXB.out.2.1) _)
  have HRU := Lib.hid (show u2.heap[w.heap.size]? = some (.cells #[.int .i64 0, .int .i64 0, .int .i64 0, .slice none 0 0, .slice none 0 0, .slice none 0 0] 26 (0, 0)) from by rw [hu]; exact (Below.heap_setCell _ ⟨X, 4, none⟩ _ w.heap.size (by show w.heap.size ≠ X; have := HXB.out; omega)).trans HRV.out)
  have HSUM := Lib.hid (show X < u2.heap.size from (Array.getElem?_eq_some_iff.1 HXU.out).1)
  have os : Ob X v2 u2 := by rw [hu]; exact Ob.set HXV.out _
  have HVM := Lib.hid (hva.ob os (fun _ h => h) (fun b off s e => (HADM.out b off s e).2.1))
  have HVE := Lib.hid (HVE.out.ob os (fun _ h => h) (fun b off s e => (HADE.out b off s e).2.1))
  have hE := eachO_any HCU.out
  rw [hu] at hE
  have HOA := Lib.hid hE
  have HUE := Lib.hid hu
  clear hnm hlm hsM ho hc hg hva os hu hE HXV HBV HRV
  go_wp2_with fail
  clear xc xf
  refine HOA.out.mono ?_
  rintro e v3 ⟨oa, oc, rfl, ho, hc, hg⟩
  rw [← HUE.out] at ho hg
  obtain ⟨no, hno⟩ : ∃ z, z = rN xs 8 (sM.1, sM.2) := ⟨_, rfl⟩
  obtain ⟨lo, hlo⟩ : ∃ z, z = vlK (fun s => owV xs 8 1099511627776 s) (fun s => owS xs 8 1099511627776 s) (rN xs 8 (sM.1, sM.2)) (sN xs 8 (sM.1, sM.2)) := ⟨_, rfl⟩
  obtain ⟨sO, hsO⟩ : ∃ z, z = stK (fun s => owS xs 8 1099511627776 s) (rN xs 8 (sM.1, sM.2)) (sN xs 8 (sM.1, sM.2)) := ⟨_, rfl⟩
  rw [← hlo, ← hno] at ho
  rw [← hsO] at hc
  rw [← hno]
  have Hno := Lib.hid hno
  have Hlo := Lib.hid hlo
  have HsO := Lib.hid hsO
  have HLNO := Lib.hid (show lo.length = no from by rw [hlo, vlK_len, hno])
  have HADO := Lib.hid (show ∀ b off s, oa = some ⟨b, off, s⟩ → b ≠ w.heap.size ∧ b ≠ X ∧ b ≠ B from fun b off s e => by have h1 := own_addr ho b off s e; have h2 := HXB.out; have h3 := HSUM.out; omega)
  have hva := VecAt.ofOwn (S := OwnS) ho HLNO.out (fun _ _ => trivial)
  have HXV := Lib.hid ((hg.block X (Array.getElem?_eq_some_iff.1 HXU.out).1 (by intro e; cases e; exact absurd HXB.out.2.2 (Nat.lt_irrefl _))).trans HXU.out)
  have HBV := Lib.hid (HBU.out.grown hg HBU.out.size (fun k e => by cases e; exact Nat.le_of_lt HBB.out))
  have HRV := Lib.hid ((hg.block w.heap.size (Array.getElem?_eq_some_iff.1 HRU.out).1 (by intro e; cases e; exact absurd HBB.out (Nat.lt_irrefl _))).trans HRU.out)
  have HSVO := Lib.hid (Nat.le_trans (Nat.le_of_lt HSUM.out) hg.size)
  have HVE := Lib.hid (HVE.out.ob (Ob.of hg) (fun _ h => h) (fun b off s e => (HADE.out b off s e).2.2))
  have HVM := Lib.hid (HVM.out.ob (Ob.of hg) (fun _ h => h) (fun b off s e => (HADM.out b off s e).2.2))
  have xc : v3.cell? ⟨X, 5, none⟩ = some (.slice none 0 0) := cell_blk HXV.out rfl
  have xf : v3.frozen? ⟨X, 5, none⟩ = false := fro_blk HXV.out 5
  obtain ⟨u3, hu⟩ : ∃ z, z = v3.setCell ⟨X, 5, none⟩ (.slice oa no oc) := ⟨_, rfl⟩
  have HXU := Lib.hid (show u3.heap[X]? = some (.cells #[.int .i64 (t1.1 : Int), .int .i64 (t2.1 : Int), .int .i64 (t3.1 : Int), .slice ea ne ec, .slice ma nm mc, .slice oa no oc] 26 (0, 0)) from by rw [hu]; exact heap_set HXV.out 5 _)
  have HCU := Lib.hid (show CurAt 123 u3 B a2 m1 c2 xs sO.1 sO.2 from by rw [hu]; exact hc.set (X := X) (j := 5) HLO.out HXB.out.1 _)
  have HBU := Lib.hid (show Below w.heap.size w u3 from by rw [hu]; exact HBV.out.setCell (p := ⟨X, 5, none⟩) (Nat.le_of_lt HXB.out.2.1) _)
  have HRU := Lib.hid (show u3.heap[w.heap.size]? = some (.cells #[.int .i64 0, .int .i64 0, .int .i64 0, .slice none 0 0, .slice none 0 0, .slice none 0 0] 26 (0, 0)) from by rw [hu]; exact (Below.heap_setCell _ ⟨X, 5, none⟩ _ w.heap.size (by show w.heap.size ≠ X; have := HXB.out; omega)).trans HRV.out)
  have HSUO := Lib.hid (show X < u3.heap.size from (Array.getElem?_eq_some_iff.1 HXU.out).1)
  have os : Ob X v3 u3 := by rw [hu]; exact Ob.set HXV.out _
  have HVO := Lib.hid (hva.ob os (fun _ h => h) (fun b off s e => (HADO.out b off s e).2.1))
  have HVE := Lib.hid (HVE.out.ob os (fun _ h => h) (fun b off s e => (HADE.out b off s e).2.1))
  have HVM := Lib.hid (HVM.out.ob os (fun _ h => h) (fun b off s e => (HADM.out b off s e).2.1))
  have HRD := Lib.hid (show rdM xs 1099511627776 2048 262144 64 8 = ⟨t0.1, t1.1, t2.1, t3.1, ne, le, nm, lm, no, lo, sO⟩ from by
    unfold rdM rdE rdMk rdO
    rw [hno, hlo, hsO, Hnm.out, Hlm.out, HsM.out, Hne.out, Hle.out, HsE.out, HT3.out, HT2.out, HT1.out, HT0.out]
    rfl)
  have hcu := HCU.out
  have HEND := Lib.hid (show Calls Tryz.prog 57 #[.pointer (some ⟨B, 0, none⟩)] (v3.setCell ⟨X, 5, none⟩ (.slice oa no oc)) fun r w' => r = .returned (.int .i64 (cend m1 sO.1 sO.2 : Int)) ∧ ∃ q, w' = (v3.setCell ⟨X, 5, none⟩ (.slice oa no oc)).drewN q from by rw [← hu]; exact end_any hcu)
  obtain ⟨ce, hce⟩ : ∃ ce, ce = cend m1 sO.1 sO.2 := ⟨_, rfl⟩
  rw [← hce] at HEND
  have HCE := Lib.hid (show cend xs.length sO.1 sO.2 = ce from by rw [HXL.out]; exact hce.symm)
  have HUE := Lib.hid hu
  have HPS := Lib.hid (show ∀ x ∈ le, x.part.size ≤ 1300 from fun x hx => by
    rw [Hle.out] at hx
    obtain ⟨t, rfl⟩ := vlK_mem hx
    have := (en_sizes xs 1099511627776 2048 262144 t).2
    omega)
  have HMX := Lib.hid (HX.out.below HBU.out)
  have HRV3 := HRV
  clear hno hlo hsO ho hc hg hva os hu hcu hce HXV HBV HRV
  cases hh : hdB t0.1 with
  | false =>
    have z1 : ((bs t0.1).toList == [77, 65, 78, 73, 1]) = false := hh
    have z1b : ¬ (bs t0.1).toList = [77, 65, 78, 73, 1] := fun e => by unfold hdB at hh; rw [e] at hh; cases hh
    have z1c : ((bs t0.1).toList == (⟨#[77, 65, 78, 73, 1]⟩ : ByteArray).toList) = false := by rw [show (⟨#[77, 65, 78, 73, 1]⟩ : ByteArray).toList = [77, 65, 78, 73, 1] from by rw [ByteArray.toList_eq]]; exact hh
    have HNO := Lib.hid (show ¬ OkM xs (rdM xs 1099511627776 2048 262144 64 8) from fun q => by have h1 := q.1; rw [HRD.out] at h1; rw [hh] at h1; cases h1)
    have HRZ := Lib.hid HRU.out
    rw [HUE.out] at HRZ
    have HBZ := Lib.hid HBU.out
    rw [HUE.out] at HBZ
    clear hh
    have hrx : w.heap.size ≠ X := by have := HXB.out; omega
    have rx0 : v3.cell? ⟨w.heap.size, 0, none⟩ = some (.int .i64 0) := cell_blk HRV3.out rfl
    have rxf0 : v3.frozen? ⟨w.heap.size, 0, none⟩ = false := fro_blk HRV3.out 0
    have rx1 : v3.cell? ⟨w.heap.size, 1, none⟩ = some (.int .i64 0) := cell_blk HRV3.out rfl
    have rxf1 : v3.frozen? ⟨w.heap.size, 1, none⟩ = false := fro_blk HRV3.out 1
    have rx2 : v3.cell? ⟨w.heap.size, 2, none⟩ = some (.int .i64 0) := cell_blk HRV3.out rfl
    have rxf2 : v3.frozen? ⟨w.heap.size, 2, none⟩ = false := fro_blk HRV3.out 2
    have rx3 : v3.cell? ⟨w.heap.size, 3, none⟩ = some (.slice none 0 0) := cell_blk HRV3.out rfl
    have rxf3 : v3.frozen? ⟨w.heap.size, 3, none⟩ = false := fro_blk HRV3.out 3
    have rx4 : v3.cell? ⟨w.heap.size, 4, none⟩ = some (.slice none 0 0) := cell_blk HRV3.out rfl
    have rxf4 : v3.frozen? ⟨w.heap.size, 4, none⟩ = false := fro_blk HRV3.out 4
    have rx5 : v3.cell? ⟨w.heap.size, 5, none⟩ = some (.slice none 0 0) := cell_blk HRV3.out rfl
    have rxf5 : v3.frozen? ⟨w.heap.size, 5, none⟩ = false := fro_blk HRV3.out 5
    go_wp2_with fail
    have hr9 := set6 HRZ.out (.int .i64 0) (.int .i64 0) (.int .i64 0) (.slice none 0 0) (.slice none 0 0) (.slice none 0 0)
    refine bodyPost_ret (ret_cell_tmp rfl _ _ w.heap.size 26 #[.int .i64 0, .int .i64 0, .int .i64 0, .slice none 0 0, .slice none 0 0, .slice none 0 0] _ _ rfl hr9 Tryz.underlying26 rfl (by kernel_rfl)) rfl ?_
    exact ⟨.inr (.inl ⟨rfl, HNO.out, rfl⟩), below6 HBZ.out (Nat.le_refl _) _ _ _ _ _ _⟩
  | true =>
  have z1b : (bs t0.1).toList = [77, 65, 78, 73, 1] := by unfold hdB at hh; rw [beq_iff_eq] at hh; exact hh
  have z1 : ((bs t0.1).toList == [77, 65, 78, 73, 1]) = true := hh
  have z1c : ((bs t0.1).toList == (⟨#[77, 65, 78, 73, 1]⟩ : ByteArray).toList) = true := by rw [show (⟨#[77, 65, 78, 73, 1]⟩ : ByteArray).toList = [77, 65, 78, 73, 1] from by rw [ByteArray.toList_eq]]; exact hh
  have HHH := Lib.hid hh
  clear hh
  go_wp2_with fail
  clear xc xf
  refine HEND.out.mono ?_
  rintro e w9 ⟨rfl, qq, hw9⟩
  rw [← HUE.out] at hw9
  have hd9 : Below u3.heap.size u3 w9 := by rw [hw9]; exact ⟨rfl, rfl, rfl, Nat.le_refl _, fun _ _ => rfl⟩
  have HX9 := Lib.hid ((hd9.block X HSUO.out).trans HXU.out)
  have HB9 := Lib.hid (HBU.out.trans (hd9.mono HBU.out.size))
  have HR9 := Lib.hid ((hd9.block w.heap.size (Array.getElem?_eq_some_iff.1 HRU.out).1).trans HRU.out)
  have HVE9 := Lib.hid (HVE.out.kept hd9)
  have HVM9 := Lib.hid (HVM.out.kept hd9)
  have HVO9 := Lib.hid (HVO.out.kept hd9)
  have HS9 := Lib.hid (Nat.lt_of_lt_of_le HSUO.out hd9.size)
  clear hw9 hd9
  by_cases hz9 : ce = 0
  case neg =>
    have z2 : ((ce : Int) != 0) = true := by rw [bne_iff_ne]; omega
    have HNO := Lib.hid (show ¬ OkM xs (rdM xs 1099511627776 2048 262144 64 8) from fun q => by have h1 := q.2.1; rw [HRD.out, HCE.out] at h1; exact hz9 h1)
    clear hz9
    have rx0 : w9.cell? ⟨w.heap.size, 0, none⟩ = some (.int .i64 0) := cell_blk HR9.out rfl
    have rxf0 : w9.frozen? ⟨w.heap.size, 0, none⟩ = false := fro_blk HR9.out 0
    have rx1 : w9.cell? ⟨w.heap.size, 1, none⟩ = some (.int .i64 0) := cell_blk HR9.out rfl
    have rxf1 : w9.frozen? ⟨w.heap.size, 1, none⟩ = false := fro_blk HR9.out 1
    have rx2 : w9.cell? ⟨w.heap.size, 2, none⟩ = some (.int .i64 0) := cell_blk HR9.out rfl
    have rxf2 : w9.frozen? ⟨w.heap.size, 2, none⟩ = false := fro_blk HR9.out 2
    have rx3 : w9.cell? ⟨w.heap.size, 3, none⟩ = some (.slice none 0 0) := cell_blk HR9.out rfl
    have rxf3 : w9.frozen? ⟨w.heap.size, 3, none⟩ = false := fro_blk HR9.out 3
    have rx4 : w9.cell? ⟨w.heap.size, 4, none⟩ = some (.slice none 0 0) := cell_blk HR9.out rfl
    have rxf4 : w9.frozen? ⟨w.heap.size, 4, none⟩ = false := fro_blk HR9.out 4
    have rx5 : w9.cell? ⟨w.heap.size, 5, none⟩ = some (.slice none 0 0) := cell_blk HR9.out rfl
    have rxf5 : w9.frozen? ⟨w.heap.size, 5, none⟩ = false := fro_blk HR9.out 5
    go_wp2_with fail
    have hr9 := set6 HR9.out (.int .i64 0) (.int .i64 0) (.int .i64 0) (.slice none 0 0) (.slice none 0 0) (.slice none 0 0)
    refine bodyPost_ret (ret_cell_tmp rfl _ _ w.heap.size 26 #[.int .i64 0, .int .i64 0, .int .i64 0, .slice none 0 0, .slice none 0 0, .slice none 0 0] _ _ rfl hr9 Tryz.underlying26 rfl (by kernel_rfl)) rfl ?_
    exact ⟨.inr (.inl ⟨rfl, HNO.out, rfl⟩), below6 HB9.out (Nat.le_refl _) _ _ _ _ _ _⟩
  subst hz9
  have z2 : (((0 : Nat) : Int) != 0) = false := by decide
  have p0 : w9.cell? ⟨X, 0, none⟩ = some (.int .i64 (t1.1 : Int)) := cell_blk HX9.out rfl
  have p1 : w9.cell? ⟨X, 1, none⟩ = some (.int .i64 (t2.1 : Int)) := cell_blk HX9.out rfl
  have p2 : w9.cell? ⟨X, 2, none⟩ = some (.int .i64 (t3.1 : Int)) := cell_blk HX9.out rfl
  have p3 : w9.cell? ⟨X, 3, none⟩ = some (.slice ea ne ec) := cell_blk HX9.out rfl
  have p4 : w9.cell? ⟨X, 4, none⟩ = some (.slice ma nm mc) := cell_blk HX9.out rfl
  have p5 : w9.cell? ⟨X, 5, none⟩ = some (.slice oa no oc) := cell_blk HX9.out rfl
  have HMR := Lib.hid (mright_any pfS HVE9.out HVM9.out HVO9.out (s := (t1.1 : Int)) (d := (t2.1 : Int)) (hz := (t3.1 : Int)) (par_any (HX.out.below HB9.out) HPS.out))
  go_wp2_with fail
  refine HMR.out.mono ?_
  rintro e w10 ⟨⟨b9, rfl, hb9⟩, hd10⟩
  have HX10 := Lib.hid ((hd10.block X HS9.out).trans HX9.out)
  have HB10 := Lib.hid (HB9.out.trans (hd10.mono HB9.out.size))
  have HR10 := Lib.hid ((hd10.block w.heap.size (Array.getElem?_eq_some_iff.1 HR9.out).1).trans HR9.out)
  have HVE10 := Lib.hid (HVE9.out.kept hd10)
  have HVM10 := Lib.hid (HVM9.out.kept hd10)
  have HVO10 := Lib.hid (HVO9.out.kept hd10)
  have HB9' := Lib.hid hb9
  clear hd10 hb9 p0 p1 p2 p3 p4 p5
  have rx0 : w10.cell? ⟨w.heap.size, 0, none⟩ = some (.int .i64 0) := cell_blk HR10.out rfl
  have rxf0 : w10.frozen? ⟨w.heap.size, 0, none⟩ = false := fro_blk HR10.out 0
  have rx1 : w10.cell? ⟨w.heap.size, 1, none⟩ = some (.int .i64 0) := cell_blk HR10.out rfl
  have rxf1 : w10.frozen? ⟨w.heap.size, 1, none⟩ = false := fro_blk HR10.out 1
  have rx2 : w10.cell? ⟨w.heap.size, 2, none⟩ = some (.int .i64 0) := cell_blk HR10.out rfl
  have rxf2 : w10.frozen? ⟨w.heap.size, 2, none⟩ = false := fro_blk HR10.out 2
  have rx3 : w10.cell? ⟨w.heap.size, 3, none⟩ = some (.slice none 0 0) := cell_blk HR10.out rfl
  have rxf3 : w10.frozen? ⟨w.heap.size, 3, none⟩ = false := fro_blk HR10.out 3
  have rx4 : w10.cell? ⟨w.heap.size, 4, none⟩ = some (.slice none 0 0) := cell_blk HR10.out rfl
  have rxf4 : w10.frozen? ⟨w.heap.size, 4, none⟩ = false := fro_blk HR10.out 4
  have rx5 : w10.cell? ⟨w.heap.size, 5, none⟩ = some (.slice none 0 0) := cell_blk HR10.out rfl
  have rxf5 : w10.frozen? ⟨w.heap.size, 5, none⟩ = false := fro_blk HR10.out 5
  cases b9 with
  | false =>
    have HNO := Lib.hid (show ¬ OkM xs (rdM xs 1099511627776 2048 262144 64 8) from fun q => by have h1 := q.2.2; rw [HRD.out] at h1; have := HB9'.out.2 h1; cases this)
    go_wp2_with fail
    have hr9 := set6 HR10.out (.int .i64 0) (.int .i64 0) (.int .i64 0) (.slice none 0 0) (.slice none 0 0) (.slice none 0 0)
    refine bodyPost_ret (ret_cell_tmp rfl _ _ w.heap.size 26 #[.int .i64 0, .int .i64 0, .int .i64 0, .slice none 0 0, .slice none 0 0, .slice none 0 0] _ _ rfl hr9 Tryz.underlying26 rfl (by kernel_rfl)) rfl ?_
    exact ⟨.inr (.inl ⟨rfl, HNO.out, rfl⟩), below6 HB10.out (Nat.le_refl _) _ _ _ _ _ _⟩
  | true =>
    have HOKM := Lib.hid (show OkM xs (rdM xs 1099511627776 2048 262144 64 8) from by
      unfold OkM
      rw [HRD.out]
      exact ⟨HHH.out, HCE.out, HB9'.out.1 (by first | rfl | trivial)⟩)
    have p0 : w10.cell? ⟨X, 0, none⟩ = some (.int .i64 (t1.1 : Int)) := cell_blk HX10.out rfl
    have p1 : w10.cell? ⟨X, 1, none⟩ = some (.int .i64 (t2.1 : Int)) := cell_blk HX10.out rfl
    have p2 : w10.cell? ⟨X, 2, none⟩ = some (.int .i64 (t3.1 : Int)) := cell_blk HX10.out rfl
    have p3 : w10.cell? ⟨X, 3, none⟩ = some (.slice ea ne ec) := cell_blk HX10.out rfl
    have p4 : w10.cell? ⟨X, 4, none⟩ = some (.slice ma nm mc) := cell_blk HX10.out rfl
    have p5 : w10.cell? ⟨X, 5, none⟩ = some (.slice oa no oc) := cell_blk HX10.out rfl
    have hrx : w.heap.size ≠ X := by have := HXB.out; omega
    go_wp2_with fail
    have hr9 := set6 HR10.out (.int .i64 (t1.1 : Int)) (.int .i64 (t2.1 : Int)) (.int .i64 (t3.1 : Int)) (.slice ea ne ec) (.slice ma nm mc) (.slice oa no oc)
    refine bodyPost_ret (ret_cell_tmp rfl _ _ w.heap.size 26 #[.int .i64 (t1.1 : Int), .int .i64 (t2.1 : Int), .int .i64 (t3.1 : Int), .slice ea ne ec, .slice ma nm mc, .slice oa no oc] _ _ rfl hr9 Tryz.underlying26 rfl (by kernel_rfl)) rfl ?_
    refine ⟨.inr (.inr ⟨rfl, HOKM.out, ?_⟩), below6 HB10.out (Nat.le_refl _) _ _ _ _ _ _⟩
    rw [HRD.out]
    exact ⟨ea, ec, ma, mc, oa, oc, rfl, vec6o HVE10.out (fun _ _ _ h => h) (fun b off s e => (HADE.out b off s e).1) _ _ _ _ _ _, vec6o HVM10.out (fun _ _ _ h => h) (fun b off s e => (HADM.out b off s e).1) _ _ _ _ _ _, vec6o HVO10.out (fun _ _ _ h => h) (fun b off s e => (HADO.out b off s e).1) _ _ _ _ _ _⟩
end Go.Proofs.YtbdgcfimbblncaaGreatDoor
end PkMB7_3
section PkMB7_4
/- Manifests: what is written is read: plainly. -/
namespace Go.Proofs.YtbdgcfimbblncaaGreatDoor
open Go.RowKit NumsPlain LabPlain CrcPlain
set_option linter.unusedVariables false

theorem ccn_at {xs p q : List Nat} {n : Nat} {m : Int} {ab : Nat} (h : xs = p ++ (pu n ++ q)) (hn : n < 18446744073709551616) (hm : (n : Int) ≤ m) : ccn xs p.length 0 m ab = (n, (p ++ pu n).length, 0) := by
  have h1 : ru xs (p.length : Int) = (n, (pu n).length, 0) := by
    rw [ru_nat, h, List.drop_left]
    exact uu_back hn q
  have h2 : cu xs p.length 0 = (n, p.length + (pu n).length, 0) := by
    unfold cu
    rw [if_pos rfl, h1]
    rfl
  unfold ccn
  rw [if_neg (by simp), h2, if_neg (by simp), if_neg (by simp only; omega), List.length_append]
theorem rn_at {xs p q : List Nat} {n : Nat} {m : Int} (h : xs = p ++ (pu n ++ q)) (hn : n < 18446744073709551616) (hm : (n : Int) ≤ m) : rN xs m (p.length, 0) = n ∧ sN xs m (p.length, 0) = ((p ++ pu n).length, 0) := by
  unfold rN sN
  rw [ccn_at h hn hm]
  exact ⟨rfl, rfl⟩
theorem cb_at {xs p q : List Nat} {l : List Nat} (h : xs = p ++ (l ++ q)) : cb xs p.length 0 (l.length : Int) = (l, (p ++ l).length, 0) := by
  unfold cb
  rw [if_neg (by simp), if_neg (by rw [h]; simp only [List.length_append]; omega), h, List.drop_left, Int.toNat_natCast, List.take_left, List.length_append]
theorem rt_at {xs p q : List Nat} {s : ByteArray} {m : Int} (h : xs = p ++ (txC s ++ q)) (hn : s.size < 18446744073709551616) (hm : (s.size : Int) ≤ m) : rT xs m (p.length, 0) = byl s ∧ sT xs m (p.length, 0) = ((p ++ txC s).length, 0) := by
  have h1 : xs = p ++ (pu s.size ++ (byl s ++ q)) := by rw [h]; unfold txC; simp only [List.append_assoc]
  have h2 : xs = (p ++ pu s.size) ++ (byl s ++ q) := by rw [h1]; simp only [List.append_assoc]
  have h3 := ccn_at (ab := 5) h1 hn hm
  have h4 := cb_at h2
  rw [byl_len] at h4
  have h5 : ct xs p.length 0 m = (byl s, ((p ++ pu s.size) ++ byl s).length, 0) := by
    unfold ct
    rw [if_neg (by simp), h3]
    simp only
    rw [h4, if_neg (by simp)]
  unfold rT sT
  rw [h5]
  refine ⟨rfl, ?_⟩
  unfold txC
  simp only [List.append_assoc]
theorem mk_at {xs p q : List Nat} {x : Int × Int} {m1 m2 : Int} (h : xs = p ++ (markC x ++ q)) (h1 : 0 ≤ x.1 ∧ x.1 ≤ m1 ∧ x.1 ≤ 1099511627775) (h2 : 0 ≤ x.2 ∧ x.2 ≤ m2 ∧ x.2 ≤ 1099511627775) : mkV xs m1 m2 (p.length, 0) = x ∧ mkS xs m1 m2 (p.length, 0) = ((p ++ markC x).length, 0) := by
  have e : markC x = pu x.1.toNat ++ pu x.2.toNat := by unfold markC; rw [nI_cons, nI_one]
  have a1 : xs = p ++ (pu x.1.toNat ++ (pu x.2.toNat ++ q)) := by rw [h, e]; simp only [List.append_assoc]
  have r1 := rn_at (m := m1) a1 (by omega) (by omega)
  have a2 : xs = (p ++ pu x.1.toNat) ++ (pu x.2.toNat ++ q) := by rw [a1]; simp only [List.append_assoc]
  have r2 := rn_at (m := m2) a2 (by omega) (by omega)
  unfold mkV mkS
  rw [r1.1, r1.2, r2.1, r2.2, e]
  refine ⟨Prod.ext (by show ((x.1.toNat : Nat) : Int) = x.1; omega) (by show ((x.2.toNat : Nat) : Int) = x.2; omega), by simp only [List.append_assoc]⟩
theorem ow_at {xs p q : List Nat} {x : Int × Int × Int} {m1 m2 : Int} (h : xs = p ++ (ownC x ++ q)) (h1 : 0 ≤ x.1 ∧ x.1 ≤ m1 ∧ x.1 ≤ 1099511627775) (h2 : 0 ≤ x.2.1 ∧ x.2.1 ≤ m2 ∧ x.2.1 ≤ 1099511627775) (h3 : 0 ≤ x.2.2 ∧ x.2.2 ≤ m2 ∧ x.2.2 ≤ 1099511627775) : owV xs m1 m2 (p.length, 0) = x ∧ owS xs m1 m2 (p.length, 0) = ((p ++ ownC x).length, 0) := by
  have e : ownC x = pu x.1.toNat ++ (pu x.2.1.toNat ++ pu x.2.2.toNat) := by unfold ownC; rw [nI_cons, nI_cons, nI_one]
  have a1 : xs = p ++ (pu x.1.toNat ++ (pu x.2.1.toNat ++ (pu x.2.2.toNat ++ q))) := by rw [h, e]; simp only [List.append_assoc]
  have r1 := rn_at (m := m1) a1 (by omega) (by omega)
  have a2 : xs = (p ++ pu x.1.toNat) ++ (pu x.2.1.toNat ++ (pu x.2.2.toNat ++ q)) := by rw [a1]; simp only [List.append_assoc]
  have r2 := rn_at (m := m2) a2 (by omega) (by omega)
  have a3 : xs = ((p ++ pu x.1.toNat) ++ pu x.2.1.toNat) ++ (pu x.2.2.toNat ++ q) := by rw [a2]; simp only [List.append_assoc]
  have r3 := rn_at (m := m2) a3 (by omega) (by omega)
  unfold owV owS
  rw [r1.1, r1.2, r2.1, r2.2, r3.1, r3.2, e]
  refine ⟨Prod.ext (by show ((x.1.toNat : Nat) : Int) = x.1; omega) (Prod.ext (by show ((x.2.1.toNat : Nat) : Int) = x.2.1; omega) (by show ((x.2.2.toNat : Nat) : Int) = x.2.2; omega)), by simp only [List.append_assoc]⟩
/-- an entry that is read as it was written, by these limits -/
def EntLim (mw mr mz : Int) (x : EntV) : Prop := x.key.size ≤ 40 ∧ x.part.size ≤ 1024 ∧ (0 ≤ x.win ∧ x.win ≤ mw ∧ x.win ≤ 1099511627775) ∧ (0 ≤ x.fst ∧ x.fst ≤ mw ∧ x.fst ≤ 1099511627775) ∧ (0 ≤ x.lst ∧ x.lst ≤ mw ∧ x.lst ≤ 1099511627775) ∧ (0 ≤ x.rows ∧ x.rows ≤ mr ∧ x.rows ≤ 1099511627775) ∧ (0 ≤ x.size ∧ x.size ≤ mz ∧ x.size ≤ 1099511627775) ∧ (0 ≤ x.sum ∧ x.sum ≤ 4294967295) ∧ (0 ≤ x.born ∧ x.born ≤ mw ∧ x.born ≤ 1099511627775)
set_option maxHeartbeats 1000000 in
theorem en_at {xs p q : List Nat} {x : EntV} {mw mr mz : Int} (h : xs = p ++ (entC x ++ q)) (hx : EntLim mw mr mz x) : enV xs mw mr mz (p.length, 0) = x ∧ enS xs mw mr mz (p.length, 0) = ((p ++ entC x).length, 0) := by
  obtain ⟨x0, x1, x2, x3, x4, x5, x6, x7, x8⟩ := x
  obtain ⟨h0, h2, h1, h3, h4, h5, h6, h7, h8⟩ := hx
  simp only at h0 h2 h1 h3 h4 h5 h6 h7 h8
  have e : entC ⟨x0, x1, x2, x3, x4, x5, x6, x7, x8⟩ = txC x0 ++ (pu x1.toNat ++ (txC x2 ++ (pu x3.toNat ++ (pu x4.toNat ++ (pu x5.toNat ++ (pu x6.toNat ++ (pu x7.toNat ++ pu x8.toNat))))))) := by
    unfold entC entN
    rw [nI_one, nI_cons, nI_cons, nI_cons, nI_cons, nI_cons, nI_one]
    simp only [List.append_assoc]
  have a0 : xs = p ++ (txC x0 ++ (pu x1.toNat ++ (txC x2 ++ (pu x3.toNat ++ (pu x4.toNat ++ (pu x5.toNat ++ (pu x6.toNat ++ (pu x7.toNat ++ (pu x8.toNat ++ q))))))))) := by rw [h, e]; simp only [List.append_assoc]
  have r0 := rt_at (m := 40) a0 (by omega) (by omega)
  obtain ⟨p1, hp1⟩ : ∃ z, z = p ++ txC x0 := ⟨_, rfl⟩
  rw [← hp1] at r0
  have a1 : xs = p1 ++ (pu x1.toNat ++ (txC x2 ++ (pu x3.toNat ++ (pu x4.toNat ++ (pu x5.toNat ++ (pu x6.toNat ++ (pu x7.toNat ++ (pu x8.toNat ++ q)))))))) := by rw [a0, hp1]; simp only [List.append_assoc]
  have r1 := rn_at (m := mw) a1 (by omega) (by omega)
  obtain ⟨p2, hp2⟩ : ∃ z, z = p1 ++ pu x1.toNat := ⟨_, rfl⟩
  rw [← hp2] at r1
  have a2 : xs = p2 ++ (txC x2 ++ (pu x3.toNat ++ (pu x4.toNat ++ (pu x5.toNat ++ (pu x6.toNat ++ (pu x7.toNat ++ (pu x8.toNat ++ q))))))) := by rw [a1, hp2]; simp only [List.append_assoc]
  have r2 := rt_at (m := 1024) a2 (by omega) (by omega)
  obtain ⟨p3, hp3⟩ : ∃ z, z = p2 ++ txC x2 := ⟨_, rfl⟩
  rw [← hp3] at r2
  have a3 : xs = p3 ++ (pu x3.toNat ++ (pu x4.toNat ++ (pu x5.toNat ++ (pu x6.toNat ++ (pu x7.toNat ++ (pu x8.toNat ++ q)))))) := by rw [a2, hp3]; simp only [List.append_assoc]
  have r3 := rn_at (m := mw) a3 (by omega) (by omega)
  obtain ⟨p4, hp4⟩ : ∃ z, z = p3 ++ pu x3.toNat := ⟨_, rfl⟩
  rw [← hp4] at r3
  have a4 : xs = p4 ++ (pu x4.toNat ++ (pu x5.toNat ++ (pu x6.toNat ++ (pu x7.toNat ++ (pu x8.toNat ++ q))))) := by rw [a3, hp4]; simp only [List.append_assoc]
  have r4 := rn_at (m := mw) a4 (by omega) (by omega)
  obtain ⟨p5, hp5⟩ : ∃ z, z = p4 ++ pu x4.toNat := ⟨_, rfl⟩
  rw [← hp5] at r4
  have a5 : xs = p5 ++ (pu x5.toNat ++ (pu x6.toNat ++ (pu x7.toNat ++ (pu x8.toNat ++ q)))) := by rw [a4, hp5]; simp only [List.append_assoc]
  have r5 := rn_at (m := mr) a5 (by omega) (by omega)
  obtain ⟨p6, hp6⟩ : ∃ z, z = p5 ++ pu x5.toNat := ⟨_, rfl⟩
  rw [← hp6] at r5
  have a6 : xs = p6 ++ (pu x6.toNat ++ (pu x7.toNat ++ (pu x8.toNat ++ q))) := by rw [a5, hp6]; simp only [List.append_assoc]
  have r6 := rn_at (m := mz) a6 (by omega) (by omega)
  obtain ⟨p7, hp7⟩ : ∃ z, z = p6 ++ pu x6.toNat := ⟨_, rfl⟩
  rw [← hp7] at r6
  have a7 : xs = p7 ++ (pu x7.toNat ++ (pu x8.toNat ++ q)) := by rw [a6, hp7]; simp only [List.append_assoc]
  have r7 := rn_at (m := 4294967295) a7 (by omega) (by omega)
  obtain ⟨p8, hp8⟩ : ∃ z, z = p7 ++ pu x7.toNat := ⟨_, rfl⟩
  rw [← hp8] at r7
  have a8 : xs = p8 ++ (pu x8.toNat ++ q) := by rw [a7, hp8]; simp only [List.append_assoc]
  have r8 := rn_at (m := mw) a8 (by omega) (by omega)
  have hpe : p8 ++ pu x8.toNat = p ++ entC ⟨x0, x1, x2, x3, x4, x5, x6, x7, x8⟩ := by rw [hp8, hp7, hp6, hp5, hp4, hp3, hp2, hp1, e]; simp only [List.append_assoc]
  have k3 : en3 xs mw (p.length, 0) = (p3.length, 0) := by unfold en3; rw [r0.2, r1.2, r2.2]
  have k5 : en5 xs mw (p.length, 0) = (p5.length, 0) := by unfold en5; rw [k3, r3.2, r4.2]
  have k7 : en7 xs mw mr mz (p.length, 0) = (p7.length, 0) := by unfold en7; rw [k5, r5.2, r6.2]
  refine ⟨?_, ?_⟩
  · unfold enV
    rw [k3, k5, k7, r0.1, r0.2, r1.1, r1.2, r2.1, r3.1, r3.2, r4.1, r5.1, r5.2, r6.1, r7.1, r7.2, r8.1, bs_byl, bs_byl]
    simp only [EntV.mk.injEq, true_and]
    refine ⟨?_, ?_, ?_, ?_, ?_, ?_, ?_⟩ <;> omega
  · unfold enS
    rw [k7, r7.2, r8.2, hpe]
theorem sqC_more {α : Type} (f : α → List Nat) (d : α) (l : List α) (k : Nat) : ∀ m, ∃ r, sqC f d l (k + m) = sqC f d l k ++ r
  | 0 => ⟨[], by rw [List.append_nil]; rfl⟩
  | m + 1 => by
    obtain ⟨r, hr⟩ := sqC_more f d l k m
    refine ⟨r ++ f (l.getD (k + m) d), ?_⟩
    show sqC f d l (k + m) ++ f (l.getD (k + m) d) = _
    rw [hr, List.append_assoc]
theorem list_at {α : Type} {xs p q : List Nat} {f : α → List Nat} {d : α} {l : List α} {v : Nat × Nat → α} {g : Nat × Nat → Nat × Nat} (h : xs = p ++ (sqC f d l l.length ++ q))
    (hi : ∀ x ∈ l, ∀ p q, xs = p ++ (f x ++ q) → v (p.length, 0) = x ∧ g (p.length, 0) = ((p ++ f x).length, 0)) : ∀ k, k ≤ l.length → vlK v g k (p.length, 0) = l.take k ∧ stK g k (p.length, 0) = ((p ++ sqC f d l k).length, 0)
  | 0, _ => ⟨rfl, by show (p.length, 0) = _; rw [sqC, List.append_nil]⟩
  | k + 1, hk => by
    obtain ⟨h1, h2⟩ := list_at h hi k (by omega)
    obtain ⟨r, hr⟩ := sqC_more f d l (k + 1) (l.length - (k + 1))
    rw [show k + 1 + (l.length - (k + 1)) = l.length from by omega] at hr
    have hm : l.getD k d ∈ l := by rw [show l.getD k d = l[k] from by simp [show k < l.length from by omega]]; exact List.getElem_mem _
    have h3 := hi (l.getD k d) hm (p ++ sqC f d l k) (r ++ q) (by rw [h, hr, sqC]; simp only [List.append_assoc])
    refine ⟨?_, ?_⟩
    · rw [vlK, h1, h2, h3.1, take_snoc l k d (by omega)]
    · rw [stK, h2, h3.2, sqC, List.append_assoc]
theorem sec_at {α : Type} {xs p q : List Nat} {f : α → List Nat} {d : α} {l : List α} {v : Nat × Nat → α} {g : Nat × Nat → Nat × Nat} {m : Int} (h : xs = p ++ (secC f d l l.length l.length ++ q)) (hl : (l.length : Int) ≤ m) (hl2 : l.length ≤ 300)
    (hi : ∀ x ∈ l, ∀ p q, xs = p ++ (f x ++ q) → v (p.length, 0) = x ∧ g (p.length, 0) = ((p ++ f x).length, 0)) : rN xs m (p.length, 0) = l.length ∧ vlK v g (rN xs m (p.length, 0)) (sN xs m (p.length, 0)) = l ∧ stK g (rN xs m (p.length, 0)) (sN xs m (p.length, 0)) = ((p ++ secC f d l l.length l.length).length, 0) := by
  have a1 : xs = p ++ (pu l.length ++ (sqC f d l l.length ++ q)) := by rw [h]; unfold secC; rw [nI_one]; simp only [List.append_assoc]
  have r1 := rn_at (m := m) a1 (by omega) hl
  have a2 : xs = (p ++ pu l.length) ++ (sqC f d l l.length ++ q) := by rw [a1]; simp only [List.append_assoc]
  have r2 := list_at a2 hi l.length (Nat.le_refl _)
  rw [r1.1, r1.2, r2.1, r2.2, List.take_length]
  refine ⟨rfl, rfl, ?_⟩
  unfold secC
  rw [nI_one]
  simp only [List.append_assoc]
/-- the bytes of a right manifest say it, by limits that it keeps -/
theorem man_at {ns nd nh : Nat} {le : List EntV} {lm : List (Int × Int)} {lo : List (Int × Int × Int)} {mw mr mz k1 k2 : Int} (hs : (ns : Int) ≤ mw ∧ (nd : Int) ≤ mw ∧ (nh : Int) ≤ mw) (hs2 : ns ≤ 1099511627775 ∧ nd ≤ 1099511627775 ∧ nh ≤ 1099511627775) (h1 : ∀ x ∈ le, EntLim mw mr mz x) (h2 : ∀ x ∈ lm, (0 ≤ x.1 ∧ x.1 ≤ k1 ∧ x.1 ≤ 1099511627775) ∧ (0 ≤ x.2 ∧ x.2 ≤ mw ∧ x.2 ≤ 1099511627775)) (h3 : ∀ x ∈ lo, (0 ≤ x.1 ∧ x.1 ≤ k2 ∧ x.1 ≤ 1099511627775) ∧ (0 ≤ x.2.1 ∧ x.2.1 ≤ mw ∧ x.2.1 ≤ 1099511627775) ∧ (0 ≤ x.2.2 ∧ x.2.2 ≤ mw ∧ x.2.2 ≤ 1099511627775)) (l1 : le.length ≤ 256) (l2 : lm.length ≤ 64) (l3 : lo.length ≤ 8) :
    rdM (manC ns nd nh le lm lo) mw mr mz k1 k2 = ⟨[77, 65, 78, 73, 1], ns, nd, nh, le.length, le, lm.length, lm, lo.length, lo, ((manC ns nd nh le lm lo).length, 0)⟩ := by
  obtain ⟨xs, hxs⟩ : ∃ xs, xs = manC ns nd nh le lm lo := ⟨_, rfl⟩
  have a0 : xs = [] ++ ([77, 65, 78, 73, 1] ++ (pu ns ++ (pu nd ++ (pu nh ++ (secC entC EntS.z le le.length le.length ++ (secC markC MarkS.z lm lm.length lm.length ++ (secC ownC OwnS.z lo lo.length lo.length ++ []))))))) := by
    rw [hxs]
    unfold manC
    rw [Int.toNat_natCast, Int.toNat_natCast, Int.toNat_natCast, nI_cons, nI_cons, nI_one]
    simp only [List.append_assoc, List.append_nil, List.nil_append]
  rw [← hxs]
  have c0 : cb xs 0 0 5 = ([77, 65, 78, 73, 1], ([] ++ [77, 65, 78, 73, 1]).length, 0) := cb_at a0
  obtain ⟨p0, hp0⟩ : ∃ z, z = [] ++ [77, 65, 78, 73, 1] := ⟨_, rfl⟩
  rw [← hp0] at c0
  have a1 : xs = p0 ++ (pu ns ++ (pu nd ++ (pu nh ++ (secC entC EntS.z le le.length le.length ++ (secC markC MarkS.z lm lm.length lm.length ++ (secC ownC OwnS.z lo lo.length lo.length ++ [])))))) := by rw [a0, hp0]; simp only [List.append_assoc]
  have r1 := rn_at (m := mw) a1 (by omega) hs.1
  obtain ⟨p1, hp1⟩ : ∃ z, z = p0 ++ pu ns := ⟨_, rfl⟩
  rw [← hp1] at r1
  have a2 : xs = p1 ++ (pu nd ++ (pu nh ++ (secC entC EntS.z le le.length le.length ++ (secC markC MarkS.z lm lm.length lm.length ++ (secC ownC OwnS.z lo lo.length lo.length ++ []))))) := by rw [a1, hp1]; simp only [List.append_assoc]
  have r2 := rn_at (m := mw) a2 (by omega) hs.2.1
  obtain ⟨p2, hp2⟩ : ∃ z, z = p1 ++ pu nd := ⟨_, rfl⟩
  rw [← hp2] at r2
  have a3 : xs = p2 ++ (pu nh ++ (secC entC EntS.z le le.length le.length ++ (secC markC MarkS.z lm lm.length lm.length ++ (secC ownC OwnS.z lo lo.length lo.length ++ [])))) := by rw [a2, hp2]; simp only [List.append_assoc]
  have r3 := rn_at (m := mw) a3 (by omega) hs.2.2
  obtain ⟨p3, hp3⟩ : ∃ z, z = p2 ++ pu nh := ⟨_, rfl⟩
  rw [← hp3] at r3
  have a4 : xs = p3 ++ (secC entC EntS.z le le.length le.length ++ (secC markC MarkS.z lm lm.length lm.length ++ (secC ownC OwnS.z lo lo.length lo.length ++ []))) := by rw [a3, hp3]; simp only [List.append_assoc]
  have r4 := sec_at (m := 256) (v := fun s => enV xs mw mr mz s) (g := fun s => enS xs mw mr mz s) a4 (by omega) (by omega) (fun x hx p q e => en_at e (h1 x hx))
  obtain ⟨p4, hp4⟩ : ∃ z, z = p3 ++ secC entC EntS.z le le.length le.length := ⟨_, rfl⟩
  rw [← hp4] at r4
  have a5 : xs = p4 ++ (secC markC MarkS.z lm lm.length lm.length ++ (secC ownC OwnS.z lo lo.length lo.length ++ [])) := by rw [a4, hp4]; simp only [List.append_assoc]
  have r5 := sec_at (m := 64) (v := fun s => mkV xs k1 mw s) (g := fun s => mkS xs k1 mw s) a5 (by omega) (by omega) (fun x hx p q e => mk_at e (h2 x hx).1 (h2 x hx).2)
  obtain ⟨p5, hp5⟩ : ∃ z, z = p4 ++ secC markC MarkS.z lm lm.length lm.length := ⟨_, rfl⟩
  rw [← hp5] at r5
  have a6 : xs = p5 ++ (secC ownC OwnS.z lo lo.length lo.length ++ []) := by rw [a5, hp5]; simp only [List.append_assoc]
  have r6 := sec_at (m := 8) (v := fun s => owV xs k2 mw s) (g := fun s => owS xs k2 mw s) a6 (by omega) (by omega) (fun x hx p q e => ow_at e (h3 x hx).1 (h3 x hx).2.1 (h3 x hx).2.2)
  have hend : p5 ++ secC ownC OwnS.z lo lo.length lo.length = xs := by rw [a6, List.append_nil]
  rw [hend] at r6
  unfold rdM
  rw [c0]
  simp only
  rw [r1.1, r1.2, r2.1, r2.2, r3.1, r3.2]
  unfold rdE
  rw [r4.2.1, r4.2.2, r4.1]
  unfold rdMk
  rw [r5.2.1, r5.2.2, r5.1]
  unfold rdO
  rw [r6.2.1, r6.2.2, r6.1]
theorem sealed_inj {xs ys : List Nat} (h : sealed xs = sealed ys) : xs = ys := by
  have h1 := congrArg op h
  rw [op_sealed, op_sealed] at h1
  exact (Prod.mk.inj h1).1
end Go.Proofs.YtbdgcfimbblncaaGreatDoor
end PkMB7_4

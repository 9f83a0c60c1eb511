/- Texts put together by packtpl2.py: LabRP, MfQE. -/
import Derived.Test.YtbdgcfimbblncaaGreatDoorPkMC3
import Derived.Test.YtbdgcfimbblncaaGreatDoorPkMC5
import Derived.Test.YtbdgcfimbblncaaGreatDoorPkMC6
section PkMC7_0
/- Put together out of XLabRead, XLabRParse. -/
section SecLabRP0
/- The reference's read, walked. -/
namespace Go.Proofs.YtbdgcfimbblncaaGreatDoor
open Go.RowKit LabPlain
set_option linter.unusedVariables false

theorem ext_toList (s : ByteArray) (a b : Nat) : (s.extract a b).toList = ((tb s).drop a).take (b - a) := Lib.extract_toList s a b
theorem bs_toL (xs : List Nat) : (bs xs).toList = xs.map UInt8.ofNat := by rw [show (bs xs).toList = tb (bs xs) from ByteArray.toList_eq _, tb_bs]
def rdp (l : List UInt8) (x : Nat) : Bool := decide ((qb x).length = 3) && decide (l.take 3 = (qb x).map UInt8.ofNat)
theorem rd_bs {l r : List UInt8} (h : l = 92 :: r) : rd l = ((List.range 256).find? (rdp l)).map fun x => (UInt8.ofNat x, 3) := by
  rw [h, rd_cons, if_pos rfl]; rfl
/-- what read answers -/
def rdN (l : List UInt8) : Nat × Nat := match rd l with
  | none => (0, 0)
  | some (c, n) => (c.toNat, n)

set_option maxRecDepth 100000 in
set_option maxHeartbeats 2000000 in
theorem read_any (s : ByteArray) (hs : s.size ≤ 1300) (k : Nat) (hk : k < s.size) (w : World) :
    Calls Tryz.prog 112 #[.string s, .int .i64 (k : Int)] w fun e w' => e = .returned (.tuple #[.int .u8 ((rdN ((tb s).drop k)).1 : Int), .int .i64 ((rdN ((tb s).drop k)).2 : Int)]) ∧ Below w.heap.size w w' := by
  obtain ⟨c, hc⟩ : ∃ c : Nat, c = (s[k]'hk).toNat := ⟨_, rfl⟩
  have hsk : (s[k]'hk).toNat = c := hc.symm
  have hcl : c < 256 := by rw [hc]; exact UInt8.toNat_lt _
  have hk2 : k < (tb s).length := by rw [tb_len]; exact hk
  have hd : (tb s).drop k = (s[k]'hk) :: (tb s).drop (k + 1) := by rw [List.drop_eq_getElem_cons hk2]; rfl
  have hki : (k : Int) < (s.size : Int) := by omega
  have hk0 : (0 : Int) ≤ (k : Int) := by omega
  have hk1 : (k : Int) + 1 ≤ (s.size : Int) := by omega
  have HC := Lib.hid hc
  have HD := Lib.hid hd
  by_cases h92 : c = 92
  · have hq : ((c : Int) != 92) = false := by simp [h92]
    have e92 : (s[k]'hk) = 92 := UInt8.toNat_inj.1 (by rw [← hc, h92]; rfl)
    have HRD := Lib.hid (rd_bs (l := (tb s).drop k) (r := (tb s).drop (k + 1)) (by rw [hd, e92]))
    have hdl : ((tb s).drop k).length = s.size - k := by rw [List.length_drop, tb_len]
    have HDL := Lib.hid hdl
    clear hc hd h92 e92 hk2 hdl
    go_enter Tryz.func112, Tryz.ntmps112
    go_wp2_with fail
    go_loopw [6] (fun s6 wr => ∃ x : Nat, x ≤ 256 ∧ s6 = .int .i64 (x : Int) ∧ Hid (∀ y, y < x → rdp ((tb s).drop k) y = false) ∧ Hid (Below w.heap.size w wr)) (fun s6 _ => 256 - (intOf s6).toNat)
    case atStart => exact ⟨0, by omega, rfl, Lib.hid (fun y hy => absurd hy (Nat.not_lt_zero _)), Lib.hid (Below.refl _ _)⟩
    case round =>
      obtain ⟨x, hx, rfl, HU, HB⟩ := hrel
      rename World => wr
      by_cases hx2 : x < 256
      · have hxi : (x : Int) < 256 := by omega
        have hx0 : (0 : Int) ≤ (x : Int) := by omega
        have hxm : (x : Int) % 256 = (x : Int) := by omega
        obtain ⟨q, hqe⟩ : ∃ q, q = bs (qb x) := ⟨_, rfl⟩
        have hqs : q.size = (qb x).length := by rw [hqe, bs_size]
        have hql : q.toList = (qb x).map UInt8.ofNat := by rw [hqe, bs_toL]
        have hby := byte_any x hx2 wr
        rw [← hqe] at hby
        have HBY := Lib.hid hby
        have HQL := Lib.hid hql
        have step : ∀ b, rdp ((tb s).drop k) x = b → b = false → ∀ y, y < x + 1 → rdp ((tb s).drop k) y = false := fun b hb hf y hy => by
          rcases Nat.lt_or_ge y x with g | g
          · exact HU.out y g
          · obtain rfl : y = x := by omega
            rw [hb, hf]
        clear hqe hby hql
        by_cases h3 : (qb x).length = 3
        · have hq3 : q.size = 3 := by omega
          have hqi : ((q.size : Int) == 3) = true := by rw [hq3]; rfl
          by_cases hr : k + 3 ≤ s.size
          · have hri : (3 : Int) ≤ (s.size : Int) - (k : Int) := by omega
            have hk3 : (k : Int) + 3 ≤ (s.size : Int) := by omega
            have hcmp : ((s.extract k (k + 3)).toList == q.toList) = rdp ((tb s).drop k) x := by
              rw [ext_toList, HQL.out, show k + 3 - k = 3 by omega]
              unfold rdp
              rw [decide_eq_true h3, Bool.true_and]
              by_cases hh : ((tb s).drop k).take 3 = (qb x).map UInt8.ofNat
              · rw [decide_eq_true hh, beq_iff_eq]; exact hh
              · rw [decide_eq_false hh, beq_eq_false_iff_ne]; exact hh
            cases hp : rdp ((tb s).drop k) x with
            | true =>
              rw [hp] at hcmp
              have HR := Lib.hid (show rdN ((tb s).drop k) = (x, 3) by
                have hf : (List.range 256).find? (rdp ((tb s).drop k)) = some x := List.find?_range_eq_some.2 ⟨hp, List.mem_range.2 hx2, fun j hj => by rw [HU.out j hj]; rfl⟩
                unfold rdN
                rw [HRD.out, hf]
                show ((UInt8.ofNat x).toNat, 3) = _
                rw [UInt8.toNat_ofNat', Nat.mod_eq_of_lt hx2])
              clear hqs hq3 h3 hr hp step
              go_wp2_with fail
              refine HBY.out.mono ?_
              rintro e w2 ⟨rfl, hb2⟩
              have HB2 := Lib.hid (HB.out.trans (hb2.mono HB.out.size))
              clear hb2
              go_wp2_with fail
              go_ret2
              rw [HR.out]; exact ⟨rfl, HB2.out⟩
            | false =>
              rw [hp] at hcmp
              have HU2 := Lib.hid (step _ hp rfl)
              clear hqs hq3 h3 hr hp step
              go_wp2_with fail
              refine HBY.out.mono ?_
              rintro e w2 ⟨rfl, hb2⟩
              have HB2 := Lib.hid (HB.out.trans (hb2.mono HB.out.size))
              clear hb2
              go_wp2_with fail
              go_roundw
              case rel => exact ⟨x + 1, by omega, by go_num, HU2, HB2⟩
              case measure => simp [intOf] <;> omega
          · have hri : (s.size : Int) - (k : Int) < 3 := by omega
            have HU2 := Lib.hid (step false (by
              unfold rdp
              rw [decide_eq_true h3, Bool.true_and, decide_eq_false]
              intro e
              have e2 := congrArg List.length e
              rw [List.length_take, List.length_map, h3, HDL.out] at e2
              omega) rfl)
            clear hqs hq3 h3 hr step
            go_wp2_with fail
            refine HBY.out.mono ?_
            rintro e w2 ⟨rfl, hb2⟩
            have HB2 := Lib.hid (HB.out.trans (hb2.mono HB.out.size))
            clear hb2
            go_wp2_with fail
            go_roundw
            case rel => exact ⟨x + 1, by omega, by go_num, HU2, HB2⟩
            case measure => simp [intOf] <;> omega
        · have hqi : ((q.size : Int) == 3) = false := by rw [beq_eq_false_iff_ne]; omega
          have HU2 := Lib.hid (step false (by unfold rdp; rw [decide_eq_false h3, Bool.false_and]) rfl)
          clear hqs h3 step
          go_wp2_with fail
          refine HBY.out.mono ?_
          rintro e w2 ⟨rfl, hb2⟩
          have HB2 := Lib.hid (HB.out.trans (hb2.mono HB.out.size))
          clear hb2
          go_wp2_with fail
          go_roundw
          case rel => exact ⟨x + 1, by omega, by go_num, HU2, HB2⟩
          case measure => simp [intOf] <;> omega
      · obtain rfl : x = 256 := by omega
        have HR := Lib.hid (show rdN ((tb s).drop k) = (0, 0) by
          have hf : (List.range 256).find? (rdp ((tb s).drop k)) = none := List.find?_range_eq_none.2 fun j hj => by rw [HU.out j hj]; rfl
          unfold rdN
          rw [HRD.out, hf]; rfl)
        clear hx2
        go_wp2_with fail
        go_ret2
        rw [HR.out]; exact ⟨rfl, HB.out⟩
  · have hq : ((c : Int) != 92) = true := by rw [bne_iff_ne]; omega
    obtain ⟨q, hqe⟩ : ∃ q, q = bs (qb c) := ⟨_, rfl⟩
    have hby := fun w1 => byte_any c hcl w1
    rw [← hqe] at hby
    have HBY := Lib.hid hby
    have hne : (s[k]'hk) ≠ 92 := fun e => h92 (by rw [hc, e]; rfl)
    have hcmp : (q.toList == (s.extract k (k + 1)).toList) = plainC c := by
      rw [ext_toList, hqe, bs_toL, show k + 1 - k = 1 by omega, hd, List.take_succ_cons, List.take_zero]
      cases hp : plainC c with
      | true =>
        have : (qb c).map UInt8.ofNat = [s[k]'hk] := by unfold qb; rw [if_pos hp, hc]; simp
        rw [this]; simp
      | false =>
        have : (qb c).length = 3 := by unfold qb; rw [if_neg (by simp [hp])]; rfl
        rw [beq_eq_false_iff_ne]
        intro e
        have e2 := congrArg List.length e
        rw [List.length_map, this] at e2
        simp at e2
    have hrd : rd ((tb s).drop k) = if plainC c then some (s[k]'hk, 1) else none := by rw [hd, rd_cons, if_neg hne, ← hc]
    have hw0 : IntKind.i64.wrap (k : Int) = (k : Int) := IntWalk.i64_in _ (by omega)
    have hw1 : IntKind.i64.wrap ((k : Int) + 1) = (k : Int) + 1 := IntWalk.i64_in _ (by omega)
    have hk01 : (0 : Int) ≤ (k : Int) + 1 := by omega
    have hkk1 : (k : Int) ≤ (k : Int) + 1 := by omega
    cases hp : plainC c with
    | true =>
      rw [hp] at hcmp hrd
      have HR := Lib.hid (show rdN ((tb s).drop k) = (c, 1) by unfold rdN; rw [hrd]; show ((s[k]'hk).toNat, 1) = _; rw [← hc])
      clear hrd hp hqe hby hc hd h92 hne hk2
      go_enter Tryz.func112, Tryz.ntmps112
      go_wp2_with fail
      go_region_held3 (fun w' => True) (trivial) (first | (go_at_call 133; refine (HBY.out _).mono ?_; rintro r w3 ⟨rfl, hbq⟩))
      have HB2 := Lib.hid ((Below.refl w.heap.size w).drew.trans hbq)
      clear hbq
      go_wp2_with fail
      go_ret2
      rw [HR.out]; exact ⟨rfl, HB2.out⟩
    | false =>
      rw [hp] at hcmp hrd
      have HR := Lib.hid (show rdN ((tb s).drop k) = (0, 0) by unfold rdN; rw [hrd]; rfl)
      clear hrd hp hqe hby hc hd h92 hne hk2
      go_enter Tryz.func112, Tryz.ntmps112
      go_wp2_with fail
      go_region_held3 (fun w' => True) (trivial) (first | (go_at_call 133; refine (HBY.out _).mono ?_; rintro r w3 ⟨rfl, hbq⟩))
      have HB2 := Lib.hid ((Below.refl w.heap.size w).drew.trans hbq)
      clear hbq
      go_wp2_with fail
      go_ret2
      rw [HR.out]; exact ⟨rfl, HB2.out⟩
end Go.Proofs.YtbdgcfimbblncaaGreatDoor
end SecLabRP0
section SecLabRP1
/- The reference's Parse, walked. -/
namespace Go.Proofs.YtbdgcfimbblncaaGreatDoor
open Go.RowKit LabPlain
set_option linter.unusedVariables false

theorem grown_set (w : World) (g j : Nat) (u : Value) : w.grownBy (w.setCell ⟨g, j, none⟩ u) (some g) :=
  ⟨rfl, rfl, rfl, by simp, fun k _ hk => heap_setCell_other w ⟨g, j, none⟩ k u (fun e => hk (by simp [e]))⟩
/-- a label's block -/
def LabBlk (w : World) (X : Nat) (a b : ByteArray) : Prop := w.heap[X]? = some (.cells #[.string a, .string b] 150 (0, 0))
theorem LabBlk.c0 {w : World} {X : Nat} {a b : ByteArray} (h : LabBlk w X a b) : w.cell? ⟨X, 0, none⟩ = some (.string a) := by rw [cell_of_row w X 0 _ _ (0, 0) h]; rfl
theorem LabBlk.c1 {w : World} {X : Nat} {a b : ByteArray} (h : LabBlk w X a b) : w.cell? ⟨X, 1, none⟩ = some (.string b) := by rw [cell_of_row w X 1 _ _ (0, 0) h]; rfl
theorem LabBlk.f {w : World} {X : Nat} {a b : ByteArray} (h : LabBlk w X a b) (j : Nat) : w.frozen? ⟨X, j, none⟩ = false := frozen_of_row w X j _ _ h
theorem LabBlk.set0 {w : World} {X : Nat} {a b : ByteArray} (h : LabBlk w X a b) (u : ByteArray) : LabBlk (w.setCell ⟨X, 0, none⟩ (.string u)) X u b := by
  have := heap_setCell_same w X 0 _ _ (.string u) h
  unfold LabBlk; rw [this]; simp
theorem LabBlk.set1 {w : World} {X : Nat} {a b : ByteArray} (h : LabBlk w X a b) (u : ByteArray) : LabBlk (w.setCell ⟨X, 1, none⟩ (.string u)) X a u := by
  have := heap_setCell_same w X 1 _ _ (.string u) h
  unfold LabBlk; rw [this]; simp
theorem LabBlk.kept {w w' : World} {X : Nat} {a b : ByteArray} (h : LabBlk w X a b) (hb : Below w.heap.size w w') : LabBlk w' X a b := by
  have hlt : X < w.heap.size := (Array.getElem?_eq_some_iff.1 h).1
  unfold LabBlk; rw [hb.block X hlt]; exact h
theorem own_not {w : World} {base n X : Nat} {e : TypeId} {size : Nat} {v : Value} {xs : List Value} (h : w.ownsRow base e size v n xs) (hX : w.heap.size ≤ X) : v.ownBlock = none ∨ v.ownBlock ≠ some X := by
  cases hv : v.ownBlock with
  | none => exact .inl rfl
  | some g => refine .inr fun e => ?_; have := (h.lt g hv).2; simp at e; omega
theorem step1_none {l : List UInt8} {c : UInt8} {r : List UInt8} (h : l.dropWhile okU = 61 :: 34 :: c :: r) (hv : rdVal ((c :: r).length + 1) [] (c :: r) = none) : step1 l = none := by
  unfold step1; rw [h]
  show (if (61 : UInt8) = 61 ∧ (34 : UInt8) = 34 then _ else none) = _
  rw [if_pos ⟨rfl, rfl⟩, hv]
theorem step1_some {l : List UInt8} {c : UInt8} {r v r2 : List UInt8} (h : l.dropWhile okU = 61 :: 34 :: c :: r) (hv : rdVal ((c :: r).length + 1) [] (c :: r) = some (v, r2)) : step1 l = some ((bt (l.takeWhile okU), bt v), r2) := by
  unfold step1; rw [h]
  show (if (61 : UInt8) = 61 ∧ (34 : UInt8) = 34 then _ else none) = _
  rw [if_pos ⟨rfl, rfl⟩, hv]
theorem step1_short {l : List UInt8} (h : (l.dropWhile okU).length < 3) : step1 l = none := by
  unfold step1
  rcases hd : l.dropWhile okU with _ | ⟨e, _ | ⟨q, _ | ⟨c, r⟩⟩⟩
  · rfl
  · rfl
  · rfl
  · rw [hd] at h; simp only [List.length_cons] at h; omega
theorem step1_no {l : List UInt8} {e q : UInt8} {r : List UInt8} (h : l.dropWhile okU = e :: q :: r) (hne : ¬ (e = 61 ∧ q = 34)) : step1 l = none := by
  unfold step1; rw [h]
  rcases r with _ | ⟨c, r⟩
  · rfl
  · show (if e = 61 ∧ q = 34 then _ else none) = _
    rw [if_neg hne]

set_option maxRecDepth 100000 in
set_option maxHeartbeats 8000000 in
theorem rparse_any (s : ByteArray) (hs : s.size ≤ 1300) (w : World) :
    Calls Tryz.prog 80 #[.string s] w fun e w' => ∃ a n c, e = .returned (.tuple #[.slice a n c, .bool (setIn s).isSome]) ∧ LabsAt w' a n c ((setIn s).getD []) ∧ Below w.heap.size w w' := by
  obtain ⟨i0, hi, hz0, hz1, hz2⟩ := info_parts lab_info
  obtain ⟨R, hR⟩ : ∃ R, R = setIn s := ⟨_, rfl⟩
  rw [← hR]
  unfold setIn at hR
  have hb0 : Below w.heap.size w (w.alloc (.cells #[] 150)) := (Below.refl _ _).alloc (Nat.le_refl _) _
  have HB0 := Lib.hid hb0
  have HO0 := Lib.hid (World.ownsRow_lit (base := w.heap.size) (e := 150) (size := 2) w #[] 0 (Nat.le_refl _) (by unfold maxLen; omega) rfl)
  clear hb0
  by_cases h2 : s.size < 2
  · rw [if_pos (.inl h2)] at hR
    have HR := Lib.hid hR
    have h2i : (s.size : Int) < 2 := by omega
    clear hR h2
    go_enter Tryz.func80, Tryz.ntmps80
    go_wp2_with fail
    go_ret2
    rw [HR.out]; exact ⟨none, 0, 0, rfl, LabsAt.empty _ _ _ (by omega) (fun _ => rfl), HB0.out⟩
  have h2i : (2 : Int) ≤ (s.size : Int) := by omega
  have z0 : 0 < s.size := by omega
  obtain ⟨c0, hc0⟩ : ∃ c : Nat, c = (s[0]'z0).toNat := ⟨_, rfl⟩
  have hs0 : (s[0]'z0).toNat = c0 := hc0.symm
  have ha0 : at_ s 0 = c0 := by rw [at_get s 0 z0, hc0]
  have z1 : s.size - 1 < s.size := by omega
  obtain ⟨c1, hc1⟩ : ∃ c : Nat, c = (s[s.size - 1]'z1).toNat := ⟨_, rfl⟩
  have hs1 : (s[s.size - 1]'z1).toNat = c1 := hc1.symm
  have ha1 : at_ s (s.size - 1) = c1 := by rw [at_get s _ z1, hc1]
  have hi0 : (0 : Int) ≤ (s.size : Int) - 1 := by omega
  have hi1 : (s.size : Int) - 1 < (s.size : Int) := by omega
  have hi2 : ((s.size : Int) - 1).toNat = s.size - 1 := by omega
  rw [ha0, ha1] at hR
  clear ha0 ha1 hc0 hc1
  by_cases hq0 : c0 = 123
  case neg =>
    rw [if_pos (.inr (.inl hq0))] at hR
    have HR := Lib.hid hR
    have hq : ((c0 : Int) != 123) = true := by rw [bne_iff_ne]; omega
    clear hR hq0 h2
    go_enter Tryz.func80, Tryz.ntmps80
    go_wp2_with fail
    go_ret2
    rw [HR.out]; exact ⟨none, 0, 0, rfl, LabsAt.empty _ _ _ (by omega) (fun _ => rfl), HB0.out⟩
  have hq : ((c0 : Int) != 123) = false := by simp [hq0]
  by_cases hq1 : c1 = 125
  case neg =>
    rw [if_pos (.inr (.inr hq1))] at hR
    have HR := Lib.hid hR
    have hqq : ((c1 : Int) != 125) = true := by rw [bne_iff_ne]; omega
    clear hR hq0 h2 hq1
    go_enter Tryz.func80, Tryz.ntmps80
    go_wp2_with fail
    go_ret2
    rw [HR.out]; exact ⟨none, 0, 0, rfl, LabsAt.empty _ _ _ (by omega) (fun _ => rfl), HB0.out⟩
  have hqq : ((c1 : Int) != 125) = false := by simp [hq1]
  rw [if_neg (by omega)] at hR
  clear hq0 h2 hq1
  by_cases he : tb s = [123, 125]
  · rw [if_pos he] at hR
    have HR := Lib.hid hR
    have hes : (s.toList == [123, 125]) = true := by rw [show s.toList = tb s from ByteArray.toList_eq _, he]; rfl
    clear hR he
    go_enter Tryz.func80, Tryz.ntmps80
    go_wp2_with fail
    go_ret2
    rw [HR.out]; exact ⟨_, 0, 0, rfl, LabsAt.empty _ _ _ (by omega) (fun e => by cases e), HB0.out⟩
  · rw [if_neg he] at hR
    have HR := Lib.hid hR
    have hes : (s.toList == [123, 125]) = false := by rw [show s.toList = tb s from ByteArray.toList_eq _, beq_eq_false_iff_ne]; exact he
    clear hR he
    go_enter Tryz.func80, Tryz.ntmps80
    go_wp2_with fail
    clear hq hqq hes hs0 hs1 hi0 hi1 hi2 h2i z0 z1
    go_loopw [4, 5] (fun s4 s5 wr => ∃ (k m cp : Nat) (a : Option Addr) (acc : List Lab), k ≤ s.size ∧ m ≤ 5 ∧ s5 = .int .i64 (k : Int) ∧ s4 = .slice a m cp ∧ Hid (acc.length = m) ∧ Hid (∀ x ∈ acc, x.1.size ≤ 1300 ∧ x.2.size ≤ 1300) ∧ Hid (R = rparseF (5 - m) acc ((tb s).drop k)) ∧ Hid (wr.ownsRow w.heap.size 150 2 (.slice a m cp) m (lcells acc)) ∧ Hid (Below w.heap.size w wr)) (fun s4 _ _ => 5 - lenOf s4)
    case atStart => exact ⟨1, 0, 0, _, [], by omega, by omega, rfl, rfl, Lib.hid rfl, Lib.hid (fun x hx => by cases hx), HR, HO0, HB0⟩
    case round =>
      clear HO0 HB0 HR
      obtain ⟨k, m, cp, a, acc, hk, hm5, rfl, rfl, HA, HS, HR, HO, HB⟩ := hrel
      rename World => wr
      have hbs := HB.out.size
      by_cases hm : m < 5
      · have hmi : (m : Int) < 5 := by omega
        obtain ⟨kk, hkk⟩ : ∃ kk, 5 - m = kk + 1 := ⟨4 - m, by omega⟩
        have hR := HR.out
        rw [hkk] at hR
        have HRK := Lib.hid hR
        obtain ⟨l, hl⟩ : ∃ l, l = (tb s).drop k := ⟨_, rfl⟩
        obtain ⟨X, hX⟩ : ∃ X, X = wr.heap.size := ⟨_, rfl⟩
        obtain ⟨w2, hw2⟩ : ∃ w2, w2 = wr.alloc (.cells #[.string { data := #[] }, .string { data := #[] }] 150) := ⟨_, rfl⟩
        have HB2 := Lib.hid (show Below w.heap.size w w2 by rw [hw2]; exact HB.out.alloc hbs _)
        have HO2 := Lib.hid (show w2.ownsRow w.heap.size 150 2 (.slice a m cp) m (lcells acc) by rw [hw2]; exact HO.out.alloc _)
        have HK2 := Lib.hid (show LabBlk w2 X (bt []) (bt []) by unfold LabBlk; rw [hw2, hX]; exact heap_alloc_new wr _)
        have HNX := Lib.hid (show (Value.slice a m cp).ownBlock = none ∨ (Value.slice a m cp).ownBlock ≠ some X from own_not HO.out (by omega))
        have HXW := Lib.hid (show w.heap.size ≤ X by omega)
        have HW2 := Lib.hid hw2
        have HXE := Lib.hid hX
        have HLE := Lib.hid hl
        clear hw2 hX hR hl
        go_wp2_with fail
        rw [← HW2.out, ← HXE.out]
        go_loopw [5] (fun s5 wq => ∃ (p : Nat) (done : List UInt8), k ≤ p ∧ p ≤ s.size ∧ done.length ≤ p ∧ s5 = .int .i64 (p : Int) ∧ Hid (l.takeWhile okU = done ++ ((tb s).drop p).takeWhile okU ∧ l.dropWhile okU = ((tb s).drop p).dropWhile okU) ∧ Hid (LabBlk wq X (bt done) (bt [])) ∧ Hid (wq.ownsRow w.heap.size 150 2 (.slice a m cp) m (lcells acc)) ∧ Hid (Below w.heap.size w wq)) (fun s5 _ => s.size - (intOf s5).toNat)
        case atStart => exact ⟨k, [], by omega, by omega, by simp, rfl, Lib.hid ⟨by rw [HLE.out]; rfl, by rw [HLE.out]⟩, HK2, HO2, HB2⟩
        case round =>
          clear HK2 HO2 HB2 HB HO
          obtain ⟨p, done, hkp, hps, hdl, rfl, HT, HK, HO, HB⟩ := hrel
          rename World => wq
          have hbq := HB.out.size
          have hk0 := HK.out.c0
          have hk1 := HK.out.c1
          have hf0 := HK.out.f 0
          have hf1 := HK.out.f 1
          by_cases hp : p < s.size
          · have hpi : (p : Int) < (s.size : Int) := by omega
            have hp0 : (0 : Int) ≤ (p : Int) := by omega
            obtain ⟨c, hc⟩ : ∃ c : Nat, c = (s[p]'hp).toNat := ⟨_, rfl⟩
            have hsp : (s[p]'hp).toNat = c := hc.symm
            have hcl : c < 256 := by rw [hc]; exact UInt8.toNat_lt _
            have hdp : (tb s).drop p = (s[p]'hp) :: (tb s).drop (p + 1) := tb_at s p hp
            have HLT := Lib.hid (letter_any c hcl wq)
            cases hoc : okC c with
            | true =>
              have HOC := Lib.hid hoc
              have hou : okU (s[p]'hp) = true := by unfold okU; rw [← hc]; exact hoc
              have HT2 := Lib.hid (show l.takeWhile okU = (done ++ [s[p]'hp]) ++ ((tb s).drop (p + 1)).takeWhile okU ∧ l.dropWhile okU = ((tb s).drop (p + 1)).dropWhile okU by
                have h1 := HT.out
                rw [hdp, List.takeWhile_cons_of_pos hou, List.dropWhile_cons_of_pos hou] at h1
                exact ⟨by rw [h1.1]; simp, h1.2⟩)
              have hes : (s.extract p (p + 1)).size = 1 := by simp; omega
              have hes2 : min (p + 1) s.size - p = 1 := by omega
              have hds : (bt done).size ≤ 1300 := by rw [bt_size]; omega
              have hff : ¬ 9223372036854775807 < (bt done).size + 1 := by omega
              have hw1 : IntKind.i64.wrap ((p : Int) + 1) = (p : Int) + 1 := IntWalk.i64_in _ (by omega)
              have hpp : (p : Int) ≤ (p : Int) + 1 := by omega
              have hpq : (0 : Int) ≤ (p : Int) + 1 := by omega
              have hpr : (p : Int) + 1 ≤ (s.size : Int) := by omega
              have HE := Lib.hid (show bt done ++ s.extract p (p + 1) = bt (done ++ [s[p]'hp]) by
                apply tb_inj
                rw [tb_append, tb_bt, tb_bt, show tb (s.extract p (p + 1)) = ((tb s).drop p).take (p + 1 - p) from Lib.extract_data s p (p + 1), hdp, show p + 1 - p = 1 by omega, List.take_succ_cons, List.take_zero])
              have HSET := Lib.hid (show LabBlk (wq.setCell ⟨X, 0, none⟩ (.string (bt done ++ s.extract p (p + 1)))) X (bt (done ++ [s[p]'hp])) (bt []) by
                have := HK.out.set0 (bt done ++ s.extract p (p + 1))
                rw [HE.out] at this ⊢; exact this)
              have HOS := Lib.hid (HO.out.kept (grown_set _ X 0 (.string (bt done ++ s.extract p (p + 1)))) HNX.out)
              have HBS := Lib.hid (HB.out.setCell (p := ⟨X, 0, none⟩) HXW.out (.string (bt done ++ s.extract p (p + 1))))
              clear hc hdp hou hoc
              go_wp2_with fail
              refine HLT.out.mono ?_
              rw [HOC.out]
              rintro e w3 ⟨rfl, rfl⟩
              go_wp2_with fail
              go_region
              go_wp2_with fail
              go_roundw
              case rel => exact ⟨p + 1, _, by omega, by omega, by rw [List.length_append]; show done.length + 1 ≤ p + 1; omega, by go_num, HT2, HSET, Lib.hid HOS.out.drew, Lib.hid HBS.out.drew⟩
              case measure => simp [intOf] <;> omega
            | false =>
              have HOC := Lib.hid hoc
              have hou : ¬ okU (s[p]'hp) = true := by unfold okU; rw [← hc, hoc]; decide
              have hT2 : l.takeWhile okU = done ∧ l.dropWhile okU = (tb s).drop p := by
                have h1 := HT.out
                rw [hdp, List.takeWhile_cons_of_neg hou, List.dropWhile_cons_of_neg hou, ← hdp] at h1
                exact ⟨by rw [h1.1]; simp, h1.2⟩
              clear hou hdp
              by_cases hsh : s.size - p < 3
              · have HRR := Lib.hid (show R = none by
                  have hR2 := HRK.out
                  rw [← HLE.out, rparseF, step1_short (by rw [hT2.2, List.length_drop, tb_len]; exact hsh)] at hR2
                  exact hR2)
                have hshi : (s.size : Int) - (p : Int) < 3 := by omega
                clear hc hoc hT2 hsh
                go_wp2_with fail
                refine HLT.out.mono ?_
                rw [HOC.out]
                rintro e w3 ⟨rfl, rfl⟩
                go_wp2_with fail
                go_ret2
                rw [HRR.out]; exact ⟨none, 0, 0, rfl, LabsAt.empty _ _ _ (by omega) (fun _ => rfl), HB.out⟩
              · have hshi : (3 : Int) ≤ (s.size : Int) - (p : Int) := by omega
                have hp2 : p + 1 < s.size := by omega
                have hp3 : p + 2 < s.size := by omega
                have hw1 : IntKind.i64.wrap ((p : Int) + 1) = (p : Int) + 1 := IntWalk.i64_in _ (by omega)
                have hp2i : (p : Int) + 1 < (s.size : Int) := by omega
                have hp20 : (0 : Int) ≤ (p : Int) + 1 := by omega
                obtain ⟨c2, hc2⟩ : ∃ c : Nat, c = (s[p + 1]'hp2).toNat := ⟨_, rfl⟩
                have hsp2 : (s[p + 1]'hp2).toNat = c2 := hc2.symm
                have hno : ¬ ((s[p]'hp) = 61 ∧ (s[p + 1]'hp2) = 34) → R = none := fun hne => by
                  have hR2 := HRK.out
                  rw [← HLE.out, rparseF, step1_no (hT2.2.trans ((tb_at s p hp).trans (congrArg _ (tb_at s (p + 1) hp2)))) hne] at hR2
                  exact hR2
                by_cases h61 : c = 61
                case neg =>
                  have hq61 : ((c : Int) != 61) = true := by rw [bne_iff_ne]; omega
                  have HRR := Lib.hid (hno fun h => h61 (by rw [hc, h.1]; rfl))
                  clear hc hc2 hoc hT2 hno h61 hsh
                  go_wp2_with fail
                  refine HLT.out.mono ?_
                  rw [HOC.out]
                  rintro e w3 ⟨rfl, rfl⟩
                  go_wp2_with fail
                  go_ret2
                  rw [HRR.out]; exact ⟨none, 0, 0, rfl, LabsAt.empty _ _ _ (by omega) (fun _ => rfl), HB.out⟩
                have hq61 : ((c : Int) != 61) = false := by simp [h61]
                have e61 : (s[p]'hp) = 61 := UInt8.toNat_inj.1 (by rw [← hc, h61]; rfl)
                by_cases h34 : c2 = 34
                case neg =>
                  have hq34 : ((c2 : Int) != 34) = true := by rw [bne_iff_ne]; omega
                  have HRR := Lib.hid (hno fun h => h34 (by rw [hc2, h.2]; rfl))
                  clear hc hc2 hoc hT2 hno h61 h34 e61 hsh
                  go_wp2_with fail
                  refine HLT.out.mono ?_
                  rw [HOC.out]
                  rintro e w3 ⟨rfl, rfl⟩
                  go_wp2_with fail
                  go_ret2
                  rw [HRR.out]; exact ⟨none, 0, 0, rfl, LabsAt.empty _ _ _ (by omega) (fun _ => rfl), HB.out⟩
                have hq34 : ((c2 : Int) != 34) = false := by simp [h34]
                have e34 : (s[p + 1]'hp2) = 34 := UInt8.toNat_inj.1 (by rw [← hc2, h34]; rfl)
                clear hno hsh
                obtain ⟨V, hV⟩ : ∃ V, V = rdVal (((tb s).drop (p + 2)).length + 1) [] ((tb s).drop (p + 2)) := ⟨_, rfl⟩
                have HT3 := Lib.hid (show l.takeWhile okU = done ∧ l.dropWhile okU = 61 :: 34 :: (s[p + 2]'hp3) :: (tb s).drop (p + 3) ∧ V = rdVal (((s[p + 2]'hp3) :: (tb s).drop (p + 3)).length + 1) [] ((s[p + 2]'hp3) :: (tb s).drop (p + 3)) by
                  have hd2 := tb_at s (p + 2) hp3
                  refine ⟨hT2.1, ?_, by rw [hV, hd2]⟩
                  rw [hT2.2, tb_at s p hp, tb_at s (p + 1) hp2, hd2, e61, e34])
                have HVS := Lib.hid (show V = rdVal (s.size - (p + 2) + 1) [] ((tb s).drop (p + 2)) by rw [hV, List.length_drop, tb_len])
                have hw4 : IntKind.i64.wrap ((p : Int) + 2) = (p : Int) + 2 := IntWalk.i64_in _ (by omega)
                clear hV hT2 hc hc2 e61 e34 h61 h34 hoc
                go_wp2_with fail
                refine HLT.out.mono ?_
                rw [HOC.out]
                rintro e w3 ⟨rfl, rfl⟩
                go_wp2_with fail
                rename World => wq
                clear hk0 hk1 hf0 hf1
                go_loopw [5] (fun s5 wv => ∃ (p' f : Nat) (vs : List UInt8), p' ≤ s.size ∧ vs.length ≤ p' ∧ s5 = .int .i64 (p' : Int) ∧ Hid (s.size - p' < f) ∧ Hid (V = rdVal f vs ((tb s).drop p')) ∧ Hid (LabBlk wv X (bt done) (bt vs)) ∧ Hid (wv.ownsRow w.heap.size 150 2 (.slice a m cp) m (lcells acc)) ∧ Hid (Below w.heap.size w wv)) (fun s5 _ => s.size - (intOf s5).toNat)
                case atStart => exact ⟨p + 2, _, [], by omega, by simp, by go_num, Lib.hid (by omega), HVS, HK, HO, HB⟩
                case round =>
                  clear HK HO HB HVS
                  obtain ⟨p', f, vs, hps', hvl, rfl, HFL, HVV, HK, HO, HB⟩ := hrel
                  rename World => wv
                  have hbv := HB.out.size
                  have hk0 := HK.out.c0
                  have hk1 := HK.out.c1
                  have hf0 := HK.out.f 0
                  have hf1 := HK.out.f 1
                  by_cases hp' : p' < s.size
                  · have hpi' : (p' : Int) < (s.size : Int) := by omega
                    have hp0' : (0 : Int) ≤ (p' : Int) := by omega
                    obtain ⟨b, hb⟩ : ∃ b : Nat, b = (s[p']'hp').toNat := ⟨_, rfl⟩
                    have hsb : (s[p']'hp').toNat = b := hb.symm
                    have hdp : (tb s).drop p' = (s[p']'hp') :: (tb s).drop (p' + 1) := tb_at s p' hp'
                    by_cases h34b : b = 34
                    · have hb8 : (s[p']'hp') = 34 := UInt8.toNat_inj.1 (by rw [← hb, h34b]; rfl)
                      have hq34 : ((b : Int) != 34) = false := by simp [h34b]
                      rw [hb8] at hdp
                      clear hb h34b
                      have HV := Lib.hid (show V = some (vs, 34 :: (tb s).drop (p' + 1)) by
                        obtain ⟨f, rfl⟩ : ∃ f', f = f' + 1 := ⟨f - 1, by have := HFL.out; omega⟩
                        rw [HVV.out, hdp, rdVal, if_pos rfl])
                      have hst : step1 l = some ((bt done, bt vs), 34 :: (tb s).drop (p' + 1)) := by
                        rw [step1_some HT3.out.2.1 (HT3.out.2.2 ▸ HV.out), HT3.out.1]
                      have hR2 := HRK.out
                      rw [← HLE.out, rparseF, hst] at hR2
                      have HA2 := Lib.hid (show (acc ++ [(bt done, bt vs)]).length = m + 1 by rw [List.length_append, HA.out]; rfl)
                      have HS2 := Lib.hid (show ∀ x ∈ acc ++ [(bt done, bt vs)], x.1.size ≤ 1300 ∧ x.2.size ≤ 1300 from fun x hx => by
                        rcases List.mem_append.1 hx with h | h
                        · exact HS.out x h
                        · rw [List.mem_singleton] at h
                          rw [h]; exact ⟨by show (bt done).size ≤ 1300; rw [bt_size]; omega, by show (bt vs).size ≤ 1300; rw [bt_size]; omega⟩)
                      have hw5 : IntKind.i64.wrap ((p' : Int) + 1) = (p' : Int) + 1 := IntWalk.i64_in _ (by omega)
                      by_cases hp2 : p' + 1 < s.size
                      · have hp2i : (p' : Int) + 1 < (s.size : Int) := by omega
                        have hp20 : (0 : Int) ≤ (p' : Int) + 1 := by omega
                        obtain ⟨d, hd⟩ : ∃ d : Nat, d = (s[p' + 1]'hp2).toNat := ⟨_, rfl⟩
                        have hsd : (s[p' + 1]'hp2).toNat = d := hd.symm
                        have hdp2 : (tb s).drop (p' + 1) = (s[p' + 1]'hp2) :: (tb s).drop (p' + 2) := tb_at s (p' + 1) hp2
                        rw [hdp2] at hR2
                        replace hR2 : R = if (s[p' + 1]'hp2) = 44 then rparseF kk (acc ++ [(bt done, bt vs)]) ((tb s).drop (p' + 2)) else if (s[p' + 1]'hp2) = 125 ∧ (tb s).drop (p' + 2) = [] ∧ isSet (acc ++ [(bt done, bt vs)]) = true then some (acc ++ [(bt done, bt vs)]) else none := hR2
                        by_cases h44 : d = 44
                        · have e44 : (s[p' + 1]'hp2) = 44 := UInt8.toNat_inj.1 (by rw [← hd, h44]; rfl)
                          rw [if_pos e44] at hR2
                          have hq44 : ((d : Int) != 44) = false := by simp [h44]
                          have HRR := Lib.hid (show R = rparseF (5 - (m + 1)) (acc ++ [(bt done, bt vs)]) ((tb s).drop (p' + 2)) by rw [show 5 - (m + 1) = kk by omega]; exact hR2)
                          clear hR2 hd hdp2 e44 h44 hst hb8 hdp
                          have HBA1 := Lib.hid (HB.out.alloc HB.out.size (.cells #[.string (bt done), .string (bt vs)] 150))
                          have HOA1 := Lib.hid (HO.out.alloc (.cells #[.string (bt done), .string (bt vs)] 150))
                          have hba1 := HB.out.size
                          go_wp2_with (at_builtin; refine wpList_append_own_at _ rfl (.tmp 102) (.tmp 104) 112 rfl w.heap.size 150 i0 _ 2 32 Tryz.underlying112 hi hz0 hz1 hz2 rfl (by decide) _ _ _ rfl HOA1.out ⟨wv.heap.size, 0, none⟩ 1 1 [.string (bt done), .string (bt vs)] rfl rfl (two_src _ _ _ _) (lcells_one [(bt done, bt vs)]) (by unfold maxLen; omega) (by omega) (by simp; omega) ?_)
                          intro v5 w5 ho5 hg5 _ _
                          obtain ⟨g5, c5, rfl⟩ := own_some2 ho5 (by omega)
                          have HB5 := Lib.hid (below_own HBA1.out HOA1.out hg5 (Nat.le_refl _) (by simp; omega))
                          have HO5 := Lib.hid (show w5.ownsRow w.heap.size 150 2 (.slice (some ⟨g5, 0, none⟩) (m + 1) c5) (m + 1) (lcells (acc ++ [(bt done, bt vs)])) by rw [lcells_append]; exact ho5)
                          clear ho5 hg5
                          go_wp2_with fail
                          go_roundw
                          case rel => exact ⟨p' + 2, m + 1, c5, _, _, by omega, by omega, by go_num, rfl, HA2, HS2, HRR, HO5, HB5⟩
                          case measure => simp [lenOf] <;> omega
                        · have e44 : (s[p' + 1]'hp2) ≠ 44 := fun e => h44 (by rw [hd, e]; rfl)
                          rw [if_neg e44] at hR2
                          have hq44 : ((d : Int) != 44) = true := by rw [bne_iff_ne]; omega
                          by_cases hlast : p' + 2 = s.size
                          · have hql : ((p' : Int) + 1 != (s.size : Int) - 1) = false := by
                              have : (p' : Int) + 1 = (s.size : Int) - 1 := by omega
                              simp [this]
                            have hnil : (tb s).drop (p' + 2) = [] := List.drop_eq_nil_of_le (by rw [tb_len]; omega)
                            by_cases h125 : d = 125
                            · have e125 : (s[p' + 1]'hp2) = 125 := UInt8.toNat_inj.1 (by rw [← hd, h125]; rfl)
                              have hq125 : ((d : Int) != 125) = false := by simp [h125]
                              have HLS := Lib.hid (fun x hx => (⟨Nat.le_trans (HS2.out x hx).1 (by omega), Nat.le_trans (HS2.out x hx).2 (by omega)⟩ : x.1.size ≤ 140737488355328 ∧ x.2.size ≤ 140737488355328))
                              cases hset : isSet (acc ++ [(bt done, bt vs)]) with
                              | true =>
                                rw [if_pos ⟨e125, hnil, hset⟩] at hR2
                                have HRR := Lib.hid hR2
                                have HSET := Lib.hid hset
                                clear hR2 hd hdp2 e44 h44 hst hb8 hdp hset e125 h125 hnil
                                have HBA1 := Lib.hid (HB.out.alloc HB.out.size (.cells #[.string (bt done), .string (bt vs)] 150))
                                have HOA1 := Lib.hid (HO.out.alloc (.cells #[.string (bt done), .string (bt vs)] 150))
                                have hba1 := HB.out.size
                                go_wp2_with (at_builtin; refine wpList_append_own_at _ rfl (.tmp 102) (.tmp 104) 112 rfl w.heap.size 150 i0 _ 2 32 Tryz.underlying112 hi hz0 hz1 hz2 rfl (by decide) _ _ _ rfl HOA1.out ⟨wv.heap.size, 0, none⟩ 1 1 [.string (bt done), .string (bt vs)] rfl rfl (two_src _ _ _ _) (lcells_one [(bt done, bt vs)]) (by unfold maxLen; omega) (by omega) (by simp; omega) ?_)
                                intro v5 w5 ho5 hg5 _ _
                                obtain ⟨g5, c5, rfl⟩ := own_some2 ho5 (by omega)
                                have HB5 := Lib.hid (below_own HBA1.out HOA1.out hg5 (Nat.le_refl _) (by simp; omega))
                                have HO5 := Lib.hid (show w5.ownsRow w.heap.size 150 2 (.slice (some ⟨g5, 0, none⟩) (m + 1) c5) (m + 1) (lcells (acc ++ [(bt done, bt vs)])) by rw [lcells_append]; exact ho5)
                                clear ho5 hg5
                                obtain ⟨a9, c9, he9, hat⟩ := LabsAt.ofOwn HO5.out HA2.out HLS.out
                                simp only [Value.slice.injEq, true_and] at he9
                                obtain ⟨rfl, rfl⟩ := he9
                                have HAT := Lib.hid hat
                                clear hat
                                go_wp2_with fail
                                refine (rright_any HAT.out).mono ?_
                                rw [HSET.out]
                                rintro e w6 ⟨rfl, hb6⟩
                                have HB6 := Lib.hid (HB5.out.trans (hb6.mono HB5.out.size))
                                have HAT6 := Lib.hid (HAT.out.kept hb6)
                                clear hb6
                                go_wp2_with fail
                                go_ret2
                                rw [HRR.out]; exact ⟨_, _, _, rfl, HAT6.out, HB6.out⟩
                              | false =>
                                rw [if_neg (by rintro ⟨_, _, h⟩; rw [hset] at h; cases h)] at hR2
                                have HRR := Lib.hid hR2
                                have HSET := Lib.hid hset
                                clear hR2 hd hdp2 e44 h44 hst hb8 hdp hset e125 h125 hnil
                                have HBA1 := Lib.hid (HB.out.alloc HB.out.size (.cells #[.string (bt done), .string (bt vs)] 150))
                                have HOA1 := Lib.hid (HO.out.alloc (.cells #[.string (bt done), .string (bt vs)] 150))
                                have hba1 := HB.out.size
                                go_wp2_with (at_builtin; refine wpList_append_own_at _ rfl (.tmp 102) (.tmp 104) 112 rfl w.heap.size 150 i0 _ 2 32 Tryz.underlying112 hi hz0 hz1 hz2 rfl (by decide) _ _ _ rfl HOA1.out ⟨wv.heap.size, 0, none⟩ 1 1 [.string (bt done), .string (bt vs)] rfl rfl (two_src _ _ _ _) (lcells_one [(bt done, bt vs)]) (by unfold maxLen; omega) (by omega) (by simp; omega) ?_)
                                intro v5 w5 ho5 hg5 _ _
                                obtain ⟨g5, c5, rfl⟩ := own_some2 ho5 (by omega)
                                have HB5 := Lib.hid (below_own HBA1.out HOA1.out hg5 (Nat.le_refl _) (by simp; omega))
                                have HO5 := Lib.hid (show w5.ownsRow w.heap.size 150 2 (.slice (some ⟨g5, 0, none⟩) (m + 1) c5) (m + 1) (lcells (acc ++ [(bt done, bt vs)])) by rw [lcells_append]; exact ho5)
                                clear ho5 hg5
                                obtain ⟨a9, c9, he9, hat⟩ := LabsAt.ofOwn HO5.out HA2.out HLS.out
                                simp only [Value.slice.injEq, true_and] at he9
                                obtain ⟨rfl, rfl⟩ := he9
                                have HAT := Lib.hid hat
                                clear hat
                                go_wp2_with fail
                                refine (rright_any HAT.out).mono ?_
                                rw [HSET.out]
                                rintro e w6 ⟨rfl, hb6⟩
                                have HB6 := Lib.hid (HB5.out.trans (hb6.mono HB5.out.size))
                                clear hb6
                                go_wp2_with fail
                                go_ret2
                                rw [HRR.out]; exact ⟨none, 0, 0, rfl, LabsAt.empty _ _ _ (by omega) (fun _ => rfl), HB6.out⟩
                            · rw [if_neg (by rintro ⟨h, _⟩; exact h125 (by rw [hd, h]; rfl))] at hR2
                              have hq125 : ((d : Int) != 125) = true := by rw [bne_iff_ne]; omega
                              have HRR := Lib.hid hR2
                              clear hR2 hd hdp2 e44 h44 hst hb8 hdp h125 hnil
                              have HBA1 := Lib.hid (HB.out.alloc HB.out.size (.cells #[.string (bt done), .string (bt vs)] 150))
                              have HOA1 := Lib.hid (HO.out.alloc (.cells #[.string (bt done), .string (bt vs)] 150))
                              have hba1 := HB.out.size
                              go_wp2_with (at_builtin; refine wpList_append_own_at _ rfl (.tmp 102) (.tmp 104) 112 rfl w.heap.size 150 i0 _ 2 32 Tryz.underlying112 hi hz0 hz1 hz2 rfl (by decide) _ _ _ rfl HOA1.out ⟨wv.heap.size, 0, none⟩ 1 1 [.string (bt done), .string (bt vs)] rfl rfl (two_src _ _ _ _) (lcells_one [(bt done, bt vs)]) (by unfold maxLen; omega) (by omega) (by simp; omega) ?_)
                              intro v5 w5 ho5 hg5 _ _
                              obtain ⟨g5, c5, rfl⟩ := own_some2 ho5 (by omega)
                              have HB5 := Lib.hid (below_own HBA1.out HOA1.out hg5 (Nat.le_refl _) (by simp; omega))
                              have HO5 := Lib.hid (show w5.ownsRow w.heap.size 150 2 (.slice (some ⟨g5, 0, none⟩) (m + 1) c5) (m + 1) (lcells (acc ++ [(bt done, bt vs)])) by rw [lcells_append]; exact ho5)
                              clear ho5 hg5
                              go_wp2_with fail
                              go_ret2
                              rw [HRR.out]; exact ⟨none, 0, 0, rfl, LabsAt.empty _ _ _ (by omega) (fun _ => rfl), HB5.out⟩
                          · have hql : ((p' : Int) + 1 != (s.size : Int) - 1) = true := by rw [bne_iff_ne]; omega
                            rw [if_neg (by
                              rintro ⟨_, h, _⟩
                              have := congrArg List.length h
                              rw [List.length_drop, tb_len] at this
                              simp at this; omega)] at hR2
                            have HRR := Lib.hid hR2
                            clear hR2 hd hdp2 e44 h44 hst hb8 hdp
                            have HBA1 := Lib.hid (HB.out.alloc HB.out.size (.cells #[.string (bt done), .string (bt vs)] 150))
                            have HOA1 := Lib.hid (HO.out.alloc (.cells #[.string (bt done), .string (bt vs)] 150))
                            have hba1 := HB.out.size
                            go_wp2_with (at_builtin; refine wpList_append_own_at _ rfl (.tmp 102) (.tmp 104) 112 rfl w.heap.size 150 i0 _ 2 32 Tryz.underlying112 hi hz0 hz1 hz2 rfl (by decide) _ _ _ rfl HOA1.out ⟨wv.heap.size, 0, none⟩ 1 1 [.string (bt done), .string (bt vs)] rfl rfl (two_src _ _ _ _) (lcells_one [(bt done, bt vs)]) (by unfold maxLen; omega) (by omega) (by simp; omega) ?_)
                            intro v5 w5 ho5 hg5 _ _
                            obtain ⟨g5, c5, rfl⟩ := own_some2 ho5 (by omega)
                            have HB5 := Lib.hid (below_own HBA1.out HOA1.out hg5 (Nat.le_refl _) (by simp; omega))
                            have HO5 := Lib.hid (show w5.ownsRow w.heap.size 150 2 (.slice (some ⟨g5, 0, none⟩) (m + 1) c5) (m + 1) (lcells (acc ++ [(bt done, bt vs)])) by rw [lcells_append]; exact ho5)
                            clear ho5 hg5
                            go_wp2_with fail
                            go_ret2
                            rw [HRR.out]; exact ⟨none, 0, 0, rfl, LabsAt.empty _ _ _ (by omega) (fun _ => rfl), HB5.out⟩
                      · have hp2i : (s.size : Int) ≤ (p' : Int) + 1 := by omega
                        rw [List.drop_eq_nil_of_le (by rw [tb_len]; omega)] at hR2
                        replace hR2 : R = none := hR2
                        have HRR := Lib.hid hR2
                        clear hR2 hst hb8 hdp
                        have HBA1 := Lib.hid (HB.out.alloc HB.out.size (.cells #[.string (bt done), .string (bt vs)] 150))
                        have HOA1 := Lib.hid (HO.out.alloc (.cells #[.string (bt done), .string (bt vs)] 150))
                        have hba1 := HB.out.size
                        go_wp2_with (at_builtin; refine wpList_append_own_at _ rfl (.tmp 102) (.tmp 104) 112 rfl w.heap.size 150 i0 _ 2 32 Tryz.underlying112 hi hz0 hz1 hz2 rfl (by decide) _ _ _ rfl HOA1.out ⟨wv.heap.size, 0, none⟩ 1 1 [.string (bt done), .string (bt vs)] rfl rfl (two_src _ _ _ _) (lcells_one [(bt done, bt vs)]) (by unfold maxLen; omega) (by omega) (by simp; omega) ?_)
                        intro v5 w5 ho5 hg5 _ _
                        obtain ⟨g5, c5, rfl⟩ := own_some2 ho5 (by omega)
                        have HB5 := Lib.hid (below_own HBA1.out HOA1.out hg5 (Nat.le_refl _) (by simp; omega))
                        have HO5 := Lib.hid (show w5.ownsRow w.heap.size 150 2 (.slice (some ⟨g5, 0, none⟩) (m + 1) c5) (m + 1) (lcells (acc ++ [(bt done, bt vs)])) by rw [lcells_append]; exact ho5)
                        clear ho5 hg5
                        go_wp2_with fail
                        go_ret2
                        rw [HRR.out]; exact ⟨none, 0, 0, rfl, LabsAt.empty _ _ _ (by omega) (fun _ => rfl), HB5.out⟩
                    · have hne : (s[p']'hp') ≠ 34 := fun e => h34b (by rw [hb, e]; rfl)
                      have hq34 : ((b : Int) != 34) = true := by rw [bne_iff_ne]; omega
                      have hread := read_any s hs p' hp' wv
                      have hrdv : ∀ (x : Option (UInt8 × Nat)), rd ((tb s).drop p') = x → ∀ f', f = f' + 1 → rdVal f vs ((tb s).drop p') = match x with
                          | none => none
                          | some (x, n) => rdVal f' (vs ++ [x]) (((tb s).drop p').drop n) := fun x hx f' hf => by
                        rw [hdp] at hx ⊢
                        rw [hf, rdVal, if_neg hne, hx]
                        rfl
                      obtain ⟨f, rfl⟩ : ∃ f', f = f' + 1 := ⟨f - 1, by have := HFL.out; omega⟩
                      cases hrd : rd ((tb s).drop p') with
                      | none =>
                        have hrn : rdN ((tb s).drop p') = (0, 0) := by unfold rdN; rw [hrd]
                        rw [hrn] at hread
                        have hVn : V = none := by rw [HVV.out, hrdv _ hrd f rfl]
                        have HRR := Lib.hid (show R = none by
                          have hR2 := HRK.out
                          rw [← HLE.out, rparseF, step1_none HT3.out.2.1 (HT3.out.2.2 ▸ hVn)] at hR2
                          exact hR2)
                        have HRE := Lib.hid hread
                        clear hrd hrn hread hVn hrdv hdp hne hb h34b
                        go_wp2_with fail
                        refine HRE.out.mono ?_
                        rintro e w6 ⟨rfl, hb6⟩
                        have HB6 := Lib.hid (HB.out.trans (hb6.mono hbv))
                        clear hb6
                        go_wp2_with fail
                        go_ret2
                        rw [HRR.out]; exact ⟨none, 0, 0, rfl, LabsAt.empty _ _ _ (by omega) (fun _ => rfl), HB6.out⟩
                      | some y =>
                        obtain ⟨y, n⟩ := y
                        have hsd := rd_sound hrd
                        have hnl : n ≤ s.size - p' := by have := hsd.2.2; rw [List.length_drop, tb_len] at this; exact this
                        have hn0 : 0 < n := hsd.2.1
                        have hrn : rdN ((tb s).drop p') = (y.toNat, n) := by unfold rdN; rw [hrd]
                        rw [hrn] at hread
                        have hV2 := hrdv _ hrd f rfl
                        rw [← HVV.out] at hV2
                        replace hV2 : V = rdVal f (vs ++ [y]) (((tb s).drop p').drop n) := hV2
                        rw [List.drop_drop] at hV2
                        obtain ⟨z, hz⟩ : ∃ z : Nat, z = y.toNat := ⟨_, rfl⟩
                        have hz256 : z < 256 := by rw [hz]; exact UInt8.toNat_lt _
                        rw [← hz] at hread
                        have HVV2 := Lib.hid hV2
                        have HZ := Lib.hid (show bs [z] = bt [y] by apply tb_inj; rw [tb_bs, hz]; simp [tb_bt])
                        have HRE := Lib.hid hread
                        have hnz : ((n : Int) == 0) = false := by rw [beq_eq_false_iff_ne]; omega
                        have hwn : IntKind.i64.wrap ((p' : Int) + (n : Int)) = (p' : Int) + (n : Int) := IntWalk.i64_in _ (by omega)
                        have hvs : (bt vs).size ≤ 1300 := by rw [bt_size]; omega
                        have hzs : (bs [z]).size = 1 := by rw [bs_size]; rfl
                        have hff : ¬ 9223372036854775807 < (bt vs).size + 1 := by omega
                        clear hrd hrn hread hV2 hrdv hdp hne hb h34b hsd hz
                        go_wp2_with fail
                        refine HRE.out.mono ?_
                        rintro e w6 ⟨rfl, hb6⟩
                        have HB6 := Lib.hid (HB.out.trans (hb6.mono hbv))
                        have HO6 := Lib.hid (own_below HO.out hb6)
                        have HK6 := Lib.hid (HK.out.kept hb6)
                        have hbb6 := HB6.out.size
                        have HBA := Lib.hid (HB6.out.alloc hbb6 (.cells #[.int .u8 (z : Int)] 5))
                        have HOA := Lib.hid (HO6.out.alloc (.cells #[.int .u8 (z : Int)] 5))
                        have hKA : LabBlk (w6.alloc (.cells #[.int .u8 (z : Int)] 5)) X (bt done) (bt vs) := HK6.out.kept ((Below.refl _ _).alloc (Nat.le_refl _) _)
                        have HKA := Lib.hid hKA
                        have e0 := hKA.c0
                        have e1 := hKA.c1
                        have ef0 := hKA.f 0
                        have ef1 := hKA.f 1
                        have k0 := HK6.out.c0
                        have k1 := HK6.out.c1
                        have kf1 := HK6.out.f 1
                        have hcv : (convert 30 9 (.slice (some ⟨w6.heap.size, 0, none⟩) 1 1)).run Tryz.prog (w6.alloc (.cells #[.int .u8 (z : Int)] 5)) = .ok (.string (bs [z])) (w6.alloc (.cells #[.int .u8 (z : Int)] 5)) := (BytesAt.lit w6 #[.int .u8 (z : Int)] [z] rfl (by intro x hx; simp at hx; omega) (by simp) (by simp)).conv
                        have HSET := Lib.hid (show LabBlk ((w6.alloc (.cells #[.int .u8 (z : Int)] 5)).setCell ⟨X, 1, none⟩ (.string (bt vs ++ bs [z]))) X (bt done) (bt (vs ++ [y])) by
                          have := hKA.set1 (bt vs ++ bs [z])
                          rw [HZ.out] at this ⊢
                          rw [show bt vs ++ bt [y] = bt (vs ++ [y]) from by apply tb_inj; rw [tb_append, tb_bt, tb_bt, tb_bt]] at this ⊢
                          exact this)
                        have HOS := Lib.hid (HOA.out.kept (grown_set _ X 1 (.string (bt vs ++ bs [z]))) HNX.out)
                        have HBS := Lib.hid (HBA.out.setCell (p := ⟨X, 1, none⟩) HXW.out (.string (bt vs ++ bs [z])))
                        clear hb6 hKA
                        go_wp2_with fail
                        go_roundw
                        case rel => exact ⟨p' + n, f, _, by omega, by rw [List.length_append]; show vs.length + 1 ≤ p' + n; omega, by go_num, Lib.hid (by have := HFL.out; omega), HVV2, HSET, HOS, HBS⟩
                        case measure => simp [intOf] <;> omega
                  · have hpe : p' = s.size := by omega
                    have hpi' : (s.size : Int) ≤ (p' : Int) := by omega
                    have hV0 : V = some (vs, []) := by
                      obtain ⟨f, rfl⟩ : ∃ f', f = f' + 1 := ⟨f - 1, by have := HFL.out; omega⟩
                      rw [HVV.out, List.drop_eq_nil_of_le (by rw [tb_len]; omega), rdVal]
                    have hst : step1 l = some ((bt done, bt vs), []) := by
                      rw [step1_some HT3.out.2.1 (HT3.out.2.2 ▸ hV0), HT3.out.1]
                    have HRR := Lib.hid (show R = none by
                      have hR2 := HRK.out
                      rw [← HLE.out, rparseF, hst] at hR2
                      exact hR2)
                    have hw5 : IntKind.i64.wrap ((p' : Int) + 1) = (p' : Int) + 1 := IntWalk.i64_in _ (by omega)
                    have hp2i : (s.size : Int) ≤ (p' : Int) + 1 := by omega
                    clear hst hV0 hpe hp'
                    have HBA1 := Lib.hid (HB.out.alloc HB.out.size (.cells #[.string (bt done), .string (bt vs)] 150))
                    have HOA1 := Lib.hid (HO.out.alloc (.cells #[.string (bt done), .string (bt vs)] 150))
                    have hba1 := HB.out.size
                    go_wp2_with (at_builtin; refine wpList_append_own_at _ rfl (.tmp 102) (.tmp 104) 112 rfl w.heap.size 150 i0 _ 2 32 Tryz.underlying112 hi hz0 hz1 hz2 rfl (by decide) _ _ _ rfl HOA1.out ⟨wv.heap.size, 0, none⟩ 1 1 [.string (bt done), .string (bt vs)] rfl rfl (two_src _ _ _ _) (lcells_one [(bt done, bt vs)]) (by unfold maxLen; omega) (by omega) (by simp; omega) ?_)
                    intro v5 w5 ho5 hg5 _ _
                    obtain ⟨g5, c5, rfl⟩ := own_some2 ho5 (by omega)
                    have HB5 := Lib.hid (below_own HBA1.out HOA1.out hg5 (Nat.le_refl _) (by simp; omega))
                    have HO5 := Lib.hid (show w5.ownsRow w.heap.size 150 2 (.slice (some ⟨g5, 0, none⟩) (m + 1) c5) (m + 1) (lcells (acc ++ [(bt done, bt vs)])) by rw [lcells_append]; exact ho5)
                    clear ho5 hg5
                    go_wp2_with fail
                    go_ret2
                    rw [HRR.out]; exact ⟨none, 0, 0, rfl, LabsAt.empty _ _ _ (by omega) (fun _ => rfl), HB5.out⟩
          · have hpe : p = s.size := by omega
            have hpi : (s.size : Int) ≤ (p : Int) := by omega
            have hshi : (s.size : Int) - (p : Int) < 3 := by omega
            have HRR := Lib.hid (show R = none by
              have hR2 := HRK.out
              have h1 := HT.out
              rw [List.drop_eq_nil_of_le (by rw [tb_len]; omega)] at h1
              rw [← HLE.out, rparseF, step1_short (by rw [h1.2]; simp)] at hR2
              exact hR2)
            clear hpe hp
            go_wp2_with fail
            go_ret2
            rw [HRR.out]; exact ⟨none, 0, 0, rfl, LabsAt.empty _ _ _ (by omega) (fun _ => rfl), HB.out⟩
      · obtain rfl : m = 5 := by omega
        have HRR := Lib.hid (show R = none by rw [HR.out]; rfl)
        have HLS := Lib.hid (fun x hx => (⟨Nat.le_trans (HS.out x hx).1 (by omega), Nat.le_trans (HS.out x hx).2 (by omega)⟩ : x.1.size ≤ 140737488355328 ∧ x.2.size ≤ 140737488355328))
        have HSET := Lib.hid (show isSet acc = false by unfold isSet; rw [HA.out]; rfl)
        obtain ⟨a9, c9, he9, hat⟩ := LabsAt.ofOwn HO.out HA.out HLS.out
        simp only [Value.slice.injEq, true_and] at he9
        obtain ⟨rfl, rfl⟩ := he9
        have HAT := Lib.hid hat
        clear hat hm
        by_cases hlast : k + 1 = s.size
        · have hql : ((k : Int) != (s.size : Int) - 1) = false := by
            have : (k : Int) = (s.size : Int) - 1 := by omega
            simp [this]
          have hkl : k < s.size := by omega
          have hki : (k : Int) < (s.size : Int) := by omega
          have hk00 : (0 : Int) ≤ (k : Int) := by omega
          obtain ⟨d, hd⟩ : ∃ d : Nat, d = (s[k]'hkl).toNat := ⟨_, rfl⟩
          have hsd : (s[k]'hkl).toNat = d := hd.symm
          clear hd
          by_cases h125 : d = 125
          · have hq125 : ((d : Int) != 125) = false := by simp [h125]
            clear h125
            go_wp2_with fail
            refine (rright_any HAT.out).mono ?_
            rw [HSET.out]
            rintro e w6 ⟨rfl, hb6⟩
            have HB6 := Lib.hid (HB.out.trans (hb6.mono hbs))
            clear hb6
            go_wp2_with fail
            go_ret2
            rw [HRR.out]; exact ⟨none, 0, 0, rfl, LabsAt.empty _ _ _ (by omega) (fun _ => rfl), HB6.out⟩
          · have hq125 : ((d : Int) != 125) = true := by rw [bne_iff_ne]; omega
            clear h125
            go_wp2_with fail
            go_ret2
            rw [HRR.out]; exact ⟨none, 0, 0, rfl, LabsAt.empty _ _ _ (by omega) (fun _ => rfl), HB.out⟩
        · have hql : ((k : Int) != (s.size : Int) - 1) = true := by rw [bne_iff_ne]; omega
          clear hlast
          go_wp2_with fail
          go_ret2
          rw [HRR.out]; exact ⟨none, 0, 0, rfl, LabsAt.empty _ _ _ (by omega) (fun _ => rfl), HB.out⟩
end Go.Proofs.YtbdgcfimbblncaaGreatDoor
end SecLabRP1
end PkMC7_0
section PkMC7_1
/- Manifests: the document's Entry and Right, walked. Written by genmfqe.py. -/
namespace Go.Proofs.YtbdgcfimbblncaaGreatDoor
open Go.RowKit LabPlain
set_option linter.unusedVariables false

def pfS (t : ByteArray) : Int := if (setIn t).isSome then 0 else 4
theorem pfS_is (t : ByteArray) : (pfS t == 0) = (setIn t).isSome := by unfold pfS; cases (setIn t).isSome <;> rfl

set_option maxRecDepth 100000 in
set_option maxHeartbeats 4000000 in
theorem rentry_any {w : World} (x0 : ByteArray) (x1 : Int) (x2 : ByteArray) (x3 x4 x5 x6 x7 x8 : Int) (h0 : x0.size ≤ 140737488355328) (h2 : x2.size ≤ 1300) :
    Calls Tryz.prog 32 #[.agg #[.string x0, .int .i64 x1, .string x2, .int .i64 x3, .int .i64 x4, .int .i64 x5, .int .i64 x6, .int .u32 x7, .int .i64 x8]] w fun e w' => e = .returned (.bool (entB ⟨x0, x1, x2, x3, x4, x5, x6, x7, x8⟩ (setIn x2).isSome)) ∧ Below w.heap.size w w' := by
  obtain ⟨wa, hwa⟩ : ∃ wa, wa = w.alloc (.cells #[.string x0, .int .i64 x1, .string x2, .int .i64 x3, .int .i64 x4, .int .i64 x5, .int .i64 x6, .int .u32 x7, .int .i64 x8] 53) := ⟨_, rfl⟩
  have ba : Below w.heap.size w wa := by rw [hwa]; exact (Below.refl _ _).alloc (Nat.le_refl _) _
  have ga : wa.heap[w.heap.size]? = some (.cells #[.string x0, .int .i64 x1, .string x2, .int .i64 x3, .int .i64 x4, .int .i64 x5, .int .i64 x6, .int .u32 x7, .int .i64 x8] 53 (0, 0)) := by rw [hwa]; exact heap_alloc_new _ _
  obtain ⟨ok, hok⟩ : ∃ b, b = (setIn x2).isSome := ⟨_, rfl⟩
  have HP := Lib.hid (rparse_any x2 h2 wa)
  rw [← hok] at HP ⊢
  obtain ⟨b1, hb1⟩ : ∃ b, b = keyB x0 := ⟨_, rfl⟩
  have HK := Lib.hid (show ∀ W, Calls Tryz.prog 81 #[.string x0] W fun e w' => e = .returned (.bool b1) ∧ w' = W from fun W => by rw [hb1]; exact rkey_any x0 (by omega) W)
  obtain ⟨b2, hb2⟩ : ∃ b, b = numB x1 0 := ⟨_, rfl⟩
  have HW2 := Lib.hid (show ∀ W, Calls Tryz.prog 30 #[.int .i64 x1, .int .i64 0] W fun e w' => e = .returned (.bool b2) ∧ w' = W from fun W => by rw [hb2]; exact rnum_any _ _ W)
  obtain ⟨b3, hb3⟩ : ∃ b, b = numB x3 0 := ⟨_, rfl⟩
  have HW3 := Lib.hid (show ∀ W, Calls Tryz.prog 30 #[.int .i64 x3, .int .i64 0] W fun e w' => e = .returned (.bool b3) ∧ w' = W from fun W => by rw [hb3]; exact rnum_any _ _ W)
  obtain ⟨b4, hb4⟩ : ∃ b, b = numB x4 0 := ⟨_, rfl⟩
  have HW4 := Lib.hid (show ∀ W, Calls Tryz.prog 30 #[.int .i64 x4, .int .i64 0] W fun e w' => e = .returned (.bool b4) ∧ w' = W from fun W => by rw [hb4]; exact rnum_any _ _ W)
  obtain ⟨b5, hb5⟩ : ∃ b, b = numB x8 0 := ⟨_, rfl⟩
  have HW5 := Lib.hid (show ∀ W, Calls Tryz.prog 30 #[.int .i64 x8, .int .i64 0] W fun e w' => e = .returned (.bool b5) ∧ w' = W from fun W => by rw [hb5]; exact rnum_any _ _ W)
  have HBA := Lib.hid ba
  have HGA := Lib.hid ga
  have HWA := Lib.hid hwa
  have H1 := Lib.hid hb1
  have H2 := Lib.hid hb2
  have H3 := Lib.hid hb3
  have H4 := Lib.hid hb4
  have H5 := Lib.hid hb5
  clear hwa ba ga hok hb1 hb2 hb3 hb4 hb5 h0 h2
  have a2 : wa.cell? ⟨w.heap.size, 2, none⟩ = some (.string x2) := cell_blk' HGA.out rfl
  go_enter Tryz.func32, Tryz.ntmps32
  go_wp2_with fail
  rw [← HWA.out]
  refine HP.out.mono ?_
  rintro e w1 ⟨ap, np, cp, rfl, _, hbl⟩
  have HB1 := Lib.hid (HBA.out.trans (hbl.mono HBA.out.size))
  have HG1 := Lib.hid ((hbl.block w.heap.size (Array.getElem?_eq_some_iff.1 HGA.out).1).trans HGA.out)
  have c0 : w1.cell? ⟨w.heap.size, 0, none⟩ = some (.string x0) := cell_blk' HG1.out rfl
  have c1 : w1.cell? ⟨w.heap.size, 1, none⟩ = some (.int .i64 x1) := cell_blk' HG1.out rfl
  have c2 : w1.cell? ⟨w.heap.size, 2, none⟩ = some (.string x2) := cell_blk' HG1.out rfl
  have c3 : w1.cell? ⟨w.heap.size, 3, none⟩ = some (.int .i64 x3) := cell_blk' HG1.out rfl
  have c4 : w1.cell? ⟨w.heap.size, 4, none⟩ = some (.int .i64 x4) := cell_blk' HG1.out rfl
  have c5 : w1.cell? ⟨w.heap.size, 5, none⟩ = some (.int .i64 x5) := cell_blk' HG1.out rfl
  have c6 : w1.cell? ⟨w.heap.size, 6, none⟩ = some (.int .i64 x6) := cell_blk' HG1.out rfl
  have c7 : w1.cell? ⟨w.heap.size, 7, none⟩ = some (.int .u32 x7) := cell_blk' HG1.out rfl
  have c8 : w1.cell? ⟨w.heap.size, 8, none⟩ = some (.int .i64 x8) := cell_blk' HG1.out rfl
  clear hbl a2
  cases ok with
  | false =>
    have HZ := Lib.hid (show entB ⟨x0, x1, x2, x3, x4, x5, x6, x7, x8⟩ false = false from by
      rw [Bool.eq_false_iff]
      intro h
      simp only [entB, withinB, Bool.and_eq_true, decide_eq_true_eq] at h
      exact absurd h.2.2.1 (by simp))
    go_wp2_with fail
    go_ret
    exact ⟨by rw [HZ.out]; rfl, HB1.out⟩
  | true =>
  go_wp2_with fail
  refine (HK.out _).mono ?_
  rintro e w2 ⟨rfl, rfl⟩
  cases b1 with
  | false =>
    have HZ := Lib.hid (show entB ⟨x0, x1, x2, x3, x4, x5, x6, x7, x8⟩ true = false from by
      rw [Bool.eq_false_iff]
      intro h
      simp only [entB, withinB, Bool.and_eq_true, decide_eq_true_eq] at h
      have := H1.out; rw [h.1] at this; cases this)
    go_wp2_with fail
    go_ret
    exact ⟨by rw [HZ.out]; rfl, HB1.out⟩
  | true =>
  go_wp2_with fail
  refine (HW2.out _).mono ?_
  rintro e w2 ⟨rfl, rfl⟩
  cases b2 with
  | false =>
    have HZ := Lib.hid (show entB ⟨x0, x1, x2, x3, x4, x5, x6, x7, x8⟩ true = false from by
      rw [Bool.eq_false_iff]
      intro h
      simp only [entB, withinB, Bool.and_eq_true, decide_eq_true_eq] at h
      have q := H2.out.symm; simp only [numB, Bool.and_eq_false_iff, decide_eq_false_iff_not] at q; omega)
    go_wp2_with fail
    go_ret
    exact ⟨by rw [HZ.out]; rfl, HB1.out⟩
  | true =>
  go_wp2_with fail
  refine (HW3.out _).mono ?_
  rintro e w2 ⟨rfl, rfl⟩
  cases b3 with
  | false =>
    have HZ := Lib.hid (show entB ⟨x0, x1, x2, x3, x4, x5, x6, x7, x8⟩ true = false from by
      rw [Bool.eq_false_iff]
      intro h
      simp only [entB, withinB, Bool.and_eq_true, decide_eq_true_eq] at h
      have q := H3.out.symm; simp only [numB, Bool.and_eq_false_iff, decide_eq_false_iff_not] at q; omega)
    go_wp2_with fail
    go_ret
    exact ⟨by rw [HZ.out]; rfl, HB1.out⟩
  | true =>
  go_wp2_with fail
  refine (HW4.out _).mono ?_
  rintro e w2 ⟨rfl, rfl⟩
  cases b4 with
  | false =>
    have HZ := Lib.hid (show entB ⟨x0, x1, x2, x3, x4, x5, x6, x7, x8⟩ true = false from by
      rw [Bool.eq_false_iff]
      intro h
      simp only [entB, withinB, Bool.and_eq_true, decide_eq_true_eq] at h
      have q := H4.out.symm; simp only [numB, Bool.and_eq_false_iff, decide_eq_false_iff_not] at q; omega)
    go_wp2_with fail
    go_ret
    exact ⟨by rw [HZ.out]; rfl, HB1.out⟩
  | true =>
  by_cases g1 : x3 > x4
  · have HZ := Lib.hid (show entB ⟨x0, x1, x2, x3, x4, x5, x6, x7, x8⟩ true = false from by
      rw [Bool.eq_false_iff]
      intro h
      simp only [entB, withinB, Bool.and_eq_true, decide_eq_true_eq] at h
      omega)
    go_wp2_with fail
    go_ret
    exact ⟨by rw [HZ.out]; rfl, HB1.out⟩
  by_cases g2 : x5 ≥ 1
  case neg =>
    have HZ := Lib.hid (show entB ⟨x0, x1, x2, x3, x4, x5, x6, x7, x8⟩ true = false from by
      rw [Bool.eq_false_iff]
      intro h
      simp only [entB, withinB, Bool.and_eq_true, decide_eq_true_eq] at h
      omega)
    go_wp2_with fail
    go_ret
    exact ⟨by rw [HZ.out]; rfl, HB1.out⟩
  by_cases g3 : x5 ≤ 2048
  case neg =>
    have HZ := Lib.hid (show entB ⟨x0, x1, x2, x3, x4, x5, x6, x7, x8⟩ true = false from by
      rw [Bool.eq_false_iff]
      intro h
      simp only [entB, withinB, Bool.and_eq_true, decide_eq_true_eq] at h
      omega)
    go_wp2_with fail
    go_ret
    exact ⟨by rw [HZ.out]; rfl, HB1.out⟩
  by_cases g4 : x6 ≥ 1
  case neg =>
    have HZ := Lib.hid (show entB ⟨x0, x1, x2, x3, x4, x5, x6, x7, x8⟩ true = false from by
      rw [Bool.eq_false_iff]
      intro h
      simp only [entB, withinB, Bool.and_eq_true, decide_eq_true_eq] at h
      omega)
    go_wp2_with fail
    go_ret
    exact ⟨by rw [HZ.out]; rfl, HB1.out⟩
  by_cases g5 : x6 ≤ 262144
  case neg =>
    have HZ := Lib.hid (show entB ⟨x0, x1, x2, x3, x4, x5, x6, x7, x8⟩ true = false from by
      rw [Bool.eq_false_iff]
      intro h
      simp only [entB, withinB, Bool.and_eq_true, decide_eq_true_eq] at h
      omega)
    go_wp2_with fail
    go_ret
    exact ⟨by rw [HZ.out]; rfl, HB1.out⟩
  go_wp2_with fail
  refine (HW5.out _).mono ?_
  rintro e w2 ⟨rfl, rfl⟩
  cases b5 with
  | false =>
    have HZ := Lib.hid (show entB ⟨x0, x1, x2, x3, x4, x5, x6, x7, x8⟩ true = false from by
      rw [Bool.eq_false_iff]
      intro h
      simp only [entB, withinB, Bool.and_eq_true, decide_eq_true_eq] at h
      have q := H5.out.symm; simp only [numB, Bool.and_eq_false_iff, decide_eq_false_iff_not] at q; omega)
    go_wp2_with fail
    go_ret
    exact ⟨by rw [HZ.out]; rfl, HB1.out⟩
  | true =>
    have HZ := Lib.hid (show entB ⟨x0, x1, x2, x3, x4, x5, x6, x7, x8⟩ true = true from by
      have q1 := H1.out.symm
      have q2 := H2.out.symm
      have q3 := H3.out.symm
      have q4 := H4.out.symm
      have q5 := H5.out.symm
      simp only [numB, Bool.and_eq_true, decide_eq_true_eq] at q2 q3 q4 q5
      simp only [entB, withinB, Bool.and_eq_true, decide_eq_true_eq]
      refine ⟨q1, ⟨?_, ?_⟩, trivial, ?_, ?_, ?_, ⟨?_, ?_⟩, ⟨?_, ?_⟩, ⟨?_, ?_⟩⟩ <;> omega)
    go_wp2_with fail
    go_ret
    exact ⟨by rw [HZ.out]; rfl, HB1.out⟩
end Go.Proofs.YtbdgcfimbblncaaGreatDoor
end PkMC7_1

/- Texts put together by packtpl2.py: DeltaEnc, DeltaBest1, ColPutI, CrcTurnedPlain. -/
import Derived.Test.YtpbijdoemdoijaaGreatDoorPkCa11
import Derived.Test.YtpbijdoemdoijaaGreatDoorPkCa18
import Derived.Test.YtpbijdoemdoijaaGreatDoorPkCa32
import Derived.Deep.Onto
section PkCa33_0
/- Package delta's Encode and the document's Check, Turn, Encode, walked; two rows compared. -/
namespace Go.Proofs.YtpbijdoemdoijaaGreatDoor
open Go.RowKit NumsPlain DeltaPlain
set_option linter.unusedVariables false

/-- what Encode answers -/
def eb (l : List Int) (way : Int) : List Nat := if chk l way = 0 then enc l way else []
theorem eb_ok {l : List Int} {way : Int} (h : chk l way = 0) : eb l way = enc l way := by unfold eb; rw [if_pos h]
theorem eb_no {l : List Int} {way : Int} (h : chk l way ≠ 0) : eb l way = [] := by unfold eb; rw [if_neg h]
theorem flat_snoc {ts : List Int} {k : Nat} (hk : k < ts.length) : (ts.take (k + 1)).flatMap pz = (ts.take k).flatMap pz ++ pz (ts.getD k 0) := by
  rw [← take_next hk, List.flatMap_append]; simp
theorem take_bound {ts : List Int} (h : ∀ x ∈ ts, -4611686018427387904 ≤ x ∧ x ≤ 4611686018427387904) (k : Nat) : ∀ x ∈ ts.take k, -4611686018427387904 ≤ x ∧ x ≤ 4611686018427387904 := fun x hx => h x (List.mem_of_mem_take hx)

/-- the bytes behind k numbers -/
def eb0 (N : Nat) (ts : List Int) (k : Nat) : List Nat := pu N ++ (ts.take k).flatMap pz
theorem eb0_succ {N k : Nat} {ts : List Int} (hk : k < ts.length) : eb0 N ts (k + 1) = eb0 N ts k ++ pu (zig (ts.getD k 0)) := by
  unfold eb0; rw [flat_snoc hk, List.append_assoc]; rfl
theorem eb0_full {N k : Nat} {ts : List Int} (hk : ts.length ≤ k) : eb0 N ts k = pu N ++ ts.flatMap pz := by
  unfold eb0; rw [List.take_of_length_le hk]
theorem eb0_zero (N : Nat) (ts : List Int) : eb0 N ts 0 = pu N := by simp [eb0]
theorem eb0_byte {N k : Nat} {ts : List Int} (hN : N < 18446744073709551616) (h : ∀ x ∈ ts, -4611686018427387904 ≤ x ∧ x ≤ 4611686018427387904) : ∀ y ∈ eb0 N ts k, y < 256 := by
  intro y hy
  rcases List.mem_append.1 hy with g | g
  · exact pu_bytes (by omega) y g
  · exact flat_byte (take_bound h k) y g
theorem eb0_len {N k : Nat} {ts : List Int} (hN : N < 18446744073709551616) (h : ∀ x ∈ ts, -4611686018427387904 ≤ x ∧ x ≤ 4611686018427387904) : (eb0 N ts k).length ≤ 10 + 10 * ts.length := by
  have h1 := pu_ten (n := N) (by omega)
  have h2 := flat_len (take_bound h k)
  have h3 : (ts.take k).length ≤ ts.length := by simp; omega
  simp only [eb0, List.length_append]; omega

set_option maxRecDepth 100000 in
set_option maxHeartbeats 2000000 in
theorem encode_any {w : World} {a : Option Addr} {n c : Nat} {zs : List Int} (h : IntsAt .i64 w a n c zs) (way : Int) :
    Calls Tryz.prog 67 #[.slice a n c, .int .i64 way] w fun e w' => ∃ a' n' c', e = .returned (.tuple #[.slice a' n' c', .int .i64 ((chk zs way : Nat) : Int)]) ∧
      w'.ownsRow w.heap.size 5 1 (.slice a' n' c') n' (bv (eb zs way)) ∧ BytesAt w' a' n' c' (eb zs way) ∧ Below w.heap.size w w' := by
  have HT := Lib.hid (turn_any h way)
  obtain ⟨q, hq⟩ : ∃ q, q = chk zs way := ⟨_, rfl⟩
  rw [← hq] at HT ⊢
  by_cases hq0 : q = 0
  · subst hq0
    obtain ⟨h0, h2, hl, hb⟩ := chk_ok hq.symm
    have htu := tu_ok hq.symm
    have heb := eb_ok hq.symm
    obtain ⟨ts, hts⟩ : ∃ ts, ts = tl zs way := ⟨_, rfl⟩
    have htb := tl_bound hb way
    rw [← hts] at htu htb
    have htl : ts.length = zs.length := by rw [hts, tl_length]
    have he : enc zs way = pu zs.length ++ ts.flatMap pz := by rw [hts]; rfl
    obtain ⟨N, hN⟩ : ∃ N, N = zs.length := ⟨_, rfl⟩
    rw [← hN] at htl he hl
    rw [he] at heb
    have hby : ∀ k, ∀ y ∈ eb0 N ts k, y < 256 := fun k => eb0_byte (by omega) htb
    have hlen : ∀ k, (eb0 N ts k).length ≤ 30000 := fun k => by
      have := eb0_len (N := N) (k := k) (by omega) htb
      omega
    have HTU := Lib.hid htu
    have HEB := Lib.hid heb
    have HTB := Lib.hid htb
    have HTL := Lib.hid htl
    have HBY := Lib.hid hby
    have HLEN := Lib.hid hlen
    clear h hq htu heb hts htb htl he hN hb hby hlen h0 h2
    go_enter Tryz.func67, Tryz.ntmps67
    go_wp2_with fail
    refine HT.out.mono ?_
    rintro e w1 ⟨a1, n1, c1, rfl, hi1, hb1⟩
    rw [HTU.out] at hi1
    obtain rfl : N = n1 := by rw [← hi1.len, HTL.out]
    have HI1 := Lib.hid hi1
    have HB1 := Lib.hid hb1
    have hcap := hi1.cap
    have hcm := hi1.capm
    have HP := Lib.hid (putu_any N (by omega) w1)
    clear hi1 hb1
    go_wp2_with fail
    refine HP.out.mono ?_
    rintro e w2 ⟨v2, rfl, hown2, hb2⟩
    have HO2 := Lib.hid (show w2.ownsRow w1.heap.size 5 1 v2 (eb0 N ts 0).length (bv (eb0 N ts 0)) by
      rw [eb0_zero]; exact hown2)
    have HB2 := Lib.hid hb2
    clear hown2 hb2
    go_wp2_with fail
    go_loopw [8, 26] (fun s8 s26 wr => ∃ k : Nat, k ≤ N ∧ s26 = .int .i64 k ∧ Hid (wr.ownsRow w1.heap.size 5 1 s8 (eb0 N ts k).length (bv (eb0 N ts k))) ∧ Hid (Below w1.heap.size w1 wr)) (fun _ s26 _ => N - (intOf s26).toNat)
    case atStart => exact ⟨0, by omega, rfl, HO2, HB2⟩
    case round =>
      obtain ⟨k, hk, rfl, HO, HB⟩ := hrel
      rename World => wr
      by_cases hkn : k < N
      · obtain ⟨b, off, rfl, hlt, hcell⟩ := (HI1.out.kept HB.out).cells (by omega)
        have hck := hcell k hkn
        obtain ⟨x, hx⟩ : ∃ x, x = ts.getD k 0 := ⟨_, rfl⟩
        rw [← hx] at hck
        have hxb : -4611686018427387904 ≤ x ∧ x ≤ 4611686018427387904 := by rw [hx]; exact getD_mem_or HTB.out (by omega) k
        have HX := Lib.hid (show eb0 N ts (k + 1) = eb0 N ts k ++ pu (zig x) by rw [hx]; exact eb0_succ (by rw [HTL.out]; exact hkn))
        have HPI := Lib.hid (puti x (by omega) (by omega) wr)
        have hl2 : (pu (zig x)).length ≤ 10 := pz_len hxb
        have hl1 := HLEN.out k
        clear hcell hx hxb
        go_wp2_with fail
        refine HPI.out.mono ?_
        rintro e w3 ⟨g3, c3, rfl, hg3, hy3, hb3⟩
        have HY3 := Lib.hid hy3
        have hgo := own_below HO.out hb3
        have HB3 := Lib.hid (HB.out.trans (hb3.mono HB.out.size))
        have hbs := HB3.out.size
        clear hy3 hb3
        go_wp2_with (at_builtin; refine wpList_append_bytes rfl (.tmp 30) (.tmp 32) rfl w1.heap.size _ _ _ rfl hgo _ _ _ _ rfl HY3.out (by omega) hbs ?_)
        intro v4 w4 hown4 hg4
        have HO4 := Lib.hid (show w4.ownsRow w1.heap.size 5 1 v4 (eb0 N ts (k + 1)).length (bv (eb0 N ts (k + 1))) by
          rw [HX.out, List.length_append]; exact hown4)
        have HB4 := Lib.hid (HB3.out.grown hg4 hbs (fun j hj => (hgo.lt j hj).1))
        clear hown4 hg4 hgo
        go_wp2_with fail
        go_roundw
        case rel => exact ⟨k + 1, by omega, by go_num, HO4, HB4⟩
        case measure => simp [intOf]; omega
      · have hkn2 : k = N := by omega
        have hfull : eb0 N ts k = pu N ++ ts.flatMap pz := eb0_full (by rw [HTL.out]; omega)
        have ho := HO.out
        have hby := HBY.out k
        have hll := HLEN.out k
        obtain ⟨E, hE⟩ : ∃ E, E = eb0 N ts k := ⟨_, rfl⟩
        rw [← hE] at ho hby hll
        have HF := Lib.hid (hE.trans hfull)
        obtain ⟨a4, c4, rfl, hy4, _⟩ := BytesAt.ofOwn ho hby (by omega)
        have HY4 := Lib.hid hy4
        have HO4 := Lib.hid ho
        clear ho hby hll hy4 hfull hkn2 hE
        go_wp2_with fail
        go_ret2
        refine ⟨a4, _, c4, rfl, ?_, ?_, HB1.out.trans (HB.out.mono HB1.out.size)⟩
        · rw [HEB.out, ← HF.out]; exact HO4.out.mono HB1.out.size
        · rw [HEB.out, ← HF.out]; exact HY4.out
  · have hno := eb_no (l := zs) (way := way) (by rw [← hq]; exact hq0)
    have HN := Lib.hid hno
    have hq1 : ((q : Int) != 0) = true := by rw [bne_iff_ne]; omega
    clear hq hno hq0 h
    go_enter Tryz.func67, Tryz.ntmps67
    go_wp2_with fail
    refine HT.out.mono ?_
    rintro e w1 ⟨a1, n1, c1, rfl, hi1, hb1⟩
    have HB1 := Lib.hid hb1
    clear hi1 hb1
    go_wp2_with fail
    go_ret2
    rw [HN.out]
    exact ⟨none, 0, 0, rfl, own_nil_bytes _ _, BytesAt.empty _ _ _ (by omega) (fun _ => rfl), HB1.out⟩
end Go.Proofs.YtpbijdoemdoijaaGreatDoor
end PkCa33_0
section PkCa33_1
/- Best, walked, for seats beside stage 4's: cut out of XDeltaBestW. -/
namespace Go.Proofs.YtpbijdoemdoijaaGreatDoor
open Go.RowKit NumsPlain DeltaPlain
set_option linter.unusedVariables false

def el (l : List Int) (k : Nat) : Nat := (enc l (k : Int)).length
/-- the best of the first k ways, and its length -/
def bu (l : List Int) : Nat → Nat × Nat
  | 0 => (0, 0)
  | k + 1 => if k = 0 ∨ el l k < (bu l k).2 then (k, el l k) else bu l k
theorem bu_len (l : List Int) : ∀ k, (bu l (k + 1)).2 = el l (bu l (k + 1)).1
  | 0 => by simp [bu]
  | k + 1 => by
    rw [bu]
    split
    · rfl
    · exact bu_len l k
theorem bu_lt (l : List Int) : ∀ k, (bu l (k + 1)).1 ≤ k
  | 0 => by simp [bu]
  | k + 1 => by
    rw [bu]
    split
    · simp
    · exact Nat.le_trans (bu_lt l k) (by omega)
/-- of the first ways none is shorter, no lesser one as short -/
theorem bu_best (l : List Int) : ∀ k j, j ≤ k → el l (bu l (k + 1)).1 ≤ el l j ∧ (j < (bu l (k + 1)).1 → el l (bu l (k + 1)).1 < el l j)
  | 0, j, hj => by
    obtain rfl : j = 0 := by omega
    simp [bu]
  | k + 1, j, hj => by
    have hl := bu_len l k
    have hb := bu_lt l k
    rw [bu]
    split
    · rename_i h
      simp only
      rcases Nat.lt_or_ge j (k + 1) with g | g
      · have := bu_best l k j (by omega)
        omega
      · obtain rfl : j = k + 1 := by omega
        exact ⟨Nat.le_refl _, fun h => absurd h (Nat.lt_irrefl _)⟩
    · rename_i h
      rcases Nat.lt_or_ge j (k + 1) with g | g
      · exact bu_best l k j (by omega)
      · obtain rfl : j = k + 1 := by omega
        rw [hl] at h
        exact ⟨by omega, fun h => by omega⟩
def bst (l : List Int) : Nat := if chk l 0 ≠ 0 then 0 else (bu l 3).1
theorem chk_way {l : List Int} {a b : Int} (ha : 0 ≤ a ∧ a ≤ 2) (hb : 0 ≤ b ∧ b ≤ 2) : chk l a = chk l b := by
  unfold chk
  rw [(known_iff a).2 ha, (known_iff b).2 hb]
theorem el_le {l : List Int} (h : chk l 0 = 0) (k : Nat) : el l k ≤ 30000 := by
  obtain ⟨_, _, hl, hb⟩ := chk_ok h
  have h1 := pu_ten (n := l.length) (by omega)
  have h2 := flat_len (tl_bound hb (k : Int))
  rw [tl_length] at h2
  simp only [el, enc, List.length_append]; omega
theorem eb_el {l : List Int} (h : chk l 0 = 0) (k : Nat) (hk : k ≤ 2) : (eb l (k : Int)).length = el l k := by
  rw [eb_ok (by rw [chk_way (a := (k : Int)) (b := 0) (by omega) (by omega)]; exact h)]; rfl

set_option maxRecDepth 100000 in
set_option maxHeartbeats 2000000 in
theorem best_any {w : World} {a : Option Addr} {n c : Nat} {zs : List Int} (h : IntsAt .i64 w a n c zs) :
    Calls Tryz.prog 66 #[.slice a n c] w fun e w' => e = .returned (.int .i64 ((bst zs : Nat) : Int)) ∧ Below w.heap.size w w' := by
  have HH := Lib.hid h
  by_cases hc : chk zs 0 = 0
  · have HV := Lib.hid (show bst zs = (bu zs 3).1 by unfold bst; rw [if_neg (by simpa using hc)])
    have HC := Lib.hid hc
    clear h hc
    go_enter Tryz.func66, Tryz.ntmps66
    go_wp2_with fail
    go_loopw [3, 4, 5] (fun s3 s4 s5 wr => ∃ k b f : Nat, k ≤ 3 ∧ s5 = .int .i64 k ∧ s3 = .int .i64 b ∧ s4 = .int .i64 f ∧ Hid (bu zs k = (b, f)) ∧ Hid (Below w.heap.size w wr)) (fun _ _ s5 _ => 3 - (intOf s5).toNat)
    case atStart => exact ⟨0, 0, 0, by omega, rfl, rfl, rfl, Lib.hid rfl, Lib.hid (Below.refl _ _)⟩
    case round =>
      obtain ⟨k, b, f, hk, rfl, rfl, rfl, HBU, HB⟩ := hrel
      rename World => wr
      by_cases hk2 : k ≤ 2
      · have hck : chk zs (k : Int) = 0 := by rw [chk_way (a := (k : Int)) (b := 0) (by omega) (by omega)]; exact HC.out
        have hE := encode_any (HH.out.kept HB.out) (k : Int)
        rw [hck] at hE
        have HE := Lib.hid hE
        have hbu : bu zs (k + 1) = if k = 0 ∨ el zs k < f then (k, el zs k) else (b, f) := by rw [bu, HBU.out]
        have HBU2 := Lib.hid hbu
        have HEL := Lib.hid (eb_el HC.out k hk2)
        have hz : ((0 : Int) != 0) = false := by decide
        clear hck hE hbu
        go_wp2_with fail
        refine HE.out.mono ?_
        rintro e w2 ⟨a2, n2, c2, rfl, _, hy2, hb2⟩
        have hn2 : el zs k = n2 := by rw [← HEL.out]; exact hy2.len
        have HB2 := Lib.hid (HB.out.trans (hb2.mono HB.out.size))
        rw [hn2] at HBU2
        clear hy2 hb2 hn2
        by_cases hk0 : k = 0
        · have HV2 := Lib.hid (show bu zs (k + 1) = (k, n2) by rw [HBU2.out, if_pos (.inl hk0)])
          have hkb : ((k : Int) == 0) = true := by rw [beq_iff_eq]; omega
          clear hk0
          go_wp2_with fail
          go_roundw
          case rel => exact ⟨k + 1, k, n2, by omega, by go_num, rfl, rfl, HV2, HB2⟩
          case measure => simp [intOf]; omega
        · have hkb : ((k : Int) == 0) = false := by rw [beq_eq_false_iff_ne]; omega
          by_cases hlt : (n2 : Int) < (f : Int)
          · have HV2 := Lib.hid (show bu zs (k + 1) = (k, n2) by rw [HBU2.out, if_pos (.inr (by omega))])
            go_wp2_with fail
            go_roundw
            case rel => exact ⟨k + 1, k, n2, by omega, by go_num, rfl, rfl, HV2, HB2⟩
            case measure => simp [intOf]; omega
          · have HV2 := Lib.hid (show bu zs (k + 1) = (b, f) by rw [HBU2.out, if_neg (by omega)])
            have hlt2 : (f : Int) ≤ (n2 : Int) := by omega
            clear hlt
            go_wp2_with fail
            go_roundw
            case rel => exact ⟨k + 1, b, f, by omega, by go_num, rfl, rfl, HV2, HB2⟩
            case measure => simp [intOf]; omega
      · obtain rfl : k = 3 := by omega
        have HV2 := Lib.hid (show bst zs = b by rw [HV.out, HBU.out])
        go_wp2_with fail
        go_ret
        rw [HV2.out]
        exact ⟨rfl, HB.out⟩
  · have HV := Lib.hid (show bst zs = 0 by unfold bst; rw [if_pos (by simpa using hc)])
    obtain ⟨q, hq⟩ : ∃ q, q = chk zs 0 := ⟨_, rfl⟩
    have hE := encode_any h (0 : Int)
    rw [← hq] at hE hc
    have HE := Lib.hid hE
    have hq1 : ((q : Int) != 0) = true := by rw [bne_iff_ne]; omega
    clear h hc hq hE
    go_enter Tryz.func66, Tryz.ntmps66
    go_wp2_with fail
    go_loopw [3, 4, 5] (fun s3 s4 s5 wr => s5 = .int .i64 0 ∧ Hid (wr = w)) (fun _ _ s5 _ => 3 - (intOf s5).toNat)
    case atStart => exact ⟨rfl, Lib.hid rfl⟩
    case round =>
      obtain ⟨rfl, HW⟩ := hrel
      rename World => wr
      rw [HW.out]
      go_wp2_with fail
      refine HE.out.mono ?_
      rintro e w2 ⟨a2, n2, c2, rfl, _, hy2, hb2⟩
      have HB2 := Lib.hid hb2
      clear hy2 hb2
      go_wp2_with fail
      go_ret
      rw [HV.out]
      exact ⟨rfl, HB2.out⟩

end Go.Proofs.YtpbijdoemdoijaaGreatDoor
end PkCa33_1
section PkCa33_2
/- put of a column of integers, walked. (Written by gencolput2.py.) -/
namespace Go.Proofs.YtpbijdoemdoijaaGreatDoor
open Go.RowKit BitsPlain NumsPlain CrcPlain
set_option linter.unusedVariables false

set_option maxRecDepth 100000 in
set_option maxHeartbeats 4000000 in
theorem putI_any {w : World} (hT : Table w) {a : Option Addr} {n c k : Nat} {C : List Nat} (hn : n ≤ 2048) (hk : k < 256)
    (hC : Calls Tryz.prog 34 #[.slice a n c] w fun e w' => ∃ v, e = .returned (.tuple #[v, .int .i64 0]) ∧ w'.ownsRow w.heap.size 5 1 v C.length (bv C) ∧ Below w.heap.size w w') (hCb : ∀ x ∈ C, x < 256) (hCl : C.length ≤ 65536) :
    Calls Tryz.prog 33 #[.int .u8 (k : Int), .slice a n c, .func (.func 34) #[] #[]] w fun e w' => ∃ a' m' c', e = .returned (.tuple #[.slice a' m' c', .int .i64 0]) ∧ w'.ownsRow w.heap.size 5 1 (.slice a' m' c') m' (bv (chunk k C)) ∧ BytesAt w' a' m' c' (chunk k C) ∧ Below w.heap.size w w' := by
  have hni : ¬ ((2048 : Int) < (n : Int)) := by omega
  have HT := Lib.hid (show ∀ w', Below w.heap.size w w' → Table w' from fun w' h => hT.below h)
  have HC := Lib.hid hC
  have HCB := Lib.hid hCb
  have h10 := pu_ten (n := C.length) (by omega)
  clear hC hT hCb
  go_enter Tryz.func33, Tryz.ntmps33
  go_wp2_with fail
  refine HC.out.mono ?_
  rintro e w2 ⟨v2, rfl, ho2, hb2⟩
  obtain ⟨ac, cc, rfl, hbc, _⟩ := BytesAt.ofOwn ho2 HCB.out (by omega)
  have HB2 := Lib.hid hb2
  have HC2 := Lib.hid hbc
  have HDE := Lib.hid (deflate_any hbc hCl)
  obtain ⟨lc, hlc⟩ : ∃ lc, lc = C.length := ⟨_, rfl⟩
  have hcl : ¬ ((65536 : Int) < (C.length : Int)) := by omega
  clear ho2 hb2 hbc
  go_wp2_with fail
  refine HDE.out.mono ?_
  rintro e w3 ⟨ad, cd, rfl, hd3, hb3⟩
  have HB3 := Lib.hid (HB2.out.trans (hb3.mono HB2.out.size))
  have HC3 := Lib.hid (HC2.out.kept hb3)
  obtain ⟨D, hD⟩ : ∃ D, D = dfl C := ⟨_, rfl⟩
  rw [← hD] at hd3 ⊢
  have HD3 := Lib.hid hd3
  have hCK : chunk k C = if D.length < C.length then sealed ([k, 1] ++ pu C.length ++ D) else sealed ([k, 0] ++ pu C.length ++ C) := by unfold chunk; rw [hD]
  clear hd3 hb3 hD
  by_cases hlt : D.length < C.length
  · rw [if_pos hlt] at hCK
    have HCK := Lib.hid hCK
    have hlti : (D.length : Int) < (C.length : Int) := by omega
    obtain ⟨w4, hw4⟩ : ∃ w4, w4 = w3.alloc (.cells #[.int .u8 (k : Int), .int .u8 1] 5) := ⟨_, rfl⟩
    have o4 := World.ownsRow_lit (base := w3.heap.size) (e := 5) (size := 1) w3 #[.int .u8 (k : Int), .int .u8 1] 2 (Nat.le_refl _) (by unfold maxLen; omega) rfl
    rw [← hw4] at o4
    have HO4 := Lib.hid (show w4.ownsRow w3.heap.size 5 1 (.slice (some ⟨w3.heap.size, 0, none⟩) 2 2) 2 (bv [k, 1]) from o4)
    have HB4 := Lib.hid (show Below w3.heap.size w3 w4 from by rw [hw4]; exact (Below.refl _ _).alloc (Nat.le_refl _) _)
    have HPU := Lib.hid (putu C.length (by omega) w4)
    have HW4 := Lib.hid hw4
    clear o4 hw4 hCK
    go_wp2_with fail
    rw [← HW4.out]
    refine HPU.out.mono ?_
    rintro e w5 ⟨g5, c5, rfl, hg5, hb5, hbl5⟩
    have HB5 := Lib.hid (HB4.out.trans (hbl5.mono HB4.out.size))
    have HO5 := Lib.hid (own_below HO4.out hbl5)
    have H5 := Lib.hid hb5
    have HS5 := Lib.hid HB5.out.size
    clear hg5 hb5 hbl5
    go_wp2_with (at_builtin; refine wpList_append_bytes rfl (.tmp 48) (.tmp 52) rfl w3.heap.size _ 2 [k, 1] rfl HO5.out _ _ _ (pu C.length) rfl H5.out (by omega) HS5.out ?_)
    intro v6 w6 ho6 hg6
    have HB6 := Lib.hid (below_own HB5.out HO5.out hg6 (Nat.le_refl _) HS5.out)
    have HO6 := Lib.hid ho6
    have HBD6 := Lib.hid (HD3.out.keep HB6.out (Nat.le_refl _))
    have HS6 := Lib.hid HB6.out.size
    clear ho6 hg6
    go_wp2_with (at_builtin; refine wpList_append_bytes rfl (.tmp 54) (.tmp 55) rfl w3.heap.size v6 (2 + (pu C.length).length) ([k, 1] ++ pu C.length) rfl HO6.out _ _ _ D rfl HBD6.out (by omega) HS6.out ?_)
    intro v7 w7 ho7 hg7
    have HB7 := Lib.hid (below_own HB6.out HO6.out hg7 (Nat.le_refl _) HS6.out)
    have HBY := Lib.hid (show ∀ x ∈ ([k, 1] ++ pu C.length) ++ D, x < 256 from by
      intro x hx
      rcases List.mem_append.1 hx with e | e
      · rcases List.mem_append.1 e with e | e
        · simp only [List.mem_cons, List.not_mem_nil, or_false] at e
          omega
        · exact pu_bytes (by omega) x e
      · exact HBD6.out.byte x e)
    obtain ⟨a7, c7, rfl, h7, _⟩ := BytesAt.ofOwn ho7 HBY.out (by omega)
    have HCH := Lib.hid (show chunk k C = sealed (([k, 1] ++ pu C.length) ++ D) from HCK.out)
    have HSE := Lib.hid (seal_any (HT.out w7 (HB3.out.trans (HB7.out.mono HB3.out.size))) h7 (by omega))
    clear ho7 hg7 h7
    go_wp2_with fail
    refine HSE.out.mono ?_
    rintro e w8 ⟨a8, c8, rfl, h8, hb8, _, ho8⟩
    have HB8 := Lib.hid (HB3.out.trans ((HB7.out.trans (hb8.mono HB7.out.size)).mono HB3.out.size))
    have HO8 := Lib.hid (own_lower ho8 (show w.heap.size ≤ w7.heap.size from Nat.le_trans HB3.out.size HB7.out.size))
    have H8 := Lib.hid h8
    clear h8 hb8 ho8
    go_wp2_with fail
    first | go_ret2 | go_ret
    rw [HCH.out]
    exact ⟨a8, _, c8, rfl, HO8.out, H8.out, HB8.out⟩
  · rw [if_neg hlt] at hCK
    have HCK := Lib.hid hCK
    have hlti : ¬ (D.length : Int) < (C.length : Int) := by omega
    obtain ⟨w4, hw4⟩ : ∃ w4, w4 = w3.alloc (.cells #[.int .u8 (k : Int), .int .u8 0] 5) := ⟨_, rfl⟩
    have o4 := World.ownsRow_lit (base := w3.heap.size) (e := 5) (size := 1) w3 #[.int .u8 (k : Int), .int .u8 0] 2 (Nat.le_refl _) (by unfold maxLen; omega) rfl
    rw [← hw4] at o4
    have HO4 := Lib.hid (show w4.ownsRow w3.heap.size 5 1 (.slice (some ⟨w3.heap.size, 0, none⟩) 2 2) 2 (bv [k, 0]) from o4)
    have HB4 := Lib.hid (show Below w3.heap.size w3 w4 from by rw [hw4]; exact (Below.refl _ _).alloc (Nat.le_refl _) _)
    have HPU := Lib.hid (putu C.length (by omega) w4)
    have HW4 := Lib.hid hw4
    clear o4 hw4 hCK
    go_wp2_with fail
    rw [← HW4.out]
    refine HPU.out.mono ?_
    rintro e w5 ⟨g5, c5, rfl, hg5, hb5, hbl5⟩
    have HB5 := Lib.hid (HB4.out.trans (hbl5.mono HB4.out.size))
    have HO5 := Lib.hid (own_below HO4.out hbl5)
    have H5 := Lib.hid hb5
    have HS5 := Lib.hid HB5.out.size
    clear hg5 hb5 hbl5
    go_wp2_with (at_builtin; refine wpList_append_bytes rfl (.tmp 48) (.tmp 52) rfl w3.heap.size _ 2 [k, 0] rfl HO5.out _ _ _ (pu C.length) rfl H5.out (by omega) HS5.out ?_)
    intro v6 w6 ho6 hg6
    have HB6 := Lib.hid (below_own HB5.out HO5.out hg6 (Nat.le_refl _) HS5.out)
    have HO6 := Lib.hid ho6
    have HBD6 := Lib.hid (HC3.out.keep HB6.out (Nat.le_refl _))
    have HS6 := Lib.hid HB6.out.size
    clear ho6 hg6
    go_wp2_with (at_builtin; refine wpList_append_bytes rfl (.tmp 54) (.tmp 55) rfl w3.heap.size v6 (2 + (pu C.length).length) ([k, 0] ++ pu C.length) rfl HO6.out _ _ _ C rfl HBD6.out (by omega) HS6.out ?_)
    intro v7 w7 ho7 hg7
    have HB7 := Lib.hid (below_own HB6.out HO6.out hg7 (Nat.le_refl _) HS6.out)
    have HBY := Lib.hid (show ∀ x ∈ ([k, 0] ++ pu C.length) ++ C, x < 256 from by
      intro x hx
      rcases List.mem_append.1 hx with e | e
      · rcases List.mem_append.1 e with e | e
        · simp only [List.mem_cons, List.not_mem_nil, or_false] at e
          omega
        · exact pu_bytes (by omega) x e
      · exact HBD6.out.byte x e)
    obtain ⟨a7, c7, rfl, h7, _⟩ := BytesAt.ofOwn ho7 HBY.out (by omega)
    have HCH := Lib.hid (show chunk k C = sealed (([k, 0] ++ pu C.length) ++ C) from HCK.out)
    have HSE := Lib.hid (seal_any (HT.out w7 (HB3.out.trans (HB7.out.mono HB3.out.size))) h7 (by omega))
    clear ho7 hg7 h7
    go_wp2_with fail
    refine HSE.out.mono ?_
    rintro e w8 ⟨a8, c8, rfl, h8, hb8, _, ho8⟩
    have HB8 := Lib.hid (HB3.out.trans ((HB7.out.trans (hb8.mono HB7.out.size)).mono HB3.out.size))
    have HO8 := Lib.hid (own_lower ho8 (show w.heap.size ≤ w7.heap.size from Nat.le_trans HB3.out.size HB7.out.size))
    have H8 := Lib.hid h8
    clear h8 hb8 ho8
    go_wp2_with fail
    first | go_ret2 | go_ret
    rw [HCH.out]
    exact ⟨a8, _, c8, rfl, HO8.out, H8.out, HB8.out⟩

end Go.Proofs.YtpbijdoemdoijaaGreatDoor
end PkCa33_2
section PkCa33_3
/- Plain facts for CrcTurned: a sealed text's register; bits turned in bytes are bits turned in their number. -/
namespace Go.Proofs.YtpbijdoemdoijaaGreatDoor
open Go.RowKit CrcPlain
set_option linter.unusedVariables false

theorem val_le4 (s : Nat) (hs : s < 4294967296) : val (le s 4) = s := by
  have h4 : s / 16777216 % 256 = s / 16777216 := Nat.mod_eq_of_lt (by omega)
  have hl : le s 4 = [s % 256, s / 256 % 256, s / 65536 % 256, s / 16777216] := by simp [le, List.range_succ, h4]
  rw [hl]
  simp only [val]
  omega

theorem reg_sealed (l : List Nat) (h : ∀ x ∈ l, x < 256) : reg 4294967295 (sealed l) = sbs 32 4294967295 := by
  have hc := crcN_lt l h
  unfold sealed
  rw [reg_append, reg_val (le (crcN l) 4) _ (le_byte _ 4), val_le4 _ hc, le_len]
  congr 1
  unfold crcN
  rw [Nat.xor_comm 4294967295, ← Nat.xor_assoc, Nat.xor_self, Nat.zero_xor]

theorem mul_xor (a x y : Nat) : 2 ^ a * (x ^^^ y) = (2 ^ a * x) ^^^ (2 ^ a * y) := by
  apply Nat.eq_of_testBit_eq
  intro i
  rw [Nat.testBit_xor, Nat.testBit_two_pow_mul, Nat.testBit_two_pow_mul, Nat.testBit_two_pow_mul, Nat.testBit_xor]
  cases decide (i ≥ a) <;> simp

/-- a bit turned in a byte -/
theorem val_set : ∀ (xs : List Nat) (j r : Nat), (∀ x ∈ xs, x < 256) → j < xs.length → r < 8 → val (xs.set j (xs.getD j 0 ^^^ 2 ^ r)) = val xs ^^^ 2 ^ (8 * j + r)
  | [], j, r, _, hj, _ => by simp at hj
  | x :: xs, 0, r, hb, _, hr => by
    have hx : x < 256 := hb x List.mem_cons_self
    have h2 : 2 ^ r < 256 := Nat.lt_of_lt_of_le (Nat.pow_lt_pow_right (by omega) hr) (by decide)
    have hxr : x ^^^ 2 ^ r < 256 := Nat.xor_lt_two_pow (n := 8) hx h2
    simp only [List.set_cons_zero, List.getD_cons_zero, val, Nat.mul_zero, Nat.zero_add]
    rw [val_cons hxr, val_cons hx, Nat.xor_assoc, Nat.xor_comm (2 ^ r), ← Nat.xor_assoc]
  | x :: xs, j + 1, r, hb, hj, hr => by
    have hx : x < 256 := hb x List.mem_cons_self
    have ih := val_set xs j r (fun y hy => hb y (List.mem_cons_of_mem _ hy)) (by simpa using hj) hr
    simp only [List.set_cons_succ, List.getD_cons_succ, val]
    rw [ih, val_cons hx, val_cons hx, Nat.xor_assoc]
    congr 1
    rw [show (256 : Nat) = 2 ^ 8 from rfl, mul_xor, ← Nat.pow_add, show 8 + (8 * j + r) = 8 * (j + 1) + r from by omega]

theorem set_byte (xs : List Nat) (j y : Nat) (h : ∀ x ∈ xs, x < 256) (hy : y < 256) : ∀ x ∈ xs.set j y, x < 256 := by
  intro x hx
  rcases List.mem_or_eq_of_mem_set hx with g | g
  · exact h x g
  · exact g ▸ hy

/-- a turned text is not sealed -/
theorem turned_open (l ys : List Nat) (at_ W : Nat) (hl : ∀ x ∈ l, x < 256) (hy : ∀ x ∈ ys, x < 256) (hlen : ys.length = (sealed l).length) (hW : W < 4294967296) (h0 : W ≠ 0) (hat : at_ ≤ 8 * ys.length)
    (hv : val ys = val (sealed l) ^^^ (2 ^ at_ * W)) : op ys = ([], 6) := by
  have h4 : ¬ ys.length < 4 := by rw [hlen]; simp [sealed, le_len]
  have hsb : ∀ x ∈ sealed l, x < 256 := by
    intro x hx
    rcases List.mem_append.1 hx with g | g
    · exact hl x g
    · exact le_byte _ 4 x g
  unfold op
  rw [if_neg h4]
  have hne : ¬ sealed (ys.take (ys.length - 4)) = ys := by
    intro e
    have h1 := reg_sealed (ys.take (ys.length - 4)) (fun x hx => hy x (List.mem_of_mem_take hx))
    rw [e, ← reg_sealed l hl, reg_val ys _ hy, reg_val (sealed l) _ hsb, ← hlen, hv, ← Nat.xor_assoc] at h1
    exact turned (8 * ys.length) at_ W hW h0 hat _ h1
  rw [if_neg hne]

/-- one more bit of what is turned -/
theorem turn_succ_one (T k at_ v : Nat) (h : T / 2 ^ k % 2 = 1) : (v ^^^ (2 ^ at_ * (T % 2 ^ k))) ^^^ 2 ^ (at_ + k) = v ^^^ (2 ^ at_ * (T % 2 ^ (k + 1))) := by
  rw [Nat.xor_assoc]
  congr 1
  rw [Nat.pow_add]
  have e : T % 2 ^ (k + 1) = (T % 2 ^ k) ^^^ 2 ^ k := by
    apply Nat.eq_of_testBit_eq
    intro i
    rw [Nat.testBit_mod_two_pow, Nat.testBit_xor, Nat.testBit_mod_two_pow, Nat.testBit_two_pow]
    have hk : T.testBit k = true := by rw [Nat.testBit_eq_decide_div_mod_eq, h]; rfl
    rcases Nat.lt_trichotomy i k with g | g | g
    · have a1 : decide (i < k + 1) = true := by simp; omega
      have a2 : decide (i < k) = true := by simp; omega
      have a3 : decide (k = i) = false := by simp; omega
      rw [a1, a2, a3]; simp
    · subst g; simp [hk]
    · have a1 : decide (i < k + 1) = false := by simp; omega
      have a2 : decide (i < k) = false := by simp; omega
      have a3 : decide (k = i) = false := by simp; omega
      rw [a1, a2, a3]; simp
  rw [e, mul_xor]

theorem turn_succ_zero (T k : Nat) (h : T / 2 ^ k % 2 ≠ 1) : T % 2 ^ (k + 1) = T % 2 ^ k := by
  have h0 : T / 2 ^ k % 2 = 0 := by omega
  rw [Nat.pow_succ, Nat.mod_mul, h0, Nat.mul_zero, Nat.add_zero]
theorem turn_succ_ne (T k : Nat) (h : T / 2 ^ k % 2 = 1) : T % 2 ^ (k + 1) ≠ 0 := by
  rw [Nat.pow_succ, Nat.mod_mul, h, Nat.mul_one]
  have := Nat.two_pow_pos k
  omega
end Go.Proofs.YtpbijdoemdoijaaGreatDoor
end PkCa33_3

/- The walk of ColumnStats, given what the table of crc holds: it returns true for all inputs. -/
import Derived.Test.YteggmbfhfoijoaaDoorColMay
import Derived.Laws.StructEq
namespace Go.Proofs.YteggmbfhfoijoaaDoor
open Go.RowKit LabPlain
set_option linter.unusedVariables false

@[go_sem] theorem eq_sta (x1 x2 x3 y1 y2 y3 : Int) (w : World) : (Op.equalIn 10000 34 (.agg #[.int .i64 x1, .int .i64 x2, .int .i64 x3]) (.agg #[.int .i64 y1, .int .i64 y2, .int .i64 y3])).run Tryd.prog w = .ok (x1 == y1 && (x2 == y2 && x3 == y3)) w := by
  have us := Tryd.underlying3
  have ag := Tryd.isAgg3
  have zs := Tryd.sizeOf3
  have us8 := Tryd.underlying2
  have ag8 := Tryd.isAgg2
  have zs8 := Tryd.sizeOf2
  have hS : Tryd.prog.underlying 34 = some (.struct (Tryd.prog.fieldsOf 34)) := by kernel_rfl
  have hp : Tryd.prog.stoodInHeld 34 = false := by kernel_rfl
  rw [show (10000 : Nat) = 9999 + 1 from rfl, run_equalIn_agg w 9999 34 _ _ hS hp]
  simp only [Program.fieldsOf, Tryd.underlying34]
  go_simp
  cases h1 : (x1 == y1) <;> cases h2 : (x2 == y2) <;> cases h3 : (x3 == y3) <;> simp_all
@[go_sem] theorem guard_sta (x y : Operand) (xs ys : Array Value) (w : World) : (eqGuard .neq 34 x y (.agg xs) (.agg ys)).run Tryd.prog w = .ok () w := run_eqGuard_agg w .neq 34 x y xs ys (by kernel_rfl)
@[go_sem] theorem neq_sta (x1 x2 x3 y1 y2 y3 : Int) (w : World) : (binOp .neq 34 (.agg #[.int .i64 x1, .int .i64 x2, .int .i64 x3]) (.agg #[.int .i64 y1, .int .i64 y2, .int .i64 y3])).run Tryd.prog w = .ok (.bool (!(x1 == y1 && (x2 == y2 && x3 == y3)))) w := by
  rw [run_neq_struct, eq_sta]; rfl

/-- does one of the first k meet it? -/
def anyK (p : Nat → Bool) : Nat → Bool
  | 0 => false
  | k + 1 => anyK p k || p k
theorem anyK_yes {p : Nat → Bool} {i : Nat} (h : p i = true) : ∀ {k}, i < k → anyK p k = true
  | 0, hi => absurd hi (Nat.not_lt_zero _)
  | k + 1, hi => by
    rw [anyK]
    by_cases e : i = k
    · rw [← e, h, Bool.or_true]
    · rw [anyK_yes h (show i < k by omega), Bool.true_or]
theorem anyK_of {p : Nat → Bool} : ∀ {k}, anyK p k = true → ∃ i, i < k ∧ p i = true
  | 0, h => by simp [anyK] at h
  | k + 1, h => by
    rw [anyK, Bool.or_eq_true] at h
    rcases h with h | h
    · obtain ⟨i, hi, hp⟩ := anyK_of h; exact ⟨i, by omega, hp⟩
    · exact ⟨k, by omega, h⟩

set_option maxRecDepth 100000 in
set_option maxHeartbeats 4000000 in
theorem columnStats_walk (a0 : Option Addr) (len0 cap0 : Nat) (z0 : List Int) (a1 : Option Addr) (len1 cap1 : Nat) (z1 : List ByteArray) (a2 a3 : Int) (w : World) (hT : Table w) (w0 : IsRow .i64 8 w a0 len0 cap0 z0) (w1 : StrsAt w a1 len1 cap1 z1) (w2 : (Lit.int .i64 a2).wf = true) (w3 : (Lit.int .i64 a3).wf = true) :
    Calls Tryd.prog 4 #[.slice a0 len0 cap0, .slice a1 len1 cap1, .int .i64 a2, .int .i64 a3] w fun e w' => e = .returned (.bool true) ∧ Below w.heap.size w w' := by
  have hz := w0.ints
  obtain ⟨zs, hzs⟩ : ∃ zs, zs = z0.take len0 := ⟨_, rfl⟩
  rw [← hzs] at hz
  have HL := Lib.hid (lives10_any hT)
  have HT := Lib.hid (show ∀ w', Below w.heap.size w w' → Table w' from fun w' h => hT.below h)
  have HZ := Lib.hid hz
  have HX := Lib.hid w1
  have hcap0 := hz.cap
  have hcm0 := hz.capm
  have hcap1 := w1.cap
  have hcm1 := w1.capm
  clear w0 w1 w2 w3 hz hT hzs
  by_cases hbig : 300 < len0 ∨ 300 < len1
  · have hb2 : (300 : Int) < (len0 : Int) ∨ (¬ (300 : Int) < (len0 : Int) ∧ (300 : Int) < (len1 : Int)) := by omega
    clear hbig
    rcases hb2 with hb2 | ⟨hb2, hb3⟩
    all_goals
      go_enter Tryd.func4, Tryd.ntmps4
      go_wp2_with fail
      refine HL.out.mono ?_
      rintro e w1 ⟨rfl, hb1⟩
      have HB1 := Lib.hid hb1
      have HL1 := Lib.hid (lives10_any (HT.out w1 hb1))
      clear hb1
      go_wp2_with fail
      refine HL1.out.mono ?_
      rintro e w2 ⟨rfl, hb2⟩
      have HB2 := Lib.hid (HB1.out.trans (hb2.mono HB1.out.size))
      clear hb2
      go_wp2_with fail
      go_ret
      exact ⟨rfl, HB2.out⟩
  · have hl0 : len0 ≤ 300 := by omega
    have hl1 : len1 ≤ 300 := by omega
    have hi0 : ¬ (300 : Int) < (len0 : Int) := by omega
    have hi1 : ¬ (300 : Int) < (len1 : Int) := by omega
    clear hbig
    by_cases hn : len0 = 0
    · have hz0 : ((len0 : Int) == 0) = true := by rw [beq_iff_eq]; omega
      have hn0 : ¬ (0 : Int) < (len0 : Int) := by omega
      have hnn : ((len0 : Int) != (len0 : Int)) = false := by simp
      have hmm : ((len1 : Int) != (len1 : Int)) = false := by simp
      have hl00 : len0 ≤ 0 := by omega
      have HN := Lib.hid hn
      clear hn
      go_enter Tryd.func4, Tryd.ntmps4
      go_wp2_with fail
      refine HL.out.mono ?_
      rintro e w1 ⟨rfl, hb1⟩
      have HB1 := Lib.hid hb1
      have HO := Lib.hid (ofI_any (HZ.out.kept hb1))
      clear hb1
      go_wp2_with fail
      refine HO.out.mono ?_
      rintro e w2 ⟨lo, hi, rfl, ho, hb2⟩
      obtain ⟨rfl, rfl⟩ := ho.1 HN.out
      have HB2 := Lib.hid (HB1.out.trans (hb2.mono HB1.out.size))
      have HOS := Lib.hid (ofS_any (HX.out.kept HB2.out))
      clear ho hb2
      go_wp2_with fail
      refine HOS.out.mono ?_
      rintro e w3 ⟨lo2, hi2, rfl, ho, hb3⟩
      have HB3 := Lib.hid (HB2.out.trans (hb3.mono HB2.out.size))
      have HBS := Lib.hid ho
      clear ho hb3
      go_wp2_with fail
      obtain ⟨w4, hw4⟩ : ∃ w4, w4 = (w3.alloc (.cells #[.int .i64 (len0 : Int), .int .i64 0, .int .i64 0] 34)).alloc (.cells #[.int .i64 (len1 : Int), .string lo2, .string hi2] 37) := ⟨_, rfl⟩
      rw [← hw4]
      have hs1 : (w3.alloc (.cells #[.int .i64 (len0 : Int), .int .i64 0, .int .i64 0] 34)).heap.size = w3.heap.size + 1 := by show (w3.heap.push _).size = _; exact Array.size_push ..
      have gU : w4.heap[w3.heap.size + 1]? = some (.cells #[.int .i64 (len1 : Int), .string lo2, .string hi2] 37 (0, 0)) := by rw [hw4, ← hs1]; exact heap_alloc_new _ _
      have gS : w4.heap[w3.heap.size]? = some (.cells #[.int .i64 (len0 : Int), .int .i64 0, .int .i64 0] 34 (0, 0)) := by
        rw [hw4, heap_alloc_old _ _ (by omega)]; exact heap_alloc_new _ _
      have b4 : Below w3.heap.size w3 w4 := by rw [hw4]; exact ((Below.refl _ _).alloc (Nat.le_refl _) _).alloc (by omega) _
      have HB4 := Lib.hid (HB3.out.trans (b4.mono HB3.out.size))
      have HGU := Lib.hid gU
      have HGS := Lib.hid gS
      have HS4 := Lib.hid (show w3.heap.size + 1 < w4.heap.size from (Array.getElem?_eq_some_iff.1 gU).1)
      clear gU gS b4 hs1 hw4
      go_loopw [11, 12, 13, 15, 65] (fun s11 s12 s13 _ s65 wr => ∃ k : Nat, k ≤ len0 ∧ (0 : Int) ≤ (k : Int) ∧ s65 = .int .i64 (k : Int) ∧ s11 = .bool true ∧ s12 = .bool true ∧ s13 = .bool false ∧ Hid (Below w4.heap.size w4 wr)) (fun _ _ _ _ s65 _ => len0 - (intOf s65).toNat)
      case atStart => exact ⟨0, by omega, by omega, rfl, rfl, rfl, rfl, Lib.hid (Below.refl _ _)⟩
      case round =>
        obtain ⟨k, hk, hk0, rfl, rfl, rfl, rfl, HB⟩ := hrel
        rename World => wr
        have hkni : ¬ (k : Int) < (len0 : Int) := by omega
        have HBL := HB
        go_wp2_with fail
        go_loopw [17, 107] (fun _ s107 wx => ∃ j : Nat, j ≤ len1 ∧ s107 = .int .i64 (j : Int) ∧ Hid (Below w4.heap.size w4 wx)) (fun _ s107 _ => len1 - (intOf s107).toNat)
        case atStart => exact ⟨0, by omega, rfl, HBL⟩
        case round =>
          obtain ⟨j, hj, rfl, HX2⟩ := hrel
          rename World => wx
          have hgu := (HX2.out.block (w3.heap.size + 1) HS4.out).trans HGU.out
          have hgs := (HX2.out.block w3.heap.size (by have := HS4.out; omega)).trans HGS.out
          by_cases hjn : j < len1
          · have hji : (j : Int) < (len1 : Int) := by omega
            obtain ⟨g, off, hE, hlt, hcell⟩ := (HX.out.keep (HB4.out.trans (HX2.out.mono HB4.out.size)) (Nat.le_refl _)).cells (by omega)
            subst hE
            have x1 := hcell j hjn
            obtain ⟨t, ht⟩ : ∃ t, t = z1.getD j ByteArray.empty := ⟨_, rfl⟩
            rw [← ht] at x1
            obtain ⟨n1, n2⟩ := (HBS.out.2 (by omega)).all j hjn
            rw [← ht] at n1 n2
            have n1' : ltB t lo2 = false := by simpa using n1
            have n2' : ltB hi2 t = false := by simpa using n2
            have u1 : Op.bytesLess t.toList lo2.toList = false := n1'
            have u2 : Op.bytesLess hi2.toList t.toList = false := n2'
            have m0 := cell_of hgu (i := 0) (u := .int .i64 (len1 : Int)) rfl
            have m1 := cell_of hgu (i := 1) (u := .string lo2) rfl
            have m2 := cell_of hgu (i := 2) (u := .string hi2) rfl
            have hmay := mayS_any wx len1 lo2 hi2 t t
            have hmt : maySB len1 lo2 hi2 t t = true := by
              unfold maySB
              rw [n1', n2', ltB_irrefl, decide_eq_true (show 0 < len1 by omega)]
              rfl
            rw [hmt] at hmay
            have HMAY := Lib.hid hmay
            have u3 : Op.bytesLess t.toList hi2.toList = true ∨ t.toList = hi2.toList := by
              have h := leq_not t hi2
              rw [n2', Bool.not_false, Bool.or_eq_true, beq_iff_eq] at h
              exact h
            clear hcell ht n1 n2 n1' n2' hgu hgs hmay hmt
            have u7 : t.toList = hi2.toList → Op.bytesLess hi2.toList lo2.toList = false := fun e => by rw [← e]; exact u1
            rcases u3 with u3 | u3
            all_goals
              try have u8 := u7 u3
              clear u7
              go_wp2_with fail
              refine HMAY.out.mono ?_
              rintro e wy ⟨rfl, hby⟩
              have HBY := Lib.hid (HX2.out.trans (hby.mono HX2.out.size))
              clear hby
              go_wp2_with fail
              go_roundw
              case rel => exact ⟨j + 1, by omega, by go_num, HBY⟩
              case measure => simp [intOf]; omega
          · have hjn2 : ¬ (j : Int) < (len1 : Int) := by omega
            have HBE := Lib.hid (HB4.out.trans (HX2.out.mono HB4.out.size))
            have m0 := cell_of hgs (i := 0) (u := .int .i64 (len0 : Int)) rfl
            have m1 := cell_of hgs (i := 1) (u := .int .i64 0) rfl
            have m2 := cell_of hgs (i := 2) (u := .int .i64 0) rfl
            have lS := (Array.getElem?_eq_some_iff.1 hgs).1
            have HGX := Lib.hid hgs
            have HLS := Lib.hid lS
            clear hgu hgs hjn
            have hmf : ∀ v, Calls Tryd.prog 11 #[.agg #[.int .i64 (len0 : Int), .int .i64 0, .int .i64 0], .int .i64 a2, .int .i64 a3] v fun e w' => e = .returned (.bool false) ∧ Below v.heap.size v w' := by
              intro v
              have h := mayI_any v len0 0 0 a2 a3
              rw [show mayIB len0 0 0 a2 a3 = false from by unfold mayIB; rw [decide_eq_false (show ¬ 0 < len0 by omega)]; rfl] at h
              exact h
            have HMF := Lib.hid hmf
            clear hmf
            by_cases hle : a2 ≤ a3
            · go_wp2_with fail
              refine (HMF.out wx).mono ?_
              rintro e wy ⟨rfl, hby⟩
              have HBY := Lib.hid (HBE.out.trans (hby.mono HBE.out.size))
              clear hby
              go_wp2_with fail
              go_ret
              exact ⟨rfl, HBY.out⟩
            · go_wp2_with fail
              refine (HMF.out wx).mono ?_
              rintro e wy ⟨rfl, hby⟩
              have HBY := Lib.hid (HBE.out.trans (hby.mono HBE.out.size))
              have hg2 := (hby.block w3.heap.size HLS.out).trans HGX.out
              have p0 := cell_of hg2 (i := 0) (u := .int .i64 (len0 : Int)) rfl
              have p1 := cell_of hg2 (i := 1) (u := .int .i64 0) rfl
              have p2 := cell_of hg2 (i := 2) (u := .int .i64 0) rfl
              clear hby hg2
              go_wp2_with fail
              refine (HMF.out wy).mono ?_
              rintro e wz ⟨rfl, hbz⟩
              have HBZ := Lib.hid (HBY.out.trans (hbz.mono HBY.out.size))
              clear hbz
              go_wp2_with fail
              go_ret
              exact ⟨rfl, HBZ.out⟩
    · have hz0 : ((len0 : Int) == 0) = false := by rw [beq_eq_false_iff_ne]; omega
      have hn0 : (0 : Int) < (len0 : Int) := by omega
      have hnn : ((len0 : Int) != (len0 : Int)) = false := by simp
      have hmm : ((len1 : Int) != (len1 : Int)) = false := by simp
      have HN := Lib.hid hn
      clear hn
      go_enter Tryd.func4, Tryd.ntmps4
      go_wp2_with fail
      refine HL.out.mono ?_
      rintro e w1 ⟨rfl, hb1⟩
      have HB1 := Lib.hid hb1
      have HO := Lib.hid (ofI_any (HZ.out.kept hb1))
      clear hb1
      go_wp2_with fail
      refine HO.out.mono ?_
      rintro e w2 ⟨lo, hi, rfl, ho, hb2⟩
      have HB2 := Lib.hid (HB1.out.trans (hb2.mono HB1.out.size))
      have HBN := Lib.hid (ho.2 (by have := HN.out; omega))
      have HOS := Lib.hid (ofS_any (HX.out.kept HB2.out))
      clear ho hb2
      go_wp2_with fail
      refine HOS.out.mono ?_
      rintro e w3 ⟨lo2, hi2, rfl, ho, hb3⟩
      have HB3 := Lib.hid (HB2.out.trans (hb3.mono HB2.out.size))
      have HBS := Lib.hid ho
      clear ho hb3
      go_wp2_with fail
      obtain ⟨w4, hw4⟩ : ∃ w4, w4 = (w3.alloc (.cells #[.int .i64 (len0 : Int), .int .i64 lo, .int .i64 hi] 34)).alloc (.cells #[.int .i64 (len1 : Int), .string lo2, .string hi2] 37) := ⟨_, rfl⟩
      rw [← hw4]
      have hs1 : (w3.alloc (.cells #[.int .i64 (len0 : Int), .int .i64 lo, .int .i64 hi] 34)).heap.size = w3.heap.size + 1 := by show (w3.heap.push _).size = _; exact Array.size_push ..
      have gU : w4.heap[w3.heap.size + 1]? = some (.cells #[.int .i64 (len1 : Int), .string lo2, .string hi2] 37 (0, 0)) := by rw [hw4, ← hs1]; exact heap_alloc_new _ _
      have gS : w4.heap[w3.heap.size]? = some (.cells #[.int .i64 (len0 : Int), .int .i64 lo, .int .i64 hi] 34 (0, 0)) := by
        rw [hw4, heap_alloc_old _ _ (by omega)]; exact heap_alloc_new _ _
      have b4 : Below w3.heap.size w3 w4 := by rw [hw4]; exact ((Below.refl _ _).alloc (Nat.le_refl _) _).alloc (by omega) _
      have HB4 := Lib.hid (HB3.out.trans (b4.mono HB3.out.size))
      have HGU := Lib.hid gU
      have HGS := Lib.hid gS
      have HS4 := Lib.hid (show w3.heap.size + 1 < w4.heap.size from (Array.getElem?_eq_some_iff.1 gU).1)
      clear gU gS b4 hs1 hw4
      obtain ⟨P, hP⟩ : ∃ P : Nat → Bool, P = fun i => zs.getD i 0 == lo := ⟨_, rfl⟩
      obtain ⟨Q, hQ⟩ : ∃ Q : Nat → Bool, Q = fun i => zs.getD i 0 == hi := ⟨_, rfl⟩
      obtain ⟨R, hR⟩ : ∃ R : Nat → Bool, R = fun i => decide (a2 ≤ zs.getD i 0) && decide (zs.getD i 0 ≤ a3) := ⟨_, rfl⟩
      have HP := Lib.hid hP
      have HQ := Lib.hid hQ
      have HR := Lib.hid hR
      clear hP hQ hR
      go_loopw [11, 12, 13, 15, 65] (fun s11 s12 s13 _ s65 wr => ∃ k : Nat, k ≤ len0 ∧ s65 = .int .i64 (k : Int) ∧ s11 = .bool (anyK P k) ∧ s12 = .bool (anyK Q k) ∧ s13 = .bool (anyK R k) ∧ Hid (Below w4.heap.size w4 wr)) (fun _ _ _ _ s65 _ => len0 - (intOf s65).toNat)
      case atStart => exact ⟨0, by omega, rfl, rfl, rfl, rfl, Lib.hid (Below.refl _ _)⟩
      case round =>
        obtain ⟨k, hk, rfl, rfl, rfl, rfl, HB⟩ := hrel
        rename World => wr
        by_cases hkn : k < len0
        · have hki : (k : Int) < (len0 : Int) := by omega
          obtain ⟨g, off, hE, hlt, hcell⟩ := (HZ.out.keep (HB4.out.trans (HB.out.mono HB4.out.size)) (Nat.le_refl _)).cells (by omega)
          subst hE
          have x1 := hcell k hkn
          obtain ⟨x, hx⟩ : ∃ x, x = zs.getD k 0 := ⟨_, rfl⟩
          rw [← hx] at x1
          obtain ⟨n1, n2⟩ := HBN.out.all k hkn
          rw [← hx] at n1 n2
          have hgs := (HB.out.block w3.heap.size (by have := HS4.out; omega)).trans HGS.out
          have m1 := cell_of hgs (i := 1) (u := .int .i64 lo) rfl
          have m2 := cell_of hgs (i := 2) (u := .int .i64 hi) rfl
          obtain ⟨b1, hb1⟩ : ∃ b, b = anyK P k := ⟨_, rfl⟩
          obtain ⟨b2, hb2⟩ : ∃ b, b = anyK Q k := ⟨_, rfl⟩
          obtain ⟨b3, hb3⟩ : ∃ b, b = anyK R k := ⟨_, rfl⟩
          have E1 := Lib.hid (show anyK P (k + 1) = (b1 || (x == lo)) from by rw [anyK, hb1, HP.out, hx])
          have E2 := Lib.hid (show anyK Q (k + 1) = (b2 || (x == hi)) from by rw [anyK, hb2, HQ.out, hx])
          have E3 := Lib.hid (show anyK R (k + 1) = (b3 || (decide (a2 ≤ x) && decide (x ≤ a3))) from by rw [anyK, hb3, HR.out, hx])
          rw [← hb1, ← hb2, ← hb3]
          have hcs : b3 = true ∨ (b3 = false ∧ a2 ≤ x) ∨ (b3 = false ∧ ¬ a2 ≤ x) := by
            cases b3
            · exact .inr (if h : a2 ≤ x then .inl ⟨rfl, h⟩ else .inr ⟨rfl, h⟩)
            · exact .inl rfl
          clear hcell hx hgs hb1 hb2 hb3
          cases b1 <;> cases b2 <;> rcases hcs with q | ⟨q, q2⟩ | ⟨q, q2⟩
          all_goals
            subst q
            go_wp2_with fail
            go_region
            go_wp2_with fail
            go_roundw
            case rel => exact ⟨k + 1, by omega, by go_num, by rw [E1.out]; simp, by rw [E2.out]; simp, by rw [E3.out]; first | rfl | (simp [show a2 ≤ x from by omega]; done) | (simp [show ¬ a2 ≤ x from by omega]; done) | simp, Lib.hid HB.out.drew⟩
            case measure => simp [intOf]; omega
        · have hkn2 : k = len0 := by omega
          have hkni : ¬ (k : Int) < (len0 : Int) := by omega
          have e1 : anyK P k = true := by
            obtain ⟨i, hik, he⟩ := HBN.out.lo
            refine anyK_yes (i := i) ?_ (by omega)
            rw [HP.out]
            simp only
            rw [he]
            simp
          have e2 : anyK Q k = true := by
            obtain ⟨i, hik, he⟩ := HBN.out.hi
            refine anyK_yes (i := i) ?_ (by omega)
            rw [HQ.out]
            simp only
            rw [he]
            simp
          obtain ⟨b3, hb3⟩ : ∃ b, b = anyK R k := ⟨_, rfl⟩
          have HLE := Lib.hid (show b3 = true → a2 ≤ a3 from fun h => by
            rw [hb3] at h
            obtain ⟨i, hik, he⟩ := anyK_of h
            rw [HR.out] at he
            simp only [Bool.and_eq_true, decide_eq_true_eq] at he
            omega)
          have HTR := Lib.hid (show b3 = true → mayIB len0 lo hi a2 a3 = true from fun h => by
            rw [hb3] at h
            obtain ⟨i, hik, he⟩ := anyK_of h
            rw [HR.out] at he
            simp only [Bool.and_eq_true, decide_eq_true_eq] at he
            obtain ⟨g1, g2⟩ := HBN.out.all i (by omega)
            unfold mayIB
            rw [decide_eq_true (show 0 < len0 by omega), decide_eq_false (show ¬ a3 < a2 by omega), decide_eq_false (show ¬ hi < a2 by omega), decide_eq_false (show ¬ a3 < lo by omega)]
            rfl)
          rw [e1, e2, ← hb3]
          have HBL := HB
          clear hb3 e1 e2 hkn2 hkn
          go_wp2_with fail
          go_loopw [17, 107] (fun _ s107 wx => ∃ j : Nat, j ≤ len1 ∧ s107 = .int .i64 (j : Int) ∧ Hid (Below w4.heap.size w4 wx)) (fun _ s107 _ => len1 - (intOf s107).toNat)
          case atStart => exact ⟨0, by omega, rfl, HBL⟩
          case round =>
            obtain ⟨j, hj, rfl, HX2⟩ := hrel
            rename World => wx
            have hgu := (HX2.out.block (w3.heap.size + 1) HS4.out).trans HGU.out
            have hgs := (HX2.out.block w3.heap.size (by have := HS4.out; omega)).trans HGS.out
            by_cases hjn : j < len1
            · have hji : (j : Int) < (len1 : Int) := by omega
              obtain ⟨g, off, hE, hlt, hcell⟩ := (HX.out.keep (HB4.out.trans (HX2.out.mono HB4.out.size)) (Nat.le_refl _)).cells (by omega)
              subst hE
              have x1 := hcell j hjn
              obtain ⟨t, ht⟩ : ∃ t, t = z1.getD j ByteArray.empty := ⟨_, rfl⟩
              rw [← ht] at x1
              obtain ⟨n1, n2⟩ := (HBS.out.2 (by omega)).all j hjn
              rw [← ht] at n1 n2
              have n1' : ltB t lo2 = false := by simpa using n1
              have n2' : ltB hi2 t = false := by simpa using n2
              have u1 : Op.bytesLess t.toList lo2.toList = false := n1'
              have u2 : Op.bytesLess hi2.toList t.toList = false := n2'
              have m0 := cell_of hgu (i := 0) (u := .int .i64 (len1 : Int)) rfl
              have m1 := cell_of hgu (i := 1) (u := .string lo2) rfl
              have m2 := cell_of hgu (i := 2) (u := .string hi2) rfl
              have hmay := mayS_any wx len1 lo2 hi2 t t
              have hmt : maySB len1 lo2 hi2 t t = true := by
                unfold maySB
                rw [n1', n2', ltB_irrefl, decide_eq_true (show 0 < len1 by omega)]
                rfl
              rw [hmt] at hmay
              have HMAY := Lib.hid hmay
              have u3 : Op.bytesLess t.toList hi2.toList = true ∨ t.toList = hi2.toList := by
                have h := leq_not t hi2
                rw [n2', Bool.not_false, Bool.or_eq_true, beq_iff_eq] at h
                exact h
              clear hcell ht n1 n2 n1' n2' hgu hgs hmay hmt
              have u7 : t.toList = hi2.toList → Op.bytesLess hi2.toList lo2.toList = false := fun e => by rw [← e]; exact u1
              rcases u3 with u3 | u3
              all_goals
                try have u8 := u7 u3
                clear u7
                go_wp2_with fail
                refine HMAY.out.mono ?_
                rintro e wy ⟨rfl, hby⟩
                have HBY := Lib.hid (HX2.out.trans (hby.mono HX2.out.size))
                clear hby
                go_wp2_with fail
                go_roundw
                case rel => exact ⟨j + 1, by omega, by go_num, HBY⟩
                case measure => simp [intOf]; omega
            · have hjn2 : ¬ (j : Int) < (len1 : Int) := by omega
              have HBE := Lib.hid (HB4.out.trans (HX2.out.mono HB4.out.size))
              have m0 := cell_of hgs (i := 0) (u := .int .i64 (len0 : Int)) rfl
              have m1 := cell_of hgs (i := 1) (u := .int .i64 lo) rfl
              have m2 := cell_of hgs (i := 2) (u := .int .i64 hi) rfl
              have lS := (Array.getElem?_eq_some_iff.1 hgs).1
              have HGX := Lib.hid hgs
              have HLS := Lib.hid lS
              clear hgu hgs hjn
              by_cases hle : a2 ≤ a3
              · cases b3
                · go_wp2_with fail
                  go_ret
                  exact ⟨rfl, HBE.out⟩
                · have hmv := mayI_any wx len0 lo hi a2 a3
                  rw [HTR.out rfl] at hmv
                  have HMV := Lib.hid hmv
                  clear hmv
                  go_wp2_with fail
                  refine HMV.out.mono ?_
                  rintro e wy ⟨rfl, hby⟩
                  have HBY := Lib.hid (HBE.out.trans (hby.mono HBE.out.size))
                  clear hby
                  go_wp2_with fail
                  go_ret
                  exact ⟨rfl, HBY.out⟩
              · cases b3
                · have hmv := mayI_any wx len0 lo hi a2 a3
                  rw [show mayIB len0 lo hi a2 a3 = false from by unfold mayIB; rw [decide_eq_true (show a3 < a2 by omega)]; simp] at hmv
                  have HMV := Lib.hid hmv
                  clear hmv
                  go_wp2_with fail
                  refine HMV.out.mono ?_
                  rintro e wy ⟨rfl, hby⟩
                  have HBY := Lib.hid (HBE.out.trans (hby.mono HBE.out.size))
                  clear hby
                  go_wp2_with fail
                  go_ret
                  exact ⟨rfl, HBY.out⟩
                · exact absurd (HLE.out rfl) hle
end Go.Proofs.YteggmbfhfoijoaaDoor

/- The law MergeEnds, walked. Written by genends.py. -/
import Derived.Test.YteihbbmbdkkbbaaEEndsPlain
import Derived.Test.YteihbbmbdkkbbaaEChoosesWalk
namespace Go.Proofs.Yteihbbmbdkkbbaa
open Go.ChangeShapes Go.WideShapes Go.Deep Go.RowKit LabPlain Stab
set_option linter.unusedVariables false

def entA (x : EntV) : Array Value := #[.string x.key, .int .i64 x.win, .string x.part, .int .i64 x.fst, .int .i64 x.lst, .int .i64 x.rows, .int .i64 x.size, .int .u32 x.sum, .int .i64 x.born]
theorem heap_set {w : World} {B : Nat} {cur : Array Value} {t : TypeId} (g : w.heap[B]? = some (.cells cur t (0, 0))) (i : Nat) (u : Value) : (w.setCell ⟨B, i, none⟩ u).heap[B]? = some (.cells (cur.setIfInBounds i u) t (0, 0)) := heap_setCell_same w B i cur t u g
theorem fro_blk {w : World} {B : Nat} {cur : Array Value} {t : TypeId} (g : w.heap[B]? = some (.cells cur t (0, 0))) (i : Nat) : w.frozen? ⟨B, i, none⟩ = false := by simp [World.frozen?, g]
theorem sumR_sub {a b : List EntV} (h : a.Sublist b) (hp : ∀ x ∈ b, 1 ≤ x.rows) : sumR a ≤ sumR b := by
  induction h with
  | slnil => exact Int.le_refl _
  | cons x _ ih =>
    have := ih (fun y hy => hp y (by simp [hy]))
    have := hp x (by simp)
    simp only [sumR]; omega
  | cons_cons x _ ih =>
    have := ih (fun y hy => hp y (by simp [hy]))
    simp only [sumR]; omega
theorem plain_sum {l : List EntV} {n : Nat} (hl : l.length = n) (h : PlainTo l n) : sumR l ≤ 124928 := by
  have h1 : ∀ k, k ≤ n → sumR (l.take k) ≤ 2048 * k := by
    intro k
    induction k with
    | zero => intro _; simp [sumR]
    | succ k ih =>
      intro hk
      have h2 := ih (by omega)
      have h3 := h.2.1 k (by omega)
      rw [List.take_succ_eq_append_getElem (by omega), sumR_app]
      have h4 : l.getD k ent0 = l[k]'(by omega) := by simp [show k < l.length by omega]
      rw [h4] at h3
      simp only [sumR]; omega
  have h2 := h1 n (Nat.le_refl _)
  rw [List.take_of_length_le (by omega)] at h2
  have := h.1
  omega

set_option maxRecDepth 100000 in
set_option maxHeartbeats 8000000 in
theorem merge_ends (a : Option Addr) (n c : Nat) (l : List EntV) (small most : Int) (w : World) (h : EntsAt w a n c l) (_ : (Lit.int .i64 small).wf = true) (_ : (Lit.int .i64 most).wf = true) :
    Calls Try.prog 7 #[.slice a n c, .int .i64 small, .int .i64 most] w fun e w' => e = .returned (.bool true) ∧ Below w.heap.size w w' := by
  have hcap := h.cap
  have hcm := h.capm
  have HH := Lib.hid h
  have HL := Lib.hid h.len
  clear h
  go_enter Try.func7, Try.ntmps7
  go_wp2_with fail
  refine (lives16_any _).mono ?_
  rintro e w2 ⟨rfl, hb2⟩
  have HB2 := Lib.hid hb2
  have HH2 := Lib.hid (HH.out.kept hb2)
  clear hb2
  go_wp2_with fail
  refine (plain_any HH2.out).mono ?_
  rintro e w3 ⟨r, rfl, hr, hb3⟩
  have HB3 := Lib.hid (HB2.out.trans (hb3.mono HB2.out.size))
  have HP := Lib.hid hr
  clear hb3 hr
  cases r
  case false =>
    go_wp2_with fail
    refine (lives16_any _).mono ?_
    rintro e w9 ⟨rfl, hb9⟩
    have HB9 := Lib.hid (HB3.out.trans (hb9.mono HB3.out.size))
    clear hb9
    go_wp2_with fail
    go_ret
    exact ⟨rfl, HB9.out⟩
  case true =>
    by_cases hm0 : most < 0
    case pos =>
      go_wp2_with fail
      refine (lives16_any _).mono ?_
      rintro e w9 ⟨rfl, hb9⟩
      have HB9 := Lib.hid (HB3.out.trans (hb9.mono HB3.out.size))
      clear hb9
      go_wp2_with fail
      go_ret
      exact ⟨rfl, HB9.out⟩
    case neg =>
      by_cases hm1 : 1099511627776 < most
      case pos =>
        go_wp2_with fail
        refine (lives16_any _).mono ?_
        rintro e w9 ⟨rfl, hb9⟩
        have HB9 := Lib.hid (HB3.out.trans (hb9.mono HB3.out.size))
        clear hb9
        go_wp2_with fail
        go_ret
        exact ⟨rfl, HB9.out⟩
      case neg =>
        have hpl := HP.out rfl
        have hn1 : n ≤ 61 := hpl.1
        have hm : 0 ≤ most ∧ most ≤ 1099511627776 := by omega
        have HF0 := Lib.hid (show Few l from ⟨fun x hx => (plain_rows HL.out hpl x hx).1, plain_keys HL.out hpl, plain_sum HL.out hpl, HH.out.size⟩)
        have HH3 := Lib.hid (HH.out.kept HB3.out)
        clear hpl
        go_wp2_with fail
        go_loopw [0, 8, 9, 10, 12, 13, 15, 38] (fun s0 s8 s9 s10 s12 s13 s15 s38 wr => ∃ (t m c' : Nat) (a' : Option Addr) (L : List EntV), m + t ≤ n ∧ (0 < t → 0 < m) ∧ s38 = .int .i64 (t : Int) ∧ s0 = .slice a' m c' ∧ Hid (EntsAt wr a' m c' L) ∧ Hid (Few L) ∧ Hid (Below w.heap.size w wr)) (fun _ _ _ _ _ _ _ s38 _ => n + 1 - (intOf s38).toNat)
        case atStart => exact ⟨0, n, c, a, l, by omega, by omega, rfl, rfl, HH3, HF0, HB3⟩
        case round =>
          obtain ⟨t, m, c1, a1, L, hmt, ht0, rfl, rfl, HE, HF, HB⟩ := hrel
          rename World => wr
          have hti : (t : Int) < (n : Int) + 1 := by omega
          have hml := HE.out.cap
          have hmc := HE.out.capm
          go_wp2_with fail
          refine (choose_any HE.out (by omega) hm HF.out.le HF.out.keys).mono ?_
          rintro e w4 ⟨v4, fs, rfl, hp4, hm4, hown4, hb4⟩
          obtain ⟨a4, c4, rfl, hat4⟩ := TextsAt.ofOwn hown4
          obtain ⟨N4, hN4⟩ : ∃ N4, (cho most fs).length = N4 := ⟨_, rfl⟩
          rw [hN4] at hat4 ⊢
          by_cases hch : cho most fs = []
          · obtain rfl : N4 = 0 := by rw [← hN4, hch]; rfl
            clear hat4
            have HNL := Lib.hid (none_left HF.out hp4 hm4 hch)
            have HE5 := Lib.hid (HE.out.kept hb4)
            have HB5 := Lib.hid (HB.out.trans (hb4.mono HB.out.size))
            have HLE := Lib.hid HF.out.le
            clear hp4 hm4 hown4 hb4 hch hN4
            go_wp2_with fail
            go_loopw [16, 17, 120] (fun s16 s17 s120 wq => ∃ i : Nat, i ≤ m ∧ s120 = .int .i64 (i : Int) ∧ Hid (Below w4.heap.size w4 wq)) (fun _ _ s120 _ => m - (intOf s120).toNat)
            case atStart => exact ⟨0, by omega, rfl, Lib.hid (Below.refl _ _)⟩
            case round =>
              obtain ⟨i, him, rfl, HBI⟩ := hrel
              rename World => wi
              by_cases hlt : i < m
              · have hlti : (i : Int) < (m : Int) := by omega
                go_wp2_with fail
                go_loopw [17, 124] (fun s17 s124 wk => ∃ q : Nat, q ≤ i ∧ s124 = .int .i64 (q : Int) ∧ Hid (Below w4.heap.size w4 wk)) (fun _ s124 _ => i - (intOf s124).toNat)
                case atStart => exact ⟨0, by omega, rfl, HBI⟩
                case round =>
                  obtain ⟨q, hqi, rfl, HBK⟩ := hrel
                  rename World => wk
                  by_cases hqlt : q < i
                  · have hqlti : (q : Int) < (i : Int) := by omega
                    have hqltm : (q : Int) < (m : Int) := by omega
                    obtain ⟨b, off, hea, hltb0, hcell⟩ := (HE5.out.kept HBK.out).cells (by omega)
                    subst hea
                    have hltb : b < wk.drew.heap.size := hltb0
                    obtain ⟨x, hx⟩ : ∃ x, x = L.getD i ent0 := ⟨_, rfl⟩
                    obtain ⟨y, hy⟩ : ∃ y, y = L.getD q ent0 := ⟨_, rfl⟩
                    obtain ⟨cx0, cx1, cx2, cx3, cx4, cx5, cx6, cx7, cx8⟩ := EntsAt.nine hcell hlt hx
                    obtain ⟨cy0, cy1, cy2, cy3, cy4, cy5, cy6, cy7, cy8⟩ := EntsAt.nine hcell (by omega) hy
                    have ht : togB x y small most = false := by rw [hx, hy]; exact HNL.out i q hqlt (by rw [HE5.out.len]; exact hlt)
                    have hxr := HLE.out x (by rw [hx]; exact ent_mem (by rw [HE5.out.len]; exact hlt))
                    have HT := Lib.hid ht
                    clear hcell hx hy ht hltb0
                    go_wp2_with fail
                    go_region_held3 (fun w' => w'.cell? ⟨b, off + i * 9, none⟩ = some (.string x.key) ∧ w'.cell? ⟨b, off + i * 9 + 1, none⟩ = some (.int .i64 x.win) ∧ w'.cell? ⟨b, off + i * 9 + 2, none⟩ = some (.string x.part) ∧ w'.cell? ⟨b, off + i * 9 + 3, none⟩ = some (.int .i64 x.fst) ∧ w'.cell? ⟨b, off + i * 9 + 4, none⟩ = some (.int .i64 x.lst) ∧ w'.cell? ⟨b, off + i * 9 + 5, none⟩ = some (.int .i64 x.rows) ∧ w'.cell? ⟨b, off + i * 9 + 6, none⟩ = some (.int .i64 x.size) ∧ w'.cell? ⟨b, off + i * 9 + 7, none⟩ = some (.int .u32 x.sum) ∧ w'.cell? ⟨b, off + i * 9 + 8, none⟩ = some (.int .i64 x.born) ∧ w'.cell? ⟨b, off + q * 9, none⟩ = some (.string y.key) ∧ w'.cell? ⟨b, off + q * 9 + 1, none⟩ = some (.int .i64 y.win) ∧ w'.cell? ⟨b, off + q * 9 + 2, none⟩ = some (.string y.part) ∧ w'.cell? ⟨b, off + q * 9 + 3, none⟩ = some (.int .i64 y.fst) ∧ w'.cell? ⟨b, off + q * 9 + 4, none⟩ = some (.int .i64 y.lst) ∧ w'.cell? ⟨b, off + q * 9 + 5, none⟩ = some (.int .i64 y.rows) ∧ w'.cell? ⟨b, off + q * 9 + 6, none⟩ = some (.int .i64 y.size) ∧ w'.cell? ⟨b, off + q * 9 + 7, none⟩ = some (.int .u32 y.sum) ∧ w'.cell? ⟨b, off + q * 9 + 8, none⟩ = some (.int .i64 y.born)) (first | go_keep | exact ⟨(hbq.cell (p := ⟨b, off + i * 9, none⟩) hltb).trans cx0, (hbq.cell (p := ⟨b, off + i * 9 + 1, none⟩) hltb).trans cx1, (hbq.cell (p := ⟨b, off + i * 9 + 2, none⟩) hltb).trans cx2, (hbq.cell (p := ⟨b, off + i * 9 + 3, none⟩) hltb).trans cx3, (hbq.cell (p := ⟨b, off + i * 9 + 4, none⟩) hltb).trans cx4, (hbq.cell (p := ⟨b, off + i * 9 + 5, none⟩) hltb).trans cx5, (hbq.cell (p := ⟨b, off + i * 9 + 6, none⟩) hltb).trans cx6, (hbq.cell (p := ⟨b, off + i * 9 + 7, none⟩) hltb).trans cx7, (hbq.cell (p := ⟨b, off + i * 9 + 8, none⟩) hltb).trans cx8, (hbq.cell (p := ⟨b, off + q * 9, none⟩) hltb).trans cy0, (hbq.cell (p := ⟨b, off + q * 9 + 1, none⟩) hltb).trans cy1, (hbq.cell (p := ⟨b, off + q * 9 + 2, none⟩) hltb).trans cy2, (hbq.cell (p := ⟨b, off + q * 9 + 3, none⟩) hltb).trans cy3, (hbq.cell (p := ⟨b, off + q * 9 + 4, none⟩) hltb).trans cy4, (hbq.cell (p := ⟨b, off + q * 9 + 5, none⟩) hltb).trans cy5, (hbq.cell (p := ⟨b, off + q * 9 + 6, none⟩) hltb).trans cy6, (hbq.cell (p := ⟨b, off + q * 9 + 7, none⟩) hltb).trans cy7, (hbq.cell (p := ⟨b, off + q * 9 + 8, none⟩) hltb).trans cy8⟩) (first | (go_at_call 26; refine (togB_any x y hxr hm _).mono ?_; rintro e w3 ⟨he3, hbq⟩; rw [HT.out] at he3; subst he3))
                    have HB6 := Lib.hid (HBK.out.drew.trans (hbq.mono HBK.out.size))
                    clear hbq cx0 cx1 cx2 cx3 cx4 cx5 cx6 cx7 cx8 cy0 cy1 cy2 cy3 cy4 cy5 cy6 cy7 cy8
                    go_wp2_with fail
                    go_roundw
                    case rel => exact ⟨q + 1, by omega, by go_num, HB6⟩
                    case measure => simp [intOf]; omega
                  · obtain rfl : q = i := by omega
                    go_wp2_with fail
                    go_roundw
                    case rel => exact ⟨q + 1, by omega, by go_num, HBK⟩
                    case measure => simp [intOf]; omega
              · obtain rfl : i = m := by omega
                go_wp2_with fail
                go_ret
                exact ⟨rfl, HB5.out.trans (HBI.out.mono HB5.out.size)⟩
          · have HRD := Lib.hid (round_of HF.out hp4 hm4 hch)
            have hN0 : ((N4 : Int) == 0) = false := by
              rw [beq_eq_false_iff_ne]
              have := List.length_pos_iff.2 hch
              omega
            obtain ⟨ks, hks⟩ : ∃ ks, ks = cho most fs := ⟨_, rfl⟩
            rw [← hks] at hat4 hN4 HRD
            have HAT4 := Lib.hid hat4
            have HN4 := Lib.hid hN4
            have HE4 := Lib.hid (HE.out.kept hb4)
            have HB4 := Lib.hid (HB.out.trans (hb4.mono HB.out.size))
            clear hp4 hm4 hown4 hb4 hch hN4 hks hat4
            go_wp2_with fail
            obtain ⟨i0, hi, hz0, hz1, hz2⟩ := info_parts ent_info
            obtain ⟨B, hB⟩ : ∃ B, B = w4.heap.size + 1 := ⟨_, rfl⟩
            obtain ⟨w5, hw5⟩ : ∃ w5, w5 = (w4.alloc (.cells #[] 57)).alloc (.cells #[.string { data := #[] }, .int .i64 0, .string { data := #[] }, .int .i64 0, .int .i64 0, .int .i64 0, .int .i64 0, .int .u32 0, .int .i64 0] 57) := ⟨_, rfl⟩
            have hsz : (w4.alloc (.cells #[] 57)).heap.size = w4.heap.size + 1 := Array.size_push _
            have hown5 : (w4.alloc (.cells #[] 57)).ownsRow w4.heap.size 57 9 (.slice (some ⟨w4.heap.size, 0, none⟩) 0 0) 0 (ecells []) := World.ownsRow_lit (base := w4.heap.size) (e := 57) (size := 9) w4 #[] 0 (Nat.le_refl _) (by unfold maxLen; omega) rfl
            have hb45 : Below w4.heap.size w4 w5 := by rw [hw5]; exact ((Below.refl w4.heap.size w4).alloc (Nat.le_refl _) _).alloc (by rw [hsz]; omega) _
            have HN5 := Lib.hid (show w5.ownsRow w4.heap.size 57 9 (.slice (some ⟨w4.heap.size, 0, none⟩) 0 0) ([] : List EntV).length (ecells []) from by rw [hw5]; exact own_below hown5 ((Below.refl _ _).alloc (Nat.le_refl _) _))
            have HG5 := Lib.hid (show w5.heap[B]? = some (.cells (entA (oneOf [])) 57 (0, 0)) from by rw [hw5, hB, ← hsz]; exact heap_alloc_new _ _)
            have HB45 := Lib.hid hb45
            have HBB := Lib.hid (show w4.heap.size < B from by omega)
            have HNB5 := Lib.hid (show (Value.slice (some ⟨w4.heap.size, 0, none⟩) 0 0).ownBlock ≠ some B from fun e => by
              have h1 : w4.heap.size = B := Option.some.inj e
              omega)
            rw [← hw5, ← hB]
            clear hw5 hsz hown5 hb45 hB
            have hN4c := HAT4.out.2.1
            go_loopw [9, 12, 13, 15, 51] (fun s9 s12 s13 s15 s51 wm => ∃ (i : Nat) (R D : List EntV), i ≤ m ∧ R.length ≤ i ∧ s51 = .int .i64 (i : Int) ∧ Hid (wm.ownsRow w4.heap.size 57 9 s9 R.length (ecells R)) ∧ Hid (R = (L.take i).filter (fun x => !inK ks x.key)) ∧ Hid (D = (L.take i).filter (fun x => inK ks x.key)) ∧ Hid (wm.heap[B]? = some (.cells (entA (oneOf D)) 57 (0, 0))) ∧ Hid (s9.ownBlock ≠ some B) ∧ Hid (Below w4.heap.size w4 wm)) (fun _ _ _ _ s51 _ => m - (intOf s51).toNat)
            case atStart => exact ⟨0, [], [], by omega, by simp, rfl, HN5, Lib.hid rfl, Lib.hid rfl, HG5, HNB5, HB45⟩
            case round =>
              obtain ⟨i, R, D, him, hRi, rfl, HO, HRL, HDL, HG, HNB, HBM⟩ := hrel
              rename World => wm
              by_cases hlt : i < m
              · have hlti : (i : Int) < (m : Int) := by omega
                obtain ⟨x, hx⟩ : ∃ x, x = L.getD i ent0 := ⟨_, rfl⟩
                obtain ⟨b, off, hea, hltb0, hcell⟩ := (HE4.out.kept HBM.out).cells (by omega)
                subst hea
                obtain ⟨d0_, d1_, d2_, d3_, d4_, d5_, d6_, d7_, d8_⟩ := EntsAt.nine hcell hlt hx
                have HXM := Lib.hid (show x ∈ L from by rw [hx]; exact ent_mem (by rw [HE4.out.len]; exact hlt))
                have HTK := Lib.hid (show L.take (i + 1) = L.take i ++ [x] from by
                  rw [List.take_succ_eq_append_getElem (by rw [HE4.out.len]; exact hlt)]
                  congr 2
                  rw [hx]; simp [HE4.out.len, hlt])
                obtain ⟨b6, hb6⟩ : ∃ b6, b6 = wm.heap.size := ⟨_, rfl⟩
                obtain ⟨w6, hw6⟩ : ∃ w6, w6 = wm.alloc (.cells #[.string x.key, .int .i64 x.win, .string x.part, .int .i64 x.fst, .int .i64 x.lst, .int .i64 x.rows, .int .i64 x.size, .int .u32 x.sum, .int .i64 x.born] 57) := ⟨_, rfl⟩
                have hb6w : Below wm.heap.size wm w6 := by rw [hw6]; exact (Below.refl _ _).alloc (Nat.le_refl _) _
                have hx6 : ∀ j u, x.cells[j]? = some u → w6.cell? ⟨b6, j, none⟩ = some u := by
                  intro j u hu
                  have := ent_src wm x 57 j u hu
                  rw [Addr.add_mid, Nat.zero_add] at this
                  rw [hw6, hb6]; exact this
                have hl6 : b6 < w6.heap.size := by rw [hb6, hw6]; exact (Array.getElem?_eq_some_iff.1 (heap_alloc_new wm _)).1
                have hltB : B < wm.heap.size := (Array.getElem?_eq_some_iff.1 HG.out).1
                have HX6 := Lib.hid hx6
                have HL6 := Lib.hid hl6
                have HW6 := Lib.hid hw6
                have HB6 := Lib.hid hb6
                have HB6w := Lib.hid hb6w
                have HG6 := Lib.hid ((hb6w.block B hltB).trans HG.out)
                have HLB6 := Lib.hid (Nat.lt_of_lt_of_le hltB hb6w.size)
                clear hx hcell hltb0 hx6 hl6 hw6 hb6 hb6w hltB
                go_wp2_with fail
                rw [← HW6.out, ← HB6.out]
                go_loopw [13, 15, 57] (fun s13 s15 s57 wk => ∃ j : Nat, j ≤ N4 ∧ s57 = .int .i64 (j : Int) ∧ s13 = .bool (inK (ks.take j) x.key) ∧ Hid (Below w6.heap.size w6 wk)) (fun _ _ s57 _ => N4 - (intOf s57).toNat)
                case atStart => exact ⟨0, by omega, rfl, rfl, Lib.hid (Below.refl _ _)⟩
                case round =>
                  obtain ⟨j, hjN, rfl, rfl, HBK⟩ := hrel
                  rename World => w7
                  by_cases hjlt : j < N4
                  · have hjlti : (j : Int) < (N4 : Int) := by omega
                    obtain ⟨b7, o7, rfl, hb7, hc7⟩ := HAT4.out.2.2 (by omega)
                    obtain ⟨y, hy⟩ : ∃ y, y = ks.getD j ByteArray.empty := ⟨_, rfl⟩
                    have d0 : w7.cell? ⟨b7, o7 + j, none⟩ = some (.string y) := by
                      have h1 := (HBM.out.trans ((HB6w.out.trans (HBK.out.mono HB6w.out.size)).mono HBM.out.size)).cell (p := ⟨b7, o7 + j, none⟩) hb7
                      rw [h1, hc7 j hjlt, hy]
                    have d1 : w7.cell? ⟨b6, 0, none⟩ = some (.string x.key) := (HBK.out.cell (p := ⟨b6, 0, none⟩) HL6.out).trans (HX6.out 0 _ rfl)
                    have htk : ks.take (j + 1) = ks.take j ++ [y] := by
                      rw [List.take_succ_eq_append_getElem (by rw [HN4.out]; exact hjlt)]
                      congr 2
                      rw [hy]; simp [HN4.out, hjlt]
                    have hap := inK_app (ks.take j) y x.key
                    rw [← htk] at hap
                    clear hy hb7 hc7 htk
                    cases hin : inK (ks.take j) x.key
                    case true =>
                      rw [hin, Bool.true_or] at hap
                      have HAP := Lib.hid hap
                      clear hap hin
                      go_wp2_with fail
                      go_roundw
                      case rel => exact ⟨j + 1, by omega, by go_num, by rw [HAP.out], HBK⟩
                      case measure => simp [intOf]; omega
                    case false =>
                      rw [hin, Bool.false_or] at hap
                      by_cases he : y = x.key
                      · have z : (y.toList == x.key.toList) = true := by rw [he]; simp
                        have HAP := Lib.hid (show inK (ks.take (j + 1)) x.key = true from by rw [hap, he]; simp)
                        clear hap hin he
                        go_wp2_with fail
                        go_roundw
                        case rel => exact ⟨j + 1, by omega, by go_num, by rw [HAP.out], HBK⟩
                        case measure => simp [intOf]; omega
                      · have z : (y.toList == x.key.toList) = false := by rw [beq_eq_false_iff_ne]; exact fun e => he (toList_inj e)
                        have HAP := Lib.hid (show inK (ks.take (j + 1)) x.key = false from by rw [hap]; exact decide_eq_false he)
                        clear hap hin he
                        go_wp2_with fail
                        go_roundw
                        case rel => exact ⟨j + 1, by omega, by go_num, by rw [HAP.out], HBK⟩
                        case measure => simp [intOf]; omega
                  · obtain rfl : j = N4 := by omega
                    rw [show ks.take j = ks from List.take_of_length_le (by rw [HN4.out]; exact Nat.le_refl _)]
                    have HX7 := Lib.hid (show ∀ q u, x.cells[q]? = some u → w7.cell? ⟨b6, q, none⟩ = some u from fun q u hu => (HBK.out.cell (p := ⟨b6, q, none⟩) HL6.out).trans (HX6.out q u hu))
                    have HN7 := Lib.hid (own_below (own_below HO.out HB6w.out) HBK.out)
                    have HG7 := Lib.hid ((HBK.out.block B HLB6.out).trans HG6.out)
                    have hltB7 : B < w7.heap.size := Nat.lt_of_lt_of_le HLB6.out HBK.out.size
                    have HB7 := Lib.hid (HBM.out.trans ((HB6w.out.trans (HBK.out.mono HB6w.out.size)).mono HBM.out.size))
                    clear hjlt
                    cases hin : inK ks x.key
                    case false =>
                      have HIN := Lib.hid hin
                      clear hin
                      have hb8 : Below w7.heap.size w7 (w7.alloc (.cells #[.string x.key, .int .i64 x.win, .string x.part, .int .i64 x.fst, .int .i64 x.lst, .int .i64 x.rows, .int .i64 x.size, .int .u32 x.sum, .int .i64 x.born] 57)) := (Below.refl _ _).alloc (Nat.le_refl _) _
                      have HN8 := Lib.hid (own_below HN7.out hb8)
                      have HB8 := Lib.hid (HB7.out.trans (hb8.mono HB7.out.size))
                      have hs8 := HB8.out.size
                      have HSRC8 := Lib.hid (ent_src w7 x 57)
                      have HG8 := Lib.hid ((hb8.block B hltB7).trans HG7.out)
                      have HLB8 := Lib.hid (Nat.lt_of_lt_of_le hltB7 hb8.size)
                      clear hb8
                      have c0 : w7.cell? ⟨b6, 0, none⟩ = some (.string x.key) := HX7.out 0 _ rfl
                      have c1 : w7.cell? ⟨b6, 1, none⟩ = some (.int .i64 x.win) := HX7.out 1 _ rfl
                      have c2 : w7.cell? ⟨b6, 2, none⟩ = some (.string x.part) := HX7.out 2 _ rfl
                      have c3 : w7.cell? ⟨b6, 3, none⟩ = some (.int .i64 x.fst) := HX7.out 3 _ rfl
                      have c4 : w7.cell? ⟨b6, 4, none⟩ = some (.int .i64 x.lst) := HX7.out 4 _ rfl
                      have c5 : w7.cell? ⟨b6, 5, none⟩ = some (.int .i64 x.rows) := HX7.out 5 _ rfl
                      have c6 : w7.cell? ⟨b6, 6, none⟩ = some (.int .i64 x.size) := HX7.out 6 _ rfl
                      have c7 : w7.cell? ⟨b6, 7, none⟩ = some (.int .u32 x.sum) := HX7.out 7 _ rfl
                      have c8 : w7.cell? ⟨b6, 8, none⟩ = some (.int .i64 x.born) := HX7.out 8 _ rfl
                      go_wp2_with (at_builtin; refine wpList_append_own_at _ rfl (.tmp 78) (.tmp 80) 51 rfl w4.heap.size 57 i0 _ 9 88 Try.underlying51 hi hz0 hz1 hz2 rfl (by decide) _ _ _ rfl HN8.out ⟨w7.heap.size, 0, none⟩ 1 1 (EntV.cells x) rfl rfl HSRC8.out (ecells_one _) (by unfold maxLen; omega) (by omega) hs8 ?_)
                      intro v9 w9 hown9 hgrow9 _ hob9
                      have HN9 := Lib.hid (show w9.ownsRow w4.heap.size 57 9 v9 (R ++ [x]).length (ecells (R ++ [x])) from by rw [ecells_app, List.length_append, show ecells [x] = x.cells by simp [ecells]]; exact hown9)
                      have HB9 := Lib.hid (HB8.out.grown hgrow9 HB8.out.size (fun p hp => (HN8.out.lt p hp).1))
                      have HG9 := Lib.hid ((hgrow9.block B HLB8.out (fun e => HNB.out e.symm)).trans HG8.out)
                      have HNB9 := Lib.hid (show v9.ownBlock ≠ some B from fun e => by
                        rcases hob9 with h | h
                        · exact HNB.out (h.symm.trans e)
                        · have h1 := Option.some.inj (h.symm.trans e)
                          have h2 := HLB8.out
                          omega)
                      have HR9 := Lib.hid (show R ++ [x] = (L.take (i + 1)).filter (fun x => !inK ks x.key) from by rw [HTK.out, List.filter_append, ← HRL.out]; simp [HIN.out])
                      have HD9 := Lib.hid (show D = (L.take (i + 1)).filter (fun x => inK ks x.key) from by rw [HTK.out, List.filter_append, ← HDL.out]; simp [HIN.out])
                      have hlen9 : (R ++ [x]).length ≤ i + 1 := by rw [List.length_append, List.length_singleton]; omega
                      clear hown9 hgrow9 hob9 hs8
                      go_wp2_with fail
                      go_roundw
                      case rel => exact ⟨i + 1, R ++ [x], D, by omega, hlen9, by go_num, HN9, HR9, HD9, HG9, HNB9, HB9⟩
                      case measure => simp [intOf]; omega
                    case true =>
                      have HIN := Lib.hid hin
                      clear hin
                      by_cases hD : D = []
                      · have HIN2 := HIN
                        obtain rfl : D = [] := hD
                        have z5 : w7.cell? ⟨B, 5, none⟩ = some (.int .i64 0) := cell_blk HG7.out (i := 5) (u := .int .i64 0) rfl
                        have c0 : w7.cell? ⟨b6, 0, none⟩ = some (.string x.key) := HX7.out 0 _ rfl
                        have c1 : w7.cell? ⟨b6, 1, none⟩ = some (.int .i64 x.win) := HX7.out 1 _ rfl
                        have c2 : w7.cell? ⟨b6, 2, none⟩ = some (.string x.part) := HX7.out 2 _ rfl
                        have c3 : w7.cell? ⟨b6, 3, none⟩ = some (.int .i64 x.fst) := HX7.out 3 _ rfl
                        have c4 : w7.cell? ⟨b6, 4, none⟩ = some (.int .i64 x.lst) := HX7.out 4 _ rfl
                        have c5 : w7.cell? ⟨b6, 5, none⟩ = some (.int .i64 x.rows) := HX7.out 5 _ rfl
                        have c6 : w7.cell? ⟨b6, 6, none⟩ = some (.int .i64 x.size) := HX7.out 6 _ rfl
                        have c7 : w7.cell? ⟨b6, 7, none⟩ = some (.int .u32 x.sum) := HX7.out 7 _ rfl
                        have c8 : w7.cell? ⟨b6, 8, none⟩ = some (.int .i64 x.born) := HX7.out 8 _ rfl
                        have HG9 := Lib.hid (show (w7.setRow B #[.string x.key, .int .i64 x.win, .string x.part, .int .i64 x.fst, .int .i64 x.lst, .int .i64 x.rows, .int .i64 x.size, .int .u32 x.sum, .int .i64 x.born]).heap[B]? = some (.cells (entA (oneOf ([] ++ [x]))) 57 (0, 0)) from by
                          rw [List.nil_append, oneOf_one]
                          exact setRow_heap w7 B _ _ _ _ HG7.out)
                        have HB9 := Lib.hid (show Below w4.heap.size w4 (w7.setRow B #[.string x.key, .int .i64 x.win, .string x.part, .int .i64 x.fst, .int .i64 x.lst, .int .i64 x.rows, .int .i64 x.size, .int .u32 x.sum, .int .i64 x.born]) from HB7.out.trans ⟨rfl, rfl, rfl, by simp, fun k hk => setRow_other w7 B k _ (by have := HBB.out; omega)⟩)
                        have HN9 := Lib.hid (show (w7.setRow B #[.string x.key, .int .i64 x.win, .string x.part, .int .i64 x.fst, .int .i64 x.lst, .int .i64 x.rows, .int .i64 x.size, .int .u32 x.sum, .int .i64 x.born]).ownsRow w4.heap.size 57 9 u9 R.length (ecells R) from HN7.out.kept (row := some B) ⟨rfl, rfl, rfl, by simp, fun k hk hne => setRow_other w7 B k _ (fun e => hne (by rw [e]))⟩ (.inr HNB.out))
                        have HR9 := Lib.hid (show R = (L.take (i + 1)).filter (fun x => !inK ks x.key) from by rw [HTK.out, List.filter_append, ← HRL.out]; simp [HIN.out])
                        have HD9 := Lib.hid (show [] ++ [x] = (L.take (i + 1)).filter (fun x => inK ks x.key) from by rw [HTK.out, List.filter_append, ← HDL.out]; simp [HIN.out])
                        go_wp2_with (refine wpList_store_row rfl 57 (.tmp 10) (.tmp 86) rfl B #[.string x.key, .int .i64 x.win, .string x.part, .int .i64 x.fst, .int .i64 x.lst, .int .i64 x.rows, .int .i64 x.size, .int .u32 x.sum, .int .i64 x.born] rfl rfl 57 _ HG7.out (by kernel_rfl) (by rfl) (by simp [Value.oneCell']) ?_)
                        go_wp2_with fail
                        go_roundw
                        case rel => exact ⟨i + 1, R, [] ++ [x], by omega, by omega, by go_num, HN9, HR9, HD9, HG9, HNB, HB9⟩
                        case measure => simp [intOf]; omega
                      · have HIN2 := HIN
                        obtain ⟨o, ho⟩ : ∃ o, o = oneOf D := ⟨_, rfl⟩
                        have hos : o.win = x.win ∧ o.part = x.part := by
                          obtain ⟨d, hd, e1, e2, _⟩ := oneOf_same hD
                          rw [HDL.out] at hd
                          have h1 := List.mem_filter.1 hd
                          have h2 := HRD.out.same d (List.mem_of_mem_take h1.1) x HXM.out h1.2 HIN.out
                          rw [ho, e1, e2]; exact h2
                        have hor : 1 ≤ o.rows ∧ o.rows ≤ 124928 := by
                          rw [ho, oneOf_rows hD]
                          have h0 : ∀ y ∈ D, 1 ≤ y.rows := fun y hy => by
                            rw [HDL.out] at hy
                            exact HF.out.pos y (List.mem_of_mem_take (List.mem_filter.1 hy).1)
                          have h1 := sumR_nn h0
                          have h2 : 0 < D.length := List.length_pos_iff.2 hD
                          have h3 : sumR D ≤ sumR L := by
                            refine sumR_sub ?_ HF.out.pos
                            rw [HDL.out]
                            exact List.Sublist.trans List.filter_sublist (List.take_sublist _ _)
                          have h4 := HF.out.sum
                          omega
                        have hxr := HF.out.le x HXM.out
                        have z1 : (o.win != x.win) = false := by rw [hos.1]; simp
                        have z2 : (o.part.toList == x.part.toList) = true := by rw [hos.2]; simp
                        have z3 : (o.rows == 0) = false := by rw [beq_eq_false_iff_ne]; omega
                        have z4 : IntKind.i64.wrap (o.rows + x.rows) = o.rows + x.rows := by rw [IntWalk.i64_in _ (by omega)]
                        have hg7 := HG7.out
                        rw [← ho] at hg7
                        have o1 : w7.cell? ⟨B, 1, none⟩ = some (.int .i64 o.win) := cell_blk hg7 rfl
                        have o2 : w7.cell? ⟨B, 2, none⟩ = some (.string o.part) := cell_blk hg7 rfl
                        have o5 : w7.cell? ⟨B, 5, none⟩ = some (.int .i64 o.rows) := cell_blk hg7 rfl
                        have o5f : w7.frozen? ⟨B, 5, none⟩ = false := fro_blk hg7 5
                        have c1 : w7.cell? ⟨b6, 1, none⟩ = some (.int .i64 x.win) := HX7.out 1 _ rfl
                        have c2 : w7.cell? ⟨b6, 2, none⟩ = some (.string x.part) := HX7.out 2 _ rfl
                        have c5 : w7.cell? ⟨b6, 5, none⟩ = some (.int .i64 x.rows) := HX7.out 5 _ rfl
                        have HG9 := Lib.hid (show (w7.setCell ⟨B, 5, none⟩ (.int .i64 (o.rows + x.rows))).heap[B]? = some (.cells (entA (oneOf (D ++ [x]))) 57 (0, 0)) from by
                          rw [heap_set hg7 5, oneOf_app hD, ho]; rfl)
                        have HB9 := Lib.hid (show Below w4.heap.size w4 (w7.setCell ⟨B, 5, none⟩ (.int .i64 (o.rows + x.rows))) from HB7.out.setCell (by have := HBB.out; show w4.heap.size ≤ B; omega) _)
                        have HN9 := Lib.hid (show (w7.setCell ⟨B, 5, none⟩ (.int .i64 (o.rows + x.rows))).ownsRow w4.heap.size 57 9 u9 R.length (ecells R) from HN7.out.kept (row := some B) ⟨rfl, rfl, rfl, by simp [World.setCell], fun k hk hne => Below.heap_setCell w7 _ _ k (fun e => hne (by rw [e]))⟩ (.inr HNB.out))
                        have HR9 := Lib.hid (show R = (L.take (i + 1)).filter (fun x => !inK ks x.key) from by rw [HTK.out, List.filter_append, ← HRL.out]; simp [HIN.out])
                        have HD9 := Lib.hid (show D ++ [x] = (L.take (i + 1)).filter (fun x => inK ks x.key) from by rw [HTK.out, List.filter_append, ← HDL.out]; simp [HIN.out])
                        clear ho hg7 hos hD
                        go_wp2_with fail
                        go_roundw
                        case rel => exact ⟨i + 1, R, D ++ [x], by omega, by omega, by go_num, HN9, HR9, HD9, HG9, HNB, HB9⟩
                        case measure => simp [intOf]; omega
              · have HG7 := HG
                have HN7 := HO
                have HB7 := HBM
                obtain ⟨w7, rfl⟩ : ∃ w7, w7 = wm := ⟨_, rfl⟩
                obtain rfl : i = m := by omega
                have hLt : L.take i = L := List.take_of_length_le (by rw [HE4.out.len]; exact Nat.le_refl _)
                rw [hLt] at HRL HDL
                have hl2 := len_filter (fun x => inK ks x.key) L
                rw [← HRL.out, ← HDL.out, HE4.out.len] at hl2
                have h2D := HRD.out.two
                rw [← HDL.out] at h2D
                have hDne : D ≠ [] := fun e => by rw [e] at h2D; simp at h2D
                have hsum := HRD.out.sum
                rw [← HDL.out, ← oneOf_rows hDne] at hsum
                obtain ⟨o, ho⟩ : ∃ o, o = oneOf D := ⟨_, rfl⟩
                have HNX := Lib.hid (HF.out.next HRD.out)
                rw [← HRL.out, ← HDL.out, ← ho] at HNX
                have hg7 := HG7.out
                rw [← ho] at hg7 hsum
                obtain ⟨rl, hrl⟩ : ∃ rl, rl = R.length := ⟨_, rfl⟩
                rw [← hrl] at hl2 hRi
                have hn7 := HN7.out
                rw [← hrl] at hn7
                have HRL9 := Lib.hid hrl
                clear hrl
                rcases hn7.2 with ⟨rfl, hr0⟩ | ⟨g9, cap9, cur9, rfl, _, _, h49, _⟩
                · obtain rfl : rl = 0 := hr0
                  have q1 : ¬ (i : Int) - 2 < ((0 : Nat) : Int) := by omega
                  have q2 : ¬ most < o.rows := by omega
                  have q3 : IntKind.i64.wrap ((i : Int) - 2) = (i : Int) - 2 := by rw [IntWalk.i64_in _ (by omega)]
                  have o0 : w7.cell? ⟨B, 0, none⟩ = some (.string o.key) := cell_blk hg7 rfl
                  have o1 : w7.cell? ⟨B, 1, none⟩ = some (.int .i64 o.win) := cell_blk hg7 rfl
                  have o2 : w7.cell? ⟨B, 2, none⟩ = some (.string o.part) := cell_blk hg7 rfl
                  have o3 : w7.cell? ⟨B, 3, none⟩ = some (.int .i64 o.fst) := cell_blk hg7 rfl
                  have o4 : w7.cell? ⟨B, 4, none⟩ = some (.int .i64 o.lst) := cell_blk hg7 rfl
                  have o5 : w7.cell? ⟨B, 5, none⟩ = some (.int .i64 o.rows) := cell_blk hg7 rfl
                  have o6 : w7.cell? ⟨B, 6, none⟩ = some (.int .i64 o.size) := cell_blk hg7 rfl
                  have o7 : w7.cell? ⟨B, 7, none⟩ = some (.int .u32 o.sum) := cell_blk hg7 rfl
                  have o8 : w7.cell? ⟨B, 8, none⟩ = some (.int .i64 o.born) := cell_blk hg7 rfl
                  have hb8 : Below w7.heap.size w7 (w7.alloc (.cells #[.string o.key, .int .i64 o.win, .string o.part, .int .i64 o.fst, .int .i64 o.lst, .int .i64 o.rows, .int .i64 o.size, .int .u32 o.sum, .int .i64 o.born] 57)) := (Below.refl _ _).alloc (Nat.le_refl _) _
                  have HN8 := Lib.hid (own_below hn7 hb8)
                  have HB8 := Lib.hid (HB7.out.trans (hb8.mono HB7.out.size))
                  have hs8 := HB8.out.size
                  have HSRC8 := Lib.hid (ent_src w7 o 57)
                  clear hb8 hn7 ho hg7 hsum hLt hDne
                  go_wp2_with (at_builtin; refine wpList_append_own_at _ rfl (.tmp 113) (.tmp 115) 51 rfl w4.heap.size 57 i0 _ 9 88 Try.underlying51 hi hz0 hz1 hz2 rfl (by decide) _ _ _ rfl HN8.out ⟨w7.heap.size, 0, none⟩ 1 1 (EntV.cells o) rfl rfl HSRC8.out (ecells_one _) (by unfold maxLen; omega) (by omega) hs8 ?_)
                  intro v9 w9 hown9 hgrow9 _ _
                  have HB9 := Lib.hid (HB4.out.trans ((HB8.out.grown hgrow9 HB8.out.size (fun p hp => (HN8.out.lt p hp).1)).mono HB4.out.size))
                  obtain ⟨a10, c10, rfl, hat⟩ := EntsAt.ofOwn (l := R ++ [o]) (by rw [ecells_app, show ecells [o] = o.cells by simp [ecells]]; exact hown9) (by rw [List.length_append, List.length_singleton, ← HRL9.out]) HNX.out.size
                  have HAT := Lib.hid hat
                  clear hown9 hgrow9 hs8 hat
                  go_wp2_with fail
                  go_roundw
                  case rel => exact ⟨t + 1, 0 + 1, c10, a10, R ++ [o], by omega, by omega, by go_num, rfl, HAT, HNX, HB9⟩
                  case measure => simp [intOf]; omega
                · have hrc := h49
                  clear h49
                  have q1 : ¬ (i : Int) - 2 < (rl : Int) := by omega
                  have q2 : ¬ most < o.rows := by omega
                  have q3 : IntKind.i64.wrap ((i : Int) - 2) = (i : Int) - 2 := by rw [IntWalk.i64_in _ (by omega)]
                  have o0 : w7.cell? ⟨B, 0, none⟩ = some (.string o.key) := cell_blk hg7 rfl
                  have o1 : w7.cell? ⟨B, 1, none⟩ = some (.int .i64 o.win) := cell_blk hg7 rfl
                  have o2 : w7.cell? ⟨B, 2, none⟩ = some (.string o.part) := cell_blk hg7 rfl
                  have o3 : w7.cell? ⟨B, 3, none⟩ = some (.int .i64 o.fst) := cell_blk hg7 rfl
                  have o4 : w7.cell? ⟨B, 4, none⟩ = some (.int .i64 o.lst) := cell_blk hg7 rfl
                  have o5 : w7.cell? ⟨B, 5, none⟩ = some (.int .i64 o.rows) := cell_blk hg7 rfl
                  have o6 : w7.cell? ⟨B, 6, none⟩ = some (.int .i64 o.size) := cell_blk hg7 rfl
                  have o7 : w7.cell? ⟨B, 7, none⟩ = some (.int .u32 o.sum) := cell_blk hg7 rfl
                  have o8 : w7.cell? ⟨B, 8, none⟩ = some (.int .i64 o.born) := cell_blk hg7 rfl
                  have hb8 : Below w7.heap.size w7 (w7.alloc (.cells #[.string o.key, .int .i64 o.win, .string o.part, .int .i64 o.fst, .int .i64 o.lst, .int .i64 o.rows, .int .i64 o.size, .int .u32 o.sum, .int .i64 o.born] 57)) := (Below.refl _ _).alloc (Nat.le_refl _) _
                  have HN8 := Lib.hid (own_below hn7 hb8)
                  have HB8 := Lib.hid (HB7.out.trans (hb8.mono HB7.out.size))
                  have hs8 := HB8.out.size
                  have HSRC8 := Lib.hid (ent_src w7 o 57)
                  clear hb8 hn7 ho hg7 hsum hLt hDne
                  go_wp2_with (at_builtin; refine wpList_append_own_at _ rfl (.tmp 113) (.tmp 115) 51 rfl w4.heap.size 57 i0 _ 9 88 Try.underlying51 hi hz0 hz1 hz2 rfl (by decide) _ _ _ rfl HN8.out ⟨w7.heap.size, 0, none⟩ 1 1 (EntV.cells o) rfl rfl HSRC8.out (ecells_one _) (by unfold maxLen; omega) (by omega) hs8 ?_)
                  intro v9 w9 hown9 hgrow9 _ _
                  have HB9 := Lib.hid (HB4.out.trans ((HB8.out.grown hgrow9 HB8.out.size (fun p hp => (HN8.out.lt p hp).1)).mono HB4.out.size))
                  obtain ⟨a10, c10, rfl, hat⟩ := EntsAt.ofOwn (l := R ++ [o]) (by rw [ecells_app, show ecells [o] = o.cells by simp [ecells]]; exact hown9) (by rw [List.length_append, List.length_singleton, ← HRL9.out]) HNX.out.size
                  have HAT := Lib.hid hat
                  clear hown9 hgrow9 hs8 hat
                  go_wp2_with fail
                  go_roundw
                  case rel => exact ⟨t + 1, rl + 1, c10, a10, R ++ [o], by omega, by omega, by go_num, rfl, HAT, HNX, HB9⟩
                  case measure => simp [intOf]; omega
end Go.Proofs.Yteihbbmbdkkbbaa

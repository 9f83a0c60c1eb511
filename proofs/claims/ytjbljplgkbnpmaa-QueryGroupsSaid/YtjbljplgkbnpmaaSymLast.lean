/- symMerge (slices.symMergeCmpFunc) over rows: one on the right. Written by gensym.py. -/
import Derived.Test.YtjbljplgkbnpmaaSymOne
namespace Go.Proofs.Ytjbljplgkbnpmaa
open Go.ChangeShapes Go.WideShapes Go.Deep Go.RowKit Stab
set_option linter.unusedVariables false


set_option maxRecDepth 100000 in
set_option maxHeartbeats 4000000 in
theorem sym_last {w : World} {g n c : Nat} {t : Nat → RowV × Nat} {a m b : Nat} (h : Nines w g n (vals t)) (hg : g < w.heap.size) (hm : a + 1 < m) (hmb : b = m + 1) (hb : b ≤ n) (hc : n ≤ c) (hcm : c ≤ 4611686018427387900) (hs : Srt (Tag ltR) t a m) (ht : ∀ j, a ≤ j → j < m → (t j).2 < (t m).2) :
    Calls Try.prog 112 #[.slice (some ⟨g, 0, none⟩) n c, .int .i64 (a : Int), .int .i64 (m : Int), .int .i64 (b : Int), .func (.func 43) #[] #[]] w fun e w' => e = .returned undef ∧ (∃ u, Nines w' g n (vals u) ∧ Srt (Tag ltR) u a b ∧ (∀ x, Mem u a b x ↔ Mem t a b x) ∧ ∀ k, k < a ∨ b ≤ k → u k = t k) ∧ Turns1 g w w' := by
  have H := Lib.hid h
  have HS := Lib.hid hs
  have HTG := Lib.hid ht
  have wm : IntKind.i64.wrap ((m : Int) - (a : Int)) = ((m - a : Nat) : Int) := by rw [IntWalk.i64_in _ (by omega)]; omega
  have wm1 : (((m - a : Nat) : Int) == 1) = false := by rw [beq_eq_false_iff_ne]; omega
  have wb : IntKind.i64.wrap ((b : Int) - (m : Int)) = 1 := by rw [IntWalk.i64_in _ (by omega)]; omega
  have HMB := Lib.hid hmb
  have hmb2 : b ≤ m + 1 ∧ m + 1 ≤ b := by omega
  clear h ht hs hmb
  go_enter Try.func112, Try.ntmps112
  go_wp2_with fail
  go_loopw [14, 15, 16] (fun s14 s15 s16 wq => ∃ (i j : Nat), a ≤ i ∧ i ≤ j ∧ j ≤ m ∧ s14 = .int .i64 (i : Int) ∧ s15 = .int .i64 (j : Int) ∧ Hid (Nines wq g n (vals t)) ∧ Hid (a < i → Tag ltR (t (i - 1)) (t m)) ∧ Hid (j < m → Tag ltR (t m) (t j)) ∧ Hid (Turns1 g w wq)) (fun s14 s15 _ _ => (intOf s15).toNat - (intOf s14).toNat)
  case atStart => exact ⟨a, m, by omega, by omega, by omega, rfl, rfl, H, Lib.hid (fun h => by omega), Lib.hid (fun h => by omega), Lib.hid (Turns1.refl g w)⟩
  case round =>
    obtain ⟨i, j, hmi, hij, hjb, rfl, rfl, HQ, HI, HJ, HU⟩ := hrel
    rename World => wq
    by_cases hlt : i < j
    · have hlti : (i : Int) < (j : Int) := by omega
      obtain ⟨h, hh⟩ : ∃ h, h = (i + j) / 2 := ⟨_, rfl⟩
      have wh : ((i : Int) + (j : Int)) / 2 = (h : Int) := by omega
      have hhr : i ≤ h ∧ h < j := by omega
      have hih : (i : Int) ≤ (h : Int) ∧ (h : Int) < (j : Int) := by omega
      clear hh
      have hhn : (h : Int) < (n : Int) := by omega
      have hmn : (m : Int) < (n : Int) := by omega
      obtain ⟨x, hx⟩ : ∃ x, x = vals t m := ⟨_, rfl⟩
      obtain ⟨y, hy⟩ : ∃ y, y = vals t h := ⟨_, rfl⟩
      have Hx := Lib.hid hx
      have Hy := Lib.hid hy
      clear hx hy
      have hltg : g < wq.heap.size := Nat.lt_of_lt_of_le hg HU.out.size
      have cx0 : wq.cell? ⟨g, (m) * 9, none⟩ = some (.int .i64 x.r.kind) := HQ.out.at' _ (by omega) 0 _ (by rw [← Hx.out]; rfl)
      have cx1 : wq.cell? ⟨g, (m) * 9 + 1, none⟩ = some (.int .i64 x.r.time) := HQ.out.at' _ (by omega) 1 _ (by rw [← Hx.out]; rfl)
      have cx2 : wq.cell? ⟨g, (m) * 9 + 2, none⟩ = some (.slice x.r.la x.r.ln x.r.lc) := HQ.out.at' _ (by omega) 2 _ (by rw [← Hx.out]; rfl)
      have cx3 : wq.cell? ⟨g, (m) * 9 + 3, none⟩ = some (.string x.r.text) := HQ.out.at' _ (by omega) 3 _ (by rw [← Hx.out]; rfl)
      have cx4 : wq.cell? ⟨g, (m) * 9 + 4, none⟩ = some (.int .i64 x.r.value) := HQ.out.at' _ (by omega) 4 _ (by rw [← Hx.out]; rfl)
      have cx5 : wq.cell? ⟨g, (m) * 9 + 5, none⟩ = some (.bool x.r.null) := HQ.out.at' _ (by omega) 5 _ (by rw [← Hx.out]; rfl)
      have cx6 : wq.cell? ⟨g, (m) * 9 + 6, none⟩ = some (.int .i64 x.who) := HQ.out.at' _ (by omega) 6 _ (by rw [← Hx.out]; rfl)
      have cx7 : wq.cell? ⟨g, (m) * 9 + 7, none⟩ = some (.int .i64 x.sq) := HQ.out.at' _ (by omega) 7 _ (by rw [← Hx.out]; rfl)
      have cx8 : wq.cell? ⟨g, (m) * 9 + 8, none⟩ = some (.int .i64 x.pl) := HQ.out.at' _ (by omega) 8 _ (by rw [← Hx.out]; rfl)
      have cy0 : wq.cell? ⟨g, (h) * 9, none⟩ = some (.int .i64 y.r.kind) := HQ.out.at' _ (by omega) 0 _ (by rw [← Hy.out]; rfl)
      have cy1 : wq.cell? ⟨g, (h) * 9 + 1, none⟩ = some (.int .i64 y.r.time) := HQ.out.at' _ (by omega) 1 _ (by rw [← Hy.out]; rfl)
      have cy2 : wq.cell? ⟨g, (h) * 9 + 2, none⟩ = some (.slice y.r.la y.r.ln y.r.lc) := HQ.out.at' _ (by omega) 2 _ (by rw [← Hy.out]; rfl)
      have cy3 : wq.cell? ⟨g, (h) * 9 + 3, none⟩ = some (.string y.r.text) := HQ.out.at' _ (by omega) 3 _ (by rw [← Hy.out]; rfl)
      have cy4 : wq.cell? ⟨g, (h) * 9 + 4, none⟩ = some (.int .i64 y.r.value) := HQ.out.at' _ (by omega) 4 _ (by rw [← Hy.out]; rfl)
      have cy5 : wq.cell? ⟨g, (h) * 9 + 5, none⟩ = some (.bool y.r.null) := HQ.out.at' _ (by omega) 5 _ (by rw [← Hy.out]; rfl)
      have cy6 : wq.cell? ⟨g, (h) * 9 + 6, none⟩ = some (.int .i64 y.who) := HQ.out.at' _ (by omega) 6 _ (by rw [← Hy.out]; rfl)
      have cy7 : wq.cell? ⟨g, (h) * 9 + 7, none⟩ = some (.int .i64 y.sq) := HQ.out.at' _ (by omega) 7 _ (by rw [← Hy.out]; rfl)
      have cy8 : wq.cell? ⟨g, (h) * 9 + 8, none⟩ = some (.int .i64 y.pl) := HQ.out.at' _ (by omega) 8 _ (by rw [← Hy.out]; rfl)
      cases hlt2 : ltR x y with
      | true =>
        have hneg : cmpRow x y < 0 := ltR_true hlt2
        have hnb : (!decide (cmpRow x y < 0)) = false := by rw [decide_eq_true hneg]; rfl
        have HTAG := Lib.hid (show Tag ltR (t m) (t h) from .inl (by have h1 := Hx.out; have h2 := Hy.out; unfold vals at h1 h2; rw [← h1, ← h2]; exact hlt2))
        clear hlt2
        go_wp2_with fail
        go_region_held3 (fun w' => w'.cell? ⟨g, (m) * 9, none⟩ = some (.int .i64 x.r.kind) ∧ w'.cell? ⟨g, (m) * 9 + 1, none⟩ = some (.int .i64 x.r.time) ∧ w'.cell? ⟨g, (m) * 9 + 2, none⟩ = some (.slice x.r.la x.r.ln x.r.lc) ∧ w'.cell? ⟨g, (m) * 9 + 3, none⟩ = some (.string x.r.text) ∧ w'.cell? ⟨g, (m) * 9 + 4, none⟩ = some (.int .i64 x.r.value) ∧ w'.cell? ⟨g, (m) * 9 + 5, none⟩ = some (.bool x.r.null) ∧ w'.cell? ⟨g, (m) * 9 + 6, none⟩ = some (.int .i64 x.who) ∧ w'.cell? ⟨g, (m) * 9 + 7, none⟩ = some (.int .i64 x.sq) ∧ w'.cell? ⟨g, (m) * 9 + 8, none⟩ = some (.int .i64 x.pl) ∧ w'.cell? ⟨g, (h) * 9, none⟩ = some (.int .i64 y.r.kind) ∧ w'.cell? ⟨g, (h) * 9 + 1, none⟩ = some (.int .i64 y.r.time) ∧ w'.cell? ⟨g, (h) * 9 + 2, none⟩ = some (.slice y.r.la y.r.ln y.r.lc) ∧ w'.cell? ⟨g, (h) * 9 + 3, none⟩ = some (.string y.r.text) ∧ w'.cell? ⟨g, (h) * 9 + 4, none⟩ = some (.int .i64 y.r.value) ∧ w'.cell? ⟨g, (h) * 9 + 5, none⟩ = some (.bool y.r.null) ∧ w'.cell? ⟨g, (h) * 9 + 6, none⟩ = some (.int .i64 y.who) ∧ w'.cell? ⟨g, (h) * 9 + 7, none⟩ = some (.int .i64 y.sq) ∧ w'.cell? ⟨g, (h) * 9 + 8, none⟩ = some (.int .i64 y.pl)) (first | go_keep | exact ⟨(hbq.cell (p := ⟨g, (m) * 9, none⟩) hltg).trans cx0, (hbq.cell (p := ⟨g, (m) * 9 + 1, none⟩) hltg).trans cx1, (hbq.cell (p := ⟨g, (m) * 9 + 2, none⟩) hltg).trans cx2, (hbq.cell (p := ⟨g, (m) * 9 + 3, none⟩) hltg).trans cx3, (hbq.cell (p := ⟨g, (m) * 9 + 4, none⟩) hltg).trans cx4, (hbq.cell (p := ⟨g, (m) * 9 + 5, none⟩) hltg).trans cx5, (hbq.cell (p := ⟨g, (m) * 9 + 6, none⟩) hltg).trans cx6, (hbq.cell (p := ⟨g, (m) * 9 + 7, none⟩) hltg).trans cx7, (hbq.cell (p := ⟨g, (m) * 9 + 8, none⟩) hltg).trans cx8, (hbq.cell (p := ⟨g, (h) * 9, none⟩) hltg).trans cy0, (hbq.cell (p := ⟨g, (h) * 9 + 1, none⟩) hltg).trans cy1, (hbq.cell (p := ⟨g, (h) * 9 + 2, none⟩) hltg).trans cy2, (hbq.cell (p := ⟨g, (h) * 9 + 3, none⟩) hltg).trans cy3, (hbq.cell (p := ⟨g, (h) * 9 + 4, none⟩) hltg).trans cy4, (hbq.cell (p := ⟨g, (h) * 9 + 5, none⟩) hltg).trans cy5, (hbq.cell (p := ⟨g, (h) * 9 + 6, none⟩) hltg).trans cy6, (hbq.cell (p := ⟨g, (h) * 9 + 7, none⟩) hltg).trans cy7, (hbq.cell (p := ⟨g, (h) * 9 + 8, none⟩) hltg).trans cy8⟩) (first | (go_at_call 43; refine (compare_any x y _).mono ?_; rintro r w3 ⟨rfl, hbq⟩))
        have HN3 := Lib.hid (HQ.out.drew.below hltg hbq)
        have HU3 := Lib.hid (HU.out.drew.below hbq)
        clear hbq cx0 cx1 cx2 cx3 cx4 cx5 cx6 cx7 cx8 cy0 cy1 cy2 cy3 cy4 cy5 cy6 cy7 cy8
        go_wp2_with fail
        go_roundw
        case rel => exact ⟨i, h, by omega, by omega, by omega, rfl, by go_num, HN3, HI, Lib.hid (fun _ => HTAG.out), HU3⟩
        case measure => simp [intOf]; omega
      | false =>
        have hneg : ¬ cmpRow x y < 0 := ltR_false hlt2
        have hnb : (!decide (cmpRow x y < 0)) = true := by rw [decide_eq_false hneg]; rfl
        have HTAG := Lib.hid (show Tag ltR (t h) (t m) from .inr ⟨by have h1 := Hx.out; have h2 := Hy.out; unfold vals at h1 h2; rw [← h1, ← h2]; exact hlt2, HTG.out h (by omega) (by omega)⟩)
        clear hlt2
        go_wp2_with fail
        go_region_held3 (fun w' => w'.cell? ⟨g, (m) * 9, none⟩ = some (.int .i64 x.r.kind) ∧ w'.cell? ⟨g, (m) * 9 + 1, none⟩ = some (.int .i64 x.r.time) ∧ w'.cell? ⟨g, (m) * 9 + 2, none⟩ = some (.slice x.r.la x.r.ln x.r.lc) ∧ w'.cell? ⟨g, (m) * 9 + 3, none⟩ = some (.string x.r.text) ∧ w'.cell? ⟨g, (m) * 9 + 4, none⟩ = some (.int .i64 x.r.value) ∧ w'.cell? ⟨g, (m) * 9 + 5, none⟩ = some (.bool x.r.null) ∧ w'.cell? ⟨g, (m) * 9 + 6, none⟩ = some (.int .i64 x.who) ∧ w'.cell? ⟨g, (m) * 9 + 7, none⟩ = some (.int .i64 x.sq) ∧ w'.cell? ⟨g, (m) * 9 + 8, none⟩ = some (.int .i64 x.pl) ∧ w'.cell? ⟨g, (h) * 9, none⟩ = some (.int .i64 y.r.kind) ∧ w'.cell? ⟨g, (h) * 9 + 1, none⟩ = some (.int .i64 y.r.time) ∧ w'.cell? ⟨g, (h) * 9 + 2, none⟩ = some (.slice y.r.la y.r.ln y.r.lc) ∧ w'.cell? ⟨g, (h) * 9 + 3, none⟩ = some (.string y.r.text) ∧ w'.cell? ⟨g, (h) * 9 + 4, none⟩ = some (.int .i64 y.r.value) ∧ w'.cell? ⟨g, (h) * 9 + 5, none⟩ = some (.bool y.r.null) ∧ w'.cell? ⟨g, (h) * 9 + 6, none⟩ = some (.int .i64 y.who) ∧ w'.cell? ⟨g, (h) * 9 + 7, none⟩ = some (.int .i64 y.sq) ∧ w'.cell? ⟨g, (h) * 9 + 8, none⟩ = some (.int .i64 y.pl)) (first | go_keep | exact ⟨(hbq.cell (p := ⟨g, (m) * 9, none⟩) hltg).trans cx0, (hbq.cell (p := ⟨g, (m) * 9 + 1, none⟩) hltg).trans cx1, (hbq.cell (p := ⟨g, (m) * 9 + 2, none⟩) hltg).trans cx2, (hbq.cell (p := ⟨g, (m) * 9 + 3, none⟩) hltg).trans cx3, (hbq.cell (p := ⟨g, (m) * 9 + 4, none⟩) hltg).trans cx4, (hbq.cell (p := ⟨g, (m) * 9 + 5, none⟩) hltg).trans cx5, (hbq.cell (p := ⟨g, (m) * 9 + 6, none⟩) hltg).trans cx6, (hbq.cell (p := ⟨g, (m) * 9 + 7, none⟩) hltg).trans cx7, (hbq.cell (p := ⟨g, (m) * 9 + 8, none⟩) hltg).trans cx8, (hbq.cell (p := ⟨g, (h) * 9, none⟩) hltg).trans cy0, (hbq.cell (p := ⟨g, (h) * 9 + 1, none⟩) hltg).trans cy1, (hbq.cell (p := ⟨g, (h) * 9 + 2, none⟩) hltg).trans cy2, (hbq.cell (p := ⟨g, (h) * 9 + 3, none⟩) hltg).trans cy3, (hbq.cell (p := ⟨g, (h) * 9 + 4, none⟩) hltg).trans cy4, (hbq.cell (p := ⟨g, (h) * 9 + 5, none⟩) hltg).trans cy5, (hbq.cell (p := ⟨g, (h) * 9 + 6, none⟩) hltg).trans cy6, (hbq.cell (p := ⟨g, (h) * 9 + 7, none⟩) hltg).trans cy7, (hbq.cell (p := ⟨g, (h) * 9 + 8, none⟩) hltg).trans cy8⟩) (first | (go_at_call 43; refine (compare_any x y _).mono ?_; rintro r w3 ⟨rfl, hbq⟩))
        have HN3 := Lib.hid (HQ.out.drew.below hltg hbq)
        have HU3 := Lib.hid (HU.out.drew.below hbq)
        clear hbq cx0 cx1 cx2 cx3 cx4 cx5 cx6 cx7 cx8 cy0 cy1 cy2 cy3 cy4 cy5 cy6 cy7 cy8
        go_wp2_with fail
        go_roundw
        case rel => exact ⟨h + 1, j, by omega, by omega, by omega, by go_num, rfl, HN3, Lib.hid (fun _ => HTAG.out), HJ, HU3⟩
        case measure => simp [intOf]; omega
    · obtain rfl : i = j := by omega
      have HSRT := Lib.hid (Srt.insert (f := t) (j := i) (m := m) HS.out hmi hjb (fun k h1 h2 => by
        have h3 := HI.out (by omega)
        by_cases e : k = i - 1
        · rw [e]; exact h3
        · exact weak_ltR.tag_tr _ _ _ (HS.out k (i - 1) (by omega) (by omega) (by omega)) h3) (fun k h1 h2 => by
        have h3 := HJ.out (by omega)
        by_cases e : k = i
        · rw [e]; exact h3
        · exact weak_ltR.tag_tr _ _ _ h3 (HS.out i k (by omega) (by omega) (by omega))))
      clear HI HJ
      go_wp2_with fail
      go_loopw [17] (fun s17 wr => ∃ k : Nat, i ≤ k ∧ k ≤ m ∧ s17 = .int .i64 (k : Int) ∧ Hid (Nines wr g n (vals (rot t k m (m + 1)))) ∧ Hid (Turns1 g w wr)) (fun s17 _ => (intOf s17).toNat)
      case atStart => exact ⟨m, by omega, by omega, rfl, by rw [rot_none' t m (m + 1) (by omega)]; exact HQ, HU⟩
      case round =>
        clear HQ HU
        obtain ⟨k, hik, hkm, rfl, HQ, HU⟩ := hrel
        rename World => wr
        by_cases hki : i < k
        · have hkii : (i : Int) < (k : Int) := by omega
          obtain ⟨q, hq⟩ : ∃ q, q = k - 1 := ⟨_, rfl⟩
          have wkq : IntKind.i64.wrap ((k : Int) - 1) = (q : Int) := by rw [IntWalk.i64_in _ (by omega)]; omega
          have hkn : (k : Int) < (n : Int) := by omega
          have hqn : (q : Int) < (n : Int) := by omega
          have hne1 : ¬ k = q := by omega
          have hne2 : ¬ q = k := by omega
          obtain ⟨x, hx⟩ : ∃ x, x = vals (rot t k m (m + 1)) k := ⟨_, rfl⟩
          obtain ⟨y, hy⟩ : ∃ y, y = vals (rot t k m (m + 1)) q := ⟨_, rfl⟩
          have Hx := Lib.hid hx
          have Hy := Lib.hid hy
          have HQQ := Lib.hid (show q + 1 = k by omega)
          clear hx hy hq
          have hkn2 : k < n := by omega
          have hqn2 : q < n := by omega
          have cx0 : wr.cell? ⟨g, (k) * 9, none⟩ = some (.int .i64 x.r.kind) := HQ.out.at' _ (by omega) 0 _ (by rw [← Hx.out]; rfl)
          have cx1 : wr.cell? ⟨g, (k) * 9 + 1, none⟩ = some (.int .i64 x.r.time) := HQ.out.at' _ (by omega) 1 _ (by rw [← Hx.out]; rfl)
          have cx2 : wr.cell? ⟨g, (k) * 9 + 2, none⟩ = some (.slice x.r.la x.r.ln x.r.lc) := HQ.out.at' _ (by omega) 2 _ (by rw [← Hx.out]; rfl)
          have cx3 : wr.cell? ⟨g, (k) * 9 + 3, none⟩ = some (.string x.r.text) := HQ.out.at' _ (by omega) 3 _ (by rw [← Hx.out]; rfl)
          have cx4 : wr.cell? ⟨g, (k) * 9 + 4, none⟩ = some (.int .i64 x.r.value) := HQ.out.at' _ (by omega) 4 _ (by rw [← Hx.out]; rfl)
          have cx5 : wr.cell? ⟨g, (k) * 9 + 5, none⟩ = some (.bool x.r.null) := HQ.out.at' _ (by omega) 5 _ (by rw [← Hx.out]; rfl)
          have cx6 : wr.cell? ⟨g, (k) * 9 + 6, none⟩ = some (.int .i64 x.who) := HQ.out.at' _ (by omega) 6 _ (by rw [← Hx.out]; rfl)
          have cx7 : wr.cell? ⟨g, (k) * 9 + 7, none⟩ = some (.int .i64 x.sq) := HQ.out.at' _ (by omega) 7 _ (by rw [← Hx.out]; rfl)
          have cx8 : wr.cell? ⟨g, (k) * 9 + 8, none⟩ = some (.int .i64 x.pl) := HQ.out.at' _ (by omega) 8 _ (by rw [← Hx.out]; rfl)
          have zx0 : wr.frozen? ⟨g, (k) * 9, none⟩ = false := (HQ.out.free _ (by omega) 0 (by omega)).2
          have zx1 : wr.frozen? ⟨g, (k) * 9 + 1, none⟩ = false := (HQ.out.free _ (by omega) 1 (by omega)).2
          have zx2 : wr.frozen? ⟨g, (k) * 9 + 2, none⟩ = false := (HQ.out.free _ (by omega) 2 (by omega)).2
          have zx3 : wr.frozen? ⟨g, (k) * 9 + 3, none⟩ = false := (HQ.out.free _ (by omega) 3 (by omega)).2
          have zx4 : wr.frozen? ⟨g, (k) * 9 + 4, none⟩ = false := (HQ.out.free _ (by omega) 4 (by omega)).2
          have zx5 : wr.frozen? ⟨g, (k) * 9 + 5, none⟩ = false := (HQ.out.free _ (by omega) 5 (by omega)).2
          have zx6 : wr.frozen? ⟨g, (k) * 9 + 6, none⟩ = false := (HQ.out.free _ (by omega) 6 (by omega)).2
          have zx7 : wr.frozen? ⟨g, (k) * 9 + 7, none⟩ = false := (HQ.out.free _ (by omega) 7 (by omega)).2
          have zx8 : wr.frozen? ⟨g, (k) * 9 + 8, none⟩ = false := (HQ.out.free _ (by omega) 8 (by omega)).2
          have cy0 : wr.cell? ⟨g, (q) * 9, none⟩ = some (.int .i64 y.r.kind) := HQ.out.at' _ (by omega) 0 _ (by rw [← Hy.out]; rfl)
          have cy1 : wr.cell? ⟨g, (q) * 9 + 1, none⟩ = some (.int .i64 y.r.time) := HQ.out.at' _ (by omega) 1 _ (by rw [← Hy.out]; rfl)
          have cy2 : wr.cell? ⟨g, (q) * 9 + 2, none⟩ = some (.slice y.r.la y.r.ln y.r.lc) := HQ.out.at' _ (by omega) 2 _ (by rw [← Hy.out]; rfl)
          have cy3 : wr.cell? ⟨g, (q) * 9 + 3, none⟩ = some (.string y.r.text) := HQ.out.at' _ (by omega) 3 _ (by rw [← Hy.out]; rfl)
          have cy4 : wr.cell? ⟨g, (q) * 9 + 4, none⟩ = some (.int .i64 y.r.value) := HQ.out.at' _ (by omega) 4 _ (by rw [← Hy.out]; rfl)
          have cy5 : wr.cell? ⟨g, (q) * 9 + 5, none⟩ = some (.bool y.r.null) := HQ.out.at' _ (by omega) 5 _ (by rw [← Hy.out]; rfl)
          have cy6 : wr.cell? ⟨g, (q) * 9 + 6, none⟩ = some (.int .i64 y.who) := HQ.out.at' _ (by omega) 6 _ (by rw [← Hy.out]; rfl)
          have cy7 : wr.cell? ⟨g, (q) * 9 + 7, none⟩ = some (.int .i64 y.sq) := HQ.out.at' _ (by omega) 7 _ (by rw [← Hy.out]; rfl)
          have cy8 : wr.cell? ⟨g, (q) * 9 + 8, none⟩ = some (.int .i64 y.pl) := HQ.out.at' _ (by omega) 8 _ (by rw [← Hy.out]; rfl)
          have zy0 : wr.frozen? ⟨g, (q) * 9, none⟩ = false := (HQ.out.free _ (by omega) 0 (by omega)).2
          have zy1 : wr.frozen? ⟨g, (q) * 9 + 1, none⟩ = false := (HQ.out.free _ (by omega) 1 (by omega)).2
          have zy2 : wr.frozen? ⟨g, (q) * 9 + 2, none⟩ = false := (HQ.out.free _ (by omega) 2 (by omega)).2
          have zy3 : wr.frozen? ⟨g, (q) * 9 + 3, none⟩ = false := (HQ.out.free _ (by omega) 3 (by omega)).2
          have zy4 : wr.frozen? ⟨g, (q) * 9 + 4, none⟩ = false := (HQ.out.free _ (by omega) 4 (by omega)).2
          have zy5 : wr.frozen? ⟨g, (q) * 9 + 5, none⟩ = false := (HQ.out.free _ (by omega) 5 (by omega)).2
          have zy6 : wr.frozen? ⟨g, (q) * 9 + 6, none⟩ = false := (HQ.out.free _ (by omega) 6 (by omega)).2
          have zy7 : wr.frozen? ⟨g, (q) * 9 + 7, none⟩ = false := (HQ.out.free _ (by omega) 7 (by omega)).2
          have zy8 : wr.frozen? ⟨g, (q) * 9 + 8, none⟩ = false := (HQ.out.free _ (by omega) 8 (by omega)).2
          go_wp2_with fail
          go_region
          have HN4 := Lib.hid (HQ.out.swap k q (by omega) (by omega) x y Hx.out Hy.out).drew
          have HU4 := Lib.hid (((HU.out.sets y.cells (k * 9)).sets x.cells (q * 9)).drew)
          rw [ins_step t HQQ.out hkm] at HN4
          have hq3 : i ≤ q ∧ q ≤ m ∧ q < k := by have := HQQ.out; omega
          go_wp2_with fail
          go_roundw
          case rel => exact ⟨q, hq3.1, hq3.2.1, by go_num, HN4, HU4⟩
          case measure => simp [intOf]; omega
        · obtain rfl : k = i := by omega
          go_wp2_with fail
          first | go_ret | go_end0 | refine bodyPost_ret (results_none rfl _ _ _) rfl ?_
          obtain rfl := HMB.out
          exact ⟨rfl, ⟨rot t k m (m + 1), HQ.out, HSRT.out, mem_more (mem_rot t k m (m + 1) (by omega) (by omega)) (fun k h => by unfold rot; rw [if_neg (by omega)]) (by omega) (by omega) (by omega), fun k h => by unfold rot; rw [if_neg (by omega)]⟩, HU.out⟩
end Go.Proofs.Ytjbljplgkbnpmaa

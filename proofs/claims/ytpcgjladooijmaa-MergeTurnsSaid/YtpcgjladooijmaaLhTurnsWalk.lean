/- The law MergeTurns, walked. -/
import Derived.Test.YtpcgjladooijmaaLhAgree
import Derived.Test.YtpcgjladooijmaaLhOpen
import Derived.Test.YtpcgjladooijmaaFc
namespace Go.Proofs.Ytpcgjladooijmaa
open Go.ChangeShapes Go.WideShapes Go.Deep Go.RowKit LabPlain RecPlain
set_option linter.unusedVariables false

theorem lsv_get (l : List LsV) (i : Nat) (h : i < l.length) : (lsv l)[i]? = some (.slice (l.getD i ls0).a (l.getD i ls0).n (l.getD i ls0).c) := by simp [lsv, h]
theorem ListsAt.src {w : World} {b off n c : Nat} {ls : List LsV} (h : ListsAt w (some ⟨b, off, none⟩) n c ls) (k : Nat) (hk : k ≤ n) : ∀ j u, (lsv (ls.drop k))[j]? = some u → w.cell? ((⟨b, off + k, none⟩ : Addr).add j) = some u := by
  intro j u hu
  have hl := h.len
  have hj : j < (ls.drop k).length := by rw [← lsv_length]; exact (List.getElem?_eq_some_iff.1 hu).1
  rw [List.length_drop] at hj
  obtain ⟨b', off', ha, _, hc⟩ := h.cells (by omega)
  cases ha
  rw [add_none, Nat.add_assoc, hc (k + j) (by omega), ← hu, lsv_get _ _ (by rw [List.length_drop]; exact hj)]
  simp [List.getD_eq_getElem?_getD, List.getElem?_drop]
theorem ListsAt.srcT {w : World} {b off n c : Nat} {ls : List LsV} (h : ListsAt w (some ⟨b, off, none⟩) n c ls) (k : Nat) (hk : k ≤ n) : ∀ j u, (lsv (ls.take k))[j]? = some u → w.cell? ((⟨b, off, none⟩ : Addr).add j) = some u := by
  intro j u hu
  have hl := h.len
  have hj : j < (ls.take k).length := by rw [← lsv_length]; exact (List.getElem?_eq_some_iff.1 hu).1
  have hj2 := hj
  rw [List.length_take] at hj2
  obtain ⟨b', off', ha, _, hc⟩ := h.cells (by omega)
  cases ha
  rw [add_none, hc j (by omega), ← hu, lsv_get _ _ hj]
  simp [List.getD_eq_getElem?_getD, show j < k by omega]
theorem ListsAt.ofOwn {w : World} {base n : Nat} {v : Value} {ls : List LsV} (h : w.ownsRow base 47 1 v n (lsv ls)) (hl : ls.length = n) (hr : ∀ x ∈ ls, RowsAt w x.a x.n x.c x.rs) : ∃ a c, v = .slice a n c ∧ ListsAt w a n c ls := by
  rcases h.2 with ⟨h1, h0⟩ | ⟨g, cap, cur, rfl, hg, hh, hn, hcap, hsz, htake⟩
  · subst h1
    subst h0
    exact ⟨none, 0, rfl, hl, Nat.le_refl _, by omega, fun _ => rfl, fun h => absurd h (Nat.lt_irrefl 0), hr⟩
  · have hlt : g < w.heap.size := (Array.getElem?_eq_some_iff.1 hh).1
    refine ⟨some ⟨g, 0, none⟩, cap, rfl, hl, hn, (by unfold maxLen at hcap; exact hcap), (fun e => by cases e), fun hp => ⟨g, 0, rfl, hlt, fun i hi => ?_⟩, hr⟩
    have := h.cellAt i (by omega)
    rw [Nat.zero_add, this, lsv_get _ _ (by omega)]
set_option maxRecDepth 100000 in
set_option maxHeartbeats 8000000 in
theorem merge_turns (la : Option Addr) (n c : Nat) (ls : List LsV) (nn : Int) (w : World) (h : ListsAt w la n c ls) (hnn : (Lit.int .i64 nn).wf = true) :
    Calls Try.prog 11 #[.slice la n c, .int .i64 nn] w fun e w' => e = .returned (.bool true) ∧ Below w.heap.size w w' := by
  obtain ⟨i0, hi, hz0, hz1, hz2⟩ := info_parts lst_info
  have HH := Lib.hid h
  have HL := Lib.hid h.len
  have lcap := h.cap
  have lcm := h.capm
  clear h
  go_enter Try.func11, Try.ntmps11
  go_wp2_with fail
  refine (E.lives16_any w).mono ?_
  rintro e w1 ⟨rfl, hb1⟩
  have HB1 := Lib.hid hb1
  clear hb1
  go_wp2_with fail
  refine (lrows_any (HH.out.kept HB1.out)).mono ?_
  rintro e w2 ⟨b, rfl, rfl, hfew⟩
  cases b with
  | false =>
    clear hfew
    go_wp2_with fail
    refine (E.lives16_any w2).mono ?_
    rintro e w3 ⟨rfl, hb3⟩
    have HB3 := Lib.hid (HB1.out.trans (hb3.mono HB1.out.size))
    clear hb3
    go_wp2_with fail
    go_ret
    exact ⟨rfl, HB3.out⟩
  | true =>
    obtain ⟨hn9, hN80⟩ := hfew rfl
    have HN := Lib.hid hN80
    clear hfew hN80
    by_cases hn0 : n = 0
    case pos =>
      subst hn0
      go_wp2_with fail
      refine (E.lives16_any w2).mono ?_
      rintro e w3 ⟨rfl, hb3⟩
      have HB3 := Lib.hid (HB1.out.trans (hb3.mono HB1.out.size))
      clear hb3
      go_wp2_with fail
      go_ret
      exact ⟨rfl, HB3.out⟩
    case neg =>
      have zn0 : ((n : Int) == 0) = false := by rw [beq_eq_false_iff_ne]; omega
      have wn : IntKind.u64.wrap (n : Int) = (n : Int) := by simp [IntKind.wrap, IntKind.bits, IntKind.signed]; omega
      obtain ⟨k, hk⟩ : ∃ k : Nat, Int.tmod (IntKind.u64.wrap nn) (n : Int) = (k : Int) ∧ k < n := by
        have h0 : 0 ≤ IntKind.u64.wrap nn := by simp [IntKind.wrap, IntKind.bits, IntKind.signed]; omega
        refine ⟨(Int.tmod (IntKind.u64.wrap nn) (n : Int)).toNat, ?_, ?_⟩
        · have := Int.tmod_nonneg (n : Int) h0
          omega
        · have := Int.tmod_lt_of_pos (IntKind.u64.wrap nn) (show (0 : Int) < (n : Int) by omega)
          have := Int.tmod_nonneg (n : Int) h0
          omega
      obtain ⟨hk, hkn⟩ := hk
      have wk : IntKind.i64.wrap (k : Int) = (k : Int) := IntWalk.i64_in _ (by omega)
      have wk2 : IntKind.u64.wrap (k : Int) = (k : Int) := by simp [IntKind.wrap, IntKind.bits, IntKind.signed]; omega
      have hat2 := HH.out.kept HB1.out
      obtain ⟨b, off, rfl, hblt, hcell⟩ := hat2.cells (by omega)
      have hck : ¬ c = k := by omega
      have zk0 : (0 : Int) ≤ (k : Int) := by omega
      have zk1 : (k : Int) ≤ (n : Int) := by omega
      have zk2 : (k : Int) ≤ (c : Int) := by omega
      have HS1 := Lib.hid (hat2.src k (by omega))
      have HA2 := Lib.hid hat2
      have hld : (lsv (ls.drop k)).length = (n - k) * 1 := by rw [lsv_length, List.length_drop, HL.out]; omega
      have hlt : (lsv (ls.take k)).length = k * 1 := by rw [lsv_length, List.length_take, HL.out]; omega
      clear hcell hat2 hblt
      go_wp2_with (at_builtin; refine wpList_append_own_at _ rfl (.tmp 31) (.tmp 34) 58 rfl w2.heap.size 47 i0 (.slice none 0 0) 1 24 Try.underlying58 hi hz0 hz1 hz2 rfl (by decide) _ 0 [] rfl (World.ownsRow_nil _ _ _ _) ⟨b, off + k, none⟩ (n - k) (c - k) (lsv (ls.drop k)) rfl hld HS1.out (lsv_one _) (by unfold maxLen; omega) (by omega) (Nat.le_refl _) ?_)
      intro v3 w3 ho3 hg3 _ _
      have hb3 : Below w2.heap.size w2 w3 := (Below.refl _ _).grown hg3 (Nat.le_refl _) (fun g hg => by cases hg)
      have HA3 := Lib.hid (HA2.out.kept hb3)
      have HB3 := Lib.hid (HB1.out.trans (hb3.mono HB1.out.size))
      have hS3 := HB3.out.size
      have hs23 := hb3.size
      have HO3 := Lib.hid (show w3.ownsRow w2.heap.size 47 1 v3 (n - k) (lsv (ls.drop k)) by simpa using ho3)
      obtain ⟨g3, c3, rfl⟩ := own_some2 HO3.out (by omega)
      have HS3 := Lib.hid (HA3.out.srcT k (by omega))
      have HB23 := Lib.hid hb3
      clear ho3 hg3 hb3
      go_wp2_with (at_builtin; refine wpList_append_own_at _ rfl (.tmp 36) (.tmp 39) 58 rfl w2.heap.size 47 i0 (.slice none 0 0) 1 24 Try.underlying58 hi hz0 hz1 hz2 rfl (by decide) _ _ _ rfl HO3.out ⟨b, off, none⟩ k c (lsv (ls.take k)) rfl hlt HS3.out (lsv_one _) (by unfold maxLen; omega) (by omega) hs23 ?_)
      intro v4 w4 ho4 hg4 _ _
      have HB4 := Lib.hid (HB3.out.grown hg4 HB3.out.size (fun g hg => by have := (HO3.out.lt g hg).1; have := HB1.out.size; omega))
      have hb24 : Below w2.heap.size w2 w4 := HB23.out.grown hg4 HB23.out.size (fun g hg => (HO3.out.lt g hg).1)
      have hl2 : (ls.drop k ++ ls.take k).length = n := by rw [List.length_append, List.length_drop, List.length_take, HL.out]; omega
      have hperm : (ls.drop k ++ ls.take k).Perm ls := (List.perm_append_comm).trans (by rw [List.take_append_drop])
      have ho4' : w4.ownsRow w2.heap.size 47 1 v4 n (lsv (ls.drop k ++ ls.take k)) := by
        have e : n - k + k = n := by omega
        rw [lsv_append]
        rw [e] at ho4
        exact ho4
      obtain ⟨a5, c5, rfl, hat5⟩ := ListsAt.ofOwn ho4' hl2 (fun x hx => ((HA2.out.rows x (hperm.mem_iff.1 hx)).kept hb24))
      have HA4 := Lib.hid (HA2.out.kept hb24)
      have HA5 := Lib.hid hat5
      have HPM := Lib.hid hperm
      have HN5 := Lib.hid (show ((ls.drop k ++ ls.take k).flatMap LsV.rs).length ≤ 80 by rw [(hperm.flatMap_right LsV.rs).length_eq]; exact HN.out)
      clear ho4 ho4' hg4 hat5 hperm hb24
      go_wp2_with fail
      refine (mrows_any HA4.out (by have := HN.out; omega) (by omega)).mono ?_
      rintro e w5 ⟨b5, N5, cc5, rs5, er5, rfl, hra5, hbb5, hout5⟩
      have HA6 := Lib.hid (HA5.out.kept hbb5)
      have HB5 := Lib.hid (HB4.out.trans (hbb5.mono HB4.out.size))
      have HRA5 := Lib.hid hra5
      have HOUT5 := Lib.hid (show MrOut ls N5 rs5 er5 from hout5)
      clear hra5 hbb5 hout5
      go_wp2_with fail
      refine (mrows_any HA6.out (by have := HN5.out; omega) (by omega)).mono ?_
      rintro e w6 ⟨b6, N6, cc6, rs6, er6, rfl, hra6, hbb6, hout6⟩
      have HB6 := Lib.hid (HB5.out.trans (hbb6.mono HB5.out.size))
      have HRA56 := Lib.hid (HRA5.out.kept hbb6)
      have HRA6 := Lib.hid hra6
      obtain ⟨hee, hss⟩ := mr_agree HRA5.out.len hra6.len ⟨fun ⟨x, hx, e⟩ => ⟨x, HPM.out.mem_iff.2 hx, e⟩, fun ⟨x, hx, e⟩ => ⟨x, HPM.out.mem_iff.1 hx, e⟩⟩ ((HPM.out.symm.flatMap_right LsV.rs).map _) (flat_fits HA4.out) (flat_fits HA6.out) HOUT5.out hout6
      have HSS := Lib.hid (sameRs_of hss)
      subst hee
      clear hra6 hbb6 hout6 hss
      go_wp2_with fail
      refine (samerows_any HRA56.out HRA6.out).mono ?_
      rintro e w7 ⟨he, hb7⟩
      rw [HSS.out] at he
      subst he
      have HB7 := Lib.hid (HB6.out.trans (hb7.mono HB6.out.size))
      clear hb7
      go_wp2_with fail
      go_ret
      exact ⟨rfl, HB7.out⟩
end Go.Proofs.Ytpcgjladooijmaa

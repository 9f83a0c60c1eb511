/- Texts put together by packtpl2.py: ColRunPl, ColRunsWalk. -/
import Derived.Test.YtpbijdoemdoijaaGreatDoorPkCa18
import Derived.Test.YtpbijdoemdoijaaGreatDoorPkCa36
import Derived.Test.YtpbijdoemdoijaaGreatDoorPkCa37
section PkCa38_0
/- A column of one word in all rows, plainly: how long its content is. -/
namespace Go.Proofs.YtpbijdoemdoijaaGreatDoor
open Go.RowKit BitsPlain NumsPlain
set_option linter.unusedVariables false

theorem pu_two {n : Nat} (h : n < 16384) : (pu n).length ≤ 2 := pu_le 1 n (by simpa using h)
theorem pu_one {n : Nat} (h : n < 128) : (pu n).length ≤ 1 := pu_le 0 n (by simpa using h)
theorem kno_rep (z : ByteArray) (n : Nat) : (kno (List.replicate n z)).length ≤ 1 := by
  obtain ⟨h1, h2⟩ := kno_facts (List.replicate n z)
  have h3 : ∀ s ∈ kno (List.replicate n z), s = z := fun s hs => (List.mem_replicate.1 ((h2 s).1 hs)).2
  match hk : kno (List.replicate n z) with
  | [] => simp
  | [_] => simp
  | x :: y :: r =>
    rw [hk] at h1 h3
    have hx : x = z := h3 x (by simp)
    have hy : y = z := h3 y (by simp)
    subst hx
    subst hy
    rw [List.map_cons, List.map_cons] at h1
    have := (List.pairwise_cons.1 h1).1 _ (List.mem_cons_self ..)
    exact absurd this (List.lt_irrefl _)
theorem alk_rep (z : ByteArray) {n : Nat} (h : 0 < n) : alk (List.replicate n z) = n := by
  have hg : ∀ i, i < n → (List.replicate n z).getD i ByteArray.empty = z := fun i hi => by simp [hi]
  exact (alk_of (l := List.replicate n z) (r := n) ⟨h, by simp, fun i hi => by rw [hg i hi, hg 0 h], .inl (by simp)⟩).symm
theorem wordsC_rep {z : ByteArray} {n : Nat} (hz : z.size ≤ 600) (hn : n ≤ 2048) : (wordsC (List.replicate n z)).length ≤ z.size + 8 := by
  have hk := kno_rep z n
  have h3 : ∀ s ∈ kno (List.replicate n z), s = z := fun s hs => (List.mem_replicate.1 (((kno_facts (List.replicate n z)).2 s).1 hs)).2
  obtain ⟨kn, hkn⟩ : ∃ kn, kn = kno (List.replicate n z) := ⟨_, rfl⟩
  rw [← hkn] at hk h3
  have e1 : (wnTo kn kn.length).length ≤ z.size + 2 := by
    match hq : kn with
    | [] => simp [wnTo]
    | [x] =>
      have hx : x = z := h3 x (by simp)
      have hp := pu_two (n := z.size) (by omega)
      subst hx
      show (wnTo [x] 1).length ≤ _
      rw [wnTo, wnTo, List.nil_append, List.length_append, byl_len]
      show (pu x.size).length + x.size ≤ _
      omega
    | x :: y :: r => simp at hk
  have e2 := pu_one (n := kn.length) (by omega)
  have e3 := pu_two (n := n) (by omega)
  have e4 : (wrR kn n (List.replicate n z)).length ≤ 3 := by
    cases n with
    | zero => simp [wrR]
    | succ f =>
      have ha := alk_rep z (n := f + 1) (by omega)
      rw [wrR, if_neg (by simp), ha, List.drop_of_length_le (by simp), wrR_nil, List.append_nil, List.length_append]
      have h2 : plc kn ((List.replicate (f + 1) z).getD 0 ByteArray.empty) ≤ kn.length := List.findIdx_le_length
      have h4 := pu_one (n := plc kn ((List.replicate (f + 1) z).getD 0 ByteArray.empty)) (by omega)
      omega
  unfold wordsC wnP
  rw [← hkn, List.length_append, List.length_append, List.length_append, List.length_replicate]
  omega
theorem fit_rep {z : ByteArray} (n : Nat) (hz : z.size ≤ 600) : ∀ s ∈ List.replicate n z, s.size ≤ 1024 := fun s hs => by rw [(List.mem_replicate.1 hs).2]; omega
end Go.Proofs.YtpbijdoemdoijaaGreatDoor
end PkCa38_0
section PkCa38_1
/- ColumnRuns, walked. -/
namespace Go.Proofs.YtpbijdoemdoijaaGreatDoor
open Go.ChangeShapes Go.WideShapes Go.Deep Go.RowKit BitsPlain NumsPlain CrcPlain InfPlain
set_option linter.unusedVariables false

theorem rep_ok {z : ByteArray} {n : Nat} (hz : z.size ≤ 600) (hn : n ≤ 2048) : wdErr (List.replicate n z) = false := by
  have h1 : fitTo (List.replicate n z) n = true := by
    have : ∀ m, m ≤ n → fitTo (List.replicate n z) m = true := by
      intro m
      induction m with
      | zero => intro _; rfl
      | succ m ih =>
        intro hm
        rw [fitTo, ih (by omega)]
        simp [show m < n from by omega]
        omega
    exact this n (Nat.le_refl _)
  have h2 := wordsC_rep hz hn
  unfold wdErr
  rw [List.length_replicate, h1, decide_eq_false (by omega : ¬ 2048 < n), decide_eq_false (by omega : ¬ 65536 < (wordsC (List.replicate n z)).length)]
  rfl

set_option maxRecDepth 100000 in
set_option maxHeartbeats 8000000 in
theorem columnRuns_walk (z : ByteArray) (a1 : Int) (w : World) (hTO : Table w ∧ Ordr w) (wz : z.size ≤ 140737488351232) (w1 : (Lit.int .i64 a1).wf = true) :
    Calls Tryz.prog 6 #[.string z, .int .i64 a1] w fun e w' => e = .returned (.bool true) ∧ Below w.heap.size w w' := by
  obtain ⟨hT, hO⟩ := hTO
  obtain ⟨j0, ji, jz0, jz1, jz2⟩ := info_parts ct_str
  obtain ⟨U, hU⟩ : ∃ U : Nat, IntKind.u64.wrap a1 = (U : Int) := ⟨(a1 % 18446744073709551616).toNat, by rw [IntKind.wrap_u64]; omega⟩
  obtain ⟨n, hn⟩ : ∃ n : Nat, (U : Int) % 2049 = (n : Int) := ⟨U % 2049, by push_cast; rfl⟩
  have hn2 : (U : Int).tmod 2049 = (n : Int) := by rw [Int.tmod_eq_emod_of_nonneg (by omega)]; exact hn
  have hnm : n ≤ 2048 := by omega
  have HL := Lib.hid (lives10_any hT)
  have HT := Lib.hid (show ∀ w', Below w.heap.size w w' → Table w' from fun w' h => hT.below h)
  have HOO := Lib.hid (show ∀ w', Below w.heap.size w w' → Ordr w' from fun w' h => hO.below h)
  clear hT hO w1
  by_cases hq0 : (600 : Int) < (z.size : Int)
  · go_enter Tryz.func6, Tryz.ntmps6
    go_wp2_with fail
    refine HL.out.mono ?_
    rintro e w1 ⟨rfl, hb1⟩
    have HB1 := Lib.hid hb1
    have HL1 := Lib.hid (lives10_any (HT.out w1 hb1))
    clear hb1
    go_wp2_with fail
    refine HL1.out.mono ?_
    rintro e w2 ⟨rfl, hb2⟩
    have HB2 := Lib.hid (HB1.out.trans (hb2.mono HB1.out.size))
    clear hb2
    go_wp2_with fail
    go_ret
    exact ⟨rfl, HB2.out⟩
  · have hz6 : z.size ≤ 600 := by omega
    have HER := Lib.hid (rep_ok hz6 hnm)
    have HCL := Lib.hid (wordsC_rep hz6 hnm)
    go_enter Tryz.func6, Tryz.ntmps6
    go_wp2_with fail
    refine HL.out.mono ?_
    rintro e w1 ⟨rfl, hb1⟩
    have HB1 := Lib.hid hb1
    have HO1 := Lib.hid (World.ownsRow_nil w1 w1.heap.size 9 1)
    have HBR := Lib.hid (Below.refl w1.heap.size w1)
    clear hb1
    go_wp2_with fail
    go_loopw [5, 23] (fun s5 s23 wr => ∃ (k c9 : Nat) (a9 : Option Addr), k ≤ n ∧ s23 = .int .i64 (k : Int) ∧ s5 = .slice a9 k c9 ∧ Hid (wr.ownsRow w1.heap.size 9 1 (.slice a9 k c9) k (StrS.flat (List.replicate k z))) ∧ Hid (Below w1.heap.size w1 wr)) (fun _ s23 _ => n - (intOf s23).toNat)
    case atStart => exact ⟨0, 0, none, by omega, rfl, rfl, HO1, HBR⟩
    case round =>
      clear HO1 HBR
      obtain ⟨k, c9, a9, hk, rfl, rfl, HO, HB⟩ := hrel
      rename World => wr
      by_cases hkn : k < n
      · have hki : (k : Int) < (n : Int) := by omega
        have HOA := Lib.hid (HO.out.alloc (.cells #[.string z] 9))
        have HSRC := Lib.hid (StrS.src wr z 9 (cs := #[.string z]) rfl)
        have HSZ := Lib.hid HB.out.size
        have HBA := Lib.hid (HB.out.alloc HB.out.size (.cells #[.string z] 9))
        go_wp2_with (at_builtin; refine wpList_append_own_at _ rfl (.tmp 25) (.tmp 27) 23 rfl w1.heap.size 9 j0 _ 1 16 Tryz.underlying23 ji jz0 jz1 jz2 rfl (by decide) _ k _ rfl HOA.out ⟨wr.heap.size, 0, none⟩ 1 1 [.string z] rfl rfl HSRC.out (StrS.one z) (by unfold maxLen; omega) (by omega) (Nat.le_trans HSZ.out (by simp)) ?_)
        intro v7 w7 ho7 hg7 _ _
        have HB7 := Lib.hid (below_own HBA.out HOA.out hg7 (Nat.le_refl _) HBA.out.size)
        obtain ⟨g7, c7, rfl⟩ := ct_some2 ho7 (by omega)
        have HO7 := Lib.hid (show w7.ownsRow w1.heap.size 9 1 (.slice (some ⟨g7, 0, none⟩) (k + 1) c7) (k + 1) (StrS.flat (List.replicate (k + 1) z)) from by
          rw [List.replicate_succ', StrS.flat_snoc]; exact ho7)
        clear ho7 hg7
        go_wp2_with fail
        go_roundw
        case rel => exact ⟨k + 1, c7, _, by omega, by go_num, rfl, HO7, HB7⟩
        case measure => simp [intOf]; omega
      · obtain rfl : n = k := by omega
        have hv : VecAt StrS wr a9 n c9 (List.replicate n z) := VecAt.ofOwn HO.out (by simp) (fun x hx => by rw [(List.mem_replicate.1 hx).2]; show z.size ≤ 140737488355328; omega)
        have HV := Lib.hid hv
        have HBW := Lib.hid (HB1.out.trans (HB.out.mono HB1.out.size))
        have HP := Lib.hid (putwords_any (HT.out wr HBW.out) hv)
        clear hv hkn
        go_wp2_with fail
        refine HP.out.mono ?_
        rintro e w2 ⟨he, hb⟩
        rw [if_neg (by rw [HER.out]; simp)] at he
        obtain ⟨a2, m2, c2, rfl, _, h2⟩ := he
        have HB2 := Lib.hid (HBW.out.trans (hb.mono HBW.out.size))
        have hm2 : m2 ≤ z.size + 24 := by
          have e1 := h2.len
          have e2 := chunk_len (k := 2) (C := wordsC (List.replicate n z)) (by have := HCL.out; omega)
          have e3 := HCL.out
          omega
        have hmi : (m2 : Int) ≤ (z.size : Int) + 24 := by omega
        have HI := Lib.hid (colwords_any (HT.out w2 HB2.out) (HOO.out w2 HB2.out) h2 (by omega) HER.out)
        have HV2 := Lib.hid (HV.out.kept hb)
        clear hb h2
        go_wp2_with fail
        refine HI.out.mono ?_
        rintro e w3 ⟨a3, n3, c3, rfl, h3, hb⟩
        obtain rfl : n = n3 := by rw [← h3.len]; simp
        have HB3 := Lib.hid (HB2.out.trans (hb.mono HB2.out.size))
        have HS := Lib.hid (csametexts_any (HV2.out.kept hb) h3)
        clear hb h3
        go_wp2_with fail
        refine HS.out.mono ?_
        rintro e w4 ⟨rfl, hb⟩
        have HB4 := Lib.hid (HB3.out.trans (hb.mono HB3.out.size))
        clear hb
        go_wp2_with fail
        go_ret
        exact ⟨rfl, HB4.out⟩
end Go.Proofs.YtpbijdoemdoijaaGreatDoor
end PkCa38_1

/- Package label's parts, walked. -/
import Derived.Test.YtiboghehonmpnaaLabPlainF
import Derived.Test.YtiboghehonmpnaaLabStrs
namespace Go.Proofs.Ytiboghehonmpnaa
open Go.RowKit LabPlain
set_option linter.unusedVariables false

def plainS (l : List UInt8) : ByteArray := bs (plF (l.length + 1) l)
/-- a label that the program reads, and what stands behind it -/
def stepP (l : List UInt8) : Option (Lab × List UInt8) :=
  if (Lib.cut l [61, 34]).2.2 = false then none
  else if (Lib.cut (Lib.cut l [61, 34]).2.1 [34]).2.2 = false then none
  else some ((bt (Lib.cut l [61, 34]).1, plainS (Lib.cut (Lib.cut l [61, 34]).2.1 [34]).1), (Lib.cut (Lib.cut l [61, 34]).2.1 [34]).2.1)
/-- labels that the program reads, behind those that have been -/
def partsF : Nat → List Lab → List UInt8 → List Lab × Bool
  | 0, _, _ => ([], false)
  | k + 1, acc, l => match stepP l with
    | none => ([], false)
    | some (x, b) => if b = [125] then (acc ++ [x], true) else if Lib.hasPrefix b [44] = true then partsF k (acc ++ [x]) (Lib.trimPrefix b [44]) else ([], false)
def partsR (s : ByteArray) : List Lab × Bool :=
  if Lib.hasPrefix (tb s) [123] = true then (if Lib.trimPrefix (tb s) [123] = [125] then ([], true) else partsF 4 [] (Lib.trimPrefix (tb s) [123])) else ([], false)

def lenOf : Value → Nat
  | .slice _ n _ => n
  | _ => 0
theorem cut_len (l sep : List UInt8) : (Lib.cut l sep).1.length ≤ l.length ∧ (Lib.cut l sep).2.1.length ≤ l.length := by
  unfold Lib.cut
  split
  · simp only [List.length_take, List.length_drop]; omega
  · simp
theorem bt_size (l : List UInt8) : (bt l).size = l.length := by rw [← tb_len]; rfl
theorem plainS_size (l : List UInt8) : (plainS l).size ≤ l.length := by unfold plainS; rw [bs_size]; exact plF_len _ _
theorem bt_eq (a b : List UInt8) : ((bt a).toList == b) = decide (a = b) := by
  rw [show (bt a).toList = a from ByteArray.toList_eq _]
  by_cases h : a = b
  · rw [h]; simp
  · rw [decide_eq_false h, beq_eq_false_iff_ne]; exact h

set_option maxRecDepth 100000 in
set_option maxHeartbeats 4000000 in
theorem parts_any (s : ByteArray) (hs : s.size ≤ 1000) (mx : Int) (w : World) (hmx : w.cell? ⟨0, 0, none⟩ = some (.int .i64 mx)) :
    Calls Try.prog 31 #[.string s] w fun e w' => ∃ a n c, e = .returned (.tuple #[.slice a n c, .bool (partsR s).2]) ∧ LabsAt w' a n c (partsR s).1 ∧ Below w.heap.size w w' := by
  obtain ⟨i0, hi, hz0, hz1, hz2⟩ := info_parts lab_info
  have h0w : 0 < w.heap.size := World.block_lt_of_cell? w _ hmx
  have HMX := Lib.hid (fun (w1 : World) (h : Below w.heap.size w w1) => show w1.cell? ⟨0, 0, none⟩ = some (.int .i64 mx) from (h.cell (p := ⟨0, 0, none⟩) h0w).trans hmx)
  have HPL := Lib.hid (fun (x : List UInt8) (hx : x.length ≤ 1000) (w1 : World) => show Calls Try.prog 40 #[.string (bt x)] w1 fun e w' => e = .returned (.string (plainS x)) ∧ Below w1.heap.size w1 w' from by
    have := plain_any (bt x) (by rw [bt_size]; exact hx) w1
    rw [bt_size, tb_bt] at this
    exact this)
  have HCP := Lib.hid (fun (x p : List UInt8) (w1 : World) => show Calls Try.prog 38 #[.string (bt x), .string (bt p)] w1 fun e w' => e = .returned (.tuple #[.string (bt (Lib.trimPrefix x p)), .bool (Lib.hasPrefix x p)]) ∧ w' = w1 from sh_strings_CutPrefix (bt x) (bt p) w1)
  have HCU := Lib.hid (fun (x p : List UInt8) (hx : x.length ≤ 1000) (w1 : World) (h : Below w.heap.size w w1) => show Calls Try.prog 39 #[.string (bt x), .string (bt p)] w1 fun e w' => e = .returned (.tuple #[.string (bt (Lib.cut x p).1), .string (bt (Lib.cut x p).2.1), .bool (Lib.cut x p).2.2]) ∧ ∃ n, w' = w1.drewN n from
    sh_strings_Cut (bt x) (bt p) mx w1 (by rw [bt_size]; omega) ((h.cell (p := ⟨0, 0, none⟩) h0w).trans hmx))
  have HO0 := Lib.hid (World.ownsRow_nil w w.heap.size 42 2)
  have hsl : (tb s).length ≤ 1000 := by rw [tb_len]; exact hs
  obtain ⟨l0, hl0⟩ : ∃ l0, l0 = tb s := ⟨_, rfl⟩
  have hsb : s = bt l0 := by rw [hl0, bt_tb]
  obtain ⟨R, hR⟩ : ∃ R, R = partsR s := ⟨_, rfl⟩
  rw [← hR]
  unfold partsR at hR
  rw [← hl0] at hR hsl
  rw [hsb]
  clear hsb hl0 hmx hs
  cases hp : Lib.hasPrefix l0 [123] with
  | false =>
    rw [hp, if_neg (by decide)] at hR
    have HR := Lib.hid hR
    have HP := Lib.hid hp
    clear hp hR
    go_enter Try.func31, Try.ntmps31
    go_wp2_with fail
    refine (HCP.out l0 [123] w).mono ?_
    rw [HP.out]
    rintro e w1 ⟨rfl, rfl⟩
    go_wp2_with fail
    go_ret2
    rw [HR.out]; exact ⟨none, 0, 0, rfl, LabsAt.empty _ _ _ (by omega) (fun _ => rfl), Below.refl _ _⟩
  | true =>
    rw [hp, if_pos rfl] at hR
    have htl := Lib.trimPrefix_le l0 [123]
    obtain ⟨l1, hl1⟩ : ∃ l1, l1 = Lib.trimPrefix l0 [123] := ⟨_, rfl⟩
    rw [← hl1] at hR htl
    have HP := Lib.hid hp
    have HL1 := Lib.hid hl1
    clear hp hl1
    by_cases he : l1 = [125]
    · rw [if_pos he] at hR
      have HR := Lib.hid hR
      have hq : ((bt l1).toList == [125]) = true := by rw [bt_eq]; exact decide_eq_true he
      clear hR he
      go_enter Try.func31, Try.ntmps31
      go_wp2_with fail
      refine (HCP.out l0 [123] w).mono ?_
      rw [HP.out, ← HL1.out]
      rintro e w1 ⟨rfl, rfl⟩
      go_wp2_with fail
      go_ret2
      rw [HR.out]; exact ⟨none, 0, 0, rfl, LabsAt.empty _ _ _ (by omega) (fun _ => rfl), Below.refl _ _⟩
    · rw [if_neg he] at hR
      have HR := Lib.hid hR
      have hq : ((bt l1).toList == [125]) = false := by rw [bt_eq]; exact decide_eq_false he
      clear hR he
      go_enter Try.func31, Try.ntmps31
      go_wp2_with fail
      refine (HCP.out l0 [123] w).mono ?_
      rw [HP.out, ← HL1.out]
      rintro e w1 ⟨rfl, rfl⟩
      rename World => w
      go_wp2_with fail
      go_loopw [4, 6] (fun s4 s6 wr => ∃ (l : List UInt8) (m cp : Nat) (a : Option Addr) (acc : List Lab), l.length ≤ 1000 ∧ m ≤ 4 ∧ s4 = .string (bt l) ∧ s6 = .slice a m cp ∧ Hid (acc.length = m) ∧ Hid (∀ x ∈ acc, x.1.size ≤ 1000 ∧ x.2.size ≤ 1000) ∧ Hid (R = partsF (4 - m) acc l) ∧ Hid (wr.ownsRow w.heap.size 42 2 (.slice a m cp) m (lcells acc)) ∧ Hid (Below w.heap.size w wr)) (fun _ s6 _ => 4 - lenOf s6)
      case atStart => exact ⟨l1, 0, 0, none, [], by omega, by omega, rfl, rfl, Lib.hid rfl, Lib.hid (fun x hx => by cases hx), HR, HO0, Lib.hid (Below.refl _ _)⟩
      case round =>
        clear HO0 HR hq HL1 HP htl
        obtain ⟨l, m, cp, a, acc, hll, hm4, rfl, rfl, HA, HS, HR, HO, HB⟩ := hrel
        rename World => wr
        have hbs := HB.out.size
        by_cases hm : m < 4
        · obtain ⟨k, hk⟩ : ∃ k, 4 - m = k + 1 := ⟨3 - m, by omega⟩
          have hR := HR.out
          rw [hk] at hR
          have hmi : (m : Int) < 4 := by omega
          have HC1 := Lib.hid (HCU.out l [61, 34] hll wr HB.out)
          have c1l := cut_len l [61, 34]
          obtain ⟨nm, hnm⟩ : ∃ x, x = (Lib.cut l [61, 34]).1 := ⟨_, rfl⟩
          obtain ⟨b1, hb1⟩ : ∃ x, x = (Lib.cut l [61, 34]).2.1 := ⟨_, rfl⟩
          rw [← hnm, ← hb1] at c1l
          have nml := c1l.1
          have b1l := c1l.2
          clear c1l
          cases hf1 : (Lib.cut l [61, 34]).2.2 with
          | false =>
            have hst : stepP l = none := by unfold stepP; rw [if_pos hf1]
            have HRR := Lib.hid (show R = ([], false) by rw [hR, partsF, hst])
            have HF1 := Lib.hid hf1
            clear hf1 hst hR hnm hb1
            go_wp2_with fail
            refine HC1.out.mono ?_
            rw [HF1.out]
            rintro e w2 ⟨rfl, q, rfl⟩
            go_wp2_with fail
            go_ret2
            rw [HRR.out]; exact ⟨none, 0, 0, rfl, LabsAt.empty _ _ _ (by omega) (fun _ => rfl), below_drewN HB.out _⟩
          | true =>
            have HC2 := Lib.hid (fun q => HCU.out b1 [34] (by omega) (wr.drewN q) (below_drewN HB.out q))
            have c2l := cut_len b1 [34]
            obtain ⟨qv, hqv⟩ : ∃ x, x = (Lib.cut b1 [34]).1 := ⟨_, rfl⟩
            obtain ⟨b2, hb2⟩ : ∃ x, x = (Lib.cut b1 [34]).2.1 := ⟨_, rfl⟩
            rw [← hqv, ← hb2] at c2l
            have qvl := c2l.1
            have b2l := c2l.2
            clear c2l
            cases hf2 : (Lib.cut b1 [34]).2.2 with
            | false =>
              have hst : stepP l = none := by unfold stepP; rw [if_neg (by rw [hf1]; decide), ← hb1, if_pos hf2]
              have HRR := Lib.hid (show R = ([], false) by rw [hR, partsF, hst])
              have HF1 := Lib.hid (And.intro hf1 (And.intro hnm hb1))
              have HF2 := Lib.hid hf2
              clear hf1 hf2 hst hR hnm hb1 hqv hb2
              go_wp2_with fail
              refine HC1.out.mono ?_
              rw [HF1.out.1, ← HF1.out.2.1, ← HF1.out.2.2]
              rintro e w2 ⟨rfl, q, rfl⟩
              go_wp2_with fail
              refine (HC2.out _).mono ?_
              rw [HF2.out]
              rintro e w2 ⟨rfl, q2, rfl⟩
              go_wp2_with fail
              go_ret2
              rw [HRR.out]; exact ⟨none, 0, 0, rfl, LabsAt.empty _ _ _ (by omega) (fun _ => rfl), below_drewN HB.out _⟩
            | true =>
              obtain ⟨v, hv⟩ : ∃ v, v = plainS qv := ⟨_, rfl⟩
              have hvs : v.size ≤ 1000 := by rw [hv]; have := plainS_size qv; omega
              have hst : stepP l = some ((bt nm, v), b2) := by
                unfold stepP; rw [if_neg (by rw [hf1]; decide), ← hb1, if_neg (by rw [hf2]; decide), ← hnm, ← hqv, ← hb2, ← hv]
              have HS2 := Lib.hid (show ∀ x ∈ acc ++ [(bt nm, v)], x.1.size ≤ 1000 ∧ x.2.size ≤ 1000 from fun x hx => by
                rcases List.mem_append.1 hx with h | h
                · exact HS.out x h
                · rw [List.mem_singleton] at h
                  rw [h]; exact ⟨by show (bt nm).size ≤ 1000; rw [bt_size]; omega, hvs⟩)
              have HA2 := Lib.hid (show (acc ++ [(bt nm, v)]).length = m + 1 by rw [List.length_append, HA.out]; rfl)
              have HF1 := Lib.hid (And.intro hf1 (And.intro hnm hb1))
              have HF2 := Lib.hid (And.intro hf2 (And.intro hqv hb2))
              have HPV := Lib.hid (fun w1 => HPL.out qv (by omega) w1)
              rw [← hv] at HPV
              have hR2 := hR
              rw [partsF, hst] at hR2
              replace hR2 : R = if b2 = [125] then (acc ++ [(bt nm, v)], true) else if Lib.hasPrefix b2 [44] = true then partsF k (acc ++ [(bt nm, v)]) (Lib.trimPrefix b2 [44]) else ([], false) := hR2
              have HV := Lib.hid hv
              clear hf1 hf2 hst hR hnm hb1 hqv hb2 hv
              have hxs : ∀ x ∈ acc ++ [(bt nm, v)], x.1.size ≤ 140737488355328 ∧ x.2.size ≤ 140737488355328 := fun x hx => ⟨Nat.le_trans (HS2.out x hx).1 (by omega), Nat.le_trans (HS2.out x hx).2 (by omega)⟩
              have HXS := Lib.hid hxs
              clear hxs
              have tail : ∀ (w3 : World), Hid (Below w.heap.size w w3) → Hid (w3.ownsRow w.heap.size 42 2 (.slice a m cp) m (lcells acc)) → True := fun _ _ _ => trivial
              clear tail
              by_cases he : b2 = [125]
              · have hq : ((bt b2).toList == [125]) = true := by rw [bt_eq]; exact decide_eq_true he
                rw [if_pos he] at hR2
                have HRR := Lib.hid hR2
                clear hR2 he
                go_wp2_with fail
                refine HC1.out.mono ?_
                rw [HF1.out.1, ← HF1.out.2.1, ← HF1.out.2.2]
                rintro e w2 ⟨rfl, q, rfl⟩
                go_wp2_with fail
                refine (HC2.out _).mono ?_
                rw [HF2.out.1, ← HF2.out.2.1, ← HF2.out.2.2]
                rintro e w2 ⟨rfl, q2, rfl⟩
                go_wp2_with fail
                refine (HPV.out _).mono ?_
                rintro e w4 ⟨rfl, hb4⟩
                have HB4 := Lib.hid ((below_drewN HB.out _).trans (hb4.mono hbs))
                have HO4 := Lib.hid (own_below (w := wr.drewN (q + q2)) HO.out hb4)
                have hbs4 := HB4.out.size
                have HBA := Lib.hid (HB4.out.alloc hbs4 (.cells #[.string (bt nm), .string v] 42))
                have HOA := Lib.hid (HO4.out.alloc (.cells #[.string (bt nm), .string v] 42))
                clear hb4
                go_wp2_with (at_builtin; refine wpList_append_own_at _ rfl (.tmp 42) (.tmp 47) 22 rfl w.heap.size 42 i0 _ 2 32 Try.underlying22 hi hz0 hz1 hz2 rfl (by decide) _ _ _ rfl HOA.out ⟨w4.heap.size, 0, none⟩ 1 1 [.string (bt nm), .string v] rfl rfl (two_src _ _ _ _) (lcells_one [(bt nm, v)]) (by unfold maxLen; omega) (by omega) (by simp; omega) ?_)
                intro v5 w5 ho5 hg5 _ _
                obtain ⟨g5, c5, rfl⟩ := own_some2 ho5 (by omega)
                have HB5 := Lib.hid (below_own HBA.out HOA.out hg5 (Nat.le_refl _) (by simp; omega))
                have ho6 : w5.ownsRow w.heap.size 42 2 (.slice (some ⟨g5, 0, none⟩) (m + 1) c5) (m + 1) (lcells (acc ++ [(bt nm, v)])) := by rw [lcells_append]; exact ho5
                obtain ⟨a9, c9, he9, hat⟩ := LabsAt.ofOwn ho6 HA2.out HXS.out
                simp only [Value.slice.injEq, true_and] at he9
                obtain ⟨rfl, rfl⟩ := he9
                have HAT := Lib.hid hat
                clear ho5 ho6 hg5 hat
                go_wp2_with fail
                go_ret2
                rw [HRR.out]; exact ⟨_, _, _, rfl, HAT.out, HB5.out⟩
              · have hq : ((bt b2).toList == [125]) = false := by rw [bt_eq]; exact decide_eq_false he
                rw [if_neg he] at hR2
                have HC3 := Lib.hid (fun w1 => HCP.out b2 [44] w1)
                have htl := Lib.trimPrefix_le b2 [44]
                obtain ⟨l5, hl5⟩ : ∃ x, x = Lib.trimPrefix b2 [44] := ⟨_, rfl⟩
                rw [← hl5] at htl hR2
                have HL5 := Lib.hid hl5
                clear he hl5
                cases hf3 : Lib.hasPrefix b2 [44] with
                | false =>
                  rw [hf3, if_neg (by decide)] at hR2
                  have HRR := Lib.hid hR2
                  have HF3 := Lib.hid hf3
                  clear hR2 hf3
                  go_wp2_with fail
                  refine HC1.out.mono ?_
                  rw [HF1.out.1, ← HF1.out.2.1, ← HF1.out.2.2]
                  rintro e w2 ⟨rfl, q, rfl⟩
                  go_wp2_with fail
                  refine (HC2.out _).mono ?_
                  rw [HF2.out.1, ← HF2.out.2.1, ← HF2.out.2.2]
                  rintro e w2 ⟨rfl, q2, rfl⟩
                  go_wp2_with fail
                  refine (HPV.out _).mono ?_
                  rintro e w4 ⟨rfl, hb4⟩
                  have HB4 := Lib.hid ((below_drewN HB.out _).trans (hb4.mono hbs))
                  have HO4 := Lib.hid (own_below (w := wr.drewN (q + q2)) HO.out hb4)
                  have hbs4 := HB4.out.size
                  have HBA := Lib.hid (HB4.out.alloc hbs4 (.cells #[.string (bt nm), .string v] 42))
                  have HOA := Lib.hid (HO4.out.alloc (.cells #[.string (bt nm), .string v] 42))
                  clear hb4
                  go_wp2_with (at_builtin; refine wpList_append_own_at _ rfl (.tmp 42) (.tmp 47) 22 rfl w.heap.size 42 i0 _ 2 32 Try.underlying22 hi hz0 hz1 hz2 rfl (by decide) _ _ _ rfl HOA.out ⟨w4.heap.size, 0, none⟩ 1 1 [.string (bt nm), .string v] rfl rfl (two_src _ _ _ _) (lcells_one [(bt nm, v)]) (by unfold maxLen; omega) (by omega) (by simp; omega) ?_)
                  intro v5 w5 ho5 hg5 _ _
                  have HB5 := Lib.hid (below_own HBA.out HOA.out hg5 (Nat.le_refl _) (by simp; omega))
                  clear ho5 hg5
                  go_wp2_with fail
                  refine (HC3.out _).mono ?_
                  rw [HF3.out, ← HL5.out]
                  rintro e w6 ⟨rfl, rfl⟩
                  go_wp2_with fail
                  go_ret2
                  rw [HRR.out]; exact ⟨none, 0, 0, rfl, LabsAt.empty _ _ _ (by omega) (fun _ => rfl), HB5.out⟩
                | true =>
                  rw [hf3, if_pos rfl] at hR2
                  have HRR := Lib.hid (show R = partsF (4 - (m + 1)) (acc ++ [(bt nm, v)]) l5 by rw [show 4 - (m + 1) = k by omega]; exact hR2)
                  have HF3 := Lib.hid hf3
                  clear hR2 hf3
                  go_wp2_with fail
                  refine HC1.out.mono ?_
                  rw [HF1.out.1, ← HF1.out.2.1, ← HF1.out.2.2]
                  rintro e w2 ⟨rfl, q, rfl⟩
                  go_wp2_with fail
                  refine (HC2.out _).mono ?_
                  rw [HF2.out.1, ← HF2.out.2.1, ← HF2.out.2.2]
                  rintro e w2 ⟨rfl, q2, rfl⟩
                  go_wp2_with fail
                  refine (HPV.out _).mono ?_
                  rintro e w4 ⟨rfl, hb4⟩
                  have HB4 := Lib.hid ((below_drewN HB.out _).trans (hb4.mono hbs))
                  have HO4 := Lib.hid (own_below (w := wr.drewN (q + q2)) HO.out hb4)
                  have hbs4 := HB4.out.size
                  have HBA := Lib.hid (HB4.out.alloc hbs4 (.cells #[.string (bt nm), .string v] 42))
                  have HOA := Lib.hid (HO4.out.alloc (.cells #[.string (bt nm), .string v] 42))
                  clear hb4
                  go_wp2_with (at_builtin; refine wpList_append_own_at _ rfl (.tmp 42) (.tmp 47) 22 rfl w.heap.size 42 i0 _ 2 32 Try.underlying22 hi hz0 hz1 hz2 rfl (by decide) _ _ _ rfl HOA.out ⟨w4.heap.size, 0, none⟩ 1 1 [.string (bt nm), .string v] rfl rfl (two_src _ _ _ _) (lcells_one [(bt nm, v)]) (by unfold maxLen; omega) (by omega) (by simp; omega) ?_)
                  intro v5 w5 ho5 hg5 _ _
                  obtain ⟨g5, c5, rfl⟩ := own_some2 ho5 (by omega)
                  have HB5 := Lib.hid (below_own HBA.out HOA.out hg5 (Nat.le_refl _) (by simp; omega))
                  have HO6 := Lib.hid (show w5.ownsRow w.heap.size 42 2 (.slice (some ⟨g5, 0, none⟩) (m + 1) c5) (m + 1) (lcells (acc ++ [(bt nm, v)])) by rw [lcells_append]; exact ho5)
                  clear ho5 hg5
                  go_wp2_with fail
                  refine (HC3.out _).mono ?_
                  rw [HF3.out, ← HL5.out]
                  rintro e w6 ⟨rfl, rfl⟩
                  go_wp2_with fail
                  go_roundw
                  case rel => exact ⟨l5, m + 1, c5, _, _, by omega, by omega, rfl, rfl, HA2, HS2, HRR, HO6, HB5⟩
                  case measure => simp [lenOf] <;> omega
        · obtain rfl : m = 4 := by omega
          have HRR := Lib.hid (show R = ([], false) by rw [HR.out]; rfl)
          clear hm
          go_wp2_with fail
          go_ret2
          rw [HRR.out]; exact ⟨none, 0, 0, rfl, LabsAt.empty _ _ _ (by omega) (fun _ => rfl), HB.out⟩
end Go.Proofs.Ytiboghehonmpnaa

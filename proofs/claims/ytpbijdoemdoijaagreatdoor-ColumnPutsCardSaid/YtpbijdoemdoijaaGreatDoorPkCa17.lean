/- Texts put together by packtpl2.py: RepeatS, ColWdR, ColWs. -/
import Derived.Test.YtpbijdoemdoijaaGreatDoorPkCa13
import Derived.Test.YtpbijdoemdoijaaGreatDoorPkCa15
import Derived.Test.YtpbijdoemdoijaaGreatDoorPkCa16
section PkCa17_0
/- slices.Repeat of one text, walked: so many of it, in memory of its own. (Made out of XRepeat.) -/
namespace Go.Proofs.YtpbijdoemdoijaaGreatDoor
open Go.RowKit
set_option linter.unusedVariables false

theorem strs_flat : ∀ l : List ByteArray, StrS.flat l = l.map fun z => Value.string z
  | [] => rfl
  | x :: l => by
    have h := strs_flat l
    unfold Sty.flat at h ⊢
    rw [List.flatMap_cons, h]; rfl
/-- a row of k, of which the first j are there -/
def repRowS (z : ByteArray) (j k : Nat) : List Value := List.replicate j (.string z) ++ List.replicate (k - j) (.string ByteArray.empty)
theorem repRowS_len (z : ByteArray) {j k : Nat} (h : j ≤ k) : (repRowS z j k).length = k := by simp [repRowS]; omega
theorem repRowS_start (z : ByteArray) (k : Nat) : madeCells #[Value.string ByteArray.empty] k = (repRowS z 0 k).toArray := by
  apply Array.toList_inj.1
  rw [toList_madeCells_one]
  simp [repRowS]
theorem repRowS_copy (z : ByteArray) {j m k : Nat} (h : j + m ≤ k) : splice (repRowS z j k) j (List.replicate m (.string z)) = repRowS z (j + m) k := by
  unfold splice repRowS
  rw [List.take_left' (by simp), List.length_replicate, List.drop_append, List.drop_of_length_le (by simp), List.length_replicate, List.drop_replicate, List.nil_append, ← List.append_assoc, List.replicate_append_replicate]
  congr 2
  omega
theorem repRowS_get (z : ByteArray) {j k i : Nat} (hi : i < j) : (repRowS z j k).toArray[i]? = some (.string z) := by
  simp [repRowS, List.getElem?_append_left, hi]
theorem repRowS_full (z : ByteArray) (k : Nat) : repRowS z k k = StrS.flat (List.replicate k z) := by simp [repRowS, strs_flat]
set_option maxRecDepth 100000 in
set_option maxHeartbeats 1000000 in
theorem repeatS_any {w : World} {a : Option Addr} {c : Nat} {z : ByteArray} (h : VecAt StrS w a 1 c [z]) (k : Nat) (h1 : 1 ≤ k) (hk : k ≤ 100000) :
    Calls Tryz.prog 95 #[.slice a 1 c, .int .i64 (k : Int)] w fun e w' => ∃ v, e = .returned v ∧ w'.ownsRow w.heap.size 9 1 v k (StrS.flat (List.replicate k z)) ∧ Below w.heap.size w w' := by
  obtain ⟨i0, hi, hz0, hz1, hz2⟩ := info_parts ct_str
  obtain ⟨b, off, rfl, hlt, _, hcell⟩ := h.get (i := 0) (by omega)
  have hc0 : w.cell? ⟨b, off, none⟩ = some (.string z) := by
    have h1 := hcell 0 (.string z) rfl
    simpa using h1
  have HM := Lib.hid (mul_one_any k hk w)
  have HC := Lib.hid hc0
  have hb2 : Below w.heap.size w (w.alloc (.cells (madeCells #[Value.string ByteArray.empty] k) 9)) := (Below.refl _ _).alloc (Nat.le_refl _) _
  have hr2 : (w.alloc (.cells (madeCells #[Value.string ByteArray.empty] k) 9)).heap[w.heap.size]? = some (.cells (repRowS z 0 k).toArray 9 (0, 0)) := by rw [← repRowS_start]; exact heap_alloc_new w _
  have HC2 := Lib.hid ((hb2.cell (p := ⟨b, off, none⟩) hlt).trans hc0)
  have HB2 := Lib.hid hb2
  have HR2 := Lib.hid hr2
  have HSZ := Lib.hid (show (Tryz.prog.info? 9).map (·.size) = some 1 by kernel_rfl)
  have HS1 := Lib.hid (show (List.replicate 1 (Value.string z)).length = Nat.min 1 k by rw [List.length_replicate]; show 1 = min 1 k; omega)
  have HS2 := Lib.hid (show ∀ j v, (List.replicate 1 (Value.string z))[j]? = some v → (w.alloc (.cells (madeCells #[Value.string ByteArray.empty] k) 9)).cell? ((⟨b, off, none⟩ : Addr).add j) = some v from fun j u hj => by
    obtain ⟨hj1, rfl⟩ := repl_get hj
    obtain rfl : j = 0 := by omega
    rw [add_plain]; exact HC2.out)
  have HS3 := Lib.hid (show 0 + (List.replicate 1 (Value.string z)).length ≤ (repRowS z 0 k).length by rw [repRowS_len z (by omega), List.length_replicate]; omega)
  have HS4 := Lib.hid (show ∀ u ∈ List.replicate 1 (Value.string z), u.oneCell' = true by intro u hu; rw [List.mem_replicate] at hu; rw [hu.2]; rfl)
  clear hb2 hr2
  clear hcell h hc0
  go_enter Tryz.func95, Tryz.ntmps95
  go_wp2_with fail
  refine HM.out.mono ?_
  rintro e w1 ⟨rfl, rfl⟩
  go_wp2_with (first | (refine wpList_make_row _ rfl (.tmp 29) (.tmp 29) 23 rfl 9 i0 (.string ByteArray.empty) Tryz.underlying23 hi hz0 hz1 rfl .i64 .i64 k rfl rfl (by rw [hz2]; omega) (by omega) ?_) | (refine wpList_copy_splice rfl (.tmp 31) (.tmp 32) 23 23 rfl 9 Tryz.underlying23 HSZ.out (some ⟨w.heap.size, 0, none⟩) (some ⟨b, off, none⟩) k k 1 c rfl rfl w.heap.size 0 (repRowS z 0 k) 9 HR2.out (List.replicate 1 (.string z)) HS1.out (fun _ => ⟨rfl, _, rfl, HS2.out⟩) HS3.out HS4.out w.heap.size w HB2.out (Nat.le_refl _) ?_))
  obtain ⟨g, hg⟩ : ∃ g, g = w.heap.size := ⟨_, rfl⟩
  rw [← hg]
  have HG := Lib.hid hg
  intro w3 hr3 hb3
  have HR3 : Hid (w3.heap[g]? = some (.cells (repRowS z 1 k).toArray 9 (0, 0))) := Lib.hid (hr3.out.trans (by rw [show [Value.string z] = List.replicate 1 (Value.string z) from rfl, repRowS_copy z (by omega)]))
  have HB3 := Lib.hid hb3
  clear hr3 hb3 hg
  go_wp2_with fail
  go_loopw [8] (fun s8 wr => ∃ j : Nat, 1 ≤ j ∧ j ≤ k ∧ s8 = .int .i64 (j : Int) ∧ Hid (wr.heap[g]? = some (.cells (repRowS z j k).toArray 9 (0, 0))) ∧ Hid (Below g w wr)) (fun s8 _ => k - (intOf s8).toNat)
  case atStart => exact ⟨1, by omega, by omega, by rfl, HR3, HB3⟩
  case round =>
    obtain ⟨j, hj1, hjk, rfl, HR, HB⟩ := hrel
    rename World => wr
    by_cases hlt2 : j < k
    · obtain ⟨m, hm⟩ : ∃ m, m = min j (k - j) := ⟨_, rfl⟩
      have hm1 : 1 ≤ m := by omega
      have hmj : m ≤ j := by omega
      have hmk : j + m ≤ k := by omega
      have HM := Lib.hid hm
      have hkj : ¬ k = j := by omega
      have hgw : g ≤ wr.heap.size := by rw [HG.out]; exact HB.out.size
      clear hm
      go_wp2_with fail
      have HA1 := Lib.hid (show (List.replicate m (Value.string z)).length = Nat.min j (k - j) by rw [List.length_replicate, HM.out]; first | done | rfl)
      have HA2 := Lib.hid (show ∀ i u, (List.replicate m (Value.string z))[i]? = some u → wr.drew.cell? ((⟨g, 0, none⟩ : Addr).add i) = some u from fun i u hj => by obtain ⟨hj1, rfl⟩ := repl_get hj; rw [add_plain, Nat.zero_add]; exact (cell_of_row wr g i _ _ (0, 0) HR.out).trans (repRowS_get z (by omega)))
      have HA3 := Lib.hid (show j + (List.replicate m (Value.string z)).length ≤ (repRowS z j k).length by rw [repRowS_len z (by omega), List.length_replicate]; omega)
      have HA4 := Lib.hid (show ∀ u ∈ List.replicate m (Value.string z), u.oneCell' = true by intro u hu; rw [List.mem_replicate] at hu; rw [hu.2]; rfl)
      have HA5 := Lib.hid (HB.out.trans ((below_drew wr).mono hgw))
      have hsum : IntKind.i64.wrap ((j : Int) + (m : Int)) = ((j + m : Nat) : Int) := by rw [IntWalk.i64_in _ (by omega)]; omega
      go_region_law (refine step_copy_splice rfl (.tmp 41) (.tmp 44) 23 23 rfl 9 Tryz.underlying23 HSZ.out (some ⟨g, j, none⟩) (some ⟨g, 0, none⟩) (k - j) (k - j) j k (by go_simp) (by go_simp) g j (repRowS z j k) 9 HR.out (List.replicate m (.string z)) HA1.out (fun _ => ⟨rfl, _, rfl, HA2.out⟩) HA3.out HA4.out g w HA5.out (Nat.le_refl _) ?_; intro w4 hr4 hb4)
      all_goals
        try go_simp
        clear hsum
        have HR4 : Hid (w4.heap[g]? = some (.cells (repRowS z (j + m) k).toArray 9 (0, 0))) := Lib.hid (by rw [← repRowS_copy z hmk]; exact hr4.out)
        have HB4 := Lib.hid hb4
        clear hr4 hb4
        go_wp2_with fail
        go_roundw
        case rel => exact ⟨j + m, by omega, by omega, rfl, HR4, HB4⟩
        case measure => simp [intOf]; omega
    · obtain rfl : j = k := by omega
      go_wp2_with fail
      go_ret
      exact ⟨_, rfl, ⟨by rw [strs_flat]; simp, .inr ⟨g, j, _, rfl, Nat.le_of_eq HG.out.symm, HR.out, Nat.le_refl _, by unfold maxLen; omega, by simp [repRowS_len], by rw [← repRowS_full]; simp [repRowS]⟩⟩, by rw [← HG.out]; exact HB.out⟩
end Go.Proofs.YtpbijdoemdoijaaGreatDoor
end PkCa17_0
section PkCa17_1
/- A content read as a column of words, walked. -/
namespace Go.Proofs.YtpbijdoemdoijaaGreatDoor
open Go.RowKit BitsPlain NumsPlain
set_option linter.unusedVariables false

/-- the first k words that are known, from place i with error e on -/
def knR (xs : List Nat) (i e : Nat) : Nat → List ByteArray × Nat × Nat
  | 0 => ([], i, e)
  | k + 1 => ((knR xs i e k).1 ++ [bs (ct xs (knR xs i e k).2.1 (knR xs i e k).2.2 1024).1], (ct xs (knR xs i e k).2.1 (knR xs i e k).2.2 1024).2)
/-- the rows, run by run -/
def wdF (xs : List Nat) (kn : List ByteArray) (R : Nat) : Nat → List ByteArray → Nat → Nat → Option (List ByteArray × Nat × Nat)
  | 0, l, i, e => some (l, i, e)
  | f + 1, l, i, e =>
    if l.length < R then
      (if (ccn xs (ccn xs i e ((kn.length : Int) - 1) 2).2.1 (ccn xs i e ((kn.length : Int) - 1) 2).2.2 ((R : Int) - (l.length : Int)) 2).1 = 0 then none
       else wdF xs kn R f (l ++ List.replicate (ccn xs (ccn xs i e ((kn.length : Int) - 1) 2).2.1 (ccn xs i e ((kn.length : Int) - 1) 2).2.2 ((R : Int) - (l.length : Int)) 2).1 (kn.getD (ccn xs i e ((kn.length : Int) - 1) 2).1 ByteArray.empty)) (ccn xs (ccn xs i e ((kn.length : Int) - 1) 2).2.1 (ccn xs i e ((kn.length : Int) - 1) 2).2.2 ((R : Int) - (l.length : Int)) 2).2.1 (ccn xs (ccn xs i e ((kn.length : Int) - 1) 2).2.1 (ccn xs i e ((kn.length : Int) - 1) 2).2.2 ((R : Int) - (l.length : Int)) 2).2.2)
    else some (l, i, e)
def rdW (xs : List Nat) : List ByteArray :=
  let c := ccn xs 0 0 2048 2
  let k := knR xs c.2.1 c.2.2 c.1
  let r := ccn xs k.2.1 k.2.2 2048 2
  match wdF xs k.1 r.1 (r.1 + 1) [] r.2.1 r.2.2 with
  | none => []
  | some t => if cend xs.length t.2.1 t.2.2 = 0 then t.1 else []
theorem knR_len (xs : List Nat) (i e : Nat) : ∀ k, (knR xs i e k).1.length = k
  | 0 => rfl
  | k + 1 => by rw [knR, List.length_append, knR_len xs i e k]; rfl
theorem cn_zero {xs : List Nat} {i e above : Nat} {most : Int} (h : (ccn xs i e most above).1 ≠ 0) : e = 0 := by
  unfold ccn at h
  split at h
  · exact absurd rfl h
  · omega
theorem cn_okmost {xs : List Nat} {i e : Nat} {most : Int} (h : (ccn xs i e most 2).2.2 = 0) : 0 ≤ most ∧ ((ccn xs i e most 2).1 : Int) ≤ most := by
  unfold ccn at h ⊢
  split at h
  · rename_i h0; exact absurd h h0
  · rename_i h0
    rw [if_neg h0]
    split at h
    · rename_i h1; exact absurd h h1
    · rename_i h1
      rw [if_neg h1]
      split at h
      · cases h
      · rename_i h2
        rw [if_neg h2]
        omega
theorem ct_le (xs : List Nat) (i e : Nat) (most : Int) : (ct xs i e most).1.length ≤ xs.length := by
  unfold ct
  split
  · simp
  · split
    · simp
    · exact cb_le _ _ _ _
theorem knR_le (xs : List Nat) (i e : Nat) : ∀ k, ∀ z ∈ (knR xs i e k).1, z.size ≤ xs.length
  | 0, z, hz => by cases hz
  | k + 1, z, hz => by
    rw [knR] at hz
    rcases List.mem_append.1 hz with g | g
    · exact knR_le xs i e k z g
    · rw [List.mem_singleton.1 g, bs_sz]; exact ct_le _ _ _ _
theorem VecAt.over {α : Type} {S : Sty α} {w w' : World} {a : Option Addr} {n c B : Nat} {l : List α} (h : VecAt S w a n c l) (hg : w.grownBy w' (some B)) (hne : ∀ b off s, 0 < n → a = some ⟨b, off, s⟩ → b ≠ B) (hok : ∀ x ∈ l, S.ok w' x) : VecAt S w' a n c l :=
  ⟨h.len, h.cap, h.capm, h.nl, hok, fun hn => by
    obtain ⟨b, off, ha, hlt, hc⟩ := h.cells hn
    refine ⟨b, off, ha, Nat.lt_of_lt_of_le hlt hg.size, fun i hi j u hu => ?_⟩
    exact hg.cell (hc i hi j u hu) (fun e => hne b off none hn ha (by cases e; rfl))⟩

def lenV : Value → Nat
  | .slice _ m _ => m
  | _ => 0
theorem wd_size (w : World) : (Go.sizeOf 9).run Tryz.prog w = .ok 1 w := by kernel_rfl
set_option maxRecDepth 100000 in
theorem slice_str (g n c p : Nat) (hp : p < c) (w : World) :
    (Instr.slice 23 (.slice (some ⟨g, 0, none⟩) n c) (some (.int .i64 (p : Int))) (some (.int .i64 ((p : Int) + 1))) none).run Tryz.prog w = .ok (.slice (some ⟨g, p, none⟩) 1 (c - p)) w := by
  have ht' : Tryz.prog.underlying 23 = some (.slice (Tryz.prog.elem 23)) := by simp [Program.elem, Tryz.underlying23]
  have he : Tryz.prog.elem 23 = 9 := by simp [Program.elem, Tryz.underlying23]
  rw [run_slice_lh w 23 _ _ _ ht' .i64 .i64 _ _ (by omega) (by omega) (by omega), he, wd_size]
  have e1 : ((p : Int) + 1).toNat = p + 1 := by omega
  simp [Result.andThen, sliced, e1, Addr.add, show ¬ c = p from by omega]
  try omega
theorem rep_sizes {l : List ByteArray} {q B : Nat} {z : ByteArray} (h : ∀ x ∈ l, x.size ≤ B) (hz : z.size ≤ B) : ∀ x ∈ l ++ List.replicate q z, x.size ≤ B := by
  intro x hx
  rcases List.mem_append.1 hx with g | g
  · exact h x g
  · rw [(List.mem_replicate.1 g).2]; exact hz
theorem vec_one {w : World} {g n c p : Nat} {l : List ByteArray} (h : VecAt StrS w (some ⟨g, 0, none⟩) n c l) (hp : p < n) : VecAt StrS w (some ⟨g, p, none⟩) 1 (c - p) [l.getD p ByteArray.empty] := by
  have h1 := h.cap
  have h2 := h.capm
  refine ⟨rfl, by omega, by omega, (fun e => by cases e), fun x hx => by rw [List.mem_singleton.1 hx]; exact h.all _ (vec_mem (S := StrS) (by rw [h.len]; exact hp)), fun _ => ?_⟩
  obtain ⟨b, off, he, hlt, hc⟩ := h.cells (by omega)
  cases he
  refine ⟨g, p, rfl, hlt, fun i hi j u hu => ?_⟩
  obtain rfl : i = 0 := by omega
  have h3 := hc p hp j u hu
  rw [show 0 + p * StrS.K + j = p + 0 * StrS.K + j from by show 0 + p * 1 + j = p + 0 * 1 + j; omega] at h3
  exact h3

set_option maxRecDepth 100000 in
set_option maxHeartbeats 8000000 in
theorem contentWords_any {w : World} {a : Option Addr} {n c : Nat} {xs : List Nat} (h : BytesAt w a n c xs) (hn : n ≤ 100000000) :
    Calls Tryz.prog 54 #[.slice a n c] w fun e w' => ∃ a' n' c', e = .returned (.slice a' n' c') ∧ VecAt StrS w' a' n' c' (rdW xs) ∧ Below w.heap.size w w' := by
  obtain ⟨j0, ji, jz0, jz1, jz2⟩ := info_parts ct_str
  have HN := Lib.hid (new_any h)
  have HXL := Lib.hid h.len
  clear h
  go_enter Tryz.func54, Tryz.ntmps54
  go_wp2_with fail
  refine HN.out.mono ?_
  rintro e w1 ⟨B, a1, c1, rfl, hcur, hb1, hBw, has⟩
  have HB1 := Lib.hid hb1
  have HBW := Lib.hid hBw
  have HBL := Lib.hid hcur.lt
  have HSL := Lib.hid (show ∀ b off s, 0 < n → a1 = some ⟨b, off, s⟩ → b < w1.heap.size from fun b off s hp he => by
    obtain ⟨b', off', he', hlt, _⟩ := hcur.src.cells hp
    rw [he] at he'; cases he'; exact hlt)
  have HNU := Lib.hid (cnum_any hcur 2048 (by omega) (by omega))
  clear hb1 hBw has hcur
  obtain ⟨r0, hr0⟩ : ∃ r, r = ccn xs 0 0 2048 2 := ⟨_, rfl⟩
  have hN0 := cn_most (xs := xs) (i := 0) (e := 0) (above := 2) (most := 2048) (by omega)
  have hRD : rdW xs = (let k := knR xs r0.2.1 r0.2.2 r0.1; let r := ccn xs k.2.1 k.2.2 2048 2; match wdF xs k.1 r.1 (r.1 + 1) [] r.2.1 r.2.2 with | none => [] | some t => if cend xs.length t.2.1 t.2.2 = 0 then t.1 else []) := by unfold rdW; rw [hr0]
  rw [← hr0] at HNU hN0
  obtain ⟨N, i1, e1⟩ := r0
  have HRD := Lib.hid hRD
  have hN2 : N ≤ 2048 := by simp only at hN0; omega
  have HNU := Lib.hid HNU.out
  clear hr0 hN0 hRD
  simp only at HNU
  go_wp2_with fail
  refine HNU.out.mono ?_
  rintro e w2 ⟨rfl, hc2, hg2⟩
  have HC2 := Lib.hid hc2
  have HG2 := Lib.hid hg2
  have HO2 := Lib.hid (World.ownsRow_nil w2 w1.heap.size 9 1)
  clear hc2 hg2
  go_wp2_with fail
  go_loopw [4, 13] (fun s4 s13 wr => ∃ (k c9 : Nat) (a9 : Option Addr), k ≤ N ∧ s13 = .int .i64 (k : Int) ∧ s4 = .slice a9 k c9 ∧ Hid (CurAt 155 wr B a1 n c1 xs (knR xs i1 e1 k).2.1 (knR xs i1 e1 k).2.2) ∧ Hid (wr.ownsRow w1.heap.size 9 1 (.slice a9 k c9) k (StrS.flat (knR xs i1 e1 k).1)) ∧ Hid (w1.grownBy wr (some B))) (fun _ s13 _ => N - (intOf s13).toNat)
  case atStart => exact ⟨0, 0, none, by omega, rfl, rfl, HC2, HO2, HG2⟩
  case round =>
    clear HC2 HO2 HG2
    obtain ⟨k, c9, a9, hk, rfl, rfl, HC, HO, HG⟩ := hrel
    rename World => wr
    by_cases hkn : k < N
    · have hki : (k : Int) < (N : Int) := by omega
      have HNX := Lib.hid (ct_any HC.out 1024 (by omega) (by omega))
      obtain ⟨r, hr⟩ : ∃ r, r = ct xs (knR xs i1 e1 k).2.1 (knR xs i1 e1 k).2.2 1024 := ⟨_, rfl⟩
      have HSR := Lib.hid (show knR xs i1 e1 (k + 1) = ((knR xs i1 e1 k).1 ++ [bs r.1], r.2) from by rw [knR, ← hr])
      rw [← hr] at HNX
      obtain ⟨bt, i2, e2⟩ := r
      have HNX := Lib.hid HNX.out
      simp only at HNX
      obtain ⟨tx, htx⟩ : ∃ tx, tx = bs bt := ⟨_, rfl⟩
      rw [← htx] at HNX
      have HTX := Lib.hid htx
      clear hr htx
      go_wp2_with fail
      refine HNX.out.mono ?_
      rintro e w3 ⟨rfl, hc3, hg3⟩
      have HG3 := Lib.hid (HG.out.trans hg3)
      have HC3 := Lib.hid (hc3.keptB ((Below.refl _ _).alloc (Nat.le_refl _) (.cells #[.string tx] 9)))
      have HO3 := Lib.hid (HO.out.kept hg3 (ct_low HO.out HBL.out))
      have HOA := Lib.hid (HO3.out.alloc (.cells #[.string tx] 9))
      have HSRC := Lib.hid (StrS.src w3 tx 9 (cs := #[.string tx]) rfl)
      have hsz3 : w1.heap.size ≤ w3.heap.size := HG3.out.size
      have HSZ := Lib.hid hsz3
      have HGA := Lib.hid (ct_over HG3.out (below_grown ((Below.refl w3.heap.size w3).alloc (Nat.le_refl _) (.cells #[.string tx] 9)) none) (fun g e => by cases e))
      clear hc3 hg3 hsz3
      go_wp2_with (at_builtin; refine wpList_append_own_at _ rfl (.tmp 15) (.tmp 18) 23 rfl w1.heap.size 9 j0 _ 1 16 Tryz.underlying23 ji jz0 jz1 jz2 rfl (by decide) _ k _ rfl HOA.out ⟨w3.heap.size, 0, none⟩ 1 1 [.string tx] rfl rfl HSRC.out (StrS.one tx) (by unfold maxLen; omega) (by omega) (Nat.le_trans HSZ.out (by simp)) ?_)
      intro v7 w7 ho7 hg7 _ _
      have hrow : ∀ g, (Value.slice a9 k c9).ownBlock = some g → w1.heap.size ≤ g := fun g hg => (HOA.out.lt g hg).1
      have HC7 := Lib.hid (show CurAt 155 w7 B a1 n c1 xs (knR xs i1 e1 (k + 1)).2.1 (knR xs i1 e1 (k + 1)).2.2 from by
        rw [HSR.out]
        exact HC3.out.over hg7 hrow HBL.out HSL.out)
      have HG7 := Lib.hid (ct_over HGA.out hg7 hrow)
      obtain ⟨g7, c7, rfl⟩ := ct_some2 ho7 (by omega)
      have HO7 := Lib.hid (show w7.ownsRow w1.heap.size 9 1 (.slice (some ⟨g7, 0, none⟩) (k + 1) c7) (k + 1) (StrS.flat (knR xs i1 e1 (k + 1)).1) from by
        rw [HSR.out, StrS.flat_snoc, ← HTX.out]; exact ho7)
      clear ho7 hg7 hrow
      go_wp2_with fail
      go_roundw
      case rel => exact ⟨k + 1, c7, _, by omega, by go_num, rfl, HC7, HO7, HG7⟩
      case measure => simp [intOf]; omega
    · obtain rfl : k = N := by omega
      obtain ⟨kn, hkn2⟩ : ∃ kn, kn = (knR xs i1 e1 k).1 := ⟨_, rfl⟩
      have HNUM := Lib.hid (cnum_any HC.out 2048 (by omega) (by omega))
      obtain ⟨r1, hr1⟩ : ∃ r, r = ccn xs (knR xs i1 e1 k).2.1 (knR xs i1 e1 k).2.2 2048 2 := ⟨_, rfl⟩
      have hR0 := cn_most (xs := xs) (i := (knR xs i1 e1 k).2.1) (e := (knR xs i1 e1 k).2.2) (above := 2) (most := 2048) (by omega)
      have hRD2 : rdW xs = (match wdF xs kn r1.1 (r1.1 + 1) [] r1.2.1 r1.2.2 with | none => [] | some t => if cend n t.2.1 t.2.2 = 0 then t.1 else []) := by rw [HRD.out, hkn2, hr1, ← HXL.out]
      rw [← hr1] at HNUM hR0
      obtain ⟨R, i2, e2⟩ := r1
      have HRD2 := Lib.hid hRD2
      have hR2 : R ≤ 2048 := by simp only at hR0; omega
      have HNUM := Lib.hid HNUM.out
      have HKL := Lib.hid (show kn.length = k from by rw [hkn2]; exact knR_len _ _ _ _)
      have HKS := Lib.hid (show ∀ z ∈ kn, z.size ≤ 140737488355328 from by rw [hkn2]; intro z hz; have := knR_le xs i1 e1 k z hz; have := HXL.out; omega)
      have HOK := Lib.hid (show wr.ownsRow w1.heap.size 9 1 (.slice a9 k c9) k (StrS.flat kn) from by rw [hkn2]; exact HO.out)
      have hkc : k ≤ c9 ∧ c9 ≤ 9223372036854775807 := by
        rcases HO.out.2 with ⟨he, h0⟩ | ⟨g, cap, cur, he, hg, hh, hnc, hcap, _⟩
        · cases he; exact ⟨Nat.le_refl _, by omega⟩
        · cases he; exact ⟨hnc, by unfold maxLen at hcap; exact hcap⟩
      have hkc1 := hkc.1
      have hkc2 := hkc.2
      clear hkn hr1 hR0 hRD2 hkn2 hkc HO
      simp only at HNUM HRD2
      go_wp2_with fail
      refine HNUM.out.mono ?_
      rintro e wk ⟨rfl, hck, hgk⟩
      have HCK := Lib.hid hck
      have HGK := Lib.hid (HG.out.trans hgk)
      have HOKK := Lib.hid (HOK.out.kept hgk (ct_low HOK.out HBL.out))
      have HVK := Lib.hid (show VecAt StrS wk a9 k c9 kn from VecAt.ofOwn (S := StrS) HOKK.out HKL.out HKS.out)
      have HKB := Lib.hid (show ∀ b off s, 0 < k → a9 = some ⟨b, off, s⟩ → b ≠ B ∧ b < wk.heap.size from fun b off s hp he => by
        subst he
        have h1 := HOKK.out.lt b (by
          obtain ⟨g, c', e'⟩ := ct_some2 HOKK.out hp
          rw [e']; cases e'; rfl)
        have h2 := HBL.out
        exact ⟨by omega, h1.2⟩)
      have HO0 := Lib.hid (World.ownsRow_nil wk wk.heap.size 9 1)
      have HG0 := Lib.hid (World.grownBy.refl wk (some B))
      have HBK := Lib.hid (show B < wk.heap.size from Nat.lt_of_lt_of_le HBL.out HGK.out.size)
      clear hck hgk HC HG HOK
      go_wp2_with fail
      go_loopw [5, 7, 8] (fun s5 s7 s8 wt => ∃ (f i e m d9 : Nat) (b9 : Option Addr) (l : List ByteArray), s5 = .slice b9 m d9 ∧ m ≤ R ∧ R - m < f ∧ Hid (l.length = m) ∧ Hid (∀ z ∈ l, z.size ≤ 140737488355328) ∧ Hid (CurAt 155 wt B a1 n c1 xs i e) ∧ Hid (wt.ownsRow wk.heap.size 9 1 (.slice b9 m d9) m (StrS.flat l)) ∧ Hid (wk.grownBy wt (some B)) ∧ Hid (wdF xs kn R (R + 1) [] i2 e2 = wdF xs kn R f l i e)) (fun s5 _ _ _ => R - lenV s5)
      case atStart => exact ⟨R + 1, i2, e2, 0, 0, none, [], rfl, by omega, by omega, Lib.hid rfl, Lib.hid (fun z hz => by cases hz), HCK, HO0, HG0, Lib.hid rfl⟩
      case round =>
        clear HCK HO0 HG0
        obtain ⟨f, i, e, m, d9, b9, l, rfl, hm, hf, HL, HLS, HC, HO, HG, HW⟩ := hrel
        rename World => wt
        obtain ⟨f, rfl⟩ : ∃ f', f = f' + 1 := ⟨f - 1, by omega⟩
        by_cases hmr : m < R
        · have hmi : (m : Int) < (R : Int) := by omega
          have hw1 : IntKind.i64.wrap ((k : Int) - 1) = (k : Int) - 1 := IntWalk.i64_in _ (by omega)
          have hw2 : IntKind.i64.wrap ((R : Int) - (m : Int)) = (R : Int) - (m : Int) := IntWalk.i64_in _ (by omega)
          have HN1 := Lib.hid (cnum_any HC.out ((k : Int) - 1) (by omega) (by omega))
          obtain ⟨r1, hr1⟩ : ∃ r, r = ccn xs i e ((k : Int) - 1) 2 := ⟨_, rfl⟩
          have hstep : wdF xs kn R (f + 1) l i e = (if (ccn xs r1.2.1 r1.2.2 ((R : Int) - (m : Int)) 2).1 = 0 then none else wdF xs kn R f (l ++ List.replicate (ccn xs r1.2.1 r1.2.2 ((R : Int) - (m : Int)) 2).1 (kn.getD r1.1 ByteArray.empty)) (ccn xs r1.2.1 r1.2.2 ((R : Int) - (m : Int)) 2).2.1 (ccn xs r1.2.1 r1.2.2 ((R : Int) - (m : Int)) 2).2.2) := by
            rw [wdF, HKL.out, HL.out, if_pos hmr, hr1]
          have hok1 : r1.2.2 = 0 → 0 ≤ (k : Int) - 1 ∧ (r1.1 : Int) ≤ (k : Int) - 1 := fun h => by rw [hr1] at h ⊢; exact cn_okmost h
          rw [← hr1] at HN1
          obtain ⟨p, i3, e3⟩ := r1
          have HN1 := Lib.hid HN1.out
          simp only at HN1 hstep hok1
          have HOK1 := Lib.hid hok1
          have HST := Lib.hid hstep
          clear hr1 hstep hok1
          go_wp2_with fail
          refine HN1.out.mono ?_
          rintro r w3 ⟨rfl, hc3, hg3⟩
          have HN2 := Lib.hid (cnum_any hc3 ((R : Int) - (m : Int)) (by omega) (by omega))
          obtain ⟨r2, hr2⟩ : ∃ r, r = ccn xs i3 e3 ((R : Int) - (m : Int)) 2 := ⟨_, rfl⟩
          have hq0 : (r2.1 : Int) ≤ (R : Int) - (m : Int) := by rw [hr2]; exact cn_most (by omega)
          have hq1 : r2.1 ≠ 0 → e3 = 0 := fun h => by rw [hr2] at h; exact cn_zero h
          have HST2 := HST.out
          rw [← hr2] at HST2 HN2
          obtain ⟨q, i4, e4⟩ := r2
          have HN2 := Lib.hid HN2.out
          simp only at HN2 hq0 hq1 HST2
          have HST2 := Lib.hid HST2
          have HQ1 := Lib.hid hq1
          have HG3 := Lib.hid (HG.out.trans hg3)
          have HO3 := Lib.hid (HO.out.kept hg3 (ct_low HO.out HBK.out))
          clear hr2 hq1 hc3 hg3
          go_wp2_with fail
          refine HN2.out.mono ?_
          rintro r w4 ⟨rfl, hc4, hg4⟩
          have HC4 := Lib.hid hc4
          have HG4 := Lib.hid (HG3.out.trans hg4)
          have HO4 := Lib.hid (HO3.out.kept hg4 (ct_low HO3.out HBK.out))
          clear hc4 hg4
          by_cases hq : q = 0
          · have hqi : (q : Int) = 0 := by omega
            have HNone := Lib.hid (show rdW xs = [] from by rw [HRD2.out, HW.out, HST2.out, if_pos hq])
            have hbw : Below w.heap.size w w4 := HB1.out.grown (HGK.out.trans HG4.out) HB1.out.size (fun d hd => by cases hd; exact HBW.out)
            have HBB := Lib.hid hbw
            clear hbw
            go_wp2_with fail
            go_ret
            exact ⟨none, 0, 0, rfl, by rw [HNone.out]; exact VecAt.empty _ none 0 (by omega) (fun _ => rfl), HBB.out⟩
          · have hqi : ¬ (q : Int) = 0 := by omega
            have hqb : ((q : Int) == 0) = false := by rw [beq_eq_false_iff_ne]; exact hqi
            have he3 := HQ1.out hq
            have hp := HOK1.out he3
            have hpk : p < k := by omega
            have hk0 : 0 < k := by omega
            have hqR : m + q ≤ R := by omega
            obtain ⟨ga, gc, hge⟩ := ct_some2 HOKK.out hk0
            cases hge
            have hsl := slice_str ga k c9 p (by omega)
            have hw3 : IntKind.i64.wrap ((p : Int) + 1) = (p : Int) + 1 := IntWalk.i64_in _ (by omega)
            have hvt : VecAt StrS w4 (some ⟨ga, 0, none⟩) k c9 kn := HVK.out.over HG4.out (fun b off s h0 he => (HKB.out b off s h0 he).1) HKS.out
            obtain ⟨z, hz⟩ : ∃ z, z = kn.getD p ByteArray.empty := ⟨_, rfl⟩
            have hzs : z.size ≤ 140737488355328 := by rw [hz]; exact HKS.out _ (vec_mem (S := StrS) (by rw [HKL.out]; exact hpk))
            have hv1 : VecAt StrS w4 (some ⟨ga, p, none⟩) 1 (c9 - p) [z] := by rw [hz]; exact vec_one hvt hpk
            have HRP := Lib.hid (repeatS_any hv1 q (by omega) (by omega))
            have HZ := Lib.hid hz
            have HZS := Lib.hid hzs
            clear hvt hv1 he3 hp hz hzs
            go_wp2_with fail
            refine HRP.out.mono ?_
            rintro r w5 ⟨v, rfl, hv5, hb5⟩
            obtain ⟨gv, gvc, rfl⟩ := ct_some2 hv5 (by omega)
            have HC5 := Lib.hid (HC4.out.keptB hb5)
            have hg5 : w4.grownBy w5 none := below_grown hb5 none
            have HG5 := Lib.hid (ct_over HG4.out hg5 (fun g e => by cases e))
            have HO5 := Lib.hid (HO4.out.kept hg5 (by cases hv : (Value.slice b9 m d9).ownBlock <;> simp))
            have HSRC := Lib.hid (VecAt.src (VecAt.ofOwn (S := StrS) hv5 (by simp) (fun x hx => by rw [(List.mem_replicate.1 hx).2]; exact HZS.out)))
            have HFL := Lib.hid (show (StrS.flat (List.replicate q z)).length = q * 1 from by rw [StrS.flat_len, List.length_replicate]; rfl)
            have HONE := Lib.hid (StrS.flat_one (List.replicate q z))
            have hsz5 : wk.heap.size ≤ w5.heap.size := HG5.out.size
            have HSZ := Lib.hid hsz5
            clear hv5 hb5 hg5 hsz5
            go_wp2_with (at_builtin; refine wpList_append_own_at _ rfl (.tmp 40) (.tmp 47) 23 rfl wk.heap.size 9 j0 _ 1 16 Tryz.underlying23 ji jz0 jz1 jz2 rfl (by decide) _ m _ rfl HO5.out ⟨gv, 0, none⟩ q gvc (StrS.flat (List.replicate q z)) rfl HFL.out HSRC.out HONE.out (by unfold maxLen; omega) (by omega) HSZ.out ?_)
            intro v7 w7 ho7 hg7 _ _
            have hrow : ∀ g, (Value.slice b9 m d9).ownBlock = some g → wk.heap.size ≤ g := fun g hg => (HO5.out.lt g hg).1
            have HC7 := Lib.hid (HC5.out.over hg7 hrow HBK.out (fun b off s hp he => Nat.lt_of_lt_of_le (HSL.out b off s hp he) HGK.out.size))
            have HG7 := Lib.hid (ct_over HG5.out hg7 hrow)
            obtain ⟨g7, c7, rfl⟩ := ct_some2 ho7 (by omega)
            have HO7 := Lib.hid (show w7.ownsRow wk.heap.size 9 1 (.slice (some ⟨g7, 0, none⟩) (m + q) c7) (m + q) (StrS.flat (l ++ List.replicate q z)) from by
              rw [show StrS.flat (l ++ List.replicate q z) = StrS.flat l ++ StrS.flat (List.replicate q z) from by unfold Sty.flat; rw [List.flatMap_append]]; exact ho7)
            clear ho7 hg7 hrow hsl
            go_wp2_with fail
            go_roundw
            case rel => exact ⟨f, i4, e4, m + q, c7, _, l ++ List.replicate q z, rfl, by omega, by omega, Lib.hid (by rw [List.length_append, List.length_replicate, HL.out]), Lib.hid (rep_sizes HLS.out HZS.out), HC7, HO7, HG7, Lib.hid (by rw [HW.out, HST2.out, if_neg hq, HZ.out])⟩
            case measure => simp [lenV]; omega
        · obtain rfl : m = R := by omega
          have HR2 := Lib.hid (show rdW xs = if cend n i e = 0 then l else [] from by rw [HRD2.out, HW.out, wdF, if_neg (by rw [HL.out]; omega)])
          have hmi : ¬ ((m : Int) < (m : Int)) := by omega
          have HW := whole_any HC.out b9 m d9
          have hbw : Below w.heap.size w wt := HB1.out.grown (HGK.out.trans HG.out) HB1.out.size (fun d hd => by cases hd; exact HBW.out)
          have hv : VecAt StrS wt b9 m d9 l := VecAt.ofOwn (S := StrS) HO.out HL.out HLS.out
          have HV := Lib.hid hv
          have HBW2 := Lib.hid hbw
          clear hmr hv hbw
          by_cases hz : cend n i e = 0
          · rw [if_pos hz] at HW
            have HW := Lib.hid HW
            have HZ := Lib.hid hz
            clear hz
            go_wp2_with fail
            refine HW.out.mono ?_
            rintro r w5 ⟨rfl, q, hq⟩
            have HQ := Lib.hid hq
            clear hq
            go_wp2_with fail
            go_ret
            refine ⟨b9, m, d9, rfl, ?_, ?_⟩
            · rw [HR2.out, if_pos HZ.out, HQ.out]
              exact HV.out.kept (ct_drewN (Below.refl _ _) (Nat.le_refl _) q)
            · rw [HQ.out]; exact ct_drewN HBW2.out HBW2.out.size q
          · rw [if_neg hz] at HW
            have HW := Lib.hid HW
            have HZ := Lib.hid hz
            clear hz
            go_wp2_with fail
            refine HW.out.mono ?_
            rintro r w5 ⟨rfl, q, hq⟩
            have HQ := Lib.hid hq
            clear hq
            go_wp2_with fail
            go_ret
            refine ⟨none, 0, 0, rfl, ?_, ?_⟩
            · rw [HR2.out, if_neg HZ.out]
              exact VecAt.empty _ none 0 (by omega) (fun _ => rfl)
            · rw [HQ.out]; exact ct_drewN HBW2.out HBW2.out.size q
end Go.Proofs.YtpbijdoemdoijaaGreatDoor
end PkCa17_1
section PkCa17_2
/- l[n:] of texts, where they lie. -/
namespace Go.Proofs.YtpbijdoemdoijaaGreatDoor
open Go.RowKit
set_option linter.unusedVariables false

set_option maxRecDepth 100000 in
theorem slice_from (a : Option Addr) (n c i : Nat) (hi : i ≤ n) (w : World) :
    (Instr.slice 23 (.slice a n c) (some (.int .i64 (i : Int))) none none).run Tryz.prog w = .ok (.slice (if c = i then a else a.map (·.add i)) (n - i) (c - i)) w := by
  have ht' : Tryz.prog.underlying 23 = some (.slice (Tryz.prog.elem 23)) := by simp [Program.elem, Tryz.underlying23]
  have he : Tryz.prog.elem 23 = 9 := by simp [Program.elem, Tryz.underlying23]
  rw [run_slice_l w 23 _ _ _ ht' .i64 _ (by omega) (by omega), he, wd_size]
  simp only [Result.andThen, sliced, Int.toNat_natCast, Nat.mul_one]
theorem vec_drop {w : World} {a : Option Addr} {n c i : Nat} {l : List ByteArray} (h : VecAt StrS w a n c l) (hi : i ≤ n) : VecAt StrS w (if c = i then a else a.map (·.add i)) (n - i) (c - i) (l.drop i) := by
  have h1 := h.cap
  have h2 := h.capm
  have h3 := h.len
  refine ⟨by rw [List.length_drop, h3], by omega, by omega, fun e => ?_, fun x hx => h.all x (List.mem_of_mem_drop hx), fun hp => ?_⟩
  · by_cases hc : c = i
    · omega
    · rw [if_neg hc] at e
      have ha : a = none := by cases a <;> simp_all
      have := h.nl ha
      omega
  · obtain ⟨b, off, rfl, hlt, hc⟩ := h.cells (by omega)
    rw [if_neg (by omega)]
    refine ⟨b, off + i, by simp [Addr.add], hlt, fun k hk j u hu => ?_⟩
    have hg : (l.drop i).getD k StrS.z = l.getD (i + k) StrS.z := by rw [List.getD_eq_getElem?_getD, List.getD_eq_getElem?_getD, List.getElem?_drop]
    rw [hg] at hu
    have h4 := hc (i + k) (by omega) j u hu
    rw [show off + (i + k) * StrS.K + j = off + i + k * StrS.K + j from by show off + (i + k) * 1 + j = off + i + k * 1 + j; omega] at h4
    exact h4
end Go.Proofs.YtpbijdoemdoijaaGreatDoor
end PkCa17_2

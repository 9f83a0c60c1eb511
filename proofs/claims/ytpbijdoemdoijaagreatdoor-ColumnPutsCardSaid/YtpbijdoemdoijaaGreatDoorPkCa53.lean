/- Texts put together by packtpl2.py: ColPutsWalk. -/
import Derived.Test.YtpbijdoemdoijaaGreatDoorPkCa18
import Derived.Test.YtpbijdoemdoijaaGreatDoorPkCa19
import Derived.Test.YtpbijdoemdoijaaGreatDoorPkCa37
import Derived.Test.YtpbijdoemdoijaaGreatDoorPkCa41
import Derived.Test.YtpbijdoemdoijaaGreatDoorPkCa43
import Derived.Test.YtpbijdoemdoijaaGreatDoorPkCa52
import Derived.Laws.AppendOwnNone
section PkCa53_0
/- ColumnPuts, walked. (Written by gencolputs.py.) -/
namespace Go.Proofs.YtpbijdoemdoijaaGreatDoor
open Go.ChangeShapes Go.WideShapes Go.Deep Go.RowKit BitsPlain NumsPlain CrcPlain
open DeltaPlain (chk chk_ok tl_bound tl_length flat_len)
set_option linter.unusedVariables false

/-- append of texts, wherever they lie, to texts that the call owns -/
theorem wpList_append_strs {w : World} {ops : Array Oper} {rest : List Oper} {o : Oper} {a : Act} {Q : Exit → Act → World → Prop} (hgd : o.guard = none) (s x : Operand)
    (ho : o.op = .call { callee := .builtin .append, args := #[s, x], argTypes := #[23, 23] })
    (base : Nat) (v : Value) (n : Nat) (xs : List ByteArray) (hs : a.eval s = v) (hown : w.ownsRow base 9 1 v n (StrS.flat xs))
    (src : Option Addr) (m c : Nat) (ys : List ByteArray) (hx : a.eval x = .slice src m c) (hb : VecAt StrS w src m c ys)
    (h63 : n + m ≤ 100000000) (hbase : base ≤ w.heap.size)
    (h : ∀ v' w', w'.ownsRow base 9 1 v' (n + m) (StrS.flat (xs ++ ys)) → w.grownBy w' v.ownBlock → wpList Tryz.prog ops Q rest (a.put o.dst v') w') : wpList Tryz.prog ops Q (o :: rest) a w := by
  obtain ⟨i0, hi, hz0, hz1, hz2⟩ := info_parts ct_str
  rcases src with _ | ad
  · have hc := hb.nl rfl
    have hm : m = 0 := by have := hb.cap; omega
    subst hm
    subst hc
    have hy : ys = [] := List.eq_nil_of_length_eq_zero hb.len
    subst hy
    refine wpList_append_own_none hgd s x 23 ho base 9 i0 1 Tryz.underlying23 hi v n (StrS.flat xs) hs hown hx ?_
    exact h v w (by simpa using hown) (World.grownBy.refl _ _)
  · refine wpList_append_own w hgd s x 23 ho base 9 i0 _ 1 16 Tryz.underlying23 hi hz0 hz1 hz2 rfl (by decide) v n (StrS.flat xs) hs hown ad m c (StrS.flat ys) hx (by rw [StrS.flat_len, hb.len]; rfl) hb.src (StrS.flat_one _) (by unfold maxLen; omega) (by omega) hbase ?_
    intro v' w' h1 h2 _
    exact h v' w' (by rw [show StrS.flat (xs ++ ys) = StrS.flat xs ++ StrS.flat ys from by unfold Sty.flat; rw [List.flatMap_append]]; exact h1) h2

/-- how long the first k texts are, each counted to 2,000 at most -/
def smT (l : List ByteArray) : Nat → Nat
  | 0 => 0
  | k + 1 => smT l k + min (l.getD k ByteArray.empty).size 2000
theorem smT_mono (l : List ByteArray) (k : Nat) : ∀ m, smT l k ≤ smT l (k + m)
  | 0 => Nat.le_refl _
  | m + 1 => Nat.le_trans (smT_mono l k m) (by rw [← Nat.add_assoc, smT]; omega)
theorem smT_one {l : List ByteArray} {k : Nat} (hk : k < l.length) (h : smT l l.length ≤ 1600) : (l.getD k ByteArray.empty).size ≤ 1600 := by
  have h1 := smT_mono l (k + 1) (l.length - (k + 1))
  rw [show k + 1 + (l.length - (k + 1)) = l.length from by omega, smT] at h1
  omega
/-- how long all are -/
def sumS : List ByteArray → Nat
  | [] => 0
  | s :: l => s.size + sumS l
theorem sumS_app : ∀ a b, sumS (a ++ b) = sumS a + sumS b
  | [], b => by simp [sumS]
  | s :: a, b => by rw [List.cons_append, sumS, sumS_app a b, sumS]; omega
theorem smT_sum (l : List ByteArray) (h : ∀ s ∈ l, s.size ≤ 2000) : ∀ k, k ≤ l.length → smT l k = sumS (l.take k)
  | 0, _ => by simp [smT, sumS]
  | k + 1, hk => by
    have hl : k < l.length := by omega
    have h1 : (l.getD k ByteArray.empty).size ≤ 2000 := h _ (by rw [show l.getD k ByteArray.empty = l[k] from by simp [hl]]; exact List.getElem_mem _)
    rw [smT, smT_sum l h k (by omega), List.take_add_one, List.getElem?_eq_getElem hl, sumS_app]
    simp only [Option.toList_some, sumS, Nat.add_zero]
    rw [show l.getD k ByteArray.empty = l[k] from by simp [hl]] at h1 ⊢
    omega
theorem sumS_sub : ∀ (kn l : List ByteArray), kn.Nodup → (∀ x ∈ kn, x ∈ l) → sumS kn ≤ sumS l
  | [], _, _, _ => by simp [sumS]
  | x :: r, l, hn, hs => by
    obtain ⟨s, t, rfl⟩ := List.append_of_mem (hs x (by simp))
    obtain ⟨h1, h2⟩ := List.nodup_cons.1 hn
    have h3 := sumS_sub r (s ++ t) h2 fun y hy => by
      have h4 := hs y (List.mem_cons_of_mem _ hy)
      rcases List.mem_append.1 h4 with g | g
      · exact List.mem_append_left _ g
      · rcases List.mem_cons.1 g with g | g
        · exact absurd (g ▸ hy) h1
        · exact List.mem_append_right _ g
    rw [sumS_app] at h3
    rw [sumS, sumS_app, sumS]
    omega
theorem kno_nodup (l : List ByteArray) : (kno l).Nodup := by
  rw [← dic_eq]
  refine (dicTo_facts l l.length (Nat.le_refl _)).1.imp fun {x y} g e => ?_
  rw [e, LabPlain.ltB_irrefl] at g; cases g
theorem wnTo_sum (kn : List ByteArray) (h : ∀ s ∈ kn, s.size ≤ 1024) : ∀ k, k ≤ kn.length → (wnTo kn k).length ≤ k * 10 + sumS (kn.take k)
  | 0, _ => by simp [wnTo]
  | k + 1, hk => by
    have hl : k < kn.length := by omega
    have h1 := wnTo_sum kn h k (by omega)
    have h2 : (kn.getD k ByteArray.empty).size ≤ 1024 := h _ (by rw [show kn.getD k ByteArray.empty = kn[k] from by simp [hl]]; exact List.getElem_mem _)
    have h3 := pu_ten (n := sz kn k) (by unfold sz; omega)
    rw [wnTo, List.length_append, List.length_append, byl_len, List.take_add_one, List.getElem?_eq_getElem hl, sumS_app]
    simp only [Option.toList_some, sumS, Nat.add_zero]
    rw [show kn.getD k ByteArray.empty = kn[k] from by simp [hl]]
    omega
theorem txTo_sum (l : List ByteArray) : ∀ k, k ≤ l.length → (txTo l k).length ≤ sumS (l.take k)
  | 0, _ => by simp [txTo]
  | k + 1, hk => by
    have hl : k < l.length := by omega
    have h1 := txTo_sum l k (by omega)
    rw [txTo, List.length_append, byl_len, List.take_add_one, List.getElem?_eq_getElem hl, sumS_app]
    simp only [Option.toList_some, sumS, Nat.add_zero]
    rw [show l.getD k ByteArray.empty = l[k] from by simp [hl]]
    omega
theorem few_all {l : List ByteArray} (h2 : smT l l.length ≤ 1600) : ∀ s ∈ l, s.size ≤ 1600 := fun s hs => by
  obtain ⟨i, hi, rfl⟩ := List.getElem_of_mem hs
  have := smT_one hi h2
  rwa [show l.getD i ByteArray.empty = l[i] from by simp [hi]] at this
theorem few_sum {l : List ByteArray} (h2 : smT l l.length ≤ 1600) : sumS l ≤ 1600 := by
  have h3 := smT_sum l (fun s hs => by have := few_all h2 s hs; omega) l.length (Nat.le_refl _)
  rw [List.take_length] at h3
  omega
theorem few_len {l : List ByteArray} (h1 : l.length ≤ 60) (h2 : smT l l.length ≤ 1600) (hf : ∀ s ∈ l, s.size ≤ 1024) : (wordsC l).length ≤ 4000 ∧ (textsC l).length ≤ 4000 := by
  have hs := few_sum h2
  have hk1 := kno_le (l := l)
  have hk2 := sumS_sub (kno l) l (kno_nodup l) fun x hx => ((kno_facts l).2 x).1 hx
  constructor
  · have a1 := wnTo_sum (kno l) (fun s hs => hf s (((kno_facts l).2 s).1 hs)) (kno l).length (Nat.le_refl _)
    rw [List.take_length] at a1
    have a2 := pu_ten (n := (kno l).length) (by omega)
    have a3 := pu_ten (n := l.length) (by omega)
    have a4 := wrR_len (kno l) (by omega) l.length l (by omega)
    unfold wordsC wnP
    simp only [List.length_append]
    omega
  · have a1 := txTo_sum l l.length (Nat.le_refl _)
    rw [List.take_length] at a1
    have a2 := szTo_len l hf l.length (Nat.le_refl _)
    have a3 := pu_ten (n := l.length) (by omega)
    unfold textsC
    simp only [List.length_append]
    omega
theorem few_ok {l : List ByteArray} (h1 : l.length ≤ 60) (h2 : smT l l.length ≤ 1600) (hf : fitTo l l.length = true) : wdErr l = false ∧ txErr l = false := by
  obtain ⟨a1, a2⟩ := few_len h1 h2 (fit_all hf)
  unfold wdErr txErr
  rw [hf, decide_eq_false (by omega : ¬ 2048 < l.length), decide_eq_false (by omega : ¬ 65536 < (wordsC l).length), decide_eq_false (by omega : ¬ 65536 < (textsC l).length)]
  exact ⟨rfl, rfl⟩
theorem nofit_err {l : List ByteArray} (hf : fitTo l l.length = false) : wdErr l = true ∧ txErr l = true := by
  unfold wdErr txErr
  rw [hf]
  simp
theorem intC_short {zs : List Int} (h : chk zs 0 = 0) (hz : zs.length ≤ 60) : (intC zs).length ≤ 4000 := by
  obtain ⟨_, _, hl, hb⟩ := chk_ok h
  have h1 := pu_ten (n := zs.length) (by omega)
  have h2 := flat_len (tl_bound hb (bst zs : Int))
  rw [tl_length] at h2
  unfold intC
  rw [eb_ok (by rw [chk_bst]; exact h)]
  simp only [List.length_cons, DeltaPlain.enc, List.length_append]
  omega

set_option maxRecDepth 100000 in
set_option maxHeartbeats 2000000 in
theorem cfew_any {w : World} {a : Option Addr} {n c : Nat} {l : List ByteArray} (h : VecAt StrS w a n c l) :
    Calls Tryz.prog 8 #[.slice a n c] w fun e w' => (∃ b, e = .returned (.bool b) ∧ Hid (b = true → l.length ≤ 60 ∧ smT l l.length ≤ 1600)) ∧ Below w.heap.size w w' := by
  have hcap := h.cap
  have hcm := h.capm
  have HL := Lib.hid h.len
  have HH := Lib.hid h
  by_cases hn : n ≤ 60
  · have hni : ¬ (60 : Int) < (n : Int) := by omega
    clear h
    go_enter Tryz.func8, Tryz.ntmps8
    go_wp2_with fail
    go_loopw [3, 5, 11] (fun s3 _ s11 wr => ∃ k p : Nat, k ≤ n ∧ p ≤ 1600 ∧ s11 = .int .i64 (k : Int) ∧ s3 = .int .i64 (p : Int) ∧ Hid (p = smT l k) ∧ Hid (Below w.heap.size w wr)) (fun _ _ s11 _ => n - (intOf s11).toNat)
    case atStart => exact ⟨0, 0, by omega, by omega, rfl, rfl, Lib.hid rfl, Lib.hid (Below.refl _ _)⟩
    case round =>
      obtain ⟨k, p, hk, hp, rfl, rfl, HP, HB⟩ := hrel
      rename World => wr
      by_cases hkn : k < n
      · have hki : (k : Int) < (n : Int) := by omega
        obtain ⟨b, off, rfl, hlt, _, hc9⟩ := (HH.out.kept HB.out).get hkn
        obtain ⟨x, hx⟩ : ∃ x, x = l.getD k ByteArray.empty := ⟨_, rfl⟩
        have hx2 : l.getD k StrS.z = x := hx.symm
        rw [hx2] at hc9
        have c0 := str_cell hc9
        obtain ⟨q, hq⟩ : ∃ q, q = min x.size 2000 := ⟨_, rfl⟩
        have hq2 : q ≤ 2000 := by omega
        have hmin : min (x.size : Int) 2000 = (q : Int) := by omega
        obtain ⟨r, hr⟩ : ∃ r, r = p + q := ⟨_, rfl⟩
        have hsum : IntKind.i64.wrap ((p : Int) + (q : Int)) = (r : Int) := by rw [IntWalk.i64_in _ (by omega)]; omega
        have HR := Lib.hid (show r = smT l (k + 1) from by rw [smT, ← hx, ← HP.out, ← hq]; exact hr)
        clear hc9 hx hx2 hlt hq hr
        by_cases hr16 : r ≤ 1600
        · have hri : ¬ (1600 : Int) < (r : Int) := by omega
          go_wp2_with fail
          go_roundw
          case rel => exact ⟨k + 1, r, by omega, by omega, by go_num, rfl, HR, HB⟩
          case measure => simp [intOf]; omega
        · have hri : (1600 : Int) < (r : Int) := by omega
          go_wp2_with fail
          go_ret
          exact ⟨⟨false, rfl, Lib.hid (fun e => by cases e)⟩, HB.out⟩
      · obtain rfl : n = k := by omega
        go_wp2_with fail
        go_ret
        exact ⟨⟨true, rfl, Lib.hid (fun _ => ⟨by rw [HL.out]; exact hn, by rw [HL.out, ← HP.out]; exact hp⟩)⟩, HB.out⟩
  · have hni : (60 : Int) < (n : Int) := by omega
    clear h
    go_enter Tryz.func8, Tryz.ntmps8
    go_wp2_with fail
    go_ret
    exact ⟨⟨false, rfl, Lib.hid (fun e => by cases e)⟩, Below.refl _ _⟩

set_option maxRecDepth 100000 in
set_option maxHeartbeats 8000000 in
theorem columnPuts_walk (a0 : Option Addr) (len0 cap0 : Nat) (z0 : List Int) (a1 : Option Addr) (len1 cap1 : Nat) (z1 : List ByteArray) (a2 : Option Addr) (len2 cap2 : Nat) (z2 : List Bool) (w : World) (hT : Table w) (w0 : IsRow .i64 8 w a0 len0 cap0 z0) (w1 : VecAt StrS w a1 len1 cap1 z1) (w2 : FlAt w a2 len2 cap2 z2) :
    Calls Tryz.prog 3 #[.slice a0 len0 cap0, .slice a1 len1 cap1, .slice a2 len2 cap2] w fun e w' => e = .returned (.bool true) ∧ Below w.heap.size w w' := by
  have hz := w0.ints
  obtain ⟨zs, hzs⟩ : ∃ zs, zs = z0.take len0 := ⟨_, rfl⟩
  rw [← hzs] at hz
  have HL := Lib.hid (lives10_any hT)
  have HT := Lib.hid (show ∀ w', Below w.heap.size w w' → Table w' from fun w' h => hT.below h)
  have HZ := Lib.hid hz
  have HV := Lib.hid w1
  have HF := Lib.hid w2
  have HZL := Lib.hid (show zs.length = len0 from hz.len)
  have HVL := Lib.hid (show z1.length = len1 from w1.len)
  have HFL := Lib.hid (show z2.length = len2 from w2.len)
  have hcap1 := w1.cap
  have hcm1 := w1.capm
  clear w0 w1 w2 hz hT hzs
  by_cases hq0 : (60 : Int) < (len0 : Int)
  · go_enter Tryz.func3, Tryz.ntmps3
    go_wp2_with fail
    refine HL.out.mono ?_
    rintro e w1 ⟨rfl, hb1⟩
    have HB1 := Lib.hid hb1
    clear hb1
    have HLE := Lib.hid (lives10_any (HT.out w1 HB1.out))
    go_wp2_with fail
    refine HLE.out.mono ?_
    rintro e wz ⟨rfl, hbz⟩
    have HBZ := Lib.hid (HB1.out.trans (hbz.mono HB1.out.size))
    clear hbz
    go_wp2_with fail
    go_ret
    exact ⟨rfl, HBZ.out⟩
  go_enter Tryz.func3, Tryz.ntmps3
  go_wp2_with fail
  refine HL.out.mono ?_
  rintro e w1 ⟨rfl, hb1⟩
  have HB1 := Lib.hid hb1
  clear hb1
  have HFW := Lib.hid (cfew_any (HV.out.kept HB1.out))
  go_wp2_with fail
  refine HFW.out.mono ?_
  rintro e w2 ⟨⟨fb, rfl, HFB⟩, hb2⟩
  have HB2 := Lib.hid (HB1.out.trans (hb2.mono HB1.out.size))
  clear hb2
  cases fb with
  | false =>
    have HLE := Lib.hid (lives10_any (HT.out w2 HB2.out))
    go_wp2_with fail
    refine HLE.out.mono ?_
    rintro e wz ⟨rfl, hbz⟩
    have HBZ := Lib.hid (HB2.out.trans (hbz.mono HB2.out.size))
    clear hbz
    go_wp2_with fail
    go_ret
    exact ⟨rfl, HBZ.out⟩
  | true =>
    have hfw := HFB.out rfl
    have hl1 : len1 ≤ 60 := by rw [← HVL.out]; exact hfw.1
    have HSM := Lib.hid hfw.2
    clear hfw
    by_cases hq2 : (300 : Int) < (len2 : Int)
    · have HLE := Lib.hid (lives10_any (HT.out w2 HB2.out))
      go_wp2_with fail
      refine HLE.out.mono ?_
      rintro e wz ⟨rfl, hbz⟩
      have HBZ := Lib.hid (HB2.out.trans (hbz.mono HB2.out.size))
      clear hbz
      go_wp2_with fail
      go_ret
      exact ⟨rfl, HBZ.out⟩
    have hl0 : len0 ≤ 60 := by omega
    have hl2 : len2 ≤ 300 := by omega
    by_cases hc : chk zs 0 = 0
    · have HC := Lib.hid hc
      have HP := Lib.hid (putInts_ok (HT.out w2 HB2.out) (HZ.out.kept HB2.out) (by omega) hc (intC_byte hc))
      clear hc
      go_wp2_with fail
      refine HP.out.mono ?_
      rintro e w3 ⟨ia, im, ic, rfl, _, hi, hb⟩
      have HB3 := Lib.hid (HB2.out.trans (hb.mono HB2.out.size))
      have HI := Lib.hid hi
      have hck := rcheck_any (HZ.out.kept HB3.out) 0
      rw [HC.out] at hck
      have HCK := Lib.hid hck
      clear hb hi hck
      go_wp2_with fail
      refine HCK.out.mono ?_
      rintro e w4 ⟨rfl, rfl⟩
      have HIO := Lib.hid (rintsOf_any (HZ.out.kept HB3.out) HC.out)
      go_wp2_with fail
      refine HIO.out.mono ?_
      rintro e wa0 ⟨va, rfl, hoa, hba⟩
      have HBa0 := Lib.hid (HB3.out.trans (hba.mono HB3.out.size))
      have HG0 := Lib.hid (HI.out.kept hba)
      skip
      obtain ⟨aa0, ca0, rfl, ha, _⟩ := BytesAt.ofOwn hoa (intC_byte HC.out) (by have h9 : (intC zs).length ≤ 4000 := (intC_short HC.out (by rw [HZL.out]; exact hl0)); omega)
      have HCH0 := Lib.hid (rchunk_any (k := 1) ha (intC_short HC.out (by rw [HZL.out]; exact hl0)) (by omega))
      clear hoa hba ha
      go_wp2_with fail
      refine HCH0.out.mono ?_
      rintro e wb0 ⟨ab0, mb0, cb0, rfl, hcb, hbb⟩
      have HBb0 := Lib.hid (HBa0.out.trans (hbb.mono HBa0.out.size))
      skip
      have hsm := same_any (HG0.out.kept hbb) hcb
      rw [beq_self_eq_true] at hsm
      have HSM0 := Lib.hid hsm
      clear hbb hcb hsm
      go_wp2_with fail
      refine HSM0.out.mono ?_
      rintro e we0 ⟨rfl, rfl⟩
      have HBe0 := HBb0
      go_wp2_with fail
      go_loopw [10, 12, 71] (fun s10 _ s71 wr => ∃ k : Nat, k ≤ len1 ∧ s71 = .int .i64 (k : Int) ∧ s10 = .bool (!fitTo z1 k) ∧ Hid (Below w.heap.size w wr)) (fun _ _ s71 _ => len1 - (intOf s71).toNat)
      case atStart => exact ⟨0, by omega, rfl, rfl, HBb0⟩
      case round =>
        obtain ⟨k, hk, rfl, rfl, HB⟩ := hrel
        rename World => wr
        by_cases hkn : k < len1
        · have hki : (k : Int) < (len1 : Int) := by omega
          obtain ⟨b, off, rfl, hlt, _, hc9⟩ := (HV.out.kept HB.out).get hkn
          obtain ⟨x, hx⟩ : ∃ x, x = z1.getD k ByteArray.empty := ⟨_, rfl⟩
          have hx2 : z1.getD k StrS.z = x := hx.symm
          rw [hx2] at hc9
          have c0 := str_cell hc9
          obtain ⟨f0, hf0⟩ : ∃ f0, f0 = fitTo z1 k := ⟨_, rfl⟩
          rw [← hf0]
          by_cases hxs : x.size ≤ 1024
          · have hxi : ¬ (1024 : Int) < (x.size : Int) := by omega
            have HN := Lib.hid (show (!fitTo z1 (k + 1)) = !f0 from by rw [fitTo, ← hf0, ← hx, decide_eq_true hxs, Bool.and_true])
            clear hc9 hx hx2 hlt hf0
            cases f0 with
            | true =>
              go_wp2_with fail
              go_roundw
              case rel => exact ⟨k + 1, by omega, by go_num, by rw [HN.out]; rfl, HB⟩
              case measure => simp [intOf]; omega
            | false =>
              go_wp2_with fail
              go_roundw
              case rel => exact ⟨k + 1, by omega, by go_num, by rw [HN.out]; rfl, HB⟩
              case measure => simp [intOf]; omega
          · have hxi : (1024 : Int) < (x.size : Int) := by omega
            have HN := Lib.hid (show (!fitTo z1 (k + 1)) = true from by rw [fitTo, ← hf0, ← hx, decide_eq_false hxs, Bool.and_false]; rfl)
            clear hc9 hx hx2 hlt hf0
            cases f0 with
            | true =>
              go_wp2_with fail
              go_roundw
              case rel => exact ⟨k + 1, by omega, by go_num, by rw [HN.out], HB⟩
              case measure => simp [intOf]; omega
            | false =>
              go_wp2_with fail
              go_roundw
              case rel => exact ⟨k + 1, by omega, by go_num, by rw [HN.out], HB⟩
              case measure => simp [intOf]; omega
        · obtain rfl : len1 = k := by omega
          have o10 := World.ownsRow_lit (base := wr.heap.size) (e := 9) (size := 1) wr #[] 0 (Nat.le_refl _) (by unfold maxLen; omega) rfl
          have HBA := Lib.hid (show Below wr.heap.size wr (wr.alloc (.cells #[] 9)) from (Below.refl _ _).alloc (Nat.le_refl _) _)
          have HOA := Lib.hid (show (wr.alloc (.cells #[] 9)).ownsRow wr.heap.size 9 1 (.slice (some ⟨wr.heap.size, 0, none⟩) 0 0) 0 (StrS.flat []) from o10)
          have HVA := Lib.hid (HV.out.kept (HB.out.trans (HBA.out.mono HB.out.size)))
          have HSZ := Lib.hid HBA.out.size
          clear o10 hkn
          obtain ⟨f0, hf0⟩ : ∃ f0, f0 = fitTo z1 len1 := ⟨_, rfl⟩
          rw [← hf0]
          have HF0 := Lib.hid hf0
          clear hf0
          go_wp2_with (at_builtin; refine wpList_append_strs rfl (.tmp 82) (.tmp 83) rfl wr.heap.size _ 0 [] rfl HOA.out _ _ _ z1 rfl HVA.out (by omega) HSZ.out ?_)
          intro vo wo hoo hgo
          have HBO := Lib.hid (HB.out.trans ((below_own HBA.out HOA.out hgo (Nat.le_refl _) HSZ.out).mono HB.out.size))
          obtain ⟨ao, co, rfl, hvo⟩ : ∃ ao co, vo = .slice ao len1 co ∧ VecAt StrS wo ao len1 co z1 := by
            rcases hoo.2 with ⟨rfl, h0⟩ | ⟨g, cap, cur, rfl, _⟩
            · obtain rfl : len1 = 0 := h0
              exact ⟨none, 0, rfl, VecAt.ofOwn (S := StrS) hoo HVL.out HV.out.all⟩
            · exact ⟨_, _, rfl, VecAt.ofOwn (S := StrS) hoo HVL.out HV.out.all⟩
          have HVO := Lib.hid hvo
          clear hoo hgo hvo
          have HPW := Lib.hid (putwords_any (HT.out wo HBO.out) HVO.out)
          go_wp2_with fail
          refine HPW.out.mono ?_
          rintro e wp ⟨hep, hbp⟩
          have HBP := Lib.hid (HBO.out.trans (hbp.mono HBO.out.size))
          have HVP := Lib.hid (HVO.out.kept hbp)
          have HPT := Lib.hid (puttexts_any (HT.out wp HBP.out) HVP.out)
          have HEP := Lib.hid hep
          clear hbp hep
          cases f0 with
          | false =>
            have hne := nofit_err (l := z1) (by rw [HVL.out]; exact HF0.out.symm)
            have hep := HEP.out
            rw [if_pos hne.1] at hep
            subst hep
            have HN2 := Lib.hid hne.2
            clear hne
            go_wp2_with fail
            refine HPT.out.mono ?_
            rintro e wq ⟨heq, hbq⟩
            rw [if_pos HN2.out] at heq
            subst heq
            have HBQ := Lib.hid (HBP.out.trans (hbq.mono HBP.out.size))
            have HSS := Lib.hid (csametexts_any (HVP.out.kept hbq) (HV.out.kept HBQ.out))
            clear hbq
            go_wp2_with fail
            refine HSS.out.mono ?_
            rintro e ws ⟨rfl, hbs⟩
            have HBS := Lib.hid (HBQ.out.trans (hbs.mono HBQ.out.size))
            clear hbs
            go_wp2_with fail
            go_ret
            exact ⟨rfl, HBS.out⟩
          | true =>
            have HFT := Lib.hid (show fitTo z1 z1.length = true from by rw [HVL.out]; exact HF0.out.symm)
            have HFA := Lib.hid (fit_all HFT.out)
            have hok := few_ok (l := z1) (by rw [HVL.out]; exact hl1) HSM.out HFT.out
            have HLN := Lib.hid (few_len (l := z1) (by rw [HVL.out]; exact hl1) HSM.out HFA.out)
            have hep := HEP.out
            rw [if_neg (by rw [hok.1]; simp)] at hep
            obtain ⟨ac, mc, cc, rfl, _, hc⟩ := hep
            have HC := Lib.hid hc
            have HN2 := Lib.hid hok.2
            clear hok hc
            go_wp2_with fail
            refine HPT.out.mono ?_
            rintro e wq ⟨heq, hbq⟩
            rw [if_neg (by rw [HN2.out]; simp)] at heq
            obtain ⟨ad, md, cd, rfl, _, hd⟩ := heq
            have HBQ := Lib.hid (HBP.out.trans (hbq.mono HBP.out.size))
            have HC2 := Lib.hid (HC.out.kept hbq)
            have HD := Lib.hid hd
            have HSS := Lib.hid (csametexts_any (HVP.out.kept hbq) (HV.out.kept HBQ.out))
            clear hbq hd
            go_wp2_with fail
            refine HSS.out.mono ?_
            rintro e ws ⟨rfl, hbs⟩
            have HBS := Lib.hid (HBQ.out.trans (hbs.mono HBQ.out.size))
            have HC3 := Lib.hid (HC2.out.kept hbs)
            have HD3 := Lib.hid (HD.out.kept hbs)
            have HPF := Lib.hid (putFlags_any (HT.out ws HBS.out) (HF.out.kept HBS.out) (by omega))
            clear hbs
            go_wp2_with fail
            refine HPF.out.mono ?_
            rintro e wf ⟨af, mf, cf, rfl, _, hf, hbf⟩
            have HBF := Lib.hid (HBS.out.trans (hbf.mono HBS.out.size))
            have HC4 := Lib.hid (HC3.out.kept hbf)
            have HD4 := Lib.hid (HD3.out.kept hbf)
            have HF4 := Lib.hid hf
            have HRW := Lib.hid (rwordsOf_any (HV.out.kept HBF.out) (by omega) HFA.out)
            clear hbf hf
            go_wp2_with fail
            refine HRW.out.mono ?_
            rintro e wa1 ⟨va, rfl, hoa, hba⟩
            have HBa1 := Lib.hid (HBF.out.trans (hba.mono HBF.out.size))
            have HG1 := Lib.hid (HC4.out.kept hba)
            have HD5_a := Lib.hid (HD4.out.kept hba)
            have HF5_a := Lib.hid (HF4.out.kept hba)
            obtain ⟨aa1, ca1, rfl, ha, _⟩ := BytesAt.ofOwn hoa (wordsC_byte (by rw [HVL.out]; omega) HFA.out) (by have h9 : (wordsC z1).length ≤ 4000 := HLN.out.1; omega)
            have HCH1 := Lib.hid (rchunk_any (k := 2) ha HLN.out.1 (by omega))
            clear hoa hba ha
            go_wp2_with fail
            refine HCH1.out.mono ?_
            rintro e wb1 ⟨ab1, mb1, cb1, rfl, hcb, hbb⟩
            have HBb1 := Lib.hid (HBa1.out.trans (hbb.mono HBa1.out.size))
            have HD5 := Lib.hid (HD5_a.out.kept hbb)
            have HF5 := Lib.hid (HF5_a.out.kept hbb)
            have hsm := same_any (HG1.out.kept hbb) hcb
            rw [beq_self_eq_true] at hsm
            have HSM1 := Lib.hid hsm
            clear hbb hcb hsm
            go_wp2_with fail
            refine HSM1.out.mono ?_
            rintro e we1 ⟨rfl, rfl⟩
            have HBe1 := HBb1
            have HRT := Lib.hid (rtextsOf_any (HV.out.kept HBb1.out) (by omega) HFA.out)
            go_wp2_with fail
            refine HRT.out.mono ?_
            rintro e wa2 ⟨va, rfl, hoa, hba⟩
            have HBa2 := Lib.hid (HBe1.out.trans (hba.mono HBe1.out.size))
            have HG2 := Lib.hid (HD5.out.kept hba)
            have HF6_a := Lib.hid (HF5.out.kept hba)
            obtain ⟨aa2, ca2, rfl, ha, _⟩ := BytesAt.ofOwn hoa (txP_byte (k := z1.length) HFA.out (by rw [HVL.out]; omega)) (by have h9 : (textsC z1).length ≤ 4000 := HLN.out.2; omega)
            have HCH2 := Lib.hid (rchunk_any (k := 3) ha HLN.out.2 (by omega))
            clear hoa hba ha
            go_wp2_with fail
            refine HCH2.out.mono ?_
            rintro e wb2 ⟨ab2, mb2, cb2, rfl, hcb, hbb⟩
            have HBb2 := Lib.hid (HBa2.out.trans (hbb.mono HBa2.out.size))
            have HF6 := Lib.hid (HF6_a.out.kept hbb)
            have hsm := same_any (HG2.out.kept hbb) hcb
            rw [beq_self_eq_true] at hsm
            have HSM2 := Lib.hid hsm
            clear hbb hcb hsm
            go_wp2_with fail
            refine HSM2.out.mono ?_
            rintro e we2 ⟨rfl, rfl⟩
            have HBe2 := HBb2
            have HRF := Lib.hid (rflagsOf_any (HF.out.kept HBb2.out) (by omega))
            go_wp2_with fail
            refine HRF.out.mono ?_
            rintro e wa3 ⟨va, rfl, hoa, hba⟩
            have HBa3 := Lib.hid (HBe2.out.trans (hba.mono HBe2.out.size))
            have HG3 := Lib.hid (HF6.out.kept hba)
            skip
            obtain ⟨aa3, ca3, rfl, ha, _⟩ := BytesAt.ofOwn hoa (flC_ok (f := z2) (by rw [HFL.out]; omega)).1 (by have h9 : (flC z2).length ≤ 4000 := (by have := (flC_ok (f := z2) (by rw [HFL.out]; omega)).2; omega); omega)
            have HCH3 := Lib.hid (rchunk_any (k := 4) ha (by have := (flC_ok (f := z2) (by rw [HFL.out]; omega)).2; omega) (by omega))
            clear hoa hba ha
            go_wp2_with fail
            refine HCH3.out.mono ?_
            rintro e wb3 ⟨ab3, mb3, cb3, rfl, hcb, hbb⟩
            have HBb3 := Lib.hid (HBa3.out.trans (hbb.mono HBa3.out.size))
            skip
            have hsm := same_any (HG3.out.kept hbb) hcb
            rw [beq_self_eq_true] at hsm
            have HSM3 := Lib.hid hsm
            clear hbb hcb hsm
            go_wp2_with fail
            refine HSM3.out.mono ?_
            rintro e we3 ⟨rfl, rfl⟩
            have HBe3 := HBb3
            go_wp2_with fail
            go_ret
            exact ⟨rfl, HBe3.out⟩
    · have HP := Lib.hid (putInts_no (HZ.out.kept HB2.out) (by omega) hc)
      obtain ⟨qc, hqc⟩ : ∃ qc, qc = chk zs 0 := ⟨_, rfl⟩
      have HQC := Lib.hid hqc
      rw [← hqc] at HP hc
      have hqb : ((qc : Int) == 0) = false := by rw [beq_eq_false_iff_ne]; omega
      have hqi : ¬ ((qc : Int) = 0) := by omega
      have hqq : ((qc : Int) == (qc : Int)) = true := by simp
      clear hqc hc
      go_wp2_with fail
      refine HP.out.mono ?_
      rintro e w3 ⟨rfl, hb⟩
      have HB3 := Lib.hid (HB2.out.trans (hb.mono HB2.out.size))
      have hck := rcheck_any (HZ.out.kept HB3.out) 0
      rw [← HQC.out] at hck
      have HCK := Lib.hid hck
      clear hb hck
      go_wp2_with fail
      refine HCK.out.mono ?_
      rintro e w4 ⟨rfl, rfl⟩
      go_wp2_with fail
      go_loopw [10, 12, 71] (fun s10 _ s71 wr => ∃ k : Nat, k ≤ len1 ∧ s71 = .int .i64 (k : Int) ∧ s10 = .bool (!fitTo z1 k) ∧ Hid (Below w.heap.size w wr)) (fun _ _ s71 _ => len1 - (intOf s71).toNat)
      case atStart => exact ⟨0, by omega, rfl, rfl, HB3⟩
      case round =>
        obtain ⟨k, hk, rfl, rfl, HB⟩ := hrel
        rename World => wr
        by_cases hkn : k < len1
        · have hki : (k : Int) < (len1 : Int) := by omega
          obtain ⟨b, off, rfl, hlt, _, hc9⟩ := (HV.out.kept HB.out).get hkn
          obtain ⟨x, hx⟩ : ∃ x, x = z1.getD k ByteArray.empty := ⟨_, rfl⟩
          have hx2 : z1.getD k StrS.z = x := hx.symm
          rw [hx2] at hc9
          have c0 := str_cell hc9
          obtain ⟨f0, hf0⟩ : ∃ f0, f0 = fitTo z1 k := ⟨_, rfl⟩
          rw [← hf0]
          by_cases hxs : x.size ≤ 1024
          · have hxi : ¬ (1024 : Int) < (x.size : Int) := by omega
            have HN := Lib.hid (show (!fitTo z1 (k + 1)) = !f0 from by rw [fitTo, ← hf0, ← hx, decide_eq_true hxs, Bool.and_true])
            clear hc9 hx hx2 hlt hf0
            cases f0 with
            | true =>
              go_wp2_with fail
              go_roundw
              case rel => exact ⟨k + 1, by omega, by go_num, by rw [HN.out]; rfl, HB⟩
              case measure => simp [intOf]; omega
            | false =>
              go_wp2_with fail
              go_roundw
              case rel => exact ⟨k + 1, by omega, by go_num, by rw [HN.out]; rfl, HB⟩
              case measure => simp [intOf]; omega
          · have hxi : (1024 : Int) < (x.size : Int) := by omega
            have HN := Lib.hid (show (!fitTo z1 (k + 1)) = true from by rw [fitTo, ← hf0, ← hx, decide_eq_false hxs, Bool.and_false]; rfl)
            clear hc9 hx hx2 hlt hf0
            cases f0 with
            | true =>
              go_wp2_with fail
              go_roundw
              case rel => exact ⟨k + 1, by omega, by go_num, by rw [HN.out], HB⟩
              case measure => simp [intOf]; omega
            | false =>
              go_wp2_with fail
              go_roundw
              case rel => exact ⟨k + 1, by omega, by go_num, by rw [HN.out], HB⟩
              case measure => simp [intOf]; omega
        · obtain rfl : len1 = k := by omega
          have o10 := World.ownsRow_lit (base := wr.heap.size) (e := 9) (size := 1) wr #[] 0 (Nat.le_refl _) (by unfold maxLen; omega) rfl
          have HBA := Lib.hid (show Below wr.heap.size wr (wr.alloc (.cells #[] 9)) from (Below.refl _ _).alloc (Nat.le_refl _) _)
          have HOA := Lib.hid (show (wr.alloc (.cells #[] 9)).ownsRow wr.heap.size 9 1 (.slice (some ⟨wr.heap.size, 0, none⟩) 0 0) 0 (StrS.flat []) from o10)
          have HVA := Lib.hid (HV.out.kept (HB.out.trans (HBA.out.mono HB.out.size)))
          have HSZ := Lib.hid HBA.out.size
          clear o10 hkn
          obtain ⟨f0, hf0⟩ : ∃ f0, f0 = fitTo z1 len1 := ⟨_, rfl⟩
          rw [← hf0]
          have HF0 := Lib.hid hf0
          clear hf0
          go_wp2_with (at_builtin; refine wpList_append_strs rfl (.tmp 82) (.tmp 83) rfl wr.heap.size _ 0 [] rfl HOA.out _ _ _ z1 rfl HVA.out (by omega) HSZ.out ?_)
          intro vo wo hoo hgo
          have HBO := Lib.hid (HB.out.trans ((below_own HBA.out HOA.out hgo (Nat.le_refl _) HSZ.out).mono HB.out.size))
          obtain ⟨ao, co, rfl, hvo⟩ : ∃ ao co, vo = .slice ao len1 co ∧ VecAt StrS wo ao len1 co z1 := by
            rcases hoo.2 with ⟨rfl, h0⟩ | ⟨g, cap, cur, rfl, _⟩
            · obtain rfl : len1 = 0 := h0
              exact ⟨none, 0, rfl, VecAt.ofOwn (S := StrS) hoo HVL.out HV.out.all⟩
            · exact ⟨_, _, rfl, VecAt.ofOwn (S := StrS) hoo HVL.out HV.out.all⟩
          have HVO := Lib.hid hvo
          clear hoo hgo hvo
          have HPW := Lib.hid (putwords_any (HT.out wo HBO.out) HVO.out)
          go_wp2_with fail
          refine HPW.out.mono ?_
          rintro e wp ⟨hep, hbp⟩
          have HBP := Lib.hid (HBO.out.trans (hbp.mono HBO.out.size))
          have HVP := Lib.hid (HVO.out.kept hbp)
          have HPT := Lib.hid (puttexts_any (HT.out wp HBP.out) HVP.out)
          have HEP := Lib.hid hep
          clear hbp hep
          cases f0 with
          | false =>
            have hne := nofit_err (l := z1) (by rw [HVL.out]; exact HF0.out.symm)
            have hep := HEP.out
            rw [if_pos hne.1] at hep
            subst hep
            have HN2 := Lib.hid hne.2
            clear hne
            go_wp2_with fail
            refine HPT.out.mono ?_
            rintro e wq ⟨heq, hbq⟩
            rw [if_pos HN2.out] at heq
            subst heq
            have HBQ := Lib.hid (HBP.out.trans (hbq.mono HBP.out.size))
            have HSS := Lib.hid (csametexts_any (HVP.out.kept hbq) (HV.out.kept HBQ.out))
            clear hbq
            go_wp2_with fail
            refine HSS.out.mono ?_
            rintro e ws ⟨rfl, hbs⟩
            have HBS := Lib.hid (HBQ.out.trans (hbs.mono HBQ.out.size))
            clear hbs
            go_wp2_with fail
            go_ret
            exact ⟨rfl, HBS.out⟩
          | true =>
            have HFT := Lib.hid (show fitTo z1 z1.length = true from by rw [HVL.out]; exact HF0.out.symm)
            have HFA := Lib.hid (fit_all HFT.out)
            have hok := few_ok (l := z1) (by rw [HVL.out]; exact hl1) HSM.out HFT.out
            have HLN := Lib.hid (few_len (l := z1) (by rw [HVL.out]; exact hl1) HSM.out HFA.out)
            have hep := HEP.out
            rw [if_neg (by rw [hok.1]; simp)] at hep
            obtain ⟨ac, mc, cc, rfl, _, hc⟩ := hep
            have HC := Lib.hid hc
            have HN2 := Lib.hid hok.2
            clear hok hc
            go_wp2_with fail
            refine HPT.out.mono ?_
            rintro e wq ⟨heq, hbq⟩
            rw [if_neg (by rw [HN2.out]; simp)] at heq
            obtain ⟨ad, md, cd, rfl, _, hd⟩ := heq
            have HBQ := Lib.hid (HBP.out.trans (hbq.mono HBP.out.size))
            have HC2 := Lib.hid (HC.out.kept hbq)
            have HD := Lib.hid hd
            have HSS := Lib.hid (csametexts_any (HVP.out.kept hbq) (HV.out.kept HBQ.out))
            clear hbq hd
            go_wp2_with fail
            refine HSS.out.mono ?_
            rintro e ws ⟨rfl, hbs⟩
            have HBS := Lib.hid (HBQ.out.trans (hbs.mono HBQ.out.size))
            have HC3 := Lib.hid (HC2.out.kept hbs)
            have HD3 := Lib.hid (HD.out.kept hbs)
            have HPF := Lib.hid (putFlags_any (HT.out ws HBS.out) (HF.out.kept HBS.out) (by omega))
            clear hbs
            go_wp2_with fail
            refine HPF.out.mono ?_
            rintro e wf ⟨af, mf, cf, rfl, _, hf, hbf⟩
            have HBF := Lib.hid (HBS.out.trans (hbf.mono HBS.out.size))
            have HC4 := Lib.hid (HC3.out.kept hbf)
            have HD4 := Lib.hid (HD3.out.kept hbf)
            have HF4 := Lib.hid hf
            have HRW := Lib.hid (rwordsOf_any (HV.out.kept HBF.out) (by omega) HFA.out)
            clear hbf hf
            go_wp2_with fail
            refine HRW.out.mono ?_
            rintro e wa1 ⟨va, rfl, hoa, hba⟩
            have HBa1 := Lib.hid (HBF.out.trans (hba.mono HBF.out.size))
            have HG1 := Lib.hid (HC4.out.kept hba)
            have HD5_a := Lib.hid (HD4.out.kept hba)
            have HF5_a := Lib.hid (HF4.out.kept hba)
            obtain ⟨aa1, ca1, rfl, ha, _⟩ := BytesAt.ofOwn hoa (wordsC_byte (by rw [HVL.out]; omega) HFA.out) (by have h9 : (wordsC z1).length ≤ 4000 := HLN.out.1; omega)
            have HCH1 := Lib.hid (rchunk_any (k := 2) ha HLN.out.1 (by omega))
            clear hoa hba ha
            go_wp2_with fail
            refine HCH1.out.mono ?_
            rintro e wb1 ⟨ab1, mb1, cb1, rfl, hcb, hbb⟩
            have HBb1 := Lib.hid (HBa1.out.trans (hbb.mono HBa1.out.size))
            have HD5 := Lib.hid (HD5_a.out.kept hbb)
            have HF5 := Lib.hid (HF5_a.out.kept hbb)
            have hsm := same_any (HG1.out.kept hbb) hcb
            rw [beq_self_eq_true] at hsm
            have HSM1 := Lib.hid hsm
            clear hbb hcb hsm
            go_wp2_with fail
            refine HSM1.out.mono ?_
            rintro e we1 ⟨rfl, rfl⟩
            have HBe1 := HBb1
            have HRT := Lib.hid (rtextsOf_any (HV.out.kept HBb1.out) (by omega) HFA.out)
            go_wp2_with fail
            refine HRT.out.mono ?_
            rintro e wa2 ⟨va, rfl, hoa, hba⟩
            have HBa2 := Lib.hid (HBe1.out.trans (hba.mono HBe1.out.size))
            have HG2 := Lib.hid (HD5.out.kept hba)
            have HF6_a := Lib.hid (HF5.out.kept hba)
            obtain ⟨aa2, ca2, rfl, ha, _⟩ := BytesAt.ofOwn hoa (txP_byte (k := z1.length) HFA.out (by rw [HVL.out]; omega)) (by have h9 : (textsC z1).length ≤ 4000 := HLN.out.2; omega)
            have HCH2 := Lib.hid (rchunk_any (k := 3) ha HLN.out.2 (by omega))
            clear hoa hba ha
            go_wp2_with fail
            refine HCH2.out.mono ?_
            rintro e wb2 ⟨ab2, mb2, cb2, rfl, hcb, hbb⟩
            have HBb2 := Lib.hid (HBa2.out.trans (hbb.mono HBa2.out.size))
            have HF6 := Lib.hid (HF6_a.out.kept hbb)
            have hsm := same_any (HG2.out.kept hbb) hcb
            rw [beq_self_eq_true] at hsm
            have HSM2 := Lib.hid hsm
            clear hbb hcb hsm
            go_wp2_with fail
            refine HSM2.out.mono ?_
            rintro e we2 ⟨rfl, rfl⟩
            have HBe2 := HBb2
            have HRF := Lib.hid (rflagsOf_any (HF.out.kept HBb2.out) (by omega))
            go_wp2_with fail
            refine HRF.out.mono ?_
            rintro e wa3 ⟨va, rfl, hoa, hba⟩
            have HBa3 := Lib.hid (HBe2.out.trans (hba.mono HBe2.out.size))
            have HG3 := Lib.hid (HF6.out.kept hba)
            skip
            obtain ⟨aa3, ca3, rfl, ha, _⟩ := BytesAt.ofOwn hoa (flC_ok (f := z2) (by rw [HFL.out]; omega)).1 (by have h9 : (flC z2).length ≤ 4000 := (by have := (flC_ok (f := z2) (by rw [HFL.out]; omega)).2; omega); omega)
            have HCH3 := Lib.hid (rchunk_any (k := 4) ha (by have := (flC_ok (f := z2) (by rw [HFL.out]; omega)).2; omega) (by omega))
            clear hoa hba ha
            go_wp2_with fail
            refine HCH3.out.mono ?_
            rintro e wb3 ⟨ab3, mb3, cb3, rfl, hcb, hbb⟩
            have HBb3 := Lib.hid (HBa3.out.trans (hbb.mono HBa3.out.size))
            skip
            have hsm := same_any (HG3.out.kept hbb) hcb
            rw [beq_self_eq_true] at hsm
            have HSM3 := Lib.hid hsm
            clear hbb hcb hsm
            go_wp2_with fail
            refine HSM3.out.mono ?_
            rintro e we3 ⟨rfl, rfl⟩
            have HBe3 := HBb3
            go_wp2_with fail
            go_ret
            exact ⟨rfl, HBe3.out⟩
end Go.Proofs.YtpbijdoemdoijaaGreatDoor
end PkCa53_0

/- The document's Put, Padded and Bytes of rows of bits (layer 2), walked. Condition: at most 100,000 bits. -/
import Derived.Test.YtachikilcfdngaaBitsRRead
import Derived.Test.YtachikilcfdngaaBitsPack
import Derived.Laws.AppendOwnNone
namespace Go.Proofs.Ytachikilcfdngaa
open Go.RowKit BitsPlain
set_option linter.unusedVariables false

/-- bits as truths -/
def rowOf (l : List Nat) : List Bool := l.map (· == 1)
theorem rowOf_len (l : List Nat) : (rowOf l).length = l.length := by simp [rowOf]
theorem rowOf_app (l r : List Nat) : rowOf (l ++ r) = rowOf l ++ rowOf r := by simp [rowOf]
theorem bl_app (l r : List Bool) : bl (l ++ r) = bl l ++ bl r := by simp [bl]
theorem bl_len (l : List Bool) : (bl l).length = l.length := by simp [bl]
theorem bl_oneCell (l : List Bool) : ∀ u ∈ bl l, u.oneCell' = true := by
  intro u hu
  simp only [bl, List.mem_map] at hu
  obtain ⟨x, _, rfl⟩ := hu
  rfl

theorem BoolsAt.src {w : World} {ad : Addr} {n c : Nat} {l : List Bool} (h : BoolsAt w (some ad) n c l) : ∀ j u, (bl l)[j]? = some u → w.cell? (ad.add j) = some u := by
  intro j u hj
  have hlt : j < l.length := by
    rcases Nat.lt_or_ge j l.length with g | g
    · exact g
    · rw [List.getElem?_eq_none (by rw [bl_len]; omega)] at hj
      cases hj
  rw [bl_get _ _ hlt] at hj
  obtain ⟨b, off, ha, _, hc⟩ := h.cells (by have := h.len; omega)
  cases ha
  have h4 : (⟨b, off, none⟩ : Addr).add j = ⟨b, off + j, none⟩ := by unfold Addr.add; split <;> simp_all
  rw [h4, hc j (by have := h.len; omega)]
  exact hj

/-- append of truths, wherever they lie, to truths that the call owns -/
theorem wpList_append_bools {w : World} {ops : Array Oper} {rest : List Oper} {o : Oper} {a : Act} {Q : Exit → Act → World → Prop} (hgd : o.guard = none) (s x : Operand)
    (ho : o.op = .call { callee := .builtin .append, args := #[s, x], argTypes := #[28, 28] })
    (base : Nat) (v : Value) (n : Nat) (xs : List Bool) (hs : a.eval s = v) (hown : w.ownsRow base 4 1 v n (bl xs))
    (src : Option Addr) (m c : Nat) (ys : List Bool) (hx : a.eval x = .slice src m c) (hb : BoolsAt w src m c ys)
    (h63 : n + m ≤ 140737488355328) (hbase : base ≤ w.heap.size)
    (h : ∀ v' w', w'.ownsRow base 4 1 v' (n + m) (bl (xs ++ ys)) → w.grownBy w' v.ownBlock → wpList Try.prog ops Q rest (a.put o.dst v') w') : wpList Try.prog ops Q (o :: rest) a w := by
  obtain ⟨i0, hi, hz0, hz1, hz2⟩ := info_parts info_bool
  rcases src with _ | ad
  · have hc := hb.nl rfl
    have hm : m = 0 := by have := hb.cap; omega
    subst hm
    subst hc
    have hy : ys = [] := List.eq_nil_of_length_eq_zero hb.len
    subst hy
    refine wpList_append_own_none hgd s x 28 ho base 4 i0 1 Try.underlying28 hi v n (bl xs) hs hown hx ?_
    exact h v w (by simpa using hown) (World.grownBy.refl _ _)
  · refine wpList_append_own w hgd s x 28 ho base 4 i0 (.bool false) 1 1 Try.underlying28 hi hz0 hz1 hz2 rfl (by decide) v n (bl xs) hs hown ad m c (bl ys) hx (by rw [bl_len, hb.len]; omega) hb.src (bl_oneCell _) (by unfold maxLen; omega) (by omega) hbase ?_
    intro v' w' h1 h2 _
    exact h v' w' (by rw [bl_app]; exact h1) h2

/-- the bits that Put puts -/
def putBits (V k : Nat) (code : Bool) (i : Nat) : List Nat := if code then codeOf V k i else bitsOf V i
theorem putBits_succ (V k : Nat) (code : Bool) (i : Nat) : putBits V k code (i + 1) = putBits V k code i ++ [V / 2 ^ (if code then k - 1 - i else i) % 2] := by
  cases code <;> simp [putBits, codeOf_succ, bitsOf_succ]
theorem putBits_len (V k : Nat) (code : Bool) (i : Nat) : (putBits V k code i).length = i := by
  cases code <;> simp [putBits, codeOf_length, bitsOf_length]

set_option maxRecDepth 100000 in
set_option maxHeartbeats 4000000 in
theorem rput_any {w : World} {a : Option Addr} {n c : Nat} {l : List Nat} (h : BoolsAt w a n c (rowOf l)) (hn : n ≤ 100000) (V : Nat) (hV : V < 4294967296) (k : Nat) (hk : k ≤ 32) (code : Bool) :
    Calls Try.prog 20 #[.slice a n c, .int .u32 (V : Int), .int .i64 (k : Int), .bool code] w fun e w' => ∃ a' c', e = .returned (.slice a' (n + k) c') ∧ BoolsAt w' a' (n + k) c' (rowOf (l ++ putBits V k code k)) ∧ Below w.heap.size w w' ∧ (∀ b off s, a' = some ⟨b, off, s⟩ → w.heap.size ≤ b) := by
  obtain ⟨i0, hi, hz0, hz1, hz2⟩ := info_parts info_bool
  have hown0 := World.ownsRow_lit (base := w.heap.size) (e := 4) (size := 1) w #[] 0 (Nat.le_refl _) (by unfold maxLen; omega) rfl
  have HH := Lib.hid (h.kept ((Below.refl _ _).alloc (Nat.le_refl _) (.cells #[] 4)))
  have HV := Lib.hid hV
  have HO0 := Lib.hid hown0
  clear h hV hown0
  go_enter Try.func20, Try.ntmps20
  go_wp2_with (at_builtin; refine wpList_append_bools rfl (.tmp 14) (.tmp 15) rfl w.heap.size _ _ [] rfl HO0.out _ _ _ _ rfl HH.out (by omega) (by simp) ?_)
  intro v1 w1 hown1 hgrow1
  have hb1 : Below w.heap.size w w1 := ((Below.refl _ _).alloc (Nat.le_refl _) _).grown hgrow1 (by simp) (fun k hk => by simp [Value.ownBlock] at hk; omega)
  have hown2 : w1.ownsRow w.heap.size 4 1 v1 (n + 0) (bl (rowOf (l ++ putBits V k code 0))) := by
    have e : putBits V k code 0 = [] := List.eq_nil_of_length_eq_zero (putBits_len _ _ _ _)
    rw [e]
    simpa using hown1
  have HO2 := Lib.hid hown2
  have HB1 := Lib.hid hb1
  clear hown1 hgrow1 hb1 hown2
  go_wp2_with fail
  go_loopw [9, 10] (fun s9 s10 wr => ∃ i : Nat, i ≤ k ∧ s10 = .int .i64 i ∧ Hid (wr.ownsRow w.heap.size 4 1 s9 (n + i) (bl (rowOf (l ++ putBits V k code i)))) ∧ Hid (Below w.heap.size w wr)) (fun _ s10 _ => k - (intOf s10).toNat)
  case atStart => exact ⟨0, by omega, rfl, HO2, HB1⟩
  case round =>
    obtain ⟨i, hik, rfl, HO, HB⟩ := hrel
    rename World => wr
    by_cases hlt : i < k
    · obtain ⟨K, hK⟩ : ∃ K : Nat, K = if code then k - 1 - i else i := ⟨_, rfl⟩
      have hs := putBits_succ V k code i
      rw [← hK] at hs
      have HS := Lib.hid hs
      have hK31 : K ≤ 31 := by rw [hK]; split <;> omega
      have fin : ∀ (act : Act), True := fun _ => trivial
      clear fin hs
      cases code
      · have hKi : K = i := by rw [hK]; rfl
        clear hK
        subst hKi
        go_wp2_with fail
        go_loop [12, 13] (fun s12 s13 => ∃ j : Nat, j ≤ K ∧ s13 = .int .i64 j ∧ s12 = .int .u32 ((V / 2 ^ j : Nat) : Int)) (fun _ s13 => K - (intOf s13).toNat)
        case atStart => exact ⟨0, by omega, rfl, by simp⟩
        case round =>
          obtain ⟨j, hj, rfl, rfl⟩ := hrel
          by_cases hjK : j < K
          · obtain ⟨y, hy⟩ : ∃ y, y = V / 2 ^ j := ⟨_, rfl⟩
            have hy32 : y ≤ 4294967295 := by rw [hy]; have h1 := Nat.div_le_self V (2 ^ j); have h2 := HV.out; omega
            rw [← hy]
            have HY := Lib.hid hy
            clear hy
            go_wp2_with fail
            go_round
            case rel =>
              refine ⟨j + 1, by omega, by go_num, ?_⟩
              rw [show V / 2 ^ (j + 1) = y / 2 from by rw [HY.out, Nat.div_div_eq_div_mul, ← Nat.pow_succ]]
              go_num
            case measure => simp [intOf]; omega
          · have hjK2 : j = K := by omega
            subst hjK2
            obtain ⟨y, hy⟩ : ∃ y, y = V / 2 ^ j := ⟨_, rfl⟩
            have hy32 : y ≤ 4294967295 := by rw [hy]; have h1 := Nat.div_le_self V (2 ^ j); have h2 := HV.out; omega
            rw [← hy]
            have HY := Lib.hid hy
            have hown := HO.out
            have hbs := HB.out.size
            clear hy
            go_wp2_with (at_builtin; refine wpList_append_own _ rfl (.tmp 36) (.tmp 40) 28 rfl w.heap.size 4 i0 (.bool false) 1 1 Try.underlying28 hi hz0 hz1 hz2 rfl (by decide) _ _ _ rfl (hown.alloc _) ⟨wr.heap.size, 0, none⟩ 1 1 [.bool ((y : Int) % 2 == 1)] rfl rfl (one_src _ _ _) (one_oneCell rfl) (by unfold maxLen; omega) (by omega) (by simp; omega) ?_)
            intro v' w2 hown' hgrow _
            have HO3 := Lib.hid hown'
            have HB3 := Lib.hid ((HB.out.alloc HB.out.size _).grown hgrow (by simp; omega) (fun k hk => (hown.lt k hk).1))
            clear hown' hgrow hown
            go_wp2_with fail
            go_roundw
            case rel =>
              refine ⟨j + 1, by omega, by go_num, Lib.hid ?_, HB3⟩
              have e1 : ((y : Int) % 2 == 1) = (V / 2 ^ j % 2 == 1) := by
                rw [← HY.out, Bool.eq_iff_iff, beq_iff_eq, beq_iff_eq]; omega
              have := HO3.out
              rw [e1] at this
              rw [HS.out, ← List.append_assoc, rowOf_app, bl_app]
              exact this
            case measure => simp [intOf]; omega
      · have hKi : (k : Int) - 1 - (i : Int) = (K : Int) := by rw [hK]; simp; omega
        clear hK
        go_wp2_with fail
        go_loop [12, 13] (fun s12 s13 => ∃ j : Nat, j ≤ K ∧ s13 = .int .i64 j ∧ s12 = .int .u32 ((V / 2 ^ j : Nat) : Int)) (fun _ s13 => K - (intOf s13).toNat)
        case atStart => exact ⟨0, by omega, rfl, by simp⟩
        case round =>
          obtain ⟨j, hj, rfl, rfl⟩ := hrel
          by_cases hjK : j < K
          · obtain ⟨y, hy⟩ : ∃ y, y = V / 2 ^ j := ⟨_, rfl⟩
            have hy32 : y ≤ 4294967295 := by rw [hy]; have h1 := Nat.div_le_self V (2 ^ j); have h2 := HV.out; omega
            rw [← hy]
            have HY := Lib.hid hy
            clear hy
            go_wp2_with fail
            go_round
            case rel =>
              refine ⟨j + 1, by omega, by go_num, ?_⟩
              rw [show V / 2 ^ (j + 1) = y / 2 from by rw [HY.out, Nat.div_div_eq_div_mul, ← Nat.pow_succ]]
              go_num
            case measure => simp [intOf]; omega
          · have hjK2 : j = K := by omega
            subst hjK2
            obtain ⟨y, hy⟩ : ∃ y, y = V / 2 ^ j := ⟨_, rfl⟩
            have hy32 : y ≤ 4294967295 := by rw [hy]; have h1 := Nat.div_le_self V (2 ^ j); have h2 := HV.out; omega
            rw [← hy]
            have HY := Lib.hid hy
            have hown := HO.out
            have hbs := HB.out.size
            clear hy
            go_wp2_with (at_builtin; refine wpList_append_own _ rfl (.tmp 36) (.tmp 40) 28 rfl w.heap.size 4 i0 (.bool false) 1 1 Try.underlying28 hi hz0 hz1 hz2 rfl (by decide) _ _ _ rfl (hown.alloc _) ⟨wr.heap.size, 0, none⟩ 1 1 [.bool ((y : Int) % 2 == 1)] rfl rfl (one_src _ _ _) (one_oneCell rfl) (by unfold maxLen; omega) (by omega) (by simp; omega) ?_)
            intro v' w2 hown' hgrow _
            have HO3 := Lib.hid hown'
            have HB3 := Lib.hid ((HB.out.alloc HB.out.size _).grown hgrow (by simp; omega) (fun k hk => (hown.lt k hk).1))
            clear hown' hgrow hown
            go_wp2_with fail
            go_roundw
            case rel =>
              refine ⟨i + 1, by omega, by go_num, Lib.hid ?_, HB3⟩
              have e1 : ((y : Int) % 2 == 1) = (V / 2 ^ j % 2 == 1) := by
                rw [← HY.out, Bool.eq_iff_iff, beq_iff_eq, beq_iff_eq]; omega
              have := HO3.out
              rw [e1] at this
              rw [HS.out, ← List.append_assoc, rowOf_app, bl_app]
              exact this
            case measure => simp [intOf]; omega
    · have hik2 : i = k := by omega
      subst hik2
      obtain ⟨a', c', rfl, hba, hfa⟩ := BoolsAt.ofOwn HO.out (by omega)
      have HBA := Lib.hid hba
      clear hba
      go_wp2_with fail
      go_ret
      exact ⟨a', c', rfl, HBA.out, HB.out, hfa⟩
end Go.Proofs.Ytachikilcfdngaa

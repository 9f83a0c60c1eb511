/- The document's row of bits (layer 2): Row and Number, walked. -/
import Derived.Test.YtachikilcfdngaaBitsReader
namespace Go.Proofs.Ytachikilcfdngaa
open Go.RowKit BitsPlain
set_option linter.unusedVariables false

theorem info_bool : (Try.prog.info? 4).map (fun i => (i.zero, i.size, i.bytes)) = some (some (.bool false), 1, 1) := by kernel_rfl

/-- truths as values -/
def bl (l : List Bool) : List Value := l.map Value.bool
theorem bl_get (l : List Bool) (i : Nat) (h : i < l.length) : (bl l)[i]? = some (.bool (l.getD i false)) := by simp [bl, h]

/-- truths that lie in memory -/
structure BoolsAt (w : World) (a : Option Addr) (n c : Nat) (l : List Bool) : Prop where
  len : l.length = n
  cap : n ≤ c
  reach : n ≤ 140737488351232
  capm : c ≤ 9223372036854775807
  nl : a = none → c = 0
  cells : 0 < n → ∃ b off, a = some ⟨b, off, none⟩ ∧ b < w.heap.size ∧ ∀ i, i < n → w.cell? ⟨b, off + i, none⟩ = some (.bool (l.getD i false))

theorem BoolsAt.keep {w w' : World} {a : Option Addr} {n c : Nat} {l : List Bool} (h : BoolsAt w a n c l) {B : Nat} (hb : Below B w w') (hB : w.heap.size ≤ B) : BoolsAt w' a n c l :=
  ⟨h.len, h.cap, h.reach, h.capm, h.nl, fun hn => by
    obtain ⟨b, off, ha, hlt, hc⟩ := h.cells hn
    exact ⟨b, off, ha, Nat.lt_of_lt_of_le hlt hb.size, fun i hi => (hb.cell (p := ⟨b, off + i, none⟩) (Nat.lt_of_lt_of_le hlt hB)).trans (hc i hi)⟩⟩
theorem BoolsAt.kept {w w' : World} {a : Option Addr} {n c : Nat} {l : List Bool} (h : BoolsAt w a n c l) (hb : Below w.heap.size w w') : BoolsAt w' a n c l := h.keep hb (Nat.le_refl _)
theorem BoolsAt.drewN {w : World} {a : Option Addr} {n c : Nat} {l : List Bool} (h : BoolsAt w a n c l) (k : Nat) : BoolsAt (w.drewN k) a n c l :=
  ⟨h.len, h.cap, h.reach, h.capm, h.nl, h.cells⟩
theorem BoolsAt.grownE {w w' : World} {a : Option Addr} {n c : Nat} {l : List Bool} (h : BoolsAt w a n c l) {r : Nat} (hg : w.grownBy w' (some r)) (hne : ∀ b off s, 0 < n → a = some ⟨b, off, s⟩ → b ≠ r) : BoolsAt w' a n c l :=
  ⟨h.len, h.cap, h.reach, h.capm, h.nl, fun hp => by
    obtain ⟨b, off, ha, hlt, hc⟩ := h.cells hp
    exact ⟨b, off, ha, Nat.lt_of_lt_of_le hlt hg.size, fun k hk => hg.cell (hc k hk) (fun e => hne b off _ hp ha (Option.some.inj e))⟩⟩
theorem BoolsAt.ofOwn {w : World} {base n : Nat} {v : Value} {l : List Bool} (h : w.ownsRow base 4 1 v n (bl l)) (hr : n ≤ 140737488351232) :
    ∃ a c, v = .slice a n c ∧ BoolsAt w a n c l ∧ (∀ b off s, a = some ⟨b, off, s⟩ → base ≤ b) := by
  have hlen : l.length = n := by have := h.1; simpa [bl] using this
  rcases h.2 with ⟨h0, h1⟩ | ⟨g, cap, cur, rfl, hg, hh, hn, hcap, hsz, htake⟩
  · subst h1
    obtain rfl : l = [] := List.eq_nil_of_length_eq_zero hlen
    exact ⟨none, 0, h0, ⟨rfl, Nat.le_refl _, Nat.zero_le _, by omega, fun _ => rfl, fun h => absurd h (Nat.lt_irrefl 0)⟩, fun _ _ _ e => by cases e⟩
  · have hlt : g < w.heap.size := (Array.getElem?_eq_some_iff.1 hh).1
    refine ⟨some ⟨g, 0, none⟩, cap, rfl, ⟨hlen, hn, hr, (by unfold maxLen at hcap; exact hcap), (fun e => by cases e), fun hp => ⟨g, 0, rfl, hlt, fun i hi => ?_⟩⟩, fun b off s e => by cases e; exact hg⟩
    have := h.cellAt i (by omega)
    rw [Nat.zero_add, this, bl_get _ _ (by omega)]

/-- the first k bits of bytes -/
def rowTo (xs : List Nat) (k : Nat) : List Bool := (List.range k).map fun p => bitAt xs p == 1
theorem rowTo_len (xs : List Nat) (k : Nat) : (rowTo xs k).length = k := by simp [rowTo]
theorem rowTo_succ (xs : List Nat) (k : Nat) : rowTo xs (k + 1) = rowTo xs k ++ [bitAt xs k == 1] := by simp [rowTo, List.range_succ]

set_option maxRecDepth 100000 in
set_option maxHeartbeats 2000000 in
theorem row_any {a : Option Addr} {n c : Nat} {xs : List Nat} {w : World} (h : BytesAt w a n c xs) (hn : n ≤ 1024) :
    Calls Try.prog 9 #[.slice a n c] w fun e w' => ∃ a' c', e = .returned (.slice a' (8 * n) c') ∧ BoolsAt w' a' (8 * n) c' (rowTo xs (8 * n)) ∧ Below w.heap.size w w' ∧ (∀ b off s, a' = some ⟨b, off, s⟩ → w.heap.size ≤ b) := by
  obtain ⟨i0, hi, hz0, hz1, hz2⟩ := info_parts info_bool
  have hown0 := World.ownsRow_lit (base := w.heap.size) (e := 4) (size := 1) w #[] 0 (Nat.le_refl _) (by unfold maxLen; omega) rfl
  have hcap := h.cap
  have hcm := h.capm
  have HH := Lib.hid h
  have HL := Lib.hid h.len
  clear h
  go_enter Try.func9, Try.ntmps9
  go_wp2_with fail
  go_loopw [3, 10] (fun s3 s10 wr => ∃ k : Nat, k ≤ n ∧ s10 = .int .i64 k ∧ wr.ownsRow w.heap.size 4 1 s3 (8 * k) (bl (rowTo xs (8 * k))) ∧ Below w.heap.size w wr) (fun _ s10 _ => n - (intOf s10).toNat)
  case atStart => exact ⟨0, by omega, rfl, by simpa [rowTo, bl] using hown0, (Below.refl _ _).alloc (Nat.le_refl _) _⟩
  case round =>
    obtain ⟨k, hk, rfl, hown, hbel⟩ := hrel
    rename World => wr
    by_cases hkn : k < n
    · obtain ⟨b, off, rfl, hlt, hc⟩ := HH.out.cells (by omega)
      have hck := (hbel.cell (p := ⟨b, off + k, none⟩) hlt).trans (hc k hkn)
      obtain ⟨x, hx⟩ : ∃ x, x = xs.getD k 0 := ⟨_, rfl⟩
      have hx256 : x < 256 := by
        have h1 : k < xs.length := by have := HL.out; omega
        have : xs.getD k 0 = xs[k] := by simp [h1]
        rw [hx, this]
        exact HH.out.byte _ (List.getElem_mem h1)
      rw [← hx] at hck
      have HX := Lib.hid hx
      have HO := Lib.hid hown
      have HB := Lib.hid hbel
      clear hc hx hown hbel
      go_wp2_with fail
      go_loopw [3, 5, 6] (fun s3 s5 s6 wr => ∃ (j y : Nat), j ≤ 8 ∧ s6 = .int .i64 j ∧ s5 = .int .u8 y ∧ y < 256 ∧ Hid (y = x / 2 ^ j) ∧ Hid (wr.ownsRow w.heap.size 4 1 s3 (8 * k + j) (bl (rowTo xs (8 * k + j)))) ∧ Hid (Below w.heap.size w wr)) (fun _ _ s6 _ => 8 - (intOf s6).toNat)
      case atStart => exact ⟨0, x, by omega, rfl, rfl, hx256, Lib.hid (by simp), HO, HB⟩
      case round =>
        obtain ⟨j, y, hj, rfl, rfl, hy, HY, HO2, HB2⟩ := hrel
        rename World => wj
        by_cases hj8 : j < 8
        · have hbs := HB2.out.size
          have hown := HO2.out
          have hyb : (y % 2 == 1) = (bitAt xs (8 * k + j) == 1) := by
            unfold bitAt
            rw [show (8 * k + j) / 8 = k from by omega, show (8 * k + j) % 8 = j from by omega, ← HX.out, ← HY.out]
          have HYB := Lib.hid hyb
          clear hyb
          go_wp2_with (at_builtin; refine wpList_append_own _ rfl (.tmp 18) (.tmp 22) 28 rfl w.heap.size 4 i0 (.bool false) 1 1 Try.underlying28 hi hz0 hz1 hz2 rfl (by decide) _ _ _ rfl (hown.alloc _) ⟨wj.heap.size, 0, none⟩ 1 1 [.bool ((y : Int) % 2 == 1)] rfl rfl (one_src _ _ _) (one_oneCell rfl) (by unfold maxLen; omega) (by omega) (by simp; omega) ?_)
          intro v' w1 hown' hgrow _
          have HO3 := Lib.hid hown'
          have HB3 := Lib.hid ((HB2.out.alloc HB2.out.size _).grown hgrow (by simp; omega) (fun k hk => (hown.lt k hk).1))
          clear hown' hgrow hown
          go_wp2_with fail
          go_roundw
          case rel =>
            refine ⟨j + 1, y / 2, by omega, by go_num, by go_num, by omega, Lib.hid ?_, Lib.hid ?_, HB3⟩
            · rw [HY.out, Nat.div_div_eq_div_mul, ← Nat.pow_succ]
            · have e1 : ((y : Int) % 2 == 1) = (bitAt xs (8 * k + j) == 1) := by
                rw [← HYB.out, Bool.eq_iff_iff, beq_iff_eq, beq_iff_eq]; omega
              have := HO3.out
              rw [e1] at this
              rw [← Nat.add_assoc, rowTo_succ]
              simpa [bl] using this
          case measure => simp [intOf]; omega
        · have h8 : j = 8 := by omega
          subst h8
          go_wp2_with fail
          go_roundw
          case rel => exact ⟨k + 1, by omega, by go_num, HO2.out, HB2.out⟩
          case measure => simp [intOf]; omega
    · have hkn2 : k = n := by omega
      subst hkn2
      obtain ⟨a', c', rfl, hba, hfa⟩ := BoolsAt.ofOwn hown (by omega)
      have HBA := Lib.hid hba
      have HBE := Lib.hid hbel
      clear hown hba hbel
      go_wp2_with fail
      go_ret
      exact ⟨a', c', rfl, HBA.out, HBE.out, hfa⟩

/-- the number that truths stand for, the lowest first -/
def nb : List Bool → Nat
  | [] => 0
  | b :: l => b.toNat + 2 * nb l
theorem nb_lt : ∀ l : List Bool, nb l < 2 ^ l.length
  | [] => by simp [nb]
  | b :: l => by
    have := nb_lt l
    have hb : b.toNat ≤ 1 := Bool.toNat_le b
    simp only [nb, List.length_cons, Nat.pow_succ]
    omega
theorem nb_snoc (b : Bool) : ∀ l : List Bool, nb (l ++ [b]) = nb l + b.toNat * 2 ^ l.length
  | [] => by simp [nb]
  | c :: l => by
    simp only [List.cons_append, nb, nb_snoc b l, List.length_cons, Nat.pow_succ]
    have : b.toNat * (2 ^ l.length * 2) = 2 * (b.toNat * 2 ^ l.length) := by rw [← Nat.mul_assoc, Nat.mul_comm _ 2]
    omega

set_option maxRecDepth 100000 in
set_option maxHeartbeats 1000000 in
theorem number_any {a : Option Addr} {n c : Nat} {l : List Bool} {w : World} (h : BoolsAt w a n c l) (hn : n ≤ 32) :
    Calls Try.prog 35 #[.slice a n c] w fun e w' => e = .returned (.int .u32 (nb l : Int)) ∧ w = w' := by
  have hcap := h.cap
  have hcm := h.capm
  have HH := Lib.hid h
  have HL := Lib.hid h.len
  have e0 : IntKind.i64.wrap ((n : Int) - 1) = (n : Int) - 1 := IntWalk.i64_in _ (by omega)
  clear h
  go_enter Try.func35, Try.ntmps35
  go_wp2_with fail
  go_loop [3, 4] (fun s3 s4 => ∃ (t : Nat) (i : Int), t ≤ n ∧ s4 = .int .i64 i ∧ i = (t : Int) - 1 ∧ s3 = .int .u32 (nb (l.drop t) : Int)) (fun _ s4 => (intOf s4 + 1).toNat)
  case atStart => exact ⟨n, _, by omega, rfl, rfl, by rw [List.drop_eq_nil_of_le (by rw [HL.out]; omega)]; rfl⟩
  case round =>
    obtain ⟨t, i, ht, rfl, hi, rfl⟩ := hrel
    rcases t with _ | u
    · obtain rfl : i = -1 := by simpa using hi
      clear hi
      go_wp2_with fail
      go_ret
      exact ⟨by simp, rfl⟩
    · obtain rfl : i = (u : Int) := by omega
      clear hi
      obtain ⟨b, off, rfl, hlt, hc⟩ := HH.out.cells (by omega)
      have hcu := hc u (by omega)
      have hul : u < l.length := by have := HL.out; omega
      have hd : l.drop u = l.getD u false :: l.drop (u + 1) := by
        rw [List.drop_eq_getElem_cons hul]; simp [hul]
      have hlt2 := nb_lt (l.drop (u + 1))
      have hlen2 : (l.drop (u + 1)).length ≤ 31 := by have := HL.out; simp; omega
      have hp2 : 2 ^ (l.drop (u + 1)).length ≤ 2 ^ 31 := Nat.pow_le_pow_right (by omega) hlen2
      have h31 : (2 : Nat) ^ 31 = 2147483648 := by decide
      obtain ⟨V, hV⟩ : ∃ V, V = nb (l.drop (u + 1)) := ⟨_, rfl⟩
      have hV31 : V ≤ 2147483647 := by rw [hV]; omega
      rw [← hV]
      have HV := Lib.hid hV
      have HD := Lib.hid hd
      have e1 : IntKind.i64.wrap ((u : Int) - 1) = (u : Int) - 1 := IntWalk.i64_in _ (by omega)
      have e2 : IntKind.u32.wrap ((V : Int) * 2) = (V : Int) * 2 := by rw [IntKind.wrap_u32']; omega
      have e3 : IntKind.u32.wrap ((V : Int) * 2 + 1) = (V : Int) * 2 + 1 := by rw [IntKind.wrap_u32']; omega
      clear hc hd hlt2 hlen2 hp2 h31 hV
      cases hb : l.getD u false
      · rw [hb] at hcu
        have HBB := Lib.hid hb
        clear hb
        go_wp2_with fail
        go_round
        case rel => exact ⟨u, _, by omega, rfl, rfl, by rw [HD.out, HBB.out, nb, ← HV.out]; simp; omega⟩
        case measure => simp [intOf]
      · rw [hb] at hcu
        have HBB := Lib.hid hb
        clear hb
        go_wp2_with fail
        go_round
        case rel => exact ⟨u, _, by omega, rfl, rfl, by rw [HD.out, HBB.out, nb, ← HV.out]; simp; omega⟩
        case measure => simp [intOf]
end Go.Proofs.Ytachikilcfdngaa

/- The walk of NumsJoins: it returns true for all rows of numbers of 64 bits. -/
import Derived.Test.YtbpimhklekcaiaaNumsCur2
namespace Go.Proofs.Ytbpimhklekcaiaa
open Go.RowKit NumsPlain
set_option linter.unusedVariables false

/-- a row of integers that came in -/
structure RowAt (k : IntKind) (w : World) (a : Option Addr) (n c : Nat) (zs : List Int) : Prop where
  cap : n ≤ c
  capm : c ≤ 9223372036854775807
  nl : a = none → c = 0
  cells : 0 < n → ∃ b off, a = some ⟨b, off, none⟩ ∧ b < w.heap.size ∧ ∀ i, i < n → w.cell? ⟨b, off + i, none⟩ = some (.int k (zs.getD i 0)) ∧ (Lit.int k (zs.getD i 0)).wf = true

theorem IsRow.at_ {k : IntKind} {s : Nat} {w : World} {a : Option Addr} {len cap : Nat} {zs : List Int} (h : IsRow k s w a len cap zs) : RowAt k w a len cap zs := by
  rcases h with ⟨rfl, rfl, rfl, rfl⟩ | ⟨x, rfl, hl, hm, hz, hcell, hwz, hr⟩
  · exact ⟨Nat.le_refl _, by omega, fun _ => rfl, fun h => absurd h (Nat.lt_irrefl 0)⟩
  · refine ⟨hl, by unfold maxLen at hm; exact hm, (fun e => by cases e), fun hp => ?_⟩
    obtain ⟨b, off, spot⟩ := x
    have hc := hcell 0 (by omega)
    have hspot : spot = none := by simpa [Addr.add] using World.cell?_spot hc
    subst hspot
    refine ⟨b, off, rfl, ?_, fun i hi => ?_⟩
    · have := World.block_lt_of_cell? w _ hc
      simpa [Addr.add] using this
    · have h1 := hcell i (by omega)
      have h4 : (⟨b, off, none⟩ : Addr).add i = ⟨b, off + i, none⟩ := by unfold Addr.add; split <;> simp_all
      rw [h4] at h1
      have h2 : i < zs.length := by omega
      refine ⟨h1, hwz _ ?_⟩
      have : zs.getD i 0 = zs[i] := by simp [h2]
      rw [this]
      exact List.getElem_mem h2

theorem BytesAt.ofOwn {w : World} {base n : Nat} {v : Value} {xs : List Nat} (h : w.ownsRow base 5 1 v n (bv xs)) (hb : ∀ x ∈ xs, x < 256) (hr : n ≤ 140737488351232) :
    ∃ a c, v = .slice a n c ∧ BytesAt w a n c xs ∧ (∀ b off s, a = some ⟨b, off, s⟩ → base ≤ b) := by
  rcases Nat.eq_zero_or_pos n with h0 | hp
  · subst h0
    have hx : xs = [] := by
      have := h.1
      simp only [Nat.zero_mul, bv_length] at this
      exact List.eq_nil_of_length_eq_zero this
    subst hx
    rcases h.2 with ⟨h1, _⟩ | ⟨g, cap, cur, rfl, hg, hh, hn, hcap, hsz, htake⟩
    · subst h1
      exact ⟨none, 0, rfl, BytesAt.empty _ _ _ (by omega) (fun _ => rfl), fun _ _ _ e => by cases e⟩
    · exact ⟨some ⟨g, 0, none⟩, cap, rfl, BytesAt.empty _ _ _ (by unfold maxLen at hcap; exact hcap) (fun e => by cases e), fun b off s e => by cases e; exact hg⟩
  · obtain ⟨g, c, rfl, hg, hlt, hba⟩ := BytesAt.own h hb hp hr
    exact ⟨some ⟨g, 0, none⟩, c, rfl, hba, fun b off s e => by cases e; exact hg⟩

/-- numbers put one behind the other -/
def cat (ns : List Nat) : List Nat := ns.flatMap pu
theorem cat_snoc (ns : List Nat) (n : Nat) : cat (ns ++ [n]) = cat ns ++ pu n := by simp [cat]
theorem take_one (ns : List Nat) (k : Nat) (h : k < ns.length) : ns.take (k + 1) = ns.take k ++ [ns.getD k 0] := by simp [h]
theorem cat_app (l r : List Nat) : cat (l ++ r) = cat l ++ cat r := by simp [cat]
theorem cat_len : ∀ (ns : List Nat), (∀ n ∈ ns, n < 18446744073709551616) → (cat ns).length ≤ 10 * ns.length
  | [], _ => by simp [cat]
  | n :: ns, h => by
    have h1 := cat_len ns (fun m hm => h m (by simp [hm]))
    have h2 := pu_ten (h n (by simp))
    simp only [cat, List.flatMap_cons, List.length_append, List.length_cons] at *
    omega
theorem cat_byte (ns : List Nat) (h : ∀ n ∈ ns, n < 18446744073709551616) : ∀ x ∈ cat ns, x < 256 := by
  intro x hx
  simp only [cat, List.mem_flatMap] at hx
  obtain ⟨n, hn, hx⟩ := hx
  exact pu_bytes (h n hn) x hx
theorem cat_drop (ns : List Nat) (k : Nat) (h : k < ns.length) : (cat ns).drop (cat (ns.take k)).length = pu (ns.getD k 0) ++ cat (ns.drop (k + 1)) := by
  have e : cat ns = cat (ns.take k) ++ (pu (ns.getD k 0) ++ cat (ns.drop (k + 1))) := by
    calc cat ns = cat (ns.take k ++ ns.drop k) := by rw [List.take_append_drop]
      _ = cat (ns.take k) ++ cat (ns.drop k) := cat_app _ _
      _ = _ := by
        have e2 : ns.drop k = ns.getD k 0 :: ns.drop (k + 1) := (List.drop_eq_getElem_cons h).trans (by rw [show ns.getD k 0 = ns[k] from by simp [h]])
        rw [e2]
        simp only [cat, List.flatMap_cons]
  rw [e, List.drop_left]
theorem cat_ru (ns : List Nat) (hn : ∀ n ∈ ns, n < 18446744073709551616) (k : Nat) (h : k < ns.length) : cu (cat ns) (cat (ns.take k)).length 0 = (ns.getD k 0, (cat (ns.take (k + 1))).length, 0) := by
  have hm : ns.getD k 0 < 18446744073709551616 := by
    have : ns.getD k 0 = ns[k] := by simp [h]
    rw [this]
    exact hn _ (List.getElem_mem h)
  have hr : ru (cat ns) ((cat (ns.take k)).length : Int) = (ns.getD k 0, (pu (ns.getD k 0)).length, 0) := by
    rw [ru_nat, cat_drop ns k h, uu_back hm]
  unfold cu
  rw [hr, if_pos rfl, if_pos rfl, take_one ns k h, cat_snoc, List.length_append]

set_option maxRecDepth 100000 in
set_option maxHeartbeats 4000000 in
theorem numsJoins_walk (a0 : Option Addr) (len0 cap0 : Nat) (z0 : List Int) (w : World) (w0 : IsRow .u64 8 w a0 len0 cap0 z0) :
    Calls Try.prog 10 #[.slice a0 len0 cap0] w fun e w' => e = .returned (.bool true) ∧ Below w.heap.size w w' := by
  have hR := w0.at_
  have hcap := hR.cap
  have hcm := hR.capm
  have hnl := hR.nl
  clear w0
  obtain ⟨m, hm⟩ : ∃ m, m = min len0 300 := ⟨_, rfl⟩
  have hml : m ≤ len0 := by omega
  have hm3 : m ≤ 300 := by omega
  have hmin : min (len0 : Int) 300 = (m : Int) := by omega
  -- the numbers
  obtain ⟨ns, hns⟩ : ∃ ns : List Nat, ns = (List.range m).map fun i => (z0.getD i 0).toNat := ⟨_, rfl⟩
  have hnl2 : ns.length = m := by rw [hns]; simp
  have hcell : ∀ i, (hi : i < m) → ∃ b off, a0 = some ⟨b, off, none⟩ ∧ b < w.heap.size ∧ w.cell? ⟨b, off + i, none⟩ = some (.int .u64 ((ns.getD i 0 : Nat) : Int)) ∧ ns.getD i 0 < 18446744073709551616 := by
    intro i hi
    obtain ⟨b, off, ha, hlt, hc⟩ := hR.cells (by omega)
    obtain ⟨h1, h2⟩ := hc i (by omega)
    have h3 : 0 ≤ z0.getD i 0 ∧ z0.getD i 0 ≤ 18446744073709551615 := by simpa [Lit.wf, IntKind.min, IntKind.max, IntKind.signed, IntKind.bits] using h2
    have h4 : ns.getD i 0 = (z0.getD i 0).toNat := by simp [hns, hi]
    refine ⟨b, off, ha, hlt, ?_, ?_⟩
    · rw [h1, h4]; congr 2; omega
    · rw [h4]; omega
  have hsmall : ∀ n ∈ ns, n < 18446744073709551616 := by
    intro n hn
    obtain ⟨i, hi, rfl⟩ := List.getElem_of_mem hn
    obtain ⟨_, _, _, _, _, h⟩ := hcell i (by omega)
    have : ns.getD i 0 = ns[i] := by simp [hi]
    rw [← this]
    exact h
  have HC := Lib.hid hcell
  have HS := Lib.hid hsmall
  have HL := Lib.hid hnl2
  have HNL := Lib.hid hnl
  clear hR hcell hsmall hns hnl2 hm hnl
  go_enter Try.func10, Try.ntmps10
  go_wp2_with fail
  go_loopw [3, 5, 16] (fun vb v5 sk wr => ∃ k : Nat, k ≤ m ∧ sk = .int .i64 k ∧ wr.ownsRow w.heap.size 5 1 vb (cat (ns.take k)).length (bv (cat (ns.take k))) ∧ Below w.heap.size w wr) (fun _ _ sk _ => m - (intOf sk).toNat)
  case atStart => exact ⟨0, by omega, rfl, by simpa [cat, bv] using World.ownsRow_nil w w.heap.size 5 1, Below.refl _ _⟩
  case round =>
    obtain ⟨k, hk, rfl, hown, hbel⟩ := hrel
    by_cases hkm : k < m
    · obtain ⟨b, off, rfl, hlt, hc, hlt2⟩ := HC.out k hkm
      have hkl : k < ns.length := by have := HL.out; omega
      obtain ⟨x, hx⟩ : ∃ x, x = ns.getD k 0 := ⟨_, rfl⟩
      rw [← hx] at hc hlt2
      have hc' : wr.cell? ⟨b, off + k, none⟩ = some (.int .u64 (x : Int)) := (hbel.cell (p := ⟨b, off + k, none⟩) hlt).trans hc
      have hlen := cat_len (ns.take k) (fun n hn => HS.out n (List.mem_of_mem_take hn))
      rw [List.length_take] at hlen
      have h10 := pu_ten hlt2
      have HX := Lib.hid hx
      have HL2 := Lib.hid hlt2
      have HBE := Lib.hid hbel
      clear hc hx hlt2 hbel
      go_wp2_with fail
      refine (putu _ HL2.out _).mono ?_
      rintro e w1 ⟨g1, c1, rfl, _, hp1, hb1⟩
      have hown1 := hown.kept (w' := w1) (row := none) ⟨hb1.os, hb1.tape, hb1.output, hb1.size, fun j hj _ => hb1.block j hj⟩ (by
        rcases hown.2 with ⟨h, _⟩ | ⟨g, _, _, h, _⟩ <;> subst h <;> simp [Value.ownBlock])
      have hbz := HBE.out.size
      clear hown
      go_wp2_with (at_builtin; refine wpList_append_bytes rfl (.tmp 20) (.tmp 22) rfl w.heap.size _ _ _ rfl hown1 _ _ _ _ rfl hp1 (by omega) (Nat.le_trans hbz hb1.size) ?_)
      intro v' w2 hown2 hgrow2
      have hbel2 := (HBE.out.trans (hb1.mono hbz)).grown hgrow2 (Nat.le_trans hbz hb1.size) (fun k hk => (hown1.lt k hk).1)
      clear hown1 hgrow2 hp1 hb1
      go_wp2_with fail
      go_roundw
      case rel =>
        refine ⟨k + 1, by omega, by go_num, ?_, hbel2⟩
        rw [take_one ns k hkl, cat_snoc, List.length_append, ← HX.out]
        exact hown2
      case measure => simp [intOf]; omega
    · have hkm2 : k = m := by omega
      subst hkm2
      have htk : ns.take k = ns := List.take_of_length_le (by have := HL.out; omega)
      rw [htk] at hown
      have hlen := cat_len ns HS.out
      have hl := HL.out
      obtain ⟨ab, cb, rfl, hba, hfr⟩ := BytesAt.ofOwn hown (cat_byte ns HS.out) (by omega)
      have hN := new_any hba
      have HN := Lib.hid hN
      have HT := Lib.hid htk
      have HBE := Lib.hid hbel
      clear hN hba hown htk hl hfr hbel
      go_wp2_with fail
      refine HN.out.mono ?_
      rintro e w1 ⟨B, a', c', rfl, hcur, hb1, hB, hfr⟩
      have hbz := HBE.out.size
      have hb01 := HBE.out.trans (hb1.mono hbz)
      have hB0 : w.heap.size ≤ B := Nat.le_trans hbz hB
      have HB01 := Lib.hid hb01
      have HCUR := Lib.hid hcur
      clear hcur hb01 hb1 hfr
      go_wp2_with fail
      go_loopw [8, 29] (fun v8 sk w2 => ∃ j : Nat, j ≤ k ∧ sk = .int .i64 j ∧ CurAt 59 w2 B a' (cat ns).length c' (cat ns) (cat (ns.take j)).length 0 ∧ Below w.heap.size w w2) (fun _ sk _ => k - (intOf sk).toNat)
      case atStart => exact ⟨0, by omega, rfl, by simpa [cat] using HCUR.out, HB01.out⟩
      case round =>
        obtain ⟨j, hj, rfl, hcur, hbel⟩ := hrel
        rename World => w2
        by_cases hjk : j < k
        · obtain ⟨b, off, rfl, hlt, hc, hlt2⟩ := HC.out j hjk
          have hjl : j < ns.length := by have := HL.out; omega
          have hq := cu_any hcur
          rw [cat_ru ns HS.out j hjl] at hq
          obtain ⟨x, hx⟩ : ∃ x, x = ns.getD j 0 := ⟨_, rfl⟩
          rw [← hx] at hc hq
          have hc' : w2.cell? ⟨b, off + j, none⟩ = some (.int .u64 (x : Int)) := (hbel.cell (p := ⟨b, off + j, none⟩) hlt).trans hc
          have HQ := Lib.hid hq
          have HBE2 := Lib.hid hbel
          clear hc hx hq hlt2 hcur hbel
          go_wp2_with fail
          refine HQ.out.mono ?_
          rintro e w3 ⟨rfl, hcur3, hg3⟩
          have HC3 := Lib.hid hcur3
          have hb3 := HBE2.out.grown hg3 HBE2.out.size (fun k hk => by cases hk; exact hB0)
          clear hcur3 hg3
          go_wp2_with fail
          go_roundw
          case rel => exact ⟨j + 1, by omega, by go_num, HC3.out, hb3⟩
          case measure => simp [intOf]; omega
        · have hjk2 : j = k := by omega
          subst hjk2
          rw [HT.out] at hcur
          have hE := end_any hcur
          rw [show cend (cat ns).length (cat ns).length 0 = 0 from by unfold cend; rw [if_pos rfl, if_neg (Nat.lt_irrefl _)]] at hE
          have HE := Lib.hid hE
          have HCU := Lib.hid hcur
          have HBE2 := Lib.hid hbel
          clear hE hcur hbel
          go_wp2_with fail
          refine HE.out.mono ?_
          rintro e w3 ⟨rfl, q, hw3⟩
          subst hw3
          go_wp2_with fail
          refine (at_any (HCU.out.drewN q)).mono ?_
          rintro e w3 ⟨rfl, rfl⟩
          go_wp2_with fail
          refine (putu 5 (by omega) _).mono ?_
          rintro e w4 ⟨g4, c4, rfl, _, _, hb4⟩
          rw [pu_small (show 5 < 128 by omega)]
          go_wp2_with fail
          go_ret
          exact ⟨rfl, (below_drewN HBE2.out q).trans (hb4.mono HBE2.out.size)⟩
end Go.Proofs.Ytbpimhklekcaiaa

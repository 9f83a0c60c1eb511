/- Slices of things of one width, cell by cell; an edit that came in, opened; clones of its slices, walked. Written by genco.py. -/
import Derived.Test.YtmpcbfjcmnjlnaaGreatDoorPace
import Derived.Maps.AppendAt
import Derived.Deep.Slices
import Derived.Deep.Fields
import Derived.SizedLaws
import Derived.Below
import Derived.OpenShut
namespace Go.Proofs.YtmpcbfjcmnjlnaaGreatDoor
open Go.ChangeShapes Go.WideShapes Go.Deep Go.RowKit
set_option linter.unusedVariables false

structure CellsAt (w : World) (a : Option Addr) (n c K : Nat) (l : List (List Value)) : Prop where
  len : l.length = n
  cap : n ≤ c
  capm : c ≤ 9223372036854775807
  nl : a = none → c = 0
  wid : ∀ x ∈ l, x.length = K ∧ ∀ u ∈ x, u.oneCell' = true
  cells : 0 < n → ∃ b off, a = some ⟨b, off, none⟩ ∧ b < w.heap.size ∧ ∀ i, i < n → ∀ j u, (l.getD i [])[j]? = some u → w.cell? ⟨b, off + i * K + j, none⟩ = some u
theorem CellsAt.keep {w w' : World} {a : Option Addr} {n c K : Nat} {l : List (List Value)} (h : CellsAt w a n c K l) {B : Nat} (hb : Below B w w') (hB : w.heap.size ≤ B) : CellsAt w' a n c K l :=
  ⟨h.len, h.cap, h.capm, h.nl, h.wid, fun hn => by
    obtain ⟨b, off, ha, hlt, hc⟩ := h.cells hn
    exact ⟨b, off, ha, Nat.lt_of_lt_of_le hlt hb.size, fun i hi j u hu => (hb.cell (p := ⟨b, off + i * K + j, none⟩) (Nat.lt_of_lt_of_le hlt hB)).trans (hc i hi j u hu)⟩⟩
theorem CellsAt.kept {w w' : World} {a : Option Addr} {n c K : Nat} {l : List (List Value)} (h : CellsAt w a n c K l) (hb : Below w.heap.size w w') : CellsAt w' a n c K l := h.keep hb (Nat.le_refl _)
theorem CellsAt.empty (w : World) (a : Option Addr) (c K : Nat) (hc : c ≤ 9223372036854775807) (ha : a = none → c = 0) : CellsAt w a 0 c K [] :=
  ⟨rfl, Nat.zero_le _, hc, ha, (fun x hx => by cases hx), fun h => absurd h (Nat.lt_irrefl 0)⟩
theorem getD_mem {l : List (List Value)} {i : Nat} (h : i < l.length) : l.getD i [] ∈ l := by
  have : l.getD i [] = l[i] := by simp [h]
  rw [this]; exact List.getElem_mem h
theorem flatten_at : ∀ (l : List (List Value)) (K : Nat), (∀ x ∈ l, x.length = K) → l.flatten.length = l.length * K ∧ ∀ i j, i < l.length → j < K → l.flatten[i * K + j]? = (l.getD i [])[j]?
  | [], K, _ => ⟨by simp, fun i j h => by simp at h⟩
  | x :: r, K, h => by
    have hx := h x (List.mem_cons_self)
    obtain ⟨h1, h2⟩ := flatten_at r K (fun y hy => h y (List.mem_cons_of_mem _ hy))
    refine ⟨by rw [List.flatten_cons, List.length_append, hx, h1, List.length_cons, Nat.succ_mul]; omega, fun i j hi hj => ?_⟩
    rcases i with _ | i
    · rw [List.flatten_cons, Nat.zero_mul, Nat.zero_add, List.getElem?_append_left (by omega)]; rfl
    · rw [List.flatten_cons, List.getElem?_append_right (by rw [hx, Nat.succ_mul]; omega), hx, show (i + 1) * K + j - K = i * K + j from by rw [Nat.succ_mul]; omega, h2 i j (by simpa using hi) hj]
      rfl
theorem CellsAt.src {w : World} {ad : Addr} {n c K : Nat} {l : List (List Value)} (h : CellsAt w (some ad) n c K l) (hK : 0 < K) : l.flatten.length = n * K ∧ (∀ j u, l.flatten[j]? = some u → w.cell? (ad.add j) = some u) ∧ ∀ u ∈ l.flatten, u.oneCell' = true := by
  obtain ⟨h1, h2⟩ := flatten_at l K (fun x hx => (h.wid x hx).1)
  rw [h.len] at h1
  refine ⟨h1, fun j u hj => ?_, fun u hu => ?_⟩
  · have hlt : j < n * K := by have := (List.getElem?_eq_some_iff.1 hj).1; rw [h1] at this; exact this
    have hn : 0 < n := by rcases n with _ | n; simp at hlt; omega
    obtain ⟨b, off, ha, _, hc⟩ := h.cells hn
    cases ha
    have hadd : (⟨b, off, none⟩ : Addr).add j = ⟨b, off + j, none⟩ := by unfold Addr.add; split <;> simp_all
    have hij : j / K * K + j % K = j := by rw [Nat.mul_comm]; exact Nat.div_add_mod j K
    have hi : j / K < n := Nat.div_lt_of_lt_mul (by rw [Nat.mul_comm]; exact hlt)
    have := hc (j / K) hi (j % K) u (by rw [← h2 (j / K) (j % K) (by rw [h.len]; exact hi) (Nat.mod_lt _ hK), hij]; exact hj)
    rw [hadd, ← this, Nat.add_assoc, hij]
  · obtain ⟨x, hx, hu⟩ := List.mem_flatten.1 hu
    exact (h.wid x hx).2 u hu
/-- what a call owns -/
theorem CellsAt.ofOwn {w : World} {base n K : Nat} {e : TypeId} {v : Value} {l : List (List Value)} (hK : 0 < K) (h : w.ownsRow base e K v n l.flatten) (hn : l.length = n) (hw : ∀ x ∈ l, x.length = K ∧ ∀ u ∈ x, u.oneCell' = true) :
    ∃ a c, v = .slice a n c ∧ CellsAt w a n c K l ∧ ∀ q o s, a = some ⟨q, o, s⟩ → 0 < n → base ≤ q := by
  obtain ⟨h1, h2⟩ := flatten_at l K (fun x hx => (hw x hx).1)
  rcases h.2 with ⟨rfl, h0⟩ | ⟨g, cap, cur, rfl, hg, hh, hnc, hcap, hsz, htake⟩
  · subst h0
    obtain rfl : l = [] := List.eq_nil_of_length_eq_zero hn
    exact ⟨none, 0, rfl, CellsAt.empty w none 0 K (by omega) (fun _ => rfl), fun q o s e => by cases e⟩
  · refine ⟨_, cap, rfl, ⟨hn, hnc, by unfold maxLen at hcap; exact hcap, (fun e => by cases e), hw, fun hp => ⟨g, 0, rfl, (Array.getElem?_eq_some_iff.1 hh).1, fun i hi j u hu => ?_⟩⟩, fun q o s e _ => by cases e; exact hg⟩
    have hj : j < K := by
      have := (List.getElem?_eq_some_iff.1 hu).1
      rw [(hw _ (getD_mem (by omega))).1] at this; exact this
    have h3 : l.flatten[i * K + j]? = some u := by rw [h2 i j (by omega) hj, hu]
    have hlt : i * K + j < n * K := by
      have : (i + 1) * K ≤ n * K := Nat.mul_le_mul_right K hi
      rw [Nat.succ_mul] at this; omega
    rw [Nat.zero_add, cell_of_row w _ _ _ _ (0, 0) hh, ← h3, ← htake, List.getElem?_take_of_lt hlt, Array.getElem?_toList]
theorem add_none (b off j : Nat) : (⟨b, off, none⟩ : Addr).add j = ⟨b, off + j, none⟩ := by unfold Addr.add; split <;> simp_all
/-- a slice of anything that came in -/
theorem open_cells {H : Type} {enc : TypeId × Value → H} {W : World} {fuel : Nat} {T e : TypeId} {K : Nat} {a : Option Addr} {len cap : Nat} {x : DataW H × List MemPlace} (ht : Tryz.prog.underlying T = some (.slice e)) (hK : Tryz.prog.cellsOf e = K) (hK0 : 0 < K) (P : List Value → Prop)
    (hP : ∀ n cs y, DataW.trod enc Tryz.prog W 0 (fun _ => true) true n e cs = some y → P cs ∧ cs.length = K ∧ ∀ u ∈ cs, u.oneCell' = true)
    (hf : DataW.trod enc Tryz.prog W 0 (fun _ => true) true fuel T [.slice a len cap] = some x) : ∃ l, CellsAt W a len cap K l ∧ ∀ y ∈ l, P y := by
  rcases open_slice ht hf with ⟨hcs, _⟩ | ⟨x0, l, c, m, n, D, Pl, hcs, _, hl, hm, hmm, hx, hi⟩
  · simp at hcs
    obtain ⟨rfl, rfl, rfl⟩ := hcs
    exact ⟨[], CellsAt.empty W none 0 K (by omega) (fun _ => rfl), (fun y hy => by cases hy)⟩
  · simp at hcs
    obtain ⟨rfl, rfl, rfl⟩ := hcs
    rw [hK] at hi
    have hm2 : m = cap := by rw [hmm]; simp
    have hone : ∀ i : Nat, ∃ cs : List Value, i < len → (∀ j u, cs[j]? = some u → W.cell? (x0.add (i * K + j)) = some u) ∧ P cs ∧ cs.length = K ∧ ∀ u ∈ cs, u.oneCell' = true := by
      intro i
      by_cases hil : i < len
      · obtain ⟨cs, hcc, ht⟩ := hi i (by omega)
        obtain ⟨hp, hlen, h1⟩ := hP _ _ _ ht
        obtain ⟨_, hl6, hat⟩ := World.cells?_some hcc
        refine ⟨cs, fun _ => ⟨fun j u hu => ?_, hp, hlen, h1⟩⟩
        have := hat j (by rw [← hl6]; exact (List.getElem?_eq_some_iff.1 hu).1)
        rw [add_add, hu] at this
        exact this
      · exact ⟨[], fun h => absurd h hil⟩
    obtain ⟨f, hF⟩ := Classical.skolem.1 hone
    have hget : ∀ i, i < len → ((List.range len).map f).getD i [] = f i := fun i h => by simp [h]
    refine ⟨(List.range len).map f, ⟨by simp, hl, by unfold maxLen at hm; exact hm, (fun e => by cases e), ?_, fun hp => ?_⟩, ?_⟩
    · intro y hy
      obtain ⟨i, hi', rfl⟩ := List.mem_map.1 hy
      exact (hF i (List.mem_range.1 hi')).2.2
    · obtain ⟨b, off, spot⟩ := x0
      obtain ⟨hc0, _, hlen0, _⟩ := hF 0 hp
      rcases K with _ | K
      · exact absurd hK0 (Nat.lt_irrefl 0)
      · have hc := hc0 0 ((f 0)[0]'(by omega)) (by simp)
        have hspot : spot = none := by simpa [Addr.add] using World.cell?_spot hc
        subst hspot
        refine ⟨b, off, rfl, ?_, fun i hi' j u hu => ?_⟩
        · have := World.block_lt_of_cell? W _ hc
          simpa [Addr.add] using this
        · rw [hget i hi'] at hu
          have h0 := (hF i hi').1 j u hu
          rw [add_none, ← Nat.add_assoc] at h0
          exact h0
    · intro y hy
      obtain ⟨i, hi', rfl⟩ := List.mem_map.1 hy
      exact (hF i (List.mem_range.1 hi')).2.1

theorem ent_info : (Tryz.prog.info? 48).map (fun i => (i.zero, i.size, i.bytes)) = some (some (.agg #[.string ByteArray.empty, .int .i64 0, .string ByteArray.empty, .int .i64 0, .int .i64 0, .int .i64 0, .int .i64 0, .int .u32 0, .int .i64 0]), 9, 88) := by kernel_rfl
@[go_sem] theorem eql_ent_nil (w : World) (a : Option Addr) (n c n' c' : Nat) : (binOp .eql 22 (.slice a n c) (.slice none n' c')).run Tryz.prog w = .ok (.bool a.isNone) w := Lib.run_eql_slice_nil w _ _ a n c n' c' Tryz.underlying22
set_option maxRecDepth 100000 in
set_option maxHeartbeats 1000000 in
theorem clone_ent {w : World} {a : Option Addr} {n c : Nat} {l : List (List Value)} (h : CellsAt w a n c 9 l) (hn : n ≤ 1000) :
    Calls Tryz.prog 11 #[.slice a n c] w fun e w' => ∃ a' c', e = .returned (.slice a' n c') ∧ (CellsAt w' a' n c' 9 l ∧ ∀ q o s, a' = some ⟨q, o, s⟩ → 0 < n → w.heap.size ≤ q) ∧ Below w.heap.size w w' := by
  obtain ⟨i0, hi, hz0, hz1, hz2⟩ := info_parts ent_info
  have hown0 := World.ownsRow_lit (base := w.heap.size) (e := 48) (size := 9) w #[] 0 (Nat.le_refl _) (by unfold maxLen; omega) rfl
  have hb0 : Below w.heap.size w (w.alloc (.cells #[] 48)) := (Below.refl _ _).alloc (Nat.le_refl _) _
  have HK := Lib.hid (h.kept hb0)
  have HB0 := Lib.hid hb0
  have hnl := h.nl
  have hcap := h.cap
  clear h hb0
  rcases a with _ | ad
  · have hc0 := hnl rfl
    have hn0 : n = 0 := by omega
    subst hn0
    subst hc0
    have HE := Lib.hid (show l = [] from List.eq_nil_of_length_eq_zero HK.out.len)
    clear hnl
    go_enter Tryz.func11, Tryz.ntmps11
    go_wp2_with fail
    go_ret
    exact ⟨none, 0, rfl, by rw [HE.out]; exact CellsAt.empty w none 0 _ (by omega) (fun _ => rfl), Below.refl _ _⟩
  · clear hnl
    have HSR := Lib.hid (HK.out.src (by omega))
    go_enter Tryz.func11, Tryz.ntmps11
    go_wp2_with (at_builtin; refine wpList_append_own_at _ rfl (.tmp 5) (.tmp 6) 22 rfl w.heap.size 48 i0 _ 9 88 Tryz.underlying22 hi hz0 hz1 hz2 rfl (by decide) _ _ _ rfl hown0 ad n c l.flatten rfl HSR.out.1 HSR.out.2.1 HSR.out.2.2 (by unfold maxLen; omega) (by omega) (by simp) ?_)
    intro v' w1 hown' hgrow hnil _
    have hb : Below w.heap.size w w1 := HB0.out.grown hgrow (by simp) (fun k hk => by simp [Value.ownBlock] at hk; omega)
    have hown2 : w1.ownsRow w.heap.size 48 9 v' n l.flatten := by simpa using hown'
    obtain ⟨a', c', rfl, hgd⟩ := CellsAt.ofOwn (K := 9) (by omega) hown2 HK.out.len HK.out.wid
    have HB := Lib.hid hb
    have HGD := Lib.hid hgd
    clear hown2 hgd
    clear hown' hgrow hb hnil
    go_wp2_with fail
    go_ret
    exact ⟨a', c', rfl, HGD.out, HB.out⟩

theorem str_info : (Tryz.prog.info? 9).map (fun i => (i.zero, i.size, i.bytes)) = some (some (.string ByteArray.empty), 1, 16) := by kernel_rfl
@[go_sem] theorem eql_str_nil (w : World) (a : Option Addr) (n c n' c' : Nat) : (binOp .eql 23 (.slice a n c) (.slice none n' c')).run Tryz.prog w = .ok (.bool a.isNone) w := Lib.run_eql_slice_nil w _ _ a n c n' c' Tryz.underlying23
set_option maxRecDepth 100000 in
set_option maxHeartbeats 1000000 in
theorem clone_str {w : World} {a : Option Addr} {n c : Nat} {l : List (List Value)} (h : CellsAt w a n c 1 l) (hn : n ≤ 1000) :
    Calls Tryz.prog 12 #[.slice a n c] w fun e w' => ∃ a' c', e = .returned (.slice a' n c') ∧ (CellsAt w' a' n c' 1 l ∧ ∀ q o s, a' = some ⟨q, o, s⟩ → 0 < n → w.heap.size ≤ q) ∧ Below w.heap.size w w' := by
  obtain ⟨i0, hi, hz0, hz1, hz2⟩ := info_parts str_info
  have hown0 := World.ownsRow_lit (base := w.heap.size) (e := 9) (size := 1) w #[] 0 (Nat.le_refl _) (by unfold maxLen; omega) rfl
  have hb0 : Below w.heap.size w (w.alloc (.cells #[] 9)) := (Below.refl _ _).alloc (Nat.le_refl _) _
  have HK := Lib.hid (h.kept hb0)
  have HB0 := Lib.hid hb0
  have hnl := h.nl
  have hcap := h.cap
  clear h hb0
  rcases a with _ | ad
  · have hc0 := hnl rfl
    have hn0 : n = 0 := by omega
    subst hn0
    subst hc0
    have HE := Lib.hid (show l = [] from List.eq_nil_of_length_eq_zero HK.out.len)
    clear hnl
    go_enter Tryz.func12, Tryz.ntmps12
    go_wp2_with fail
    go_ret
    exact ⟨none, 0, rfl, by rw [HE.out]; exact CellsAt.empty w none 0 _ (by omega) (fun _ => rfl), Below.refl _ _⟩
  · clear hnl
    have HSR := Lib.hid (HK.out.src (by omega))
    go_enter Tryz.func12, Tryz.ntmps12
    go_wp2_with (at_builtin; refine wpList_append_own_at _ rfl (.tmp 5) (.tmp 6) 23 rfl w.heap.size 9 i0 _ 1 16 Tryz.underlying23 hi hz0 hz1 hz2 rfl (by decide) _ _ _ rfl hown0 ad n c l.flatten rfl HSR.out.1 HSR.out.2.1 HSR.out.2.2 (by unfold maxLen; omega) (by omega) (by simp) ?_)
    intro v' w1 hown' hgrow hnil _
    have hb : Below w.heap.size w w1 := HB0.out.grown hgrow (by simp) (fun k hk => by simp [Value.ownBlock] at hk; omega)
    have hown2 : w1.ownsRow w.heap.size 9 1 v' n l.flatten := by simpa using hown'
    obtain ⟨a', c', rfl, hgd⟩ := CellsAt.ofOwn (K := 1) (by omega) hown2 HK.out.len HK.out.wid
    have HB := Lib.hid hb
    have HGD := Lib.hid hgd
    clear hown2 hgd
    clear hown' hgrow hb hnil
    go_wp2_with fail
    go_ret
    exact ⟨a', c', rfl, HGD.out, HB.out⟩

theorem mrk_info : (Tryz.prog.info? 54).map (fun i => (i.zero, i.size, i.bytes)) = some (some (.agg #[.int .i64 0, .int .i64 0]), 2, 16) := by kernel_rfl
@[go_sem] theorem eql_mrk_nil (w : World) (a : Option Addr) (n c n' c' : Nat) : (binOp .eql 24 (.slice a n c) (.slice none n' c')).run Tryz.prog w = .ok (.bool a.isNone) w := Lib.run_eql_slice_nil w _ _ a n c n' c' Tryz.underlying24
set_option maxRecDepth 100000 in
set_option maxHeartbeats 1000000 in
theorem clone_mrk {w : World} {a : Option Addr} {n c : Nat} {l : List (List Value)} (h : CellsAt w a n c 2 l) (hn : n ≤ 1000) :
    Calls Tryz.prog 13 #[.slice a n c] w fun e w' => ∃ a' c', e = .returned (.slice a' n c') ∧ (CellsAt w' a' n c' 2 l ∧ ∀ q o s, a' = some ⟨q, o, s⟩ → 0 < n → w.heap.size ≤ q) ∧ Below w.heap.size w w' := by
  obtain ⟨i0, hi, hz0, hz1, hz2⟩ := info_parts mrk_info
  have hown0 := World.ownsRow_lit (base := w.heap.size) (e := 54) (size := 2) w #[] 0 (Nat.le_refl _) (by unfold maxLen; omega) rfl
  have hb0 : Below w.heap.size w (w.alloc (.cells #[] 54)) := (Below.refl _ _).alloc (Nat.le_refl _) _
  have HK := Lib.hid (h.kept hb0)
  have HB0 := Lib.hid hb0
  have hnl := h.nl
  have hcap := h.cap
  clear h hb0
  rcases a with _ | ad
  · have hc0 := hnl rfl
    have hn0 : n = 0 := by omega
    subst hn0
    subst hc0
    have HE := Lib.hid (show l = [] from List.eq_nil_of_length_eq_zero HK.out.len)
    clear hnl
    go_enter Tryz.func13, Tryz.ntmps13
    go_wp2_with fail
    go_ret
    exact ⟨none, 0, rfl, by rw [HE.out]; exact CellsAt.empty w none 0 _ (by omega) (fun _ => rfl), Below.refl _ _⟩
  · clear hnl
    have HSR := Lib.hid (HK.out.src (by omega))
    go_enter Tryz.func13, Tryz.ntmps13
    go_wp2_with (at_builtin; refine wpList_append_own_at _ rfl (.tmp 5) (.tmp 6) 24 rfl w.heap.size 54 i0 _ 2 16 Tryz.underlying24 hi hz0 hz1 hz2 rfl (by decide) _ _ _ rfl hown0 ad n c l.flatten rfl HSR.out.1 HSR.out.2.1 HSR.out.2.2 (by unfold maxLen; omega) (by omega) (by simp) ?_)
    intro v' w1 hown' hgrow hnil _
    have hb : Below w.heap.size w w1 := HB0.out.grown hgrow (by simp) (fun k hk => by simp [Value.ownBlock] at hk; omega)
    have hown2 : w1.ownsRow w.heap.size 54 2 v' n l.flatten := by simpa using hown'
    obtain ⟨a', c', rfl, hgd⟩ := CellsAt.ofOwn (K := 2) (by omega) hown2 HK.out.len HK.out.wid
    have HB := Lib.hid hb
    have HGD := Lib.hid hgd
    clear hown2 hgd
    clear hown' hgrow hb hnil
    go_wp2_with fail
    go_ret
    exact ⟨a', c', rfl, HGD.out, HB.out⟩
end Go.Proofs.YtmpcbfjcmnjlnaaGreatDoor

/- Texts put together by packtpl2.py: SqPlain, SqAt, SqWin. -/
import Derived.Test.YtpbijdoemdoijaaGreatDoorPkCa1
import Derived.BigQuiet
import Derived.WalkArith
import Derived.Laws.Rows
import Derived.Laws.ResultCell
import Derived.RegionTactic
section PkCa2_0
/- Squeezing, plain: the last place before a place where the same three bytes stand; how many bytes stand likewise; the best of the distances so far. -/
namespace Go.Proofs.YtpbijdoemdoijaaGreatDoor
set_option linter.unusedVariables false

def k3 (b : List Nat) (i : Nat) : K3 := (b.getD i 0, b.getD (i + 1) 0, b.getD (i + 2) 0)
theorem k3_B3 {b : List Nat} (hb : ∀ x ∈ b, x < 256) (i : Nat) : B3 (k3 b i) := by
  have h : ∀ j, b.getD j 0 < 256 := fun j => by
    rcases Nat.lt_or_ge j b.length with g | g
    · have e1 : b.getD j 0 = b[j] := by simp [g]
      rw [e1]
      exact hb _ (List.getElem_mem g)
    · simp [List.getD, List.getElem?_eq_none g]
  exact ⟨h _, h _, h _⟩

/-- the last place before p where these three bytes stand -/
def prev (b : List Nat) (k : K3) : Nat → Option Nat
  | 0 => none
  | p + 1 => if p + 3 ≤ b.length ∧ k3 b p = k then some p else prev b k p
theorem prev_lt {b : List Nat} {k : K3} : ∀ {p q : Nat}, prev b k p = some q → q < p ∧ q + 3 ≤ b.length ∧ k3 b q = k
  | 0, q, h => by cases h
  | p + 1, q, h => by
    simp only [prev] at h
    split at h
    · rename_i hc
      cases h
      exact ⟨by omega, hc.1, hc.2⟩
    · have := prev_lt h
      exact ⟨by omega, this.2⟩
/-- no place between -/
theorem prev_last {b : List Nat} {k : K3} : ∀ {p : Nat} {i : Nat}, i < p → i + 3 ≤ b.length → k3 b i = k → ∃ q, prev b k p = some q ∧ i ≤ q
  | p + 1, i, h, h1, h2 => by
    simp only [prev]
    split
    · exact ⟨p, rfl, by omega⟩
    · rename_i hc
      have hi : i < p := by
        rcases Nat.lt_or_ge i p with g | g
        · exact g
        · obtain rfl : i = p := by omega
          exact absurd ⟨h1, h2⟩ hc
      exact prev_last hi h1 h2
theorem prev_step {b : List Nat} {k : K3} {p : Nat} (h : p + 3 ≤ b.length) : prev b k (p + 1) = if k = k3 b p then some p else prev b k p := by
  simp only [prev]
  by_cases e : k3 b p = k
  · rw [if_pos ⟨h, e⟩, if_pos e.symm]
  · rw [if_neg (fun hc => e hc.2), if_neg (fun hc => e hc.symm)]
theorem prev_over {b : List Nat} {k : K3} {p : Nat} (h : ¬ p + 3 ≤ b.length) : prev b k (p + 1) = prev b k p := by
  simp only [prev]
  rw [if_neg (fun hc => h hc.1)]

/-- how many bytes, at most m, stand likewise from both places on -/
def like (b : List Nat) (i j : Nat) : Nat → Nat
  | 0 => 0
  | m + 1 => if b.getD i 0 = b.getD j 0 then like b (i + 1) (j + 1) m + 1 else 0
theorem like_le {b : List Nat} : ∀ {m i j : Nat}, like b i j m ≤ m
  | 0, i, j => Nat.le_refl _
  | m + 1, i, j => by
    simp only [like]
    split
    · have := @like_le b m (i + 1) (j + 1); omega
    · omega
theorem like_eq {b : List Nat} : ∀ {m i j k : Nat}, k < like b i j m → b.getD (i + k) 0 = b.getD (j + k) 0
  | m + 1, i, j, k, h => by
    simp only [like] at h
    split at h
    · rename_i e
      match k with
      | 0 => exact e
      | k + 1 =>
        have := @like_eq b m (i + 1) (j + 1) k (by omega)
        rw [show i + (k + 1) = i + 1 + k from by omega, show j + (k + 1) = j + 1 + k from by omega]
        exact this
    · omega
theorem like_ge {b : List Nat} : ∀ {m i j n : Nat}, n ≤ m → (∀ k, k < n → b.getD (i + k) 0 = b.getD (j + k) 0) → n ≤ like b i j m
  | m, i, j, 0, h, hk => Nat.zero_le _
  | m + 1, i, j, n + 1, h, hk => by
    simp only [like]
    rw [if_pos (by simpa using hk 0 (by omega))]
    have := @like_ge b m (i + 1) (j + 1) n (by omega) (fun k hlt => by
      have := hk (k + 1) (by omega)
      rw [show i + 1 + k = i + (k + 1) from by omega, show j + 1 + k = j + (k + 1) from by omega]
      exact this)
    omega
/-- it ends where the two differ -/
theorem like_end {b : List Nat} {m i j n : Nat} (hn : n < m) (hk : ∀ k, k < n → b.getD (i + k) 0 = b.getD (j + k) 0) (he : b.getD (i + n) 0 ≠ b.getD (j + n) 0) : like b i j m = n := by
  have h1 := like_ge (m := m) (Nat.le_of_lt hn) hk
  rcases Nat.lt_or_ge n (like b i j m) with g | g
  · exact absurd (like_eq g) he
  · omega
theorem like_full {b : List Nat} {m i j : Nat} (hk : ∀ k, k < m → b.getD (i + k) 0 = b.getD (j + k) 0) : like b i j m = m := Nat.le_antisymm like_le (like_ge (Nat.le_refl _) hk)

/-- how many bytes may be told at a place -/
def most (b : List Nat) (i : Nat) : Nat := min 258 (b.length - i)
/-- three bytes and more: just if the three bytes are the same -/
theorem like_three {b : List Nat} {i j : Nat} (hj : j + 3 ≤ b.length) : 3 ≤ like b i j (most b j) ↔ k3 b i = k3 b j := by
  have hm : 3 ≤ most b j := by unfold most; omega
  constructor
  · intro h
    have e0 := @like_eq b (most b j) i j 0 (by omega)
    have e1 := @like_eq b (most b j) i j 1 (by omega)
    have e2 := @like_eq b (most b j) i j 2 (by omega)
    simp only [k3, Prod.mk.injEq]
    exact ⟨e0, e1, e2⟩
  · intro h
    simp only [k3, Prod.mk.injEq] at h
    refine like_ge hm (fun k hk => ?_)
    match k, hk with
    | 0, _ => exact h.1
    | 1, _ => exact h.2.1
    | 2, _ => exact h.2.2

/-- the best of the distances 1 to d: how many bytes, from how far -/
def bestD (b : List Nat) (i : Nat) : Nat → Nat × Nat
  | 0 => (0, 0)
  | d + 1 =>
    let n := like b (i - (d + 1)) i (most b i)
    if 3 ≤ n ∧ (bestD b i d).1 < n then (n, d + 1) else bestD b i d
theorem bestD_step (b : List Nat) (i d : Nat) : bestD b i (d + 1) = if 3 ≤ like b (i - (d + 1)) i (most b i) ∧ (bestD b i d).1 < like b (i - (d + 1)) i (most b i) then (like b (i - (d + 1)) i (most b i), d + 1) else bestD b i d := rfl
theorem bestD_le {b : List Nat} {i : Nat} : ∀ {d : Nat}, (bestD b i d).1 ≤ most b i
  | 0 => Nat.zero_le _
  | d + 1 => by
    rw [bestD_step]
    split
    · exact like_le
    · exact bestD_le
/-- no distance between tells three bytes: the best stays -/
theorem bestD_skip {b : List Nat} {i d : Nat} : ∀ {e : Nat}, (∀ t, d < t → t ≤ d + e → ¬ 3 ≤ like b (i - t) i (most b i)) → bestD b i (d + e) = bestD b i d
  | 0, _ => rfl
  | e + 1, h => by
    rw [show d + (e + 1) = (d + e) + 1 from rfl, bestD_step, if_neg (fun hc => h (d + e + 1) (by omega) (by omega) hc.1)]
    exact bestD_skip (fun t h1 h2 => h t h1 (by omega))
/-- nothing is longer than the longest -/
theorem bestD_full {b : List Nat} {i d : Nat} (hf : (bestD b i d).1 = most b i) : ∀ {e : Nat}, bestD b i (d + e) = bestD b i d
  | 0 => rfl
  | e + 1 => by
    rw [show d + (e + 1) = (d + e) + 1 from rfl, bestD_step, if_neg (fun hc => ?_)]
    · exact bestD_full hf
    · rw [bestD_full hf, hf] at hc
      have := @like_le b (most b i) (i - (d + e + 1)) i
      omega
/-- what the best says -/
theorem bestD_says {b : List Nat} {i : Nat} : ∀ {d : Nat}, bestD b i d = (0, 0) ∨ (3 ≤ (bestD b i d).1 ∧ 1 ≤ (bestD b i d).2 ∧ (bestD b i d).2 ≤ d ∧ (bestD b i d).1 = like b (i - (bestD b i d).2) i (most b i))
  | 0 => Or.inl rfl
  | d + 1 => by
    rw [bestD_step]
    split
    · rename_i hc
      exact Or.inr ⟨hc.1, by simp, by simp, rfl⟩
    · rcases @bestD_says b i d with h | ⟨h1, h2, h3, h4⟩
      · exact Or.inl h
      · exact Or.inr ⟨h1, h2, by omega, h4⟩

/-- the token of a place: how many bytes, from how far (none: the byte) -/
def tokAt (b : List Nat) (i : Nat) : Nat × Nat × Nat :=
  let r := bestD b i (min i 32768)
  if r.1 = 0 then (0, 0, b.getD i 0) else (r.1, r.2, 0)
/-- the tokens from a place on -/
def toksFrom (b : List Nat) : Nat → Nat → List (Nat × Nat × Nat)
  | 0, _ => []
  | f + 1, i => if i < b.length then tokAt b i :: toksFrom b f (i + max 1 (tokAt b i).1) else []
def toks (b : List Nat) : List (Nat × Nat × Nat) := toksFrom b b.length 0
end Go.Proofs.YtpbijdoemdoijaaGreatDoor
end PkCa2_0
section PkCa2_1
/- Squeezing, walked: three bytes of a window, how many bytes stand likewise; the document's answer to that. Written by gensqat.py. -/
namespace Go.Proofs.YtpbijdoemdoijaaGreatDoor
open Go.RowKit
set_option linter.unusedVariables false

theorem ret_cell_tmp {P : Program} {fn : Func} {p u : Tmp} {ty : TypeId} (h : fn.results = #[.cell p ty, .tmp u]) (tmps : Array Value) (w : World) (g : Nat) (t : TypeId) (cs : Array Value) (fr : Nat × Nat) (d : TypeDesc)
    (hp : tmps.getD p undef = .pointer (some ⟨g, 0, none⟩)) (hg : w.heap[g]? = some (.cells cs t fr))
    (hu : P.underlying ty = some d) (hd : (match d with | .struct _ | .array _ _ => true | _ => false) = true) (hi : (P.info? ty).map (·.size) = some cs.size) :
    (results fn tmps).run P w = .ok (.tuple #[.agg cs, tmps.getD u undef]) w := by
  rw [results_cell_tmp h]
  have hp' : tmps[p]?.getD undef = .pointer (some ⟨g, 0, none⟩) := by simpa using hp
  simp [hp', asAddr, run_loadVar_row w g t ty cs fr d hg hu hd hi, Result.andThen]

theorem array_at (w : World) (ad : Addr) (m : Nat) : (Instr.arrayAt 200 (.slice (some ad) 3 m)).run Tryz.prog w = .ok (.pointer (some ad)) w := by
  simp [Instr.arrayAt, run_underlying Tryz.underlying200, Result.andThen]

theorem bytes_at {w : World} {a : Option Addr} {n c : Nat} {b : List Nat} (h : BytesAt w a n c b) {i : Nat} (hi : i < n) : ∃ g off, a = some ⟨g, off, none⟩ ∧ g < w.heap.size ∧ ∀ j, j < n → w.cell? ⟨g, off + j, none⟩ = some (.int .u8 ((b.getD j 0 : Nat) : Int)) := h.cells (by omega)

set_option maxRecDepth 100000 in
set_option maxHeartbeats 1000000 in
theorem three_no {w : World} {W : Nat} {a : Option Addr} {n c : Nat} (c0 : w.cell? ⟨W, 0, none⟩ = some (.slice a n c)) (hn : n ≤ 140737488351232) {i : Nat} (hi : i ≤ n) (h : n < i + 3) (hW : W < w.heap.size) :
    Calls Tryz.prog 170 #[.pointer (some ⟨W, 0, none⟩), .int .i64 (i : Int)] w fun e w' => e = .returned (.tuple #[.agg #[.int .u8 0, .int .u8 0, .int .u8 0], .bool false]) ∧ Below w.heap.size w w' := by
  have hii : (n : Int) < (i : Int) + 3 := by omega
  go_enter Tryz.func170, Tryz.ntmps170
  go_wp2_with fail
  refine bodyPost_ret (ret_cell_tmp rfl _ _ w.heap.size 200 _ _ _ rfl (heap_alloc_new _ _) Tryz.underlying200 rfl (by kernel_rfl)) rfl ?_
  exact ⟨rfl, (Below.refl _ _).alloc (Nat.le_refl _) _⟩

set_option maxRecDepth 100000 in
set_option maxHeartbeats 1000000 in
theorem three_yes {w : World} {W : Nat} {a : Option Addr} {n c : Nat} {b : List Nat} (c0 : w.cell? ⟨W, 0, none⟩ = some (.slice a n c)) (hb : BytesAt w a n c b) {i : Nat} (h : i + 3 ≤ n) (hW : W < w.heap.size) :
    Calls Tryz.prog 170 #[.pointer (some ⟨W, 0, none⟩), .int .i64 (i : Int)] w fun e w' => e = .returned (.tuple #[kv (k3 b i), .bool true]) ∧ Below w.heap.size w w' := by
  obtain ⟨g, off, rfl, hlt, hc⟩ := bytes_at hb (i := i) (by omega)
  have x0 := hc i (by omega)
  have x1 : w.cell? ⟨g, off + i + 1, none⟩ = _ := hc (i + 1) (by omega)
  have x2 : w.cell? ⟨g, off + i + 2, none⟩ = _ := hc (i + 2) (by omega)
  obtain ⟨p0, hp0⟩ : ∃ x, x = b.getD i 0 := ⟨_, rfl⟩
  obtain ⟨p1, hp1⟩ : ∃ x, x = b.getD (i + 1) 0 := ⟨_, rfl⟩
  obtain ⟨p2, hp2⟩ : ∃ x, x = b.getD (i + 2) 0 := ⟨_, rfl⟩
  have HK := Lib.hid (show k3 b i = (p0, p1, p2) by rw [hp0, hp1, hp2]; rfl)
  rw [← hp0] at x0
  rw [← hp1] at x1
  rw [← hp2] at x2
  clear hp0 hp1 hp2
  have hcap := hb.cap
  have hcm := hb.capm
  have hr := hb.reach
  have hii : (i : Int) + 3 ≤ (n : Int) := by omega
  have harr := array_at
  clear hb hc
  go_enter Tryz.func170, Tryz.ntmps170
  go_wp2_with fail
  refine bodyPost_ret (ret_cell_tmp rfl _ _ w.heap.size 200 _ _ _ rfl (heap_alloc_new _ _) Tryz.underlying200 rfl (by kernel_rfl)) rfl ?_
  rw [HK.out]
  exact ⟨rfl, (Below.refl _ _).alloc (Nat.le_refl _) _⟩

set_option maxRecDepth 100000 in
set_option maxHeartbeats 2000000 in
theorem likewise_any {w : World} {W : Nat} {a : Option Addr} {n c : Nat} {b : List Nat} (c0 : w.cell? ⟨W, 0, none⟩ = some (.slice a n c)) (hb : BytesAt w a n c b) {i j m : Nat} (hi : i + m ≤ n) (hj : j + m ≤ n) :
    Calls Tryz.prog 171 #[.pointer (some ⟨W, 0, none⟩), .int .i64 (i : Int), .int .i64 (j : Int), .int .i64 (m : Int)] w fun e w' => e = .returned (.int .i64 ((like b i j m : Nat) : Int)) ∧ ∃ q, w' = w.drewN q := by

  have hcap := hb.cap
  have hcm := hb.capm
  have hr := hb.reach
  have HB := Lib.hid hb
  clear hb
  go_enter Tryz.func171, Tryz.ntmps171
  go_wp2_with fail
  go_loopw [9] (fun s7 wr => ∃ k q : Nat, k ≤ m ∧ s7 = .int .i64 k ∧ Hid (∀ t, t < k → b.getD (i + t) 0 = b.getD (j + t) 0) ∧ Hid (wr = w.drewN q)) (fun s7 _ => m - (intOf s7).toNat)
  case atStart => exact ⟨0, 0, by omega, rfl, Lib.hid (fun t ht => by omega), Lib.hid rfl⟩
  case round =>
    obtain ⟨k, q, hk, rfl, HE, HW⟩ := hrel
    rename World => wr
    have HWW := HW.out
    subst HWW
    by_cases hkm : k < m
    · obtain ⟨g, off, ha, hlt, hcell⟩ := bytes_at HB.out (i := i + k) (by omega)
      have hck := hcell (i + k) (by omega)
      have hck' := hcell (j + k) (by omega)
      obtain ⟨x, hx⟩ : ∃ x, x = b.getD (i + k) 0 := ⟨_, rfl⟩
      obtain ⟨y, hy⟩ : ∃ y, y = b.getD (j + k) 0 := ⟨_, rfl⟩
      rw [← hx] at hck
      rw [← hy] at hck'
      subst ha

      by_cases hxy : x = y
      · have HE2 := Lib.hid (show ∀ t, t < k + 1 → b.getD (i + t) 0 = b.getD (j + t) 0 from fun t ht => by
          rcases Nat.lt_or_ge t k with g | g
          · exact HE.out t g
          · obtain rfl : t = k := by omega
            rw [← hx, ← hy, hxy])
        subst hxy
        have hq : ((x : Int) == (x : Int)) = true := by simp
        clear hcell hx hy
        go_wp2_with fail
        go_quiet (fail)
        go_wp2_with fail
        go_roundw
        case rel => exact ⟨k + 1, _, by omega, by go_num, HE2, Lib.hid (by first | rfl | rw [World.drewN_drewN])⟩
        case measure => simp [intOf]; omega
      · have hq : ((x : Int) == (y : Int)) = false := by rw [beq_eq_false_iff_ne]; omega
        have HN := Lib.hid (show like b i j m = k from like_end (by omega) HE.out (by rw [← hx, ← hy]; exact hxy))
        clear hcell hx hy hxy
        go_wp2_with fail
        go_quiet (fail)
        go_wp2_with fail
        go_ret
        rw [HN.out]
        exact ⟨rfl, _, by first | rfl | rw [World.drewN_drewN]⟩
    · obtain rfl : k = m := by omega
      have HN := Lib.hid (show like b i j k = k from like_full HE.out)

      clear hkm
      go_wp2_with fail
      go_quiet (fail)
      go_wp2_with fail
      go_ret
      rw [HN.out]
      exact ⟨rfl, _, by first | rfl | rw [World.drewN_drewN]⟩

set_option maxRecDepth 100000 in
set_option maxHeartbeats 2000000 in
theorem alike_any {w : World} {a : Option Addr} {n c : Nat} {b : List Nat} (hb : BytesAt w a n c b) {i j : Nat} (hij : i ≤ j) (hjn : j ≤ n) :
    Calls Tryz.prog 154 #[.slice a n c, .int .i64 (i : Int), .int .i64 (j : Int)] w fun e w' => e = .returned (.int .i64 ((like b i j (most b j) : Nat) : Int)) ∧ ∃ q, w' = w.drewN q := by
  have hblen := hb.len
  obtain ⟨m, hm⟩ : ∃ m, m = most b j := ⟨_, rfl⟩
  have hm2 : m = min 258 (n - j) := by rw [hm, most, hblen]
  have hj : j + m ≤ n := by omega
  have hi : i + m ≤ n := by omega
  rw [← hm]
  clear hm hblen
  have hcap := hb.cap
  have hcm := hb.capm
  have hr := hb.reach
  have HB := Lib.hid hb
  clear hb
  go_enter Tryz.func154, Tryz.ntmps154
  go_wp2_with fail
  go_loopw [7] (fun s7 wr => ∃ k q : Nat, k ≤ m ∧ s7 = .int .i64 k ∧ Hid (∀ t, t < k → b.getD (i + t) 0 = b.getD (j + t) 0) ∧ Hid (wr = w.drewN q)) (fun s7 _ => m - (intOf s7).toNat)
  case atStart => exact ⟨0, 0, by omega, rfl, Lib.hid (fun t ht => by omega), Lib.hid rfl⟩
  case round =>
    obtain ⟨k, q, hk, rfl, HE, HW⟩ := hrel
    rename World => wr
    have HWW := HW.out
    subst HWW
    by_cases hkm : k < m
    · obtain ⟨g, off, ha, hlt, hcell⟩ := bytes_at HB.out (i := i + k) (by omega)
      have hck := hcell (i + k) (by omega)
      have hck' := hcell (j + k) (by omega)
      obtain ⟨x, hx⟩ : ∃ x, x = b.getD (i + k) 0 := ⟨_, rfl⟩
      obtain ⟨y, hy⟩ : ∃ y, y = b.getD (j + k) 0 := ⟨_, rfl⟩
      rw [← hx] at hck
      rw [← hy] at hck'
      subst ha
      have g1 : (k : Int) < 258 := by omega
      have g2 : (k : Int) < (n : Int) - (j : Int) := by omega
      by_cases hxy : x = y
      · have HE2 := Lib.hid (show ∀ t, t < k + 1 → b.getD (i + t) 0 = b.getD (j + t) 0 from fun t ht => by
          rcases Nat.lt_or_ge t k with g | g
          · exact HE.out t g
          · obtain rfl : t = k := by omega
            rw [← hx, ← hy, hxy])
        subst hxy
        have hq : ((x : Int) == (x : Int)) = true := by simp
        clear hcell hx hy
        go_wp2_with fail
        go_quiet (fail)
        go_wp2_with fail
        go_roundw
        case rel => exact ⟨k + 1, _, by omega, by go_num, HE2, Lib.hid (by first | rfl | rw [World.drewN_drewN])⟩
        case measure => simp [intOf]; omega
      · have hq : ((x : Int) == (y : Int)) = false := by rw [beq_eq_false_iff_ne]; omega
        have HN := Lib.hid (show like b i j m = k from like_end (by omega) HE.out (by rw [← hx, ← hy]; exact hxy))
        clear hcell hx hy hxy
        go_wp2_with fail
        go_quiet (fail)
        go_wp2_with fail
        go_ret
        rw [HN.out]
        exact ⟨rfl, _, by first | rfl | rw [World.drewN_drewN]⟩
    · obtain rfl : k = m := by omega
      have HN := Lib.hid (show like b i j k = k from like_full HE.out)

      clear hkm
      by_cases h258 : k < 258
      · have g1 : (k : Int) < 258 := by omega
        have g2 : decide ((k : Int) < (n : Int) - (j : Int)) = false := decide_eq_false (by omega)
        clear hm2
        go_wp2_with fail
        go_quiet (fail)
        go_wp2_with fail
        go_ret
        rw [HN.out]
        exact ⟨rfl, _, by first | rfl | rw [World.drewN_drewN]⟩
      · have g1 : decide ((k : Int) < 258) = false := decide_eq_false (by omega)
        clear hm2
        go_wp2_with fail
        go_quiet (fail)
        go_wp2_with fail
        go_ret
        rw [HN.out]
        exact ⟨rfl, _, by first | rfl | rw [World.drewN_drewN]⟩
end Go.Proofs.YtpbijdoemdoijaaGreatDoor
end PkCa2_1
section PkCa2_2
/- A window, as walks are told of it; a place taken into what is known. -/
namespace Go.Proofs.YtpbijdoemdoijaaGreatDoor
open Go.RowKit
set_option linter.unusedVariables false

/-- what a call may turn that turns two blocks alone, and makes new ones -/
structure Two (A M : Nat) (w w' : World) : Prop where
  os : w'.os = w.os
  tape : w'.tape = w.tape
  output : w'.output = w.output
  size : w.heap.size ≤ w'.heap.size
  block : ∀ k, k < w.heap.size → k ≠ A → k ≠ M → w'.heap[k]? = w.heap[k]?
theorem Two.refl (A M : Nat) (w : World) : Two A M w w := ⟨rfl, rfl, rfl, Nat.le_refl _, fun _ _ _ _ => rfl⟩
theorem Two.trans {A M : Nat} {a b c : World} (h : Two A M a b) (g : Two A M b c) : Two A M a c :=
  ⟨g.os.trans h.os, g.tape.trans h.tape, g.output.trans h.output, Nat.le_trans h.size g.size, fun k hk h1 h2 => (g.block k (Nat.lt_of_lt_of_le hk h.size) h1 h2).trans (h.block k hk h1 h2)⟩
theorem Two.below {A M : Nat} {a w w' : World} (h : Two A M a w) (hb : Below w.heap.size w w') : Two A M a w' :=
  h.trans ⟨hb.os, hb.tape, hb.output, hb.size, fun k hk _ _ => hb.block k hk⟩
theorem Two.setA {A M : Nat} {a w : World} (h : Two A M a w) (i : Nat) (u : Value) : Two A M a (w.setCell ⟨A, i, none⟩ u) :=
  h.trans ⟨rfl, rfl, rfl, by simp [World.setCell], fun k hk h1 _ => Below.heap_setCell _ _ _ _ h1⟩
theorem Two.drewN {A M : Nat} {a w : World} (h : Two A M a w) (q : Nat) : Two A M a (w.drewN q) := ⟨h.os, h.tape, h.output, h.size, h.block⟩
theorem Two.drew {A M : Nat} {a w : World} (h : Two A M a w) : Two A M a w.drew := ⟨h.os, h.tape, h.output, h.size, h.block⟩
theorem Two.grownM {A M : Nat} {a w w' : World} (h : Two A M a w) (hg : w.grownBy w' (some M)) : Two A M a w' :=
  h.trans ⟨hg.os, hg.tape, hg.output, hg.size, fun k hk _ h2 => hg.block k hk (fun e => h2 (by simpa using e))⟩
theorem Two.old {A M B : Nat} {a w w' : World} (h : Two A M w w') (ha : Below B a w) (hA : B ≤ A) (hM : B ≤ M) (hs : B ≤ w.heap.size) : Below B a w' :=
  ha.trans ⟨h.os, h.tape, h.output, h.size, fun k hk => h.block k (by omega) (by omega) (by omega)⟩

theorem heap_set2 {w : World} {B : Nat} {cur : Array Value} {t : TypeId} (g : w.heap[B]? = some (.cells cur t (0, 0))) (i : Nat) (u : Value) : (w.setCell ⟨B, i, none⟩ u).heap[B]? = some (.cells (cur.setIfInBounds i u) t (0, 0)) := heap_setCell_same w B i cur t u g
theorem cell_of {w : World} {B : Nat} {cur : Array Value} {t : TypeId} (g : w.heap[B]? = some (.cells cur t (0, 0))) {i : Nat} {u : Value} (h : cur[i]? = some u) : w.cell? ⟨B, i, none⟩ = some u := by rw [cell_of_row w _ _ _ _ (0, 0) g]; exact h
theorem fro_of {w : World} {B : Nat} {cur : Array Value} {t : TypeId} (g : w.heap[B]? = some (.cells cur t (0, 0))) (i : Nat) : w.frozen? ⟨B, i, none⟩ = false := by simp [World.frozen?, g]

/-- the place ahead of a place (none: -1) -/
def sqpz (b : List Nat) (i : Nat) : Int := match prev b (k3 b i) i with | none => -1 | some q => (q : Int)
theorem pz_none {b : List Nat} {i : Nat} (h : prev b (k3 b i) i = none) : sqpz b i = -1 := by simp [sqpz, h]
theorem pz_some {b : List Nat} {i q : Nat} (h : prev b (k3 b i) i = some q) : sqpz b i = (q : Int) := by simp [sqpz, h]

/-- a window over bytes, of which the places before p are known -/
structure WinAt (w0 w : World) (W A M : Nat) (a : Option Addr) (n c ac : Nat) (b : List Nat) (p : Nat) : Prop where
  by_ : BytesAt w0 a n c b
  bel : Below w0.heap.size w0 w
  nW : w0.heap.size ≤ W
  nA : w0.heap.size ≤ A
  nM : w0.heap.size ≤ M
  wa : W ≠ A
  wm : W ≠ M
  am : A ≠ M
  win : w.heap[W]? = some (.cells #[.slice a n c, .map (some M), .slice (some ⟨A, 0, none⟩) n ac] 164 (0, 0))
  hac : n ≤ ac ∧ ac ≤ 9223372036854775807
  ah : ∃ cur, w.heap[A]? = some (.cells cur 3 (0, 0)) ∧ (∀ i, i < n → ∃ z : Int, cur[i]? = some (.int .i64 z)) ∧ ∀ i, i < p → i + 3 ≤ n → cur[i]? = some (.int .i64 (sqpz b i))
  map : MapIs w M p (fun k => prev b k p)
theorem WinAt.bytes {w0 w : World} {W A M : Nat} {a : Option Addr} {n c ac : Nat} {b : List Nat} {p : Nat} (h : WinAt w0 w W A M a n c ac b p) : BytesAt w a n c b := h.by_.kept h.bel
theorem WinAt.keep {w0 w w' : World} {W A M : Nat} {a : Option Addr} {n c ac : Nat} {b : List Nat} {p : Nat} (h : WinAt w0 w W A M a n c ac b p) (hb : Below w.heap.size w w') : WinAt w0 w' W A M a n c ac b p := by
  obtain ⟨cur, h1, h2, h3⟩ := h.ah
  have lW := (Array.getElem?_eq_some_iff.1 h.win).1
  have lA := (Array.getElem?_eq_some_iff.1 h1).1
  exact ⟨h.by_, h.bel.trans (hb.mono h.bel.size), h.nW, h.nA, h.nM, h.wa, h.wm, h.am, (hb.block W lW).trans h.win, h.hac, ⟨cur, (hb.block A lA).trans h1, h2, h3⟩, h.map.same (hb.block M h.map.lt)⟩

set_option maxRecDepth 100000 in
set_option maxHeartbeats 2000000 in
theorem pass_over {w0 w : World} {W A M : Nat} {a : Option Addr} {n c ac : Nat} {b : List Nat} {p : Nat} (h : WinAt w0 w W A M a n c ac b p) (hp : p < n) (hn : n < p + 3) :
    Calls Tryz.prog 141 #[.pointer (some ⟨W, 0, none⟩), .int .i64 (p : Int)] w fun e w' => e = .returned (.tuple #[]) ∧ WinAt w0 w' W A M a n c ac b (p + 1) ∧ Two A M w w' := by
  have lW := (Array.getElem?_eq_some_iff.1 h.win).1
  have c0 := cell_of h.win (i := 0) (u := .slice a n c) rfl
  have HT := Lib.hid (three_no c0 h.by_.reach (i := p) (by omega) hn lW)
  have HH := Lib.hid h
  clear h c0
  go_enter Tryz.func141, Tryz.ntmps141
  go_wp2_with fail
  refine HT.out.mono ?_
  rintro e w1 ⟨rfl, hb1⟩
  have HB := Lib.hid hb1
  clear hb1
  go_wp2_with fail
  first | go_end0 | refine bodyPost_ret (results_none rfl _ _ _) rfl ?_
  have hb2 := HB.out.trans ((Below.refl (w1.heap.size) w1).alloc (Nat.le_refl _) (.cells #[.int .u8 0, .int .u8 0, .int .u8 0] 200) |>.mono HB.out.size)
  have hk := HH.out.keep hb2
  have hlen := HH.out.by_.len
  refine ⟨rfl, ⟨hk.by_, hk.bel, hk.nW, hk.nA, hk.nM, hk.wa, hk.wm, hk.am, hk.win, hk.hac, ?_, ?_⟩, (Two.refl A M w).below hb2⟩
  · obtain ⟨cur, h1, h2, h3⟩ := hk.ah
    exact ⟨cur, h1, h2, fun i hi h4 => h3 i (by omega) h4⟩
  · exact (hk.map.congr (fun k => (prev_over (by omega)).symm)).mono (Nat.le_succ _)

/-- a place more is known -/
theorem WinAt.passed {w0 w1 w4 w5 : World} {W A M : Nat} {a : Option Addr} {n c ac : Nat} {b : List Nat} {p : Nat} (h : WinAt w0 w1 W A M a n c ac b p) (hp : p + 3 ≤ n) (ht : Two A M w1 w4)
    {cur : Array Value} (g1 : w1.heap[A]? = some (.cells cur 3 (0, 0))) (h2 : ∀ i, i < n → ∃ z : Int, cur[i]? = some (.int .i64 z)) (h3 : ∀ i, i < p → i + 3 ≤ n → cur[i]? = some (.int .i64 (sqpz b i)))
    {cur' : Array Value} (g4 : w4.heap[A]? = some (.cells cur' 3 (0, 0))) (hc : ∀ i, i ≠ p → cur'[i]? = cur[i]?) (hcp : cur'[p]? = some (.int .i64 (sqpz b p)))
    (hm : MapIs w5 M (p + 1) (fun j => if j = k3 b p then some p else prev b j p)) (hg : w4.grownBy w5 (some M)) : WinAt w0 w5 W A M a n c ac b (p + 1) ∧ Two A M w1 w5 := by
  have ht5 := ht.grownM hg
  have lW := (Array.getElem?_eq_some_iff.1 h.win).1
  have lA := (Array.getElem?_eq_some_iff.1 g4).1
  refine ⟨⟨h.by_, ht5.old h.bel h.nA h.nM h.bel.size, h.nW, h.nA, h.nM, h.wa, h.wm, h.am, (ht5.block W lW h.wa h.wm).trans h.win, h.hac, ⟨cur', (hg.block A lA (fun e => h.am (by simpa using e))).trans g4, fun i hi => ?_, fun i hi h4 => ?_⟩, ?_⟩, ht5⟩
  · by_cases e : i = p
    · subst e; exact ⟨_, hcp⟩
    · rw [hc i e]; exact h2 i hi
  · by_cases e : i = p
    · subst e; exact hcp
    · rw [hc i e]; exact h3 i (by omega) h4
  · have hlen := h.by_.len
    exact hm.congr (fun k => (prev_step (by omega)).symm)

set_option maxRecDepth 100000 in
set_option maxHeartbeats 4000000 in
theorem pass_any {w0 w : World} {W A M : Nat} {a : Option Addr} {n c ac : Nat} {b : List Nat} {p : Nat} (h : WinAt w0 w W A M a n c ac b p) (hp : p + 3 ≤ n) :
    Calls Tryz.prog 141 #[.pointer (some ⟨W, 0, none⟩), .int .i64 (p : Int)] w fun e w' => e = .returned (.tuple #[]) ∧ WinAt w0 w' W A M a n c ac b (p + 1) ∧ Two A M w w' := by
  have lW := (Array.getElem?_eq_some_iff.1 h.win).1
  have c0 := cell_of h.win (i := 0) (u := .slice a n c) rfl
  have hn := h.by_.reach
  have hlen := h.by_.len
  have hb3 := k3_B3 h.by_.byte p
  have HT := Lib.hid (three_yes c0 h.bytes (i := p) hp lW)
  obtain ⟨⟨p0, p1, p2⟩, hkk⟩ : ∃ k, k = k3 b p := ⟨_, rfl⟩
  rw [← hkk] at HT hb3
  have HKK := Lib.hid hkk
  have HB3 := Lib.hid hb3
  have HH := Lib.hid h
  have hac := h.hac
  have hwa := h.wa
  have hwm := h.wm
  have ham := h.am
  clear h c0 hkk hb3
  go_enter Tryz.func141, Tryz.ntmps141
  go_wp2_with fail
  refine HT.out.mono ?_
  rintro e w1 ⟨rfl, hb1⟩
  have hk1 := HH.out.keep hb1
  have HK1 := Lib.hid hk1
  have HB1 := Lib.hid hb1
  obtain ⟨cur, gA, hz, hq⟩ := hk1.ah
  have lA := (Array.getElem?_eq_some_iff.1 gA).1
  have lM := hk1.map.lt
  have lW1 : W < w1.heap.size := Nat.lt_of_lt_of_le lW hb1.size
  obtain ⟨z, hzp⟩ := hz p (by omega)
  have hpc : p < cur.size := (Array.getElem?_eq_some_iff.1 hzp).1
  have d1 := cell_of hk1.win (i := 1) (u := .map (some M)) rfl
  have d2 := cell_of hk1.win (i := 2) (u := .slice (some ⟨A, 0, none⟩) n ac) rfl
  have dA := cell_of gA hzp
  have fA := fro_of gA p
  have hpn : (p : Int) < (n : Int) := by omega
  -- the world behind the first store
  obtain ⟨ws, hws⟩ : ∃ ws, ws = w1.setCell ⟨A, p, none⟩ (.int .i64 (-1)) := ⟨_, rfl⟩
  have gs : ws.heap[A]? = some (.cells (cur.setIfInBounds p (.int .i64 (-1))) 3 (0, 0)) := by rw [hws]; exact heap_set2 gA p _
  have hss : ws.heap.size = w1.heap.size := by rw [hws]; simp [World.setCell]
  have t1s : Two A M w1 ws := by rw [hws]; exact (Two.refl A M w1).setA p _
  have wins := (t1s.block W lW1 hwa hwm).trans hk1.win
  have ms : MapIs ws M p (fun k => prev b k p) := hk1.map.same (by rw [hws]; exact Below.heap_setCell _ _ _ _ (Ne.symm ham))
  obtain ⟨w3, hw3⟩ : ∃ w3, w3 = ws.alloc (.cells #[.int .u8 (p0 : Int), .int .u8 (p1 : Int), .int .u8 (p2 : Int)] 200) := ⟨_, rfl⟩
  have b3 : Below ws.heap.size ws w3 := by rw [hw3]; exact (Below.refl _ _).alloc (Nat.le_refl _) _
  have gk3 : w3.heap[w1.heap.size]? = some (.cells #[.int .u8 (p0 : Int), .int .u8 (p1 : Int), .int .u8 (p2 : Int)] 200 (0, 0)) := by rw [hw3, ← hss]; exact heap_alloc_new _ _
  have g3 := (b3.block A (by omega)).trans gs
  have win3 := (b3.block W (by omega)).trans wins
  have m3 := ms.same (b3.block M (by omega))
  have t3 : Two A M w1 w3 := t1s.below b3
  have e1 := cell_of win3 (i := 1) (u := .map (some M)) rfl
  have e2 := cell_of win3 (i := 2) (u := .slice (some ⟨A, 0, none⟩) n ac) rfl
  have k0 := cell_of gk3 (i := 0) (u := .int .u8 (p0 : Int)) rfl
  have k1 := cell_of gk3 (i := 1) (u := .int .u8 (p1 : Int)) rfl
  have k2 := cell_of gk3 (i := 2) (u := .int .u8 (p2 : Int)) rfl
  have eA := cell_of g3 (i := p) (u := .int .i64 (-1)) (by simp [hpc])
  have fA3 := fro_of g3 p
  have lk3 : w1.heap.size ≠ A := by omega
  have hwk : W ≠ w1.heap.size := by omega
  have HZ := Lib.hid hz
  have HQ := Lib.hid hq
  have HGA := Lib.hid gA
  have HG3 := Lib.hid g3
  have HT3 := Lib.hid t3
  have HM3 := Lib.hid m3
  have HPC := Lib.hid hpc
  have hlook : ∀ q, (Instr.lookup 162 (.map (some M)) (.agg #[.int .u8 (p0 : Int), .int .u8 (p1 : Int), .int .u8 (p2 : Int)]) true).run Tryz.prog (w3.drewN q) = .ok (.tuple #[.int .i64 (((prev b (p0, p1, p2) p).getD 0 : Nat) : Int), .bool (prev b (p0, p1, p2) p).isSome]) (w3.drewN q) := fun q => MapIs.look (w := w3.drewN q) (k := (p0, p1, p2)) (m3.same rfl) HB3.out
  have hlook0 := hlook 1
  rw [show w3.drewN 1 = w3.drew from rfl] at hlook0
  clear hk1 gA hz hq hzp gs t1s wins ms b3 gk3 g3 win3 m3 t3 hb1 hpc
  have HWS := Lib.hid hws
  have HW3 := Lib.hid hw3
  clear hws hw3
  unfold kv
  go_wp2_with fail
  rw [← HWS.out, ← HW3.out]
  clear d1 d2 dA fA
  cases hpv : prev b (p0, p1, p2) p with
  | none =>
    rw [hpv] at hlook hlook0
    simp only [Option.getD_none, Option.isSome_none] at hlook hlook0
    have hst : ∀ x, ∃ w', (Instr.mapUpdate 162 (.map (some M)) (.agg #[.int .u8 (p0 : Int), .int .u8 (p1 : Int), .int .u8 (p2 : Int)]) (.int .i64 (p : Int))).run Tryz.prog ((w3.drew).drewN x) = .ok () w' ∧ MapIs w' M (p + 1) (fun j => if j = (p0, p1, p2) then some p else prev b j p) ∧ (w3.drew.drewN x).grownBy w' (some M) :=
      fun x => MapIs.store (w := w3.drew.drewN x) (k := (p0, p1, p2)) (HM3.out.same rfl) HB3.out (by omega) (by unfold maxLen; omega)
    clear hlook
    go_region
    obtain ⟨w5, hrun, hm5, hg5⟩ := hst 1
    rw [show w3.drew.drewN 1 = w3.drew.drew from rfl] at hrun hg5
    have HM5 := Lib.hid hm5
    have HG5 := Lib.hid hg5
    clear hst hm5 hg5 hlook0
    go_wp2_with fail
    go_region
    go_end0
    have HPV := Lib.hid hpv
    obtain ⟨r1, r2⟩ := HK1.out.passed (w4 := w3.drew.drew) (w5 := w5) hp HT3.out.drew.drew HGA.out HZ.out HQ.out HG3.out (fun i hi => by simp [Ne.symm hi])
      (by simp only [Array.getElem?_setIfInBounds, if_pos, HPC.out]; rw [pz_none (by rw [← HKK.out]; exact HPV.out)]) (by rw [← HKK.out]; exact HM5.out) HG5.out
    exact ⟨rfl, r1, ((Two.refl A M w).below HB1.out).trans r2⟩
  | some q =>
    rw [hpv] at hlook hlook0
    simp only [Option.getD_some, Option.isSome_some] at hlook hlook0
    have hqp := (prev_lt hpv).1
    obtain ⟨w4, hw4⟩ : ∃ w4, w4 = (w3.setCell ⟨A, p, none⟩ (.int .i64 (q : Int))).drew := ⟨_, rfl⟩
    have g4 : w4.heap[A]? = some (.cells ((cur.setIfInBounds p (.int .i64 (-1))).setIfInBounds p (.int .i64 (q : Int))) 3 (0, 0)) := by rw [hw4]; exact heap_set2 (w := w3) HG3.out p _
    have t4 : Two A M w1 w4 := by rw [hw4]; exact (HT3.out.setA p _).drew
    have t34 : Two A M w3 w4 := by rw [hw4]; exact ((Two.refl A M w3).setA p _).drew
    have hlW := World.block_lt_of_cell? w3 _ e1
    have hlK := World.block_lt_of_cell? w3 _ k0
    have b4 : ∀ k, k ≠ A → w4.heap[k]? = w3.heap[k]? := fun k hk => by rw [hw4]; exact Below.heap_setCell w3 _ _ k hk
    have c4 : ∀ k i, k ≠ A → w4.cell? ⟨k, i, none⟩ = w3.cell? ⟨k, i, none⟩ := fun k i hk => by unfold World.cell?; simp only [b4 k hk]
    have f1 := (c4 W 1 hwa).trans e1
    have f2 := (c4 W 2 hwa).trans e2
    have l0 := (c4 w1.heap.size 0 lk3).trans k0
    have l1 := (c4 w1.heap.size 1 lk3).trans k1
    have l2 := (c4 w1.heap.size 2 lk3).trans k2
    have m4 : MapIs w4 M p (fun k => prev b k p) := HM3.out.same (b4 M (Ne.symm ham))
    obtain ⟨w5, hrun, hm5, hg5⟩ := MapIs.store (w := w4.drew) (k := (p0, p1, p2)) (q := p) (m4.same rfl) HB3.out (by omega) (by unfold maxLen; omega)
    have HM5 := Lib.hid hm5
    have HG5 := Lib.hid hg5
    have HG4 := Lib.hid g4
    have HT4 := Lib.hid t4
    have HW4 := Lib.hid hw4
    unfold kv at hrun
    simp only at hrun
    clear hlook hm5 hg5 g4 t4 t34 hw4 b4 c4 m4 hlW hlK
    go_region
    clear hlook0
    go_wp2_with fail
    rw [← HW4.out]
    clear e1 e2 k0 k1 k2 eA fA3
    go_region
    go_end0
    have HPV := Lib.hid hpv
    obtain ⟨r1, r2⟩ := HK1.out.passed (w4 := w4.drew) (w5 := w5) hp HT4.out.drew HGA.out HZ.out HQ.out HG4.out (fun i hi => by simp [Ne.symm hi])
      (by
        have hpc := HPC.out
        rw [pz_some (q := q) (by rw [← HKK.out]; exact HPV.out)]
        simp [hpc]) (by rw [← HKK.out]; exact HM5.out) HG5.out
    exact ⟨rfl, r1, ((Two.refl A M w).below HB1.out).trans r2⟩
end Go.Proofs.YtpbijdoemdoijaaGreatDoor
end PkCa2_2

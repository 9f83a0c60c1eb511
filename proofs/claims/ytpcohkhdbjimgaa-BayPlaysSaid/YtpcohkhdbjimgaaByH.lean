/- What a bay holds, plainly: its boxes' things are the things put into it. -/
import Derived.Test.YtpcohkhdbjimgaaByD
import Derived.Test.YtpcohkhdbjimgaaByOp
namespace Go.Proofs.Ytpcohkhdbjimgaa
open Go.RowKit Go.Conc
set_option linter.unusedVariables false

theorem i64_and1023 (n : Int) : bits .and .i64 n 1023 = n % 1024 := by
  have h127 : (BitVec.ofInt 64 1023).toNat = 2 ^ 10 - 1 := by decide
  have key : (BitVec.ofInt 64 n &&& BitVec.ofInt 64 1023).toNat = (n % ((2 ^ 64 : Nat) : Int)).toNat % 2 ^ 10 := by
    rw [BitVec.toNat_and, BitVec.toNat_ofInt, h127, Nat.and_two_pow_sub_one_eq_mod]
  show IntKind.i64.wrap ((BitVec.ofInt 64 n &&& BitVec.ofInt 64 1023).toNat : Nat) = n % 1024
  rw [key, IntKind.wrap_i64]
  omega
def sG : List (ByteArray × Int) → Int
  | [] => 0
  | x :: r => x.2 % 1024 + sG r
theorem sG_append (a b : List (ByteArray × Int)) : sG (a ++ b) = sG a + sG b := by
  induction a with
  | nil => simp [sG]
  | cons x r ih => rw [List.cons_append]; simp only [sG]; rw [ih]; omega
theorem sG_perm {a b : List (ByteArray × Int)} (h : a.Perm b) : sG a = sG b := by
  induction h with
  | nil => rfl
  | cons x _ ih => simp only [sG]; rw [ih]
  | swap x y l => simp only [sG]; omega
  | trans _ _ h1 h2 => exact h1.trans h2
theorem sG_bound (a : List (ByteArray × Int)) : 0 ≤ sG a ∧ sG a ≤ 1024 * (a.length : Int) := by
  induction a with
  | nil => simp [sG]
  | cons x r ih =>
    simp only [sG, List.length_cons]
    have := Int.emod_nonneg x.2 (show (1024 : Int) ≠ 0 by decide)
    have := Int.emod_lt_of_pos x.2 (show (0 : Int) < 1024 by decide)
    push_cast
    omega
theorem xsOf_nil_all {L : List (ByteArray × Int)} (h : ∀ k, xsOf L k = []) : L = [] := by
  cases L with
  | nil => rfl
  | cons x r =>
    have := h x.1
    unfold xsOf at this
    rw [List.filter_cons, if_pos (by simp)] at this
    cases this
theorem kz_filter (L : List (ByteArray × Int)) (k : ByteArray) : kz k (xsOf L k) = L.filter fun x => decide (x.1 = k) := by
  unfold kz xsOf
  rw [List.map_map]
  induction L with
  | nil => rfl
  | cons x r ih =>
    rw [List.filter_cons]
    split
    · rename_i h
      rw [List.map_cons, ih]
      have e : x.1 = k := by simpa using h
      subst e
      rfl
    · exact ih
theorem xsOf_filter_ne (L : List (ByteArray × Int)) (k j : ByteArray) : xsOf (L.filter fun x => !decide (x.1 = k)) j = if j = k then [] else xsOf L j := by
  unfold xsOf
  rw [List.filter_filter]
  by_cases e : j = k
  · subst e
    rw [if_pos rfl, List.filter_eq_nil_iff.2 (fun a _ => by simp)]
    rfl
  · rw [if_neg e]
    congr 1
    apply List.filter_congr
    intro x _
    by_cases g : x.1 = j
    · rw [decide_eq_true g, decide_eq_false (fun g2 : x.1 = k => e (g.symm.trans g2))]; rfl
    · rw [decide_eq_false g]; rfl
theorem cont_cons (p : ByteArray × BoxV) (r : List (ByteArray × BoxV)) (k : ByteArray) : cont (p :: r) k = if p.1 = k then p.2.xs else cont r k := by
  unfold cont getK
  rw [List.find?_cons]
  cases hs : (slit p.1).sameKey (slit k) with
  | true =>
    have e := (litS.iff _ _).1 hs
    rw [if_pos e]
    rfl
  | false =>
    have e : p.1 ≠ k := fun e => by rw [(litS.iff _ _).2 e] at hs; cases hs
    rw [if_neg e]
theorem cont_none {r : List (ByteArray × BoxV)} {k : ByteArray} (h : ∀ p ∈ r, p.1 ≠ k) : cont r k = [] := by
  unfold cont
  rw [(get_none litS).2 h]
theorem drain_perm : ∀ {l : List (ByteArray × BoxV)} {L : List (ByteArray × Int)}, l.Pairwise (fun p q => slit p.1 ≠ slit q.1) → (∀ k, cont l k = xsOf L k) → (drainL l).Perm L
  | [], L, _, h => by
    rw [xsOf_nil_all (fun k => (h k).symm)]
    exact .nil
  | p :: r, L, hp, h => by
    rw [List.pairwise_cons] at hp
    have hn : ∀ q ∈ r, q.1 ≠ p.1 := fun q hq e => hp.1 q hq (by rw [e])
    have h1 : p.2.xs = xsOf L p.1 := by rw [← h p.1, cont_cons, if_pos rfl]
    have h2 : ∀ k, cont r k = xsOf (L.filter fun x => !decide (x.1 = p.1)) k := fun k => by
      rw [xsOf_filter_ne]
      by_cases e : k = p.1
      · subst e
        rw [if_pos rfl, cont_none hn]
      · rw [if_neg e, ← h k, cont_cons, if_neg (fun g => e g.symm)]
    have h3 := drain_perm hp.2 h2
    have e : drainL (p :: r) = kz p.1 p.2.xs ++ drainL r := by unfold drainL; rw [List.flatMap_cons]
    rw [e, h1, kz_filter]
    exact (h3.append_left _).trans (List.filter_append_perm (fun x : ByteArray × Int => decide (x.1 = p.1)) L)
theorem drain_len (l : List (ByteArray × BoxV)) : (drainL l).length = totK lnB l := by
  induction l with
  | nil => rfl
  | cons p r ih =>
    have e : drainL (p :: r) = kz p.1 p.2.xs ++ drainL r := by unfold drainL; rw [List.flatMap_cons]
    rw [e, List.length_append, kz_len, ih, tot_cons]
    rfl
/-- a bay holds a list of things -/
structure Holds (w : World) (Y M room : Nat) (l : List (ByteArray × BoxV)) (L : List (ByteArray × Int)) : Prop where
  bay : BayAt w Y M room l
  says : ∀ k, cont l k = xsOf L k
  full : ∀ p ∈ l, p.2.xs ≠ []
  keys : ∀ p ∈ l, p.1.size ≤ 1000000000000000
  len : l.length ≤ L.length
theorem Holds.perm {w : World} {Y M room : Nat} {l : List (ByteArray × BoxV)} {L : List (ByteArray × Int)} (h : Holds w Y M room l L) : (drainL l).Perm L := drain_perm h.bay.map.apart h.says
theorem Holds.tot {w : World} {Y M room : Nat} {l : List (ByteArray × BoxV)} {L : List (ByteArray × Int)} (h : Holds w Y M room l L) : totK lnB l = L.length := by rw [← drain_len, h.perm.length_eq]
theorem Holds.empty {w : World} {Y M room : Nat} (h : BayAt w Y M room []) : Holds w Y M room [] [] := ⟨h, fun _ => rfl, (fun p hp => by cases hp), (fun p hp => by cases hp), Nat.le_refl _⟩
theorem Holds.below {w w' : World} {Y M room : Nat} {l : List (ByteArray × BoxV)} {L : List (ByteArray × Int)} (h : Holds w Y M room l L) (hb : Below w.heap.size w w') : Holds w' Y M room l L := ⟨h.bay.below hb, h.says, h.full, h.keys, h.len⟩
theorem BayAt.notT {w : World} {Y M room : Nat} {l : List (ByteArray × BoxV)} (h : BayAt w Y M room l) {b : Nat} {cs : Array Value} {t : TypeId} {fr : Nat × Nat} (hb : w.heap[b]? = some (.cells cs t fr)) (hne : t ≠ 67) : ¬ BayF Y M l b := by
  rintro (e | e | ⟨q, hq, e⟩)
  · rw [e, h.blk] at hb; cases hb; exact hne rfl
  · obtain ⟨es, c, hm⟩ := gm_obj h.map
    rw [e, hm] at hb; cases hb
  · obtain ⟨s, r, hc⟩ := (h.box q hq).ch
    rw [e, hc] at hb; cases hb
theorem BayAt.notRow {w : World} {Y M room : Nat} {l : List (ByteArray × BoxV)} (h : BayAt w Y M room l) {base n c N k : Nat} {e : TypeId} {a : Option Addr} {xs : List Value} (ho : w.ownsRow base e k (.slice a n c) N xs) (hne : e ≠ 67) : ∀ b off, a = some ⟨b, off, none⟩ → 0 < n → ¬ BayF Y M l b := by
  rintro b off rfl _
  rcases ho.2 with ⟨h0, _⟩ | ⟨g', cap, cur, h0, _, hg, _⟩
  · cases h0
  · cases h0
    exact h.notT hg hne
/-- what Put of a row leaves of what a bay holds -/
theorem Holds.put {w w' : World} {Y M room : Nat} {l : List (ByteArray × BoxV)} {L ks : List (ByteArray × Int)} {e : Ending} (h : Holds w Y M room l L) (hp : PutP w Y M room l ks e w') :
    (fitsB room l ks = false → e = .returned (.bool false) ∧ Holds w' Y M room l L ∧ Frm (BayF Y M l) w w' ∧ (∀ b, BayF Y M l b → BayF Y M l b ∨ w.heap.size ≤ b)) ∧
    (fitsB room l ks = true → ks ≠ [] ∨ ks = [] → e = .returned (.bool true) ∧ ∃ l', BayAt w' Y M room l' ∧ (∀ k, cont l' k = xsOf (L ++ ks) k) ∧ (∀ p ∈ l', p.2.xs ≠ []) ∧ (∀ p ∈ l', p.1.size ≤ 1000000000000000) ∧ l'.length ≤ (L ++ ks).length ∧ Frm (BayF Y M l) w w' ∧ (∀ b, BayF Y M l' b → BayF Y M l b ∨ w.heap.size ≤ b)) := by
  refine ⟨fun hf => ?_, fun hf _ => ?_⟩
  · obtain ⟨he, hb, hbl⟩ := hp.1 hf
    exact ⟨he, ⟨hb, h.says, h.full, h.keys, h.len⟩, Frm.ofBelow hbl, fun b hb => .inl hb⟩
  · obtain ⟨he, l', h1, h2, h3, h4, h5, h6, h7⟩ := hp.2 hf
    refine ⟨he, l', h1, fun k => by rw [h2, h.says, xsOf_append], h3 h.full, h4, ?_, h6, h7⟩
    rw [List.length_append]
    have := h.len
    omega
/-- the call Put of an own row -/
theorem hput_any {w : World} {Y M room : Nat} {l : List (ByteArray × BoxV)} {L ks : List (ByteArray × Int)} (h : Holds w Y M room l L) {base n : Nat} {v : Value} (hk : w.ownsRow base 47 2 v n (KdS.flat ks)) (hkl : ks.length = n) (hks : ∀ x ∈ ks, x.1.size ≤ 1000000000000000) (hn : n ≤ 40) (hr1 : 1 ≤ room) (hr : room ≤ 2048) (hL : L.length ≤ 10000) :
    Calls Try.prog 19 #[.pointer (some ⟨Y, 0, none⟩), v] w fun e w' =>
      ∃ l' L', e = .returned (.bool (fitsB room l ks)) ∧ L' = (if fitsB room l ks = true then L ++ ks else L) ∧ Holds w' Y M room l' L' ∧ Frm (BayF Y M l) w w' ∧ (∀ b, BayF Y M l' b → BayF Y M l b ∨ w.heap.size ≤ b) := by
  obtain ⟨a, c, rfl⟩ : ∃ a c, v = .slice a n c := by
    rcases hk.2 with ⟨h0, hz⟩ | ⟨g, cap, cu, h0, _⟩
    · exact ⟨none, 0, by rw [h0, hz]⟩
    · exact ⟨_, _, h0⟩
  have hv : VecAt KdS w a n c ks := VecAt.ofOwn hk hkl hks
  have hl := h.len
  refine (bput_any h.bay hv hn hr1 hr (h.bay.notRow hk (by decide)) (by omega) h.keys).mono ?_
  intro e w' hp
  have hh := h.put hp
  cases hf : fitsB room l ks with
  | false =>
    obtain ⟨he, h1, h2, h3⟩ := hh.1 hf
    exact ⟨l, L, he, rfl, h1, h2, h3⟩
  | true =>
    obtain ⟨he, l', h1, h2, h3, h4, h5, h6, h7⟩ := hh.2 hf (by cases ks with | nil => exact .inr rfl | cons x r => exact .inl (by simp))
    exact ⟨l', L ++ ks, he, rfl, ⟨h1, h2, h3, h4, h5⟩, h6, h7⟩
theorem hmost_any {w : World} {Y M room : Nat} {l : List (ByteArray × BoxV)} {L : List (ByteArray × Int)} (h : Holds w Y M room l L) (hr : room ≤ 2048) :
    Calls Try.prog 21 #[.pointer (some ⟨Y, 0, none⟩)] w fun e w' => ∃ m : Nat, e = .returned (.int .i64 (m : Int)) ∧ BMax l m ∧ m ≤ room ∧ Below w.heap.size w w' := by
  refine (bmost_any h.bay h.keys hr).mono ?_
  rintro e w' ⟨m, he, hm, hb⟩
  refine ⟨m, he, hm, ?_, hb⟩
  rcases hm.2 with e | ⟨p, hp, e⟩
  · omega
  · have := h.bay.fit p hp; omega
theorem hlen_any {w : World} {Y M room : Nat} {l : List (ByteArray × BoxV)} {L : List (ByteArray × Int)} (h : Holds w Y M room l L) (hL : L.length ≤ 10000) :
    Calls Try.prog 20 #[.pointer (some ⟨Y, 0, none⟩)] w fun e w' => e = .returned (.int .i64 ((L.length : Nat) : Int)) ∧ Below w.heap.size w w' := by
  have := blen_any h.bay h.keys (by rw [h.tot]; omega)
  rwa [h.tot] at this
theorem hdrain_any {w : World} {Y M room : Nat} {l : List (ByteArray × BoxV)} {L : List (ByteArray × Int)} (h : Holds w Y M room l L) (hr : room ≤ 2048) (hL : L.length ≤ 10000) :
    Calls Try.prog 22 #[.pointer (some ⟨Y, 0, none⟩)] w fun e w' =>
      ∃ a c N, e = .returned (.slice a N c) ∧ VecAt KdS w' a N c (drainL l) ∧ N = L.length ∧ (∀ b off, a = some ⟨b, off, none⟩ → 0 < N → w.heap.size ≤ b) ∧ Holds w' Y M room [] [] ∧ Frm (BayF Y M l) w w' := by
  have hl := h.len
  refine (bdrain_any h.bay h.keys hr (by omega) (by rw [h.perm.length_eq]; omega)).mono ?_
  rintro e w' ⟨a, c, N, rfl, ho, hN, hb, hF⟩
  refine ⟨a, c, N, rfl, VecAt.ofOwn ho hN.symm ?_, by rw [hN, h.perm.length_eq], ?_, Holds.empty hb, hF⟩
  · intro x hx
    unfold drainL at hx
    obtain ⟨p, hp, hx2⟩ := List.mem_flatMap.1 hx
    unfold kz at hx2
    obtain ⟨z, _, rfl⟩ := List.mem_map.1 hx2
    exact h.keys p hp
  · rintro b off rfl _
    exact (ho.lt b rfl).1
end Go.Proofs.Ytpcohkhdbjimgaa

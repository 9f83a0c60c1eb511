/- Texts of label sets read again, plainly: the document's reading, and that it gives back just the sets of texts. -/
import Derived.Test.YtiboghehonmpnaaLabText
import Derived.Test.YtiboghehonmpnaaLabRText
import Derived.Lib.IndexMore
import Derived.Lib.Strings
import Derived.Lib.Bytealg
namespace Go.Proofs.Ytiboghehonmpnaa
open Go.RowKit LabPlain
set_option linter.unusedVariables false

/-- a text's bytes; a text of bytes -/
def tb (s : ByteArray) : List UInt8 := s.data.toList
def bt (l : List UInt8) : ByteArray := ⟨l.toArray⟩
theorem tb_bt (l : List UInt8) : tb (bt l) = l := rfl
theorem bt_tb (s : ByteArray) : bt (tb s) = s := Lib.mk_data s
theorem tb_inj {a b : ByteArray} (h : tb a = tb b) : a = b := by rw [← bt_tb a, ← bt_tb b, h]
theorem tb_append (a b : ByteArray) : tb (a ++ b) = tb a ++ tb b := by simp [tb]
theorem tb_len (s : ByteArray) : (tb s).length = s.size := by simp [tb]
theorem tb_bs (xs : List Nat) : tb (bs xs) = xs.map UInt8.ofNat := by
  simp only [tb, bs, strOfNums_data, List.map_map]
  apply List.map_congr_left
  intro x _
  simp
theorem tb_get (s : ByteArray) (i : Nat) (h : i < s.size) : (tb s)[i]? = some (s[i]'h) := by
  have h2 : i < (tb s).length := by rw [tb_len]; exact h
  rw [List.getElem?_eq_getElem h2]; rfl
theorem at_tb (s : ByteArray) (i : Nat) : at_ s i = ((tb s).getD i 0).toNat := rfl

def okU (c : UInt8) : Bool := okC c.toNat
def qu (c : UInt8) : List UInt8 := (qb c.toNat).map UInt8.ofNat
theorem qu_plain {c : UInt8} (h : plainC c.toNat = true) : qu c = [c] := by
  unfold qu qb; rw [if_pos h]; simp
theorem qu_not {c : UInt8} (h : plainC c.toNat = false) : qu c = [92, UInt8.ofNat (dg (c.toNat / 16)), UInt8.ofNat (dg (c.toNat % 16))] := by
  unfold qu qb; rw [if_neg (by simp [h])]; rfl
theorem dg_inj {a b : Nat} (ha : a < 16) (hb : b < 16) (h : UInt8.ofNat (dg a) = UInt8.ofNat (dg b)) : a = b := by
  have e : (UInt8.ofNat (dg a)).toNat = (UInt8.ofNat (dg b)).toNat := by rw [h]
  rw [UInt8.toNat_ofNat', UInt8.toNat_ofNat', Nat.mod_eq_of_lt (dg_lt a ha), Nat.mod_eq_of_lt (dg_lt b hb)] at e
  unfold dg at e
  split at e <;> split at e <;> omega
theorem qu_inj {c d : UInt8} (h : qu c = qu d) : c = d := by
  cases hc : plainC c.toNat <;> cases hd : plainC d.toNat
  · rw [qu_not hc, qu_not hd] at h
    simp only [List.cons.injEq, true_and, and_true] at h
    have hc2 := UInt8.toNat_lt c
    have hd2 := UInt8.toNat_lt d
    have h1 := dg_inj (by omega) (by omega) h.1
    have h2 := dg_inj (by omega) (by omega) h.2
    exact UInt8.toNat_inj.1 (by omega)
  · rw [qu_not hc, qu_plain hd] at h; simp at h
  · rw [qu_plain hc, qu_not hd] at h; simp at h
  · rw [qu_plain hc, qu_plain hd] at h; simpa using h
/-- the byte that is written at the head, and how long -/
def rd : List UInt8 → Option (UInt8 × Nat)
  | [] => none
  | c :: r => if c = 92 then ((List.range 256).find? fun x => decide ((qb x).length = 3) && decide ((c :: r).take 3 = (qb x).map UInt8.ofNat)).map fun x => (UInt8.ofNat x, 3)
    else if plainC c.toNat then some (c, 1) else none
theorem rd_cons (c : UInt8) (r : List UInt8) : rd (c :: r) = if c = 92 then ((List.range 256).find? fun x => decide ((qb x).length = 3) && decide ((c :: r).take 3 = (qb x).map UInt8.ofNat)).map fun x => (UInt8.ofNat x, 3) else if plainC c.toNat then some (c, 1) else none := rfl
theorem qu_ofNat {x : Nat} (h : x < 256) : qu (UInt8.ofNat x) = (qb x).map UInt8.ofNat := by
  unfold qu; rw [UInt8.toNat_ofNat', Nat.mod_eq_of_lt h]
theorem rd_sound {l : List UInt8} {c : UInt8} {n : Nat} (h : rd l = some (c, n)) : l = qu c ++ l.drop n ∧ 0 < n ∧ n ≤ l.length := by
  cases l with
  | nil => cases h
  | cons a r =>
    rw [rd_cons] at h
    split at h
    · rw [Option.map_eq_some_iff] at h
      obtain ⟨x, hx, he⟩ := h
      simp only [Prod.mk.injEq] at he
      obtain ⟨rfl, rfl⟩ := he
      have hp := List.find?_some hx
      have hm := List.mem_of_find?_eq_some hx
      rw [List.mem_range] at hm
      rw [Bool.and_eq_true, decide_eq_true_eq, decide_eq_true_eq] at hp
      rw [qu_ofNat hm, ← hp.2, List.take_append_drop]
      refine ⟨rfl, by omega, ?_⟩
      have := congrArg List.length hp.2
      rw [List.length_map, hp.1, List.length_take] at this
      omega
    · split at h
      · rename_i hpl
        simp only [Option.some.injEq, Prod.mk.injEq] at h
        obtain ⟨rfl, rfl⟩ := h
        rw [qu_plain hpl]
        exact ⟨rfl, by omega, by simp⟩
      · cases h
theorem rd_whole (c : UInt8) (r : List UInt8) : rd (qu c ++ r) = some (c, (qu c).length) := by
  cases hc : plainC c.toNat with
  | true =>
    have h92 : c ≠ 92 := by
      intro e; subst e; revert hc; decide
    rw [qu_plain hc]
    show (if c = 92 then _ else if plainC c.toNat then some (c, 1) else none) = _
    rw [if_neg h92, if_pos hc]; rfl
  | false =>
    have hq := qu_not hc
    have hlen : (qb c.toNat).length = 3 := by have := congrArg List.length hq; simpa [qu] using this
    have hl3 : (qu c).length = 3 := by rw [hq]; rfl
    have ht : (qu c ++ r).take 3 = qu c := by rw [List.take_append_of_le_length (by omega), List.take_of_length_le (by omega)]
    obtain ⟨t, htl⟩ : ∃ t, qu c ++ r = 92 :: t := ⟨_, by rw [hq]; rfl⟩
    rw [htl] at ht ⊢
    rw [rd_cons, if_pos rfl, hl3]
    have hsome : ((List.range 256).find? fun x => decide ((qb x).length = 3) && decide ((92 :: t).take 3 = (qb x).map UInt8.ofNat)).isSome = true := by
      rw [List.find?_isSome]
      exact ⟨c.toNat, List.mem_range.2 (UInt8.toNat_lt c), by rw [hlen, ht]; unfold qu; simp⟩
    obtain ⟨x, hx⟩ := Option.isSome_iff_exists.1 hsome
    rw [hx]
    have hp := List.find?_some hx
    have hm := List.mem_range.1 (List.mem_of_find?_eq_some hx)
    rw [Bool.and_eq_true, decide_eq_true_eq, decide_eq_true_eq, ht, ← qu_ofNat hm] at hp
    rw [Option.map_some, ← qu_inj hp.2]

/-- a value that is read, up to the sign that ends it -/
def rdVal : Nat → List UInt8 → List UInt8 → Option (List UInt8 × List UInt8)
  | 0, _, _ => none
  | f + 1, acc, [] => some (acc, [])
  | f + 1, acc, c :: r => if c = 34 then some (acc, c :: r) else match rd (c :: r) with
    | none => none
    | some (x, n) => rdVal f (acc ++ [x]) ((c :: r).drop n)
theorem rdVal_sound : ∀ (f : Nat) (acc l v r : List UInt8), rdVal f acc l = some (v, r) → ∃ v', v = acc ++ v' ∧ l = v'.flatMap qu ++ r ∧ (r = [] ∨ ∃ r', r = 34 :: r')
  | 0, _, _, _, _, h => by cases h
  | f + 1, acc, [], v, r, h => by
    simp only [rdVal, Option.some.injEq, Prod.mk.injEq] at h
    obtain ⟨rfl, rfl⟩ := h
    exact ⟨[], by simp, by simp, .inl rfl⟩
  | f + 1, acc, c :: t, v, r, h => by
    unfold rdVal at h
    split at h
    · rename_i hc
      simp only [Option.some.injEq, Prod.mk.injEq] at h
      obtain ⟨rfl, rfl⟩ := h
      exact ⟨[], by simp, by simp, .inr ⟨t, by rw [hc]⟩⟩
    · split at h
      · cases h
      · rename_i x n hr
        obtain ⟨v', hv, hl, he⟩ := rdVal_sound f _ _ _ _ h
        have hs := (rd_sound hr).1
        refine ⟨x :: v', by rw [hv]; simp, ?_, he⟩
        rw [List.flatMap_cons, List.append_assoc, ← hl, ← hs]
theorem qu_ne (c : UInt8) : ∃ a t, qu c = a :: t ∧ a ≠ 34 := by
  cases hc : plainC c.toNat with
  | true => exact ⟨c, [], qu_plain hc, by intro e; subst e; revert hc; decide⟩
  | false => exact ⟨92, _, qu_not hc, by decide⟩
theorem rdVal_whole : ∀ (v : List UInt8) (f : Nat) (acc r : List UInt8), (v.flatMap qu ++ 34 :: r).length < f → rdVal f acc (v.flatMap qu ++ 34 :: r) = some (acc ++ v, 34 :: r)
  | [], 0, _, _, h => by simp at h
  | [], f + 1, acc, r, _ => by simp [rdVal]
  | c :: v, 0, _, _, h => by simp at h
  | c :: v, f + 1, acc, r, h => by
    obtain ⟨a, t, hq, hne⟩ := qu_ne c
    have hl : (c :: v).flatMap qu ++ 34 :: r = qu c ++ (v.flatMap qu ++ 34 :: r) := by rw [List.flatMap_cons, List.append_assoc]
    have hr := rd_whole c (v.flatMap qu ++ 34 :: r)
    have hd : (qu c ++ (v.flatMap qu ++ 34 :: r)).drop (qu c).length = v.flatMap qu ++ 34 :: r := by simp
    rw [hl] at h ⊢
    have h0 : 0 < (qu c).length := by rw [hq]; simp
    have ih := rdVal_whole v f (acc ++ [c]) r (by rw [List.length_append] at h; omega)
    obtain ⟨rest, hrest⟩ : ∃ rest, v.flatMap qu ++ 34 :: r = rest := ⟨_, rfl⟩
    rw [hrest] at hr hd ih ⊢
    rw [hq, List.cons_append] at hr hd ⊢
    unfold rdVal
    rw [if_neg hne, hr]
    show rdVal f (acc ++ [c]) ((a :: (t ++ rest)).drop _) = _
    rw [hd, ih]; simp

/-- a label that is read, and what stands behind its value -/
def step1 (l : List UInt8) : Option (Lab × List UInt8) :=
  match l.dropWhile okU with
  | e :: q :: c :: r => if e = 61 ∧ q = 34 then (match rdVal ((c :: r).length + 1) [] (c :: r) with
      | none => none
      | some (v, r2) => some ((bt (l.takeWhile okU), bt v), r2)) else none
  | _ => none
/-- labels that are read, behind those that have been -/
def rparseF : Nat → List Lab → List UInt8 → Option (List Lab)
  | 0, _, _ => none
  | k + 1, acc, l => match step1 l with
    | none => none
    | some (x, r2) => match r2 with
      | _ :: d :: r4 => if d = 44 then rparseF k (acc ++ [x]) r4 else if d = 125 ∧ r4 = [] ∧ isSet (acc ++ [x]) = true then some (acc ++ [x]) else none
      | _ => none
/-- the set of a text -/
def setIn (s : ByteArray) : Option (List Lab) :=
  if s.size < 2 ∨ at_ s 0 ≠ 123 ∨ at_ s (s.size - 1) ≠ 125 then none else if tb s = [123, 125] then some [] else rparseF 5 [] ((tb s).drop 1)

def lt1 (x : Lab) : List UInt8 := tb x.1 ++ [61, 34] ++ (tb x.2).flatMap qu ++ [34]
/-- labels, as they are written, and the end -/
def bodyT : List Lab → List UInt8
  | [] => [125]
  | [x] => lt1 x ++ [125]
  | x :: y :: r => lt1 x ++ 44 :: bodyT (y :: r)
theorem qs_flat (s : ByteArray) : ∀ k, k ≤ s.size → (qs s k).map UInt8.ofNat = ((tb s).take k).flatMap qu
  | 0, _ => by simp [qs]
  | k + 1, h => by
    have hk : k < (tb s).length := by rw [tb_len]; omega
    rw [qs, List.map_append, qs_flat s k (by omega), List.take_succ_eq_append_getElem hk, List.flatMap_append]
    congr 1
    have : at_ s k = ((tb s)[k]).toNat := by rw [at_tb]; simp [hk]
    rw [this]
    simp [qu]
theorem tb_labText (x : Lab) : tb (labText x) = lt1 x := by
  unfold labText lt1
  rw [tb_append, tb_append, tb_append, tb_bs, qs_flat _ _ (Nat.le_refl _), List.take_of_length_le (by rw [tb_len]; exact Nat.le_refl _)]
  rfl
theorem textTo_body (l : List Lab) : ∀ d k, k + d = l.length → 0 < k → tb (textTo l k) ++ (if d = 0 then [125] else 44 :: bodyT (l.drop k)) = tb (textTo l l.length) ++ [125]
  | 0, k, hk, _ => by rw [if_pos rfl, show k = l.length by omega]
  | d + 1, k, hk, hp => by
    have hlt : k < l.length := by omega
    have ih := textTo_body l d (k + 1) (by omega) (by omega)
    rw [if_neg (by omega), ← ih, textTo, if_neg (by omega), tb_append, tb_append, tb_labText, List.drop_eq_getElem_cons hlt, show l.getD k lab0 = l[k] by simp [hlt]]
    have e44 : tb ({ data := #[44] } : ByteArray) = [44] := rfl
    rw [e44]
    rcases Nat.eq_zero_or_pos d with h0 | h0
    · subst h0
      rw [if_pos rfl, List.drop_eq_nil_of_le (by omega), bodyT]
      simp
    · have hlt2 : k + 1 < l.length := by omega
      rw [if_neg (by omega), List.drop_eq_getElem_cons hlt2, bodyT]
      simp
theorem tb_textOf (l : List Lab) : tb (textOf l) = 123 :: bodyT l := by
  unfold textOf
  rw [tb_append, show tb ({ data := #[125] } : ByteArray) = [125] from rfl]
  cases l with
  | nil => rfl
  | cons x r =>
    rw [← textTo_body (x :: r) r.length 1 (by simp; omega) (by omega)]
    have e : tb (textTo (x :: r) 1) = 123 :: lt1 x := by
      show tb (textTo (x :: r) 0 ++ labText x) = _
      rw [tb_append, tb_labText]; rfl
    rw [e]
    cases r with
    | nil => rw [if_pos (show ([] : List Lab).length = 0 from rfl)]; rfl
    | cons y r => rw [if_neg (by simp)]; rfl

theorem isNm_ok {s : ByteArray} (h : isNm s = true) : ∀ c ∈ tb s, okU c = true := by
  unfold isNm at h
  simp only [Bool.and_eq_true] at h
  have ha := h.2
  have key : ∀ k, allC s k = true → ∀ i, i < k → okC (at_ s i) = true := by
    intro k
    induction k with
    | zero => intro _ i hi; omega
    | succ k ih =>
      intro hk i hi
      rw [allC, Bool.and_eq_true] at hk
      rcases Nat.lt_or_ge i k with g | g
      · exact ih hk.1 i g
      · obtain rfl : i = k := by omega
        exact hk.2
  intro c hc
  obtain ⟨i, hi, rfl⟩ := List.getElem_of_mem hc
  have := key _ ha i (by rw [← tb_len]; exact hi)
  rw [at_tb] at this
  unfold okU
  simpa [hi] using this
theorem span_ok : ∀ (a : List UInt8) (r : List UInt8), (∀ c ∈ a, okU c = true) → (a ++ 61 :: r).takeWhile okU = a ∧ (a ++ 61 :: r).dropWhile okU = 61 :: r
  | [], r, _ => by
    have : okU 61 = false := by decide
    simp [this]
  | c :: a, r, h => by
    have hc := h c (by simp)
    have ih := span_ok a r (fun x hx => h x (by simp [hx]))
    simp [hc, ih.1, ih.2]
theorem step1_whole {x : Lab} (h : isNm x.1 = true) (r : List UInt8) : step1 (lt1 x ++ r) = some (x, 34 :: r) := by
  have hl : lt1 x ++ r = tb x.1 ++ 61 :: (34 :: ((tb x.2).flatMap qu ++ 34 :: r)) := by unfold lt1; simp
  have hsp := span_ok (tb x.1) (34 :: ((tb x.2).flatMap qu ++ 34 :: r)) (isNm_ok h)
  have hv := rdVal_whole (tb x.2) (((tb x.2).flatMap qu ++ 34 :: r).length + 1) [] r (by omega)
  unfold step1
  rw [hl, hsp.1, hsp.2]
  obtain ⟨c, t, hct⟩ : ∃ c t, (tb x.2).flatMap qu ++ 34 :: r = c :: t := by
    cases hq : (tb x.2).flatMap qu with
    | nil => exact ⟨_, _, rfl⟩
    | cons c t => exact ⟨_, _, rfl⟩
  rw [hct] at hv ⊢
  show (if (61 : UInt8) = 61 ∧ (34 : UInt8) = 34 then _ else _) = _
  rw [if_pos ⟨rfl, rfl⟩, hv]
  show some ((bt (tb x.1), bt ([] ++ tb x.2)), 34 :: r) = _
  rw [List.nil_append, bt_tb, bt_tb]
theorem rparse_whole : ∀ (m : List Lab) (k : Nat) (acc : List Lab), m ≠ [] → m.length ≤ k → (∀ x ∈ m, isNm x.1 = true) → isSet (acc ++ m) = true → rparseF k acc (bodyT m) = some (acc ++ m)
  | [], _, _, h, _, _, _ => absurd rfl h
  | x :: r, 0, _, _, h, _, _ => by simp at h
  | [x], k + 1, acc, _, _, hn, hs => by
    unfold rparseF
    rw [bodyT, step1_whole (hn x (by simp))]
    show (if (125 : UInt8) = 44 then _ else if (125 : UInt8) = 125 ∧ ([] : List UInt8) = [] ∧ isSet (acc ++ [x]) = true then some (acc ++ [x]) else none) = _
    rw [if_neg (by decide), if_pos ⟨rfl, rfl, hs⟩]
  | x :: y :: r, k + 1, acc, _, hk, hn, hs => by
    unfold rparseF
    rw [bodyT, step1_whole (hn x (by simp))]
    show (if (44 : UInt8) = 44 then rparseF k (acc ++ [x]) (bodyT (y :: r)) else _) = _
    rw [if_pos rfl, rparse_whole (y :: r) k (acc ++ [x]) (by simp) (by simpa using hk) (fun z hz => hn z (by simp [List.mem_cons.1 hz])) (by simpa using hs)]
    simp
theorem step1_sound {l : List UInt8} {x : Lab} {r2 : List UInt8} (h : step1 l = some (x, r2)) : r2 = [] ∨ ∃ r3, r2 = 34 :: r3 ∧ l = lt1 x ++ r3 := by
  unfold step1 at h
  split at h
  · rename_i e q c r hd
    split at h
    · rename_i heq
      obtain ⟨rfl, rfl⟩ := heq
      split at h
      · cases h
      · rename_i v r2' hv
        simp only [Option.some.injEq, Prod.mk.injEq] at h
        obtain ⟨rfl, rfl⟩ := h
        obtain ⟨v', hv1, hv2, hv3⟩ := rdVal_sound _ _ _ _ _ hv
        rcases hv3 with rfl | ⟨r3, rfl⟩
        · exact .inl rfl
        · refine .inr ⟨r3, rfl, ?_⟩
          have hsp := List.takeWhile_append_dropWhile (p := okU) (l := l)
          rw [hd, hv2] at hsp
          rw [List.nil_append] at hv1
          subst hv1
          unfold lt1
          rw [tb_bt, tb_bt]
          refine Eq.trans hsp.symm ?_
          simp
    · cases h
  · cases h
theorem rparse_sound : ∀ (k : Nat) (acc : List Lab) (l : List UInt8) (s : List Lab), rparseF k acc l = some s → isSet s = true ∧ ∃ m, s = acc ++ m ∧ m ≠ [] ∧ l = bodyT m
  | 0, _, _, _, h => by cases h
  | k + 1, acc, l, s, h => by
    unfold rparseF at h
    split at h
    · cases h
    · rename_i x r2 hst
      split at h
      · rename_i c d r4
        rcases step1_sound hst with h0 | ⟨r3, hr, hl⟩
        · cases h0
        · simp only [List.cons.injEq] at hr
          obtain ⟨rfl, rfl⟩ := hr
          split at h
          · rename_i hd
            subst hd
            obtain ⟨h1, m, h2, h3, h4⟩ := rparse_sound k _ _ _ h
            refine ⟨h1, x :: m, by rw [h2]; simp, by simp, ?_⟩
            cases m with
            | nil => exact absurd rfl h3
            | cons y r => rw [hl, h4, bodyT]
          · split at h
            · rename_i hd
              obtain ⟨rfl, rfl, h1⟩ := hd
              simp only [Option.some.injEq] at h
              subst h
              exact ⟨h1, [x], rfl, by simp, by rw [hl, bodyT]⟩
            · cases h
      · cases h
theorem setIn_whole {l : List Lab} (h : isSet l = true) : setIn (textOf l) = some l := by
  obtain ⟨h4, h1, _⟩ : l.length ≤ 4 ∧ (∀ x ∈ l, isNm x.1 = true) ∧ True := by
    unfold isSet at h
    simp only [Bool.and_eq_true, decide_eq_true_eq] at h
    refine ⟨h.1, fun x hx => ?_, trivial⟩
    obtain ⟨i, hi, rfl⟩ := List.getElem_of_mem hx
    have := (upTo_le h.2 hi).1
    simpa [hi] using this
  have ht := tb_textOf l
  have hb : ∃ b, bodyT l = b ++ [125] := by
    clear h h4 h1 ht
    induction l with
    | nil => exact ⟨[], rfl⟩
    | cons x r ih =>
      cases r with
      | nil => exact ⟨lt1 x, rfl⟩
      | cons y r =>
        obtain ⟨b, hb⟩ := ih
        exact ⟨lt1 x ++ 44 :: b, by rw [bodyT, hb]; simp⟩
  obtain ⟨b, hb⟩ := hb
  have hsz : (textOf l).size = b.length + 2 := by rw [← tb_len, ht, hb]; simp
  have c0 : at_ (textOf l) 0 = 123 := by rw [at_tb, ht]; rfl
  have c1 : at_ (textOf l) ((textOf l).size - 1) = 125 := by
    rw [at_tb, ht, hb, hsz, show b.length + 2 - 1 = b.length + 1 from by omega]
    simp
  unfold setIn
  rw [if_neg (by rw [c0, c1, hsz]; omega)]
  split
  · rename_i he
    rw [ht] at he
    cases l with
    | nil => rfl
    | cons x r =>
      exfalso
      have hlen := congrArg List.length he
      cases r with
      | nil => simp [bodyT, lt1] at hlen; omega
      | cons y r => simp [bodyT, lt1] at hlen; omega
  · rename_i he
    have hne : l ≠ [] := by intro e; subst e; exact he ht
    rw [ht, List.drop_one, List.tail_cons]
    exact rparse_whole l 5 [] hne (by omega) h1 (by simpa using h)
theorem setIn_sound {s : ByteArray} {l : List Lab} (h : setIn s = some l) : isSet l = true ∧ textOf l = s := by
  unfold setIn at h
  split at h
  · cases h
  · rename_i hc
    split at h
    · rename_i he
      simp only [Option.some.injEq] at h
      subst h
      exact ⟨rfl, tb_inj (by rw [tb_textOf, he]; rfl)⟩
    · obtain ⟨h1, m, h2, h3, h4⟩ := rparse_sound _ _ _ _ h
      rw [List.nil_append] at h2
      subst h2
      refine ⟨h1, tb_inj ?_⟩
      rw [tb_textOf, ← h4]
      have h123 : at_ s 0 = 123 := by omega
      have hsz : 2 ≤ s.size := by omega
      rw [at_tb] at h123
      cases ht : tb s with
      | nil => rw [← tb_len, ht] at hsz; simp at hsz
      | cons a t =>
        rw [ht] at h123
        have : a = 123 := UInt8.toNat_inj.1 (by simpa using h123)
        rw [this]; rfl
theorem textOf_inj {l m : List Lab} (hl : isSet l = true) (hm : isSet m = true) (h : textOf l = textOf m) : l = m := by
  have h1 := setIn_whole hl
  rw [h, setIn_whole hm] at h1
  exact (Option.some.inj h1).symm
end Go.Proofs.Ytiboghehonmpnaa

import PyProof.Rows.All
import HandS.ForMost
import HandS.Defaults
import HandS.IsInst
import HandS.Style
import PyProof.ReprRoads
import HandS.Walk
import HandS.Codes
import KE.Datum
import KE.GoesEnum
import KE.GoesMore
import HandS.Iter
import KE.GoesZip
import KE.KUnpackStar
import HandS.Star
import KE.SortData
import HandS.SortInts
import HandS.Gcd
import HandS.Wide
import HandS.Rev
import HandS.SortKw
import HandS.NoneIn
import HandS.More
import HandS.SetTxt0
import HandS.SetFor
import PyProof.Rows.SortShellAny
import HandS.MakeKwOnly
import HandS.Property
import HandS.OwnEq
import HandS.FStr
import KE.KFmtOwn
import HandS.Small
import HandS.SetKeys
import HandS.DictComp
import KE.OsSortAny
import HandS.RaiseMore
import KE.KStar
import KE.DataEq
import PyProof.EqKinds
import HandS.ClsMeth
import HandS.Head0
import HandS.Head1
import HandS.Head2
import HandS.Head3
import HandS.HeadHook1
import HandS.HeadHook2
import PySem.Challenge.RW_raggedtotals_k05_whole_parts_of_shapes
set_option linter.all false
set_option maxHeartbeats 1000000
/-! systems of linear equations: what the program computes, and what it is -/
namespace Lin
/-! ### dot products -/
def dot : List Int → List Int → Int
  | x :: xs, y :: ys => x * y + dot xs ys
  | _, _ => 0
theorem dot_nil (xs : List Int) : dot xs [] = 0 := by cases xs <;> rfl
theorem dot_comm : ∀ xs ys : List Int, dot xs ys = dot ys xs
  | [], ys => by rw [dot_nil]; rfl
  | x :: xs, [] => rfl
  | x :: xs, y :: ys => by
    show x * y + dot xs ys = y * x + dot ys xs
    rw [dot_comm xs ys, Int.mul_comm]
theorem dot_smul (c : Int) : ∀ xs ys : List Int, dot (xs.map (c * ·)) ys = c * dot xs ys
  | [], ys => by simp [dot]
  | x :: xs, [] => by simp [dot]
  | x :: xs, y :: ys => by
    show c * x * y + dot (xs.map (c * ·)) ys = c * (x * y + dot xs ys)
    rw [dot_smul c xs ys, Int.mul_add, Int.mul_assoc]
theorem dot_comb (t l : Int) : ∀ xs ys zs : List Int, xs.length = ys.length → dot (List.zipWith (fun a b => t * a - l * b) xs ys) zs = t * dot xs zs - l * dot ys zs
  | [], [], zs, _ => by simp [dot]
  | x :: xs, y :: ys, [], _ => by simp [dot]
  | x :: xs, y :: ys, z :: zs, h => by
    show (t * x - l * y) * z + dot (List.zipWith _ xs ys) zs = t * (x * z + dot xs zs) - l * (y * z + dot ys zs)
    rw [dot_comb t l xs ys zs (by simpa using h), Int.sub_mul, Int.mul_add, Int.mul_add, Int.mul_assoc, Int.mul_assoc]
    omega
theorem dot_append : ∀ xs ys us vs : List Int, xs.length = ys.length → dot (xs ++ us) (ys ++ vs) = dot xs ys + dot us vs
  | [], [], us, vs, _ => by simp [dot]
  | x :: xs, y :: ys, us, vs, h => by
    show x * y + dot (xs ++ us) (ys ++ vs) = x * y + dot xs ys + dot us vs
    rw [dot_append xs ys us vs (by simpa using h), Int.add_assoc]
theorem dot_zero : ∀ (xs ys : List Int), (∀ x ∈ xs, x = 0) → dot xs ys = 0
  | [], _, _ => rfl
  | x :: xs, [], _ => rfl
  | x :: xs, y :: ys, h => by
    show x * y + dot xs ys = 0
    rw [h x (by simp), dot_zero xs ys fun z hz => h z (by simp [hz])]
    simp
theorem getD_comb (t l : Int) (xs ys : List Int) (h : xs.length = ys.length) (j : Nat) : (List.zipWith (fun a b => t * a - l * b) xs ys).getD j 0 = t * xs.getD j 0 - l * ys.getD j 0 := by
  simp only [List.getD_eq_getElem?_getD, List.getElem?_zipWith]
  by_cases hj : j < xs.length
  · rw [List.getElem?_eq_getElem hj, List.getElem?_eq_getElem (h ▸ hj)]
    rfl
  · rw [List.getElem?_eq_none (by omega), List.getElem?_eq_none (by omega)]
    simp
theorem getD_smul (c : Int) (xs : List Int) (j : Nat) : (xs.map (c * ·)).getD j 0 = c * xs.getD j 0 := by
  simp only [List.getD_eq_getElem?_getD, List.getElem?_map]
  cases xs[j]? <;> simp
/-! ### common divisors -/
def gz (a b : Int) : Int := ((Nat.gcd a.natAbs b.natAbs : Nat) : Int)
theorem gz_nonneg (a b : Int) : 0 ≤ gz a b := Int.natCast_nonneg _
theorem gz_left (a b : Int) : gz a b ∣ a := by
  have h : Nat.gcd a.natAbs b.natAbs ∣ a.natAbs := Nat.gcd_dvd_left _ _
  exact Int.ofNat_dvd_left.mpr h
theorem gz_right (a b : Int) : gz a b ∣ b := by
  have h : Nat.gcd a.natAbs b.natAbs ∣ b.natAbs := Nat.gcd_dvd_right _ _
  exact Int.ofNat_dvd_left.mpr h
theorem gz_pos {a b : Int} (h : b ≠ 0) : 0 < gz a b := by
  have h1 := gz_nonneg a b
  rcases Int.lt_or_eq_of_le h1 with h2 | h2
  · exact h2
  · have := gz_right a b
    rw [← h2] at this
    exact absurd (Int.zero_dvd.mp this) h
theorem gz_one (b : Int) : gz 1 b = 1 := by
  unfold gz
  show ((Nat.gcd 1 b.natAbs : Nat) : Int) = 1
  rw [Nat.gcd_one_left]
  rfl
theorem gz_zero {a b : Int} (h : gz a b = 0) : a = 0 ∧ b = 0 := by
  have h1 := gz_left a b
  have h2 := gz_right a b
  rw [h] at h1 h2
  exact ⟨Int.zero_dvd.mp h1, Int.zero_dvd.mp h2⟩
def gAll (xs : List Int) : Int := xs.foldl gz 0
theorem fold_one : ∀ xs : List Int, xs.foldl gz 1 = 1
  | [] => rfl
  | x :: xs => by
    show xs.foldl gz (gz 1 x) = 1
    rw [gz_one]
    exact fold_one xs
theorem fold_dvd : ∀ (xs : List Int) (g : Int), xs.foldl gz g ∣ g ∧ ∀ x ∈ xs, xs.foldl gz g ∣ x
  | [], g => ⟨Int.dvd_refl g, fun _ h => nomatch h⟩
  | y :: xs, g => by
    obtain ⟨h1, h2⟩ := fold_dvd xs (gz g y)
    refine ⟨Int.dvd_trans h1 (gz_left g y), fun x hx => ?_⟩
    rcases List.mem_cons.mp hx with e | e
    · rw [e]
      exact Int.dvd_trans h1 (gz_right g y)
    · exact h2 x e
theorem fold_nonneg : ∀ (xs : List Int) (g : Int), 0 ≤ g → 0 ≤ xs.foldl gz g
  | [], g, h => h
  | y :: xs, g, _ => fold_nonneg xs _ (gz_nonneg g y)
theorem gAll_nonneg (xs : List Int) : 0 ≤ gAll xs := fold_nonneg xs 0 (Int.le_refl 0)
theorem gAll_dvd {xs : List Int} {x : Int} (h : x ∈ xs) : gAll xs ∣ x := (fold_dvd xs 0).2 x h
/-- divided by what divides all -/
def divF (xs : List Int) : List Int := xs.map (· / gAll xs)
theorem divF_length (xs : List Int) : (divF xs).length = xs.length := by simp [divF]
theorem divF_zero {xs : List Int} (h : gAll xs = 0) : divF xs = xs := by
  unfold divF
  rw [h]
  have : ∀ x ∈ xs, x / 0 = x := fun x hx => by
    have := gAll_dvd hx
    rw [h] at this
    rw [Int.zero_dvd.mp this]
    rfl
  rw [List.map_congr_left this, List.map_id']
theorem divF_one {xs : List Int} (h : gAll xs = 1) : divF xs = xs := by
  unfold divF
  rw [h]
  simp
theorem divF_spec (xs : List Int) : ∃ c : Int, 0 < c ∧ xs = (divF xs).map (c * ·) := by
  by_cases h : gAll xs = 0
  · exact ⟨1, by decide, by rw [divF_zero h]; simp⟩
  · have hp : 0 < gAll xs := by
      have := gAll_nonneg xs
      omega
    refine ⟨gAll xs, hp, ?_⟩
    unfold divF
    rw [List.map_map]
    have : ∀ x ∈ xs, ((gAll xs * ·) ∘ (· / gAll xs)) x = x := fun x hx => Int.mul_ediv_cancel' (gAll_dvd hx)
    rw [List.map_congr_left this, List.map_id']
/-! ### elimination -/
def stepF (left : List Int) (q : Nat × List Int) : List Int :=
  if left.getD q.1 0 = 0 then left else
    let c := gz (left.getD q.1 0) (q.2.getD q.1 0)
    let t := q.2.getD q.1 0 / c
    let l := left.getD q.1 0 / c
    let n := List.zipWith (fun a b => t * a - l * b) left q.2
    if t = 1 ∨ t = -1 then n else divF n
def redF (row : List Int) (P : List (Nat × List Int)) : List Int := divF (P.foldl stepF row)
theorem ediv_ne {y c : Int} (h : c ∣ y) (hy : y ≠ 0) : y / c ≠ 0 := fun e => by
  have := Int.ediv_mul_cancel h
  rw [e, Int.zero_mul] at this
  exact hy this.symm
/-- what a step does: of left and the pivot a combination, divided -/
theorem stepF_spec {m : Nat} {left : List Int} {q : Nat × List Int} (h1 : left.length = m) (h2 : q.2.length = m) (hq : q.2.getD q.1 0 ≠ 0) :
    ∃ t l c : Int, t ≠ 0 ∧ c ≠ 0 ∧ List.zipWith (fun a b => t * a - l * b) left q.2 = (stepF left q).map (c * ·) ∧ (stepF left q).length = m ∧ (stepF left q).getD q.1 0 = 0 := by
  unfold stepF
  by_cases h0 : left.getD q.1 0 = 0
  · rw [if_pos h0]
    refine ⟨1, 0, 1, by decide, by decide, ?_, h1, h0⟩
    apply List.ext_getElem
    · simp [h1, h2]
    · intro i a b
      simp
  · rw [if_neg h0]
    dsimp only
    generalize hx : left.getD q.1 0 = x at *
    generalize hy : q.2.getD q.1 0 = y at *
    have cd := gz_left x y
    have ce := gz_right x y
    have ht : y / gz x y ≠ 0 := ediv_ne ce hq
    have hz : (y / gz x y) * x - (x / gz x y) * y = 0 := by
      have e1 := Int.ediv_mul_cancel cd
      have e2 := Int.ediv_mul_cancel ce
      generalize y / gz x y = t at *
      generalize x / gz x y = l at *
      generalize gz x y = g at *
      rw [← e1, ← e2, Int.mul_left_comm t l g]
      omega
    have zl : (List.zipWith (fun a b => y / gz x y * a - x / gz x y * b) left q.2).length = m := by simp [h1, h2]
    have zg : (List.zipWith (fun a b => y / gz x y * a - x / gz x y * b) left q.2).getD q.1 0 = 0 := by
      rw [getD_comb _ _ _ _ (h1.trans h2.symm), hx, hy]
      exact hz
    by_cases hd : y / gz x y = 1 ∨ y / gz x y = -1
    · rw [if_pos hd]
      exact ⟨_, x / gz x y, 1, ht, by decide, by simp, zl, zg⟩
    · rw [if_neg hd]
      obtain ⟨c, hc, e⟩ := divF_spec (List.zipWith (fun a b => y / gz x y * a - x / gz x y * b) left q.2)
      refine ⟨_, _, c, ht, by omega, e, by rw [divF_length, zl], ?_⟩
      have z := zg
      rw [e, getD_smul] at z
      rcases Int.mul_eq_zero.mp z with z | z
      · omega
      · exact z
/-- a property of vectors that combinations keep -/
structure Keeps (m : Nat) (S : List Int → Prop) : Prop where
  comb : ∀ (t l : Int) (xs ys : List Int), xs.length = m → ys.length = m → S xs → S ys → S (List.zipWith (fun a b => t * a - l * b) xs ys)
  part : ∀ (c : Int) (xs : List Int), c ≠ 0 → S (xs.map (c * ·)) → S xs
def PivOk (m : Nat) (P : List (Nat × List Int)) : Prop := ∀ q ∈ P, q.2.length = m ∧ q.2.getD q.1 0 ≠ 0
theorem fold_keeps {m : Nat} {S : List Int → Prop} (K : Keeps m S) : ∀ (P : List (Nat × List Int)) (left : List Int), left.length = m → PivOk m P → S left → (∀ q ∈ P, S q.2) → S (P.foldl stepF left) ∧ (P.foldl stepF left).length = m
  | [], left, h, _, s, _ => ⟨s, h⟩
  | q :: P, left, h, hP, s, sP => by
    obtain ⟨h2, hq⟩ := hP q (by simp)
    obtain ⟨t, l, c, ht, hc, e, hl, _⟩ := stepF_spec h h2 hq
    refine fold_keeps K P (stepF left q) hl (fun z hz => hP z (by simp [hz])) ?_ (fun z hz => sP z (by simp [hz]))
    exact K.part c _ hc (e ▸ K.comb t l left q.2 h h2 s (sP q (by simp)))
theorem divF_keeps {m : Nat} {S : List Int → Prop} (K : Keeps m S) {xs : List Int} (s : S xs) : S (divF xs) := by
  obtain ⟨c, hc, e⟩ := divF_spec xs
  exact K.part c _ (by omega) (e ▸ s)
theorem redF_keeps {m : Nat} {S : List Int → Prop} (K : Keeps m S) {P : List (Nat × List Int)} {row : List Int} (h : row.length = m) (hP : PivOk m P) (s : S row) (sP : ∀ q ∈ P, S q.2) : S (redF row P) := divF_keeps K (fold_keeps K P row h hP s sP).1
theorem keeps_dot (m : Nat) (x : List Int) : Keeps m (fun v => dot v x = 0) := by
  refine ⟨fun t l xs ys h1 h2 e1 e2 => ?_, fun c xs hc e => ?_⟩
  · rw [dot_comb t l xs ys x (h1.trans h2.symm), e1, e2]
    simp
  · rw [dot_smul] at e
    rcases Int.mul_eq_zero.mp e with e | e
    · exact absurd e hc
    · exact e
theorem keeps_len (m : Nat) : Keeps m (fun v => v.length = m) := ⟨fun t l xs ys h1 h2 _ _ => by simp [h1, h2], fun c xs _ e => by simpa using e⟩
/-- the other way: what the pivots and what is left make 0, the row makes 0 -/
theorem fold_back {m : Nat} {x : List Int} : ∀ (P : List (Nat × List Int)) (left : List Int), left.length = m → PivOk m P → (∀ q ∈ P, dot q.2 x = 0) → dot (P.foldl stepF left) x = 0 → dot left x = 0
  | [], left, _, _, _, e => e
  | q :: P, left, h, hP, sP, e => by
    obtain ⟨h2, hq⟩ := hP q (by simp)
    obtain ⟨t, l, c, ht, hc, ez, hl, _⟩ := stepF_spec h h2 hq
    have z := fold_back P (stepF left q) hl (fun z hz => hP z (by simp [hz])) (fun z hz => sP z (by simp [hz])) e
    have z2 : dot ((stepF left q).map (c * ·)) x = 0 := by rw [dot_smul, z, Int.mul_zero]
    rw [← ez, dot_comb t l left q.2 x (h.trans h2.symm), sP q (by simp)] at z2
    rcases Int.mul_eq_zero.mp (show t * dot left x = 0 by omega) with z3 | z3
    · exact absurd z3 ht
    · exact z3
theorem redF_back {m : Nat} {x : List Int} {P : List (Nat × List Int)} {row : List Int} (h : row.length = m) (hP : PivOk m P) (sP : ∀ q ∈ P, dot q.2 x = 0) (e : dot (redF row P) x = 0) : dot row x = 0 := by
  refine fold_back P row h hP sP ?_
  obtain ⟨c, hc, ez⟩ := divF_spec (P.foldl stepF row)
  rw [ez, dot_smul]
  show c * dot (redF row P) x = 0
  rw [e, Int.mul_zero]
/-- places that are 0 stay 0, where the pivots have 0 there -/
theorem keeps_at (m j : Nat) : Keeps m (fun v => v.getD j 0 = 0) := by
  refine ⟨fun t l xs ys h1 h2 e1 e2 => ?_, fun c xs hc e => ?_⟩
  · rw [getD_comb t l xs ys (h1.trans h2.symm), e1, e2]
    simp
  · rw [getD_smul] at e
    rcases Int.mul_eq_zero.mp e with e | e
    · exact absurd e hc
    · exact e
/-- each pivot is 0 at the places of those before it -/
def Ech (P : List (Nat × List Int)) : Prop := P.Pairwise fun p q => q.2.getD p.1 0 = 0
theorem fold_places {m : Nat} : ∀ (P : List (Nat × List Int)) (left : List Int), left.length = m → PivOk m P → Ech P → ∀ p ∈ P, (P.foldl stepF left).getD p.1 0 = 0
  | [], _, _, _, _, _, hp => nomatch hp
  | q :: P, left, h, hP, hE, p, hp => by
    obtain ⟨h2, hq⟩ := hP q (by simp)
    obtain ⟨t, l, c, ht, hc, ez, hl, h0⟩ := stepF_spec h h2 hq
    have hP2 : PivOk m P := fun z hz => hP z (by simp [hz])
    obtain ⟨e1, e2⟩ := List.pairwise_cons.mp hE
    rcases List.mem_cons.mp hp with e | e
    · rw [e]
      exact (fold_keeps (keeps_at m q.1) P (stepF left q) hl hP2 h0 e1).1
    · exact fold_places P (stepF left q) hl hP2 e2 p e
theorem redF_places {m : Nat} {P : List (Nat × List Int)} {row : List Int} (h : row.length = m) (hP : PivOk m P) (hE : Ech P) {p : Nat × List Int} (hp : p ∈ P) : (redF row P).getD p.1 0 = 0 := by
  have z := fold_places P row h hP hE p hp
  obtain ⟨c, hc, ez⟩ := divF_spec (P.foldl stepF row)
  rw [ez, getD_smul] at z
  rcases Int.mul_eq_zero.mp z with z | z
  · omega
  · exact z
/-! ### combinations of given rows -/
/-- v is a combination of the rows, over a denominator: told by coordinates -/
def Comb (rows : List (List Int)) (v : List Int) : Prop := ∃ (k : Int) (cs : List Int), k ≠ 0 ∧ cs.length = rows.length ∧ ∀ j, k * v.getD j 0 = dot cs (rows.map fun r => r.getD j 0)
theorem keeps_comb (m : Nat) (rows : List (List Int)) : Keeps m (Comb rows) := by
  refine ⟨fun t l xs ys h1 h2 ⟨k1, c1, n1, l1, e1⟩ ⟨k2, c2, n2, l2, e2⟩ => ?_, fun c xs hc ⟨k, cs, n, l, e⟩ => ⟨k * c, cs, Int.mul_ne_zero n hc, l, fun j => ?_⟩⟩
  · refine ⟨k1 * k2, List.zipWith (fun a b => (t * k2) * a - (l * k1) * b) c1 c2, Int.mul_ne_zero n1 n2, by simp [l1, l2], fun j => ?_⟩
    rw [dot_comb _ _ c1 c2 _ (l1.trans l2.symm), ← e1 j, ← e2 j, getD_comb t l xs ys (h1.trans h2.symm), Int.mul_sub]
    congr 1
    · ac_rfl
    · ac_rfl
  · have := e j
    rw [getD_smul] at this
    rw [← this, Int.mul_assoc]
theorem comb_more {rows : List (List Int)} {v r : List Int} (h : Comb rows v) : Comb (rows ++ [r]) v := by
  obtain ⟨k, cs, n, l, e⟩ := h
  refine ⟨k, cs ++ [0], n, by simp [l], fun j => ?_⟩
  rw [List.map_append, dot_append cs _ [0] _ (by simp [l]), e j]
  simp [dot]
theorem comb_last {rows : List (List Int)} {r : List Int} : Comb (rows ++ [r]) r := by
  refine ⟨1, List.replicate rows.length 0 ++ [1], by decide, by simp, fun j => ?_⟩
  rw [List.map_append, dot_append _ _ [1] _ (by simp), dot_zero _ _ (fun x hx => List.eq_of_mem_replicate hx)]
  simp [dot]
/-! ### the loop over the rows -/
def fstP (xs : List Int) : Option Nat := xs.findIdx? fun x => decide (x ≠ 0)
theorem fstP_some {xs : List Int} {a : Nat} (h : fstP xs = some a) : a < xs.length ∧ xs.getD a 0 ≠ 0 ∧ ∀ j, j < a → xs.getD j 0 = 0 := by
  unfold fstP at h
  rw [List.findIdx?_eq_some_iff_getElem] at h
  obtain ⟨hl, h1, h2⟩ := h
  refine ⟨hl, ?_, fun j hj => ?_⟩
  · rw [List.getD_eq_getElem?_getD, List.getElem?_eq_getElem hl]
    simpa using h1
  · have := h2 j hj
    rw [List.getD_eq_getElem?_getD, List.getElem?_eq_getElem (Nat.lt_trans hj hl)]
    simpa using this
theorem fstP_none {xs : List Int} (h : fstP xs = none) : ∀ x ∈ xs, x = 0 := by
  unfold fstP at h
  rw [List.findIdx?_eq_none_iff] at h
  intro x hx
  simpa using h x hx
def goF (w : Nat) : List (List Int) → List Int → List (Nat × List Int) → Option (List (Nat × List Int))
  | r :: rs, g :: gs, P => match fstP (redF (r ++ [g]) P) with
    | some a => if a = w then none else goF w rs gs (P ++ [(a, redF (r ++ [g]) P)])
    | none => goF w rs gs P
  | _, _, P => some P
def ext (rows : List (List Int)) (goal : List Int) : List (List Int) := List.zipWith (fun r g => r ++ [g]) rows goal
structure Inv (w : Nat) (seen : List (List Int)) (P : List (Nat × List Int)) : Prop where
  piv : PivOk (w + 1) P
  lt : ∀ q ∈ P, q.1 < w
  ech : Ech P
  back : ∀ x : List Int, (∀ q ∈ P, dot q.2 x = 0) → ∀ r ∈ seen, dot r x = 0
  fwd : ∀ x : List Int, (∀ r ∈ seen, dot r x = 0) → ∀ q ∈ P, dot q.2 x = 0
  comb : ∀ q ∈ P, Comb seen q.2
/-- what refutes: a combination of the rows that is 0 but for the goal -/
structure Bad (w : Nat) (rows : List (List Int)) (v : List Int) : Prop where
  len : v.length = w + 1
  zero : ∀ j, j < w → v.getD j 0 = 0
  goal : v.getD w 0 ≠ 0
  fwd : ∀ x : List Int, (∀ r ∈ rows, dot r x = 0) → dot v x = 0
  comb : Comb rows v
theorem Inv.none_ {w : Nat} {seen : List (List Int)} {P : List (Nat × List Int)} {row : List Int} (I : Inv w seen P) (h : row.length = w + 1) (e : fstP (redF row P) = none) : Inv w (seen ++ [row]) P := by
  refine ⟨I.piv, I.lt, I.ech, fun x hx r hr => ?_, fun x hx q hq => I.fwd x (fun r hr => hx r (by simp [hr])) q hq, fun q hq => comb_more (I.comb q hq)⟩
  rcases List.mem_append.mp hr with z | z
  · exact I.back x hx r z
  · rw [List.mem_singleton.mp z]
    exact redF_back h I.piv hx (dot_zero _ _ (fstP_none e))
theorem Inv.left {w : Nat} {seen : List (List Int)} {P : List (Nat × List Int)} {row : List Int} (I : Inv w seen P) (h : row.length = w + 1) :
    (redF row P).length = w + 1 ∧ (∀ x : List Int, (∀ r ∈ seen ++ [row], dot r x = 0) → dot (redF row P) x = 0) ∧ Comb (seen ++ [row]) (redF row P) := by
  refine ⟨redF_keeps (keeps_len _) h I.piv h fun q hq => (I.piv q hq).1, fun x hx => ?_, ?_⟩
  · exact redF_keeps (keeps_dot _ x) h I.piv (hx row (by simp)) (I.fwd x fun r hr => hx r (by simp [hr]))
  · exact redF_keeps (keeps_comb _ _) h I.piv comb_last fun q hq => comb_more (I.comb q hq)
theorem Inv.some_ {w a : Nat} {seen : List (List Int)} {P : List (Nat × List Int)} {row : List Int} (I : Inv w seen P) (h : row.length = w + 1) (e : fstP (redF row P) = some a) (ha : a ≠ w) :
    Inv w (seen ++ [row]) (P ++ [(a, redF row P)]) := by
  obtain ⟨l1, l2, l3⟩ := I.left h
  obtain ⟨a1, a2, a3⟩ := fstP_some e
  refine ⟨fun q hq => ?_, fun q hq => ?_, ?_, fun x hx r hr => ?_, fun x hx q hq => ?_, fun q hq => ?_⟩
  · rcases List.mem_append.mp hq with z | z
    · exact I.piv q z
    · rw [List.mem_singleton.mp z]
      exact ⟨l1, a2⟩
  · rcases List.mem_append.mp hq with z | z
    · exact I.lt q z
    · rw [List.mem_singleton.mp z]
      show a < w
      omega
  · refine List.pairwise_append.mpr ⟨I.ech, List.pairwise_singleton _ _, fun p hp q hq => ?_⟩
    rw [List.mem_singleton.mp hq]
    exact redF_places h I.piv I.ech hp
  · have hx2 : ∀ q ∈ P, dot q.2 x = 0 := fun q hq => hx q (by simp [hq])
    rcases List.mem_append.mp hr with z | z
    · exact I.back x hx2 r z
    · rw [List.mem_singleton.mp z]
      exact redF_back h I.piv hx2 (hx (a, redF row P) (by simp))
  · rcases List.mem_append.mp hq with z | z
    · exact I.fwd x (fun r hr => hx r (by simp [hr])) q z
    · rw [List.mem_singleton.mp z]
      exact l2 x hx
  · rcases List.mem_append.mp hq with z | z
    · exact comb_more (I.comb q z)
    · rw [List.mem_singleton.mp z]
      exact l3
theorem Inv.bad {w : Nat} {seen : List (List Int)} {P : List (Nat × List Int)} {row : List Int} (I : Inv w seen P) (h : row.length = w + 1) (e : fstP (redF row P) = some w) : Bad w (seen ++ [row]) (redF row P) := by
  obtain ⟨l1, l2, l3⟩ := I.left h
  obtain ⟨a1, a2, a3⟩ := fstP_some e
  exact ⟨l1, a3, a2, l2, l3⟩
theorem Bad.more {w : Nat} {rows : List (List Int)} {v : List Int} (B : Bad w rows v) : ∀ rs : List (List Int), Bad w (rows ++ rs) v
  | [] => by rwa [List.append_nil]
  | r :: rs => by
    have : Bad w (rows ++ [r]) v := ⟨B.len, B.zero, B.goal, fun x hx => B.fwd x fun r hr => hx r (by simp [hr]), comb_more B.comb⟩
    have := Bad.more this rs
    rwa [List.append_assoc] at this
theorem goF_spec (w : Nat) : ∀ (rows : List (List Int)) (goal : List Int) (seen : List (List Int)) (P : List (Nat × List Int)), (∀ r ∈ rows, r.length = w) → Inv w seen P →
    match goF w rows goal P with
    | some P' => Inv w (seen ++ ext rows goal) P'
    | none => ∃ v, Bad w (seen ++ ext rows goal) v
  | [], goal, seen, P, _, I => by
    show Inv w (seen ++ []) P
    rwa [List.append_nil]
  | r :: rs, [], seen, P, _, I => by
    show Inv w (seen ++ []) P
    rwa [List.append_nil]
  | r :: rs, g :: gs, seen, P, hr, I => by
    have hl : (r ++ [g]).length = w + 1 := by simp [hr r (by simp)]
    have e : ext (r :: rs) (g :: gs) = (r ++ [g]) :: ext rs gs := rfl
    have e2 : seen ++ ext (r :: rs) (g :: gs) = seen ++ [r ++ [g]] ++ ext rs gs := by rw [e]; simp
    rw [e2]
    unfold goF
    cases h : fstP (redF (r ++ [g]) P) with
    | none =>
      dsimp only
      exact goF_spec w rs gs _ P (fun z hz => hr z (by simp [hz])) (I.none_ hl h)
    | some a =>
      dsimp only
      by_cases ha : a = w
      · rw [if_pos ha]
        subst ha
        exact ⟨_, (I.bad hl h).more _⟩
      · rw [if_neg ha]
        exact goF_spec w rs gs _ _ (fun z hz => hr z (by simp [hz])) (I.some_ hl h ha)
theorem inv_nil (w : Nat) : Inv w [] [] := ⟨fun _ h => (nomatch h), fun _ h => (nomatch h), List.Pairwise.nil, fun _ _ _ h => (nomatch h), fun _ _ _ h => (nomatch h), fun _ h => (nomatch h)⟩
/-! ### the values -/
def valStep (w : Nat) (q : Nat × List Int) (s : List Int × Int) : List Int × Int :=
  let rest := q.2.getD w 0 * s.2 - dot (q.2.take w) s.1
  let c := gz rest (q.2.getD q.1 0)
  let t := q.2.getD q.1 0 / c
  let all := divF ((s.1.map (· * t)).set q.1 (rest / c) ++ [s.2 * t])
  (all.take w, all.getD w 0)
def valF (w : Nat) (P : List (Nat × List Int)) : List Int × Int := P.foldr (valStep w) (List.replicate w 0, 1)
theorem dot_set : ∀ (xs ys : List Int) (a : Nat) (v : Int), a < ys.length → dot xs (ys.set a v) = dot xs ys + xs.getD a 0 * (v - ys.getD a 0)
  | [], ys, a, v, _ => by simp [dot]
  | x :: xs, [], a, v, h => absurd h (Nat.not_lt_zero _)
  | x :: xs, y :: ys, 0, v, _ => by
    show x * v + dot xs ys = x * y + dot xs ys + x * (v - y)
    rw [Int.mul_sub]
    omega
  | x :: xs, y :: ys, a + 1, v, h => by
    show x * y + dot xs (ys.set a v) = x * y + dot xs ys + xs.getD a 0 * (v - ys.getD a 0)
    rw [dot_set xs ys a v (by simpa using h), Int.add_assoc]
theorem map_mul_comm (t : Int) (xs : List Int) : xs.map (· * t) = xs.map (t * ·) := List.map_congr_left fun x _ => Int.mul_comm x t
structure Val (w : Nat) (S : List (Nat × List Int)) (s : List Int × Int) : Prop where
  len : s.1.length = w
  den : s.2 ≠ 0
  eqs : ∀ q ∈ S, dot (q.2.take w) s.1 = q.2.getD w 0 * s.2
  free : ∀ j, (∀ q ∈ S, q.1 ≠ j) → s.1.getD j 0 = 0
theorem getD_take {xs : List Int} {w j : Nat} (h : j < w) : (xs.take w).getD j 0 = xs.getD j 0 := by
  rw [List.getD_eq_getElem?_getD, List.getD_eq_getElem?_getD, List.getElem?_take, if_pos h]
theorem valStep_ok {w : Nat} {S : List (Nat × List Int)} {s : List Int × Int} {q : Nat × List Int} (V : Val w S s) (hq : q.2.length = w + 1) (h0 : q.2.getD q.1 0 ≠ 0) (hw : q.1 < w) (hS : ∀ p ∈ S, p.2.getD q.1 0 = 0 ∧ p.2.getD p.1 0 ≠ 0) :
    Val w (q :: S) (valStep w q s) := by
  obtain ⟨ns, d⟩ := s
  obtain ⟨Vl, Vd, Ve, Vf⟩ := V
  dsimp only at Vl Vd Ve Vf
  unfold valStep
  dsimp only
  have nq : ns.getD q.1 0 = 0 := Vf q.1 fun p hp e => by
    obtain ⟨z1, z2⟩ := hS p hp
    rw [e] at z2
    exact z2 z1
  generalize hr : q.2.getD w 0 * d - dot (q.2.take w) ns = rest
  generalize hy : q.2.getD q.1 0 = y at *
  have gp : 0 < gz rest y := gz_pos h0
  have cd := gz_left rest y
  have ce := gz_right rest y
  have ht : y / gz rest y ≠ 0 := ediv_ne ce h0
  have e1 := Int.ediv_mul_cancel cd
  have e2 := Int.ediv_mul_cancel ce
  generalize gz rest y = g at *
  generalize y / g = t at *
  generalize rest / g = u at *
  generalize hn : (ns.map (· * t)).set q.1 u = ms
  have lm : ms.length = w := by rw [← hn]; simp [Vl]
  obtain ⟨c, hc, e⟩ := divF_spec (ms ++ [d * t])
  have la : (divF (ms ++ [d * t])).length = w + 1 := by rw [divF_length]; simp [lm]
  generalize divF (ms ++ [d * t]) = all at *
  have f1 : ms = (all.take w).map (c * ·) := by
    have := congrArg (List.take w) e
    rw [List.take_append_of_le_length (by omega), List.take_of_length_le (by omega)] at this
    rw [this, List.map_take]
  have f2 : d * t = c * all.getD w 0 := by
    have h1 : (ms ++ [d * t]).getD w 0 = (all.map (c * ·)).getD w 0 := by rw [← e]
    rw [getD_smul] at h1
    rw [← h1, List.getD_eq_getElem?_getD, List.getElem?_append_right (by omega), lm, Nat.sub_self]
    rfl
  -- the products over ms
  have dm : ∀ xs : List Int, dot xs ms = t * dot xs ns + xs.getD q.1 0 * u := fun xs => by
    rw [← hn, dot_set xs _ q.1 u (by simp [Vl, hw]), map_mul_comm, getD_smul, nq, dot_comm xs, dot_smul, dot_comm ns]
    simp
  have key : ∀ xs : List Int, ∀ b : Int, dot xs ms = b * (d * t) → dot xs (all.take w) = b * all.getD w 0 := fun xs b h => by
    rw [f1, f2, dot_comm, dot_smul, dot_comm] at h
    have h2 : c * dot xs (all.take w) = c * (b * all.getD w 0) := by rw [h, Int.mul_left_comm]
    exact Int.eq_of_mul_eq_mul_left (by omega) h2
  refine ⟨by simp [la], fun z => ?_, fun p hp => ?_, fun j hj => ?_⟩
  · dsimp only at z
    rw [z, Int.mul_zero] at f2
    rcases Int.mul_eq_zero.mp f2 with z2 | z2
    · exact Vd z2
    · exact ht z2
  · refine key _ _ ?_
    rcases List.mem_cons.mp hp with z | z
    · rw [z, dm, getD_take hw, hy, ← e2, ← Int.mul_assoc (q.2.getD w 0) d t]
      have : q.2.getD w 0 * d = rest + dot (q.2.take w) ns := by omega
      rw [this, ← e1, Int.add_mul, Int.mul_comm t (dot _ _), Int.add_comm, Int.mul_comm t g, Int.mul_assoc, Int.mul_comm (u * g) t, Int.mul_left_comm t u g]
      congr 1
      ac_rfl
    · rw [dm, getD_take hw, (hS p z).1, Ve p z, Int.zero_mul, Int.add_zero]
      ac_rfl
  · have n1 : ns.getD j 0 = 0 := Vf j fun p hp => hj p (by simp [hp])
    have n2 : q.1 ≠ j := hj q (by simp)
    have z : ms.getD j 0 = 0 := by
      rw [← hn, List.getD_eq_getElem?_getD, List.getElem?_set_ne n2, ← List.getD_eq_getElem?_getD, map_mul_comm, getD_smul, n1, Int.mul_zero]
    rw [f1, getD_smul] at z
    rcases Int.mul_eq_zero.mp z with z | z
    · omega
    · exact z
theorem valF_ok {w : Nat} : ∀ P : List (Nat × List Int), PivOk (w + 1) P → (∀ q ∈ P, q.1 < w) → Ech P → Val w P (valF w P)
  | [], _, _, _ => ⟨by simp [valF], by simp [valF], fun _ h => (nomatch h), fun j _ => by
      show (List.replicate w (0 : Int)).getD j 0 = 0
      rw [List.getD_eq_getElem?_getD, List.getElem?_replicate]
      split <;> rfl⟩
  | q :: P, h1, h2, h3 => by
    obtain ⟨e1, e2⟩ := List.pairwise_cons.mp h3
    have V := valF_ok P (fun z hz => h1 z (by simp [hz])) (fun z hz => h2 z (by simp [hz])) e2
    exact valStep_ok V (h1 q (by simp)).1 (h1 q (by simp)).2 (h2 q (by simp)) fun p hp => ⟨e1 p hp, (h1 p (by simp [hp])).2⟩
/-! ### a system solved, or refuted -/
def solF (w : Nat) (rows : List (List Int)) (goal : List Int) : Option (List Int × Int) := (goF w rows goal []).map (valF w)
theorem dot_ext {r x : List Int} {g d : Int} (h : r.length = x.length) : dot (r ++ [g]) (x ++ [d]) = dot r x + g * d := by
  rw [dot_append r x [g] [d] h]
  simp [dot]
theorem take_ext {q : List Int} {w : Nat} (h : q.length = w + 1) : q = q.take w ++ [q.getD w 0] := by
  apply List.ext_getElem?
  intro i
  rcases Nat.lt_trichotomy i w with z | z | z
  · rw [List.getElem?_append_left (by simp; omega), List.getElem?_take, if_pos z]
  · rw [List.getElem?_append_right (by simp; omega), z]
    simp [h]
  · rw [List.getElem?_eq_none (by omega), List.getElem?_eq_none (by simp; omega)]
theorem solF_some {w : Nat} {rows : List (List Int)} {goal : List Int} {ns : List Int} {d : Int} (hl : rows.length = goal.length) (hr : ∀ r ∈ rows, r.length = w) (h : solF w rows goal = some (ns, d)) :
    ns.length = w ∧ d ≠ 0 ∧ ∀ (i : Nat) (r : List Int) (g : Int), rows[i]? = some r → goal[i]? = some g → dot r ns = g * d := by
  unfold solF at h
  cases e : goF w rows goal [] with
  | none =>
    rw [e] at h
    cases h
  | some P =>
    rw [e] at h
    have s := goF_spec w rows goal [] [] hr (inv_nil w)
    rw [e] at s
    have I : Inv w ([] ++ ext rows goal) P := s
    have V := valF_ok P I.piv I.lt I.ech
    have ev : valF w P = (ns, d) := Option.some.inj h
    rw [ev] at V
    refine ⟨V.len, V.den, fun i r g h1 h2 => ?_⟩
    have vl : ns.length = w := V.len
    have m : (r ++ [g]) ∈ [] ++ ext rows goal := by
      rw [List.nil_append]
      refine List.mem_of_getElem? (i := i) ?_
      unfold ext
      rw [List.getElem?_zipWith, h1, h2]
    have z := I.back (ns ++ [-d]) (fun q hq => ?_) _ m
    · rw [dot_ext (by rw [hr r (List.mem_of_getElem? h1), vl]), Int.mul_neg] at z
      omega
    · rw [take_ext (I.piv q hq).1, dot_ext (by simp [(I.piv q hq).1, vl]), Int.mul_neg]
      have := V.eqs q hq
      dsimp only at this
      rw [this]
      omega
theorem solF_none {w : Nat} {rows : List (List Int)} {goal : List Int} (hr : ∀ r ∈ rows, r.length = w) (h : solF w rows goal = none) : ∃ v, Bad w (ext rows goal) v := by
  unfold solF at h
  cases e : goF w rows goal [] with
  | some P =>
    rw [e] at h
    cases h
  | none =>
    have s := goF_spec w rows goal [] [] hr (inv_nil w)
    rw [e] at s
    exact s
theorem bad_last {w : Nat} {rows : List (List Int)} {v x : List Int} {d : Int} (B : Bad w rows v) (hx : x.length = w) (h : ∀ r ∈ rows, dot r (x ++ [d]) = 0) : d = 0 := by
  have z := B.fwd _ h
  rw [take_ext B.len, dot_ext (by simp [B.len, hx]), dot_zero _ _ (fun y hy => ?_)] at z
  · rcases Int.mul_eq_zero.mp (show v.getD w 0 * d = 0 by omega) with z2 | z2
    · exact absurd z2 B.goal
    · exact z2
  · obtain ⟨j, hj⟩ := List.mem_iff_getElem?.mp hy
    rw [List.getElem?_take] at hj
    by_cases hjw : j < w
    · rw [if_pos hjw] at hj
      have := B.zero j hjw
      rw [List.getD_eq_getElem?_getD, hj] at this
      exact this
    · rw [if_neg hjw] at hj
      cases hj
/-- a solution that stands there: no refusal -/
theorem solF_there {w : Nat} {rows : List (List Int)} {goal x : List Int} (hr : ∀ r ∈ rows, r.length = w) (hx : x.length = w) (h : ∀ (i : Nat) (r : List Int) (g : Int), rows[i]? = some r → goal[i]? = some g → dot r x = g) : solF w rows goal ≠ none := fun e => by
  obtain ⟨v, B⟩ := solF_none hr e
  have := bad_last B hx (d := -1) fun r hrr => ?_
  · cases this
  · obtain ⟨i, hi⟩ := List.mem_iff_getElem?.mp hrr
    unfold ext at hi
    rw [List.getElem?_zipWith] at hi
    cases e1 : rows[i]? with
    | none =>
      rw [e1] at hi
      cases hi
    | some r0 =>
      cases e2 : goal[i]? with
      | none =>
        rw [e1, e2] at hi
        cases hi
      | some g0 =>
        rw [e1, e2] at hi
        have : r0 ++ [g0] = r := Option.some.inj hi
        rw [← this, dot_ext (by rw [hr r0 (List.mem_of_getElem? e1), hx]), h i r0 g0 e1 e2]
        omega
/-! ### the obstacle: the columns' own system -/
def cols (w : Nat) (rows : List (List Int)) : List (List Int) := (List.range w).map fun j => rows.map fun r => r.getD j 0
def dualR (w : Nat) (rows : List (List Int)) (goal : List Int) : List (List Int) := cols w rows ++ [goal]
def dualG (w : Nat) : List Int := List.replicate w 0 ++ [1]
theorem cols_get {w j : Nat} (rows : List (List Int)) (h : j < w) : (cols w rows)[j]? = some (rows.map fun r => r.getD j 0) := by
  unfold cols
  rw [List.getElem?_map, List.getElem?_range h]
  rfl
theorem cols_length (w : Nat) (rows : List (List Int)) : (cols w rows).length = w := by simp [cols]
theorem obs_some {w : Nat} {rows : List (List Int)} {goal : List Int} (hl : rows.length = goal.length) (hr : ∀ r ∈ rows, r.length = w) (h : solF w rows goal = none) : solF rows.length (dualR w rows goal) (dualG w) ≠ none := fun e => by
  obtain ⟨v, B⟩ := solF_none hr h
  obtain ⟨k, cs, hk, hcl, hc⟩ := B.comb
  have exl : (ext rows goal).length = rows.length := by simp [ext, hl]
  have dl : ∀ r ∈ dualR w rows goal, r.length = rows.length := fun r hrr => by
    rcases List.mem_append.mp hrr with z | z
    · obtain ⟨j, _, ej⟩ := List.mem_map.mp z
      rw [← ej, List.length_map]
    · rw [List.mem_singleton.mp z, hl]
  obtain ⟨v2, B2⟩ := solF_none dl e
  -- the coordinates of the extended rows
  have cw : (ext rows goal).map (fun r => r.getD w 0) = goal := by
    apply List.ext_getElem?
    intro i
    unfold ext
    rw [List.getElem?_map, List.getElem?_zipWith]
    by_cases hi : i < rows.length
    · rw [List.getElem?_eq_getElem hi, List.getElem?_eq_getElem (show i < goal.length by omega)]
      have e1 : (rows[i]).length = w := hr _ (List.getElem_mem hi)
      show some ((rows[i] ++ [goal[i]]).getD w 0) = _
      rw [List.getD_eq_getElem?_getD, List.getElem?_append_right (by omega), e1, Nat.sub_self]
      rfl
    · rw [List.getElem?_eq_none (by omega), List.getElem?_eq_none (by omega)]
      rfl
  have cj : ∀ j, j < w → (ext rows goal).map (fun r => r.getD j 0) = rows.map fun r => r.getD j 0 := fun j hj => by
    apply List.ext_getElem?
    intro i
    unfold ext
    rw [List.getElem?_map, List.getElem?_zipWith, List.getElem?_map]
    by_cases hi : i < rows.length
    · rw [List.getElem?_eq_getElem hi, List.getElem?_eq_getElem (show i < goal.length by omega)]
      have e1 : (rows[i]).length = w := hr _ (List.getElem_mem hi)
      show some ((rows[i] ++ [goal[i]]).getD j 0) = some ((rows[i]).getD j 0)
      rw [List.getD_eq_getElem?_getD, List.getElem?_append_left (by omega), List.getD_eq_getElem?_getD]
    · rw [List.getElem?_eq_none (by omega), List.getElem?_eq_none (by omega)]
  have fin := bad_last B2 (x := cs) (d := -(k * v.getD w 0)) (by omega) fun r hrr => ?_
  · have := Int.mul_ne_zero hk B.goal
    omega
  · obtain ⟨i, hi⟩ := List.mem_iff_getElem?.mp hrr
    unfold ext at hi
    rw [List.getElem?_zipWith] at hi
    rcases Nat.lt_trichotomy i w with z | z | z
    · have e1 : (dualR w rows goal)[i]? = some (rows.map fun r => r.getD i 0) := by
        unfold dualR
        rw [List.getElem?_append_left (by rw [cols_length]; exact z), cols_get rows z]
      have e2 : (dualG w)[i]? = some 0 := by
        unfold dualG
        rw [List.getElem?_append_left (by simp [z]), List.getElem?_replicate, if_pos z]
      rw [e1, e2] at hi
      have er : (rows.map fun r => r.getD i 0) ++ [(0 : Int)] = r := Option.some.inj hi
      rw [← er, dot_ext (by rw [List.length_map]; omega), dot_comm, ← cj i z, ← hc i, B.zero i z]
      omega
    · subst z
      have e1 : (dualR i rows goal)[i]? = some goal := by
        unfold dualR
        rw [List.getElem?_append_right (by rw [cols_length]; exact Nat.le_refl _), cols_length, Nat.sub_self]
        rfl
      have e2 : (dualG i)[i]? = some 1 := by
        unfold dualG
        rw [List.getElem?_append_right (by simp)]
        simp
      rw [e1, e2] at hi
      have er : goal ++ [(1 : Int)] = r := Option.some.inj hi
      rw [← er, dot_ext (by omega), dot_comm]
      have := hc i
      rw [cw] at this
      rw [← this]
      omega
    · have e1 : (dualG w)[i]? = none := List.getElem?_eq_none (by simp [dualG]; omega)
      rw [e1] at hi
      cases hq : (dualR w rows goal)[i]? <;> rw [hq] at hi <;> cases hi
theorem obs_ok {w : Nat} {rows : List (List Int)} {goal : List Int} {ys : List Int} {d : Int} (hl : rows.length = goal.length) (h : solF rows.length (dualR w rows goal) (dualG w) = some (ys, d)) :
    ys.length = rows.length ∧ d ≠ 0 ∧ (∀ j, j < w → dot ys (rows.map fun r => r.getD j 0) = 0) ∧ dot ys goal = d := by
  have dl : ∀ r ∈ dualR w rows goal, r.length = rows.length := fun r hrr => by
    rcases List.mem_append.mp hrr with z | z
    · obtain ⟨j, _, ej⟩ := List.mem_map.mp z
      rw [← ej, List.length_map]
    · rw [List.mem_singleton.mp z, hl]
  obtain ⟨h1, h2, h3⟩ := solF_some (by simp [dualR, dualG, cols_length]) dl h
  refine ⟨h1, h2, fun j hj => ?_, ?_⟩
  · have e1 : (dualR w rows goal)[j]? = some (rows.map fun r => r.getD j 0) := by
      unfold dualR
      rw [List.getElem?_append_left (by rw [cols_length]; exact hj), cols_get rows hj]
    have e2 : (dualG w)[j]? = some 0 := by
      unfold dualG
      rw [List.getElem?_append_left (by simp [hj]), List.getElem?_replicate, if_pos hj]
    rw [dot_comm, h3 j _ _ e1 e2, Int.zero_mul]
  · have e1 : (dualR w rows goal)[w]? = some goal := by
      unfold dualR
      rw [List.getElem?_append_right (by rw [cols_length]; exact Nat.le_refl _), cols_length, Nat.sub_self]
      rfl
    have e2 : (dualG w)[w]? = some 1 := by
      unfold dualG
      rw [List.getElem?_append_right (by simp)]
      simp
    rw [dot_comm, h3 w _ _ e1 e2, Int.one_mul]
end Lin
set_option Elab.async false
set_option linter.all false
set_option maxRecDepth 100000
/-! what the hand layer lacks for these laws: repr of data, a promise that holds where no repr is under way, f(k=v) without positional arguments, short forms of readings -/
namespace RT
open PySem PySem.Spec PyProof.Rows L2

/-! ### extensions of the abstract heap: all but what stands at a given place is kept -/
def Ext (p : Addr) (H J : Hp) : Prop := ∀ b o, b ≠ p → H b = some o → J b = some o
theorem Ext.same {p : Addr} {H J : Hp} (h : Same H J) : Ext p H J := fun b o _ e => h b o e
theorem Ext.refl {p : Addr} {H : Hp} : Ext p H H := fun _ _ _ e => e
theorem Ext.trans {p : Addr} {H J L : Hp} (a : Ext p H J) (b : Ext p J L) : Ext p H L := fun c o n e => b c o n (a c o n e)
theorem Ext.upd {p : Addr} {H : Hp} {o : HO} : Ext p H (upd H p o) := fun b u n e => by
  rw [upd_ne n]
  exact e
theorem same_new {H : Hp} {p : Addr} {o : HO} (h : H p = none) : Same H (upd H p o) := fun b u e => by
  rw [upd_ne (ne_of_none e h)]
  exact e
/-- a thing that is new to the first heap may change -/
theorem Same.mut {H J : Hp} {p : Addr} {o : HO} (h : Same H J) (n : H p = none) : Same H (upd J p o) := fun b u e => by
  rw [upd_ne (ne_of_none e n)]
  exact h b u e
theorem Ext.mut {p q : Addr} {H J : Hp} {o : HO} (h : Ext p H J) (n : H q = none) : Ext p H (L2.upd J q o) := fun b u nb e => by
  rw [upd_ne (ne_of_none e n)]
  exact h b u nb e
theorem Same.ofExt {p : Addr} {H J L : Hp} (a : Same H J) (n : H p = none) (b : Ext p J L) : Same H L := fun c o e => b c o (ne_of_none e n) (a c o e)

theorem Ext.put {p q : Addr} {H J L : Hp} (h : Ext p H J) (n : H q = none) (e : Ext q J L) : Ext p H L := fun b o nb z => e b o (ne_of_none z n) (h b o nb z)
theorem Ext.back {p q : Addr} {H J : Hp} {o : HO} (h : Ext p H J) (n : J q = none) (hp : H p = some o) (hj : J p ≠ none) : H q = none := by
  cases z : H q with
  | none => rfl
  | some u =>
    by_cases e : q = p
    · rw [e] at n
      exact absurd n hj
    · rw [h q u e z] at n
      cases n
/-! ### repr of data -/
def rReprD (K : PySem.W.Frag) : List V → Hp → VK → Prop := fun xs H Q => ∃ (a : Addr) (d : PyData), xs = [.ref a] ∧ Dp K H (.ref a) d ∧ PyData.showable d = true ∧ PyData.hasDict d = false ∧ PyData.depth d ≤ 60 ∧ (PyData.shown d).length ≤ sizeLine ∧ Q (.str (PyData.shown d)) H
theorem call_repr_data {X : Cx} {k : Nat} (hr : Room k X.A) (hgd : X.A.guards = some []) : CallR X (.builtin "repr") (rReprD X.K) := by
  intro pins s σ H xs us Q I rv h
  obtain ⟨a, d, rfl, hd, hs, hn, h60, hz, q⟩ := h
  obtain ⟨u, rfl, ru⟩ := vals1 rv
  obtain ⟨as, hrd⟩ := Dp.reads I d (.ref a) u hd ru
  have un := hr.units
  cases ru
  refine repr_of_reads' hrd hs (fun e => by rw [hn] at e; cases e) hgd (by omega) (fun _ _ e => e) (fun h' u tk hk => ?_) hz
  exact ⟨.str _, H, I.kept hk, ⟨_, rfl⟩, q⟩

/-! ### f(k = v), no positional argument -/
section
variable {X : Cx} {CX : CXT} {k : Nat} {f : Addr} {fd : FuncData} {ps ks : List Str} {sp : Sp} {E : XK} {x : Str} {p pos : Pos} {kws : List Keyword} {tk : TA} {g : List Value → List Value → List Value} {gV : List V → List V → List V}
def tKw (m : Nat) (sp : Sp) (gV : List V → List V → List V) (E : XK) (tk : TA) : TE := fun σ H Q => tk σ H fun zs H1 => zs.length = m ∧ sp (gV [] zs) H1 Q E
theorem pe_kw0 (F : FnOk X.prog X.w X.K X.mg X.base CX k f fd ps sp) (hr : Room k X.A) (hg : Gl X x) (hm : X.mg x = some (.ref f)) (hk : PySem.W.keepIn X.K (.ref f) = true) (hb : KBn X.K fd ps 0 ks g gV) (hx : Passes CX X E) (hkw : PK X kws tk)
    (hall : (backToKw pos (keywordEach kws X.env)).all (fun z => z.1.isSome) = true := by rfl) (hks : (backToKw pos (keywordEach kws X.env)).filterMap (fun z => z.1) = ks := by rfl) (hdb : (x == ("__debug__" : Str)) = false := by decide)
    (hpl : ((backTo pos (starEach [] X.env)).any (fun z => z.1) || (backToKw pos (keywordEach kws X.env)).any (fun z => z.1.isNone)) = false := by rfl) :
    PE X (.Call (.Name x p) [] kws pos) (tKw ks.length sp gV E tk) := by
  constructor
  intro pins s σ H Q I h
  refine wpAny_Call_Name_kw (ld_glob I hg hm (PySem.W.callWith_KW0 (h₀ := X.base) I.ok.mod.kin hk hall ?_ hpl) hdb)
  refine thn (hkw.run pos pins s σ H _ I h) fun ws s2 got => ?_
  obtain ⟨zs, H2, I2, rz, l2, q2⟩ := got
  refine ⟨I2.kIn, ?_⟩
  rw [hks]
  exact run_fnN (us := []) (vs := []) F hr hb hx I2 .nil rz rfl l2 q2
end

/-! ### promises that hold where no repr is under way -/
/-- nothing is being shown -/
abbrev Calm (A : Around) : Prop := A.guards = some []
structure FnG (P : Program) (w : World) (K : PySem.W.Frag) (mg : Str → Option Value) (base : Heap) (k : Nat) (f : Addr) (fd : FuncData) (ps : List Str) (sp : Sp) : Prop where
  len : ∀ vs H Q E, sp vs H Q E → vs.length = ps.length
  go : ∀ (A : Around) (outer : List Env) (s : Shared) (H : Hp) (args : Args) (us : List Value) (vs : List V) (Q : VK) (E : XK), Calm A → Room k A → Env0 P w K mg base A outer s H → BindsTo s fd args (ps.zip us) → Vals vs us → sp vs H Q E →
    codeAny (model P w) A (.call (.ref f) args) (CR CX0 outer P w H s Q E) s
theorem FnG.of {P : Program} {w : World} {K : PySem.W.Frag} {mg : Str → Option Value} {base : Heap} {k : Nat} {f : Addr} {fd : FuncData} {ps : List Str} {sp : Sp} (F : FnOk P w K mg base CX0 k f fd ps sp) : FnG P w K mg base k f fd ps sp :=
  ⟨F.len, fun A outer s H args us vs Q E _ hr e0 hb r h => F.run A outer s H args us vs Q E hr e0 hb r h⟩
/-- a def called by its name; its promise -/
structure CalG (P : Program) (w : World) (K : PySem.W.Frag) (mg : Str → Option Value) (base : Heap) (k : Nat) (x : Str) (sp : Sp) : Prop where
  ex : ∃ (f : Addr) (fd : FuncData) (ps : List Str), FnG P w K mg base k f fd ps sp ∧ mg x = some (.ref f) ∧ PySem.W.keepIn K (.ref f) = true ∧ Binds K fd ps []
structure Cal (P : Program) (w : World) (K : PySem.W.Frag) (mg : Str → Option Value) (base : Heap) (k : Nat) (x : Str) (sp : Sp) : Prop where
  ex : ∃ (f : Addr) (fd : FuncData) (ps : List Str), FnOk P w K mg base CX0 k f fd ps sp ∧ mg x = some (.ref f) ∧ PySem.W.keepIn K (.ref f) = true ∧ Binds K fd ps []
section
variable {X : Cx} {k j : Nat} {f : Addr} {fd : FuncData} {ps : List Str} {sp : Sp} {x : Str} {p pos : Pos} {e : Expr} {es : List Expr} {t : TA}
theorem go_fn {pins : List (Addr × Obj)} {s : Shared} {σ : L2.St} {H : Hp} {Q : VK} {us : List Value} {vs : List V} (F : FnG X.prog X.w X.K X.mg X.base k f fd ps sp) (hgd : Calm X.A) (hr : Room k X.A) (hb : Binds X.K fd ps [])
    (I : Inv X pins σ H s) (r : Vals vs us) (h : sp vs H Q E0) : wpAny (model X.prog X.w) X.A (call (.ref f) us) (EP X pins σ Q) X.xe s := by
  have hl : (us ++ []).length = ps.length := by
    rw [List.append_nil, ← r.length]
    exact F.len _ _ _ _ h
  have b := hb s us I.kIn hl
  rw [List.append_nil] at b
  refine wpAny_call (codeAny_mono (F.go X.A X.stack s H ⟨us, []⟩ us vs Q E0 hgd hr I.env0 b r h) fun r s' got => ?_)
  match r, got with
  | .error _, got => exact False.elim got
  | .ok (.ret u), got => exact I.after got
  | .ok .next, got => exact False.elim got
  | .ok .brk, got => exact False.elim got
  | .ok .cont, got => exact False.elim got
theorem pg_c (c : CalG X.prog X.w X.K X.mg X.base k x sp) (hgd : Calm X.A) (hr : Room j X.A) (hk : k ≤ j) (hg : Gl X x) (ha : PA X (e :: es) t)
    (hdb : (x == ("__debug__" : Str)) = false := by decide) (h1 : starEach (e :: es) X.env = (false, eval e X.env) :: starEach es X.env := by rfl) (h2 : (backTo pos (starEach es X.env)).any (fun z => z.1) = false := by rfl) :
    PE X (.Call (.Name x p) (e :: es) [] pos) (tCall sp [] E0 t) := by
  obtain ⟨f, fd, ps, F, hm, kp, b⟩ := c.ex
  constructor
  intro pins s σ H Q I h
  refine wpAny_Call_Name_kw (ld_glob I hg hm (PySem.W.callWith_K (h₀ := X.base) I.ok.mod.kin kp (thn (ha.run pos pins s σ H _ I h) fun us s1 got => ?_) h1 h2) hdb)
  obtain ⟨vs, H1, I1, r, q⟩ := got
  rw [List.append_nil] at q
  exact ⟨I1.kIn, go_fn F hgd (hr.mono hk) b I1 r q⟩
theorem pg_c0 (c : CalG X.prog X.w X.K X.mg X.base k x sp) (hgd : Calm X.A) (hr : Room j X.A) (hk : k ≤ j) (hg : Gl X x) (hdb : (x == ("__debug__" : Str)) = false := by decide) :
    PE X (.Call (.Name x p) [] [] pos) (tCall sp [] E0 tNil) := by
  obtain ⟨f, fd, ps, F, hm, kp, b⟩ := c.ex
  constructor
  intro pins s σ H Q I h
  exact wpAny_Call_Name_kw (ld_glob I hg hm (PySem.W.callWith_K0 I.kIn kp (go_fn (us := []) F hgd (hr.mono hk) b I .nil h)) hdb)
/-- the same of a promise that holds anywhere -/
theorem pe_c (c : Cal X.prog X.w X.K X.mg X.base k x sp) (hr : Room j X.A) (hk : k ≤ j) (hg : Gl X x) (ha : PA X (e :: es) t)
    (hdb : (x == ("__debug__" : Str)) = false := by decide) (h1 : starEach (e :: es) X.env = (false, eval e X.env) :: starEach es X.env := by rfl) (h2 : (backTo pos (starEach es X.env)).any (fun z => z.1) = false := by rfl) :
    PE X (.Call (.Name x p) (e :: es) [] pos) (tCall sp [] E0 t) := by
  obtain ⟨f, fd, ps, F, hm, kp, b⟩ := c.ex
  exact pe_call F (hr.mono hk) hg hm kp b .nil pass0 ha hdb h1 h2
theorem pe_c0 (c : Cal X.prog X.w X.K X.mg X.base k x sp) (hr : Room j X.A) (hk : k ≤ j) (hg : Gl X x) (hdb : (x == ("__debug__" : Str)) = false := by decide) :
    PE X (.Call (.Name x p) [] [] pos) (tCall sp [] E0 tNil) := by
  obtain ⟨f, fd, ps, F, hm, kp, b⟩ := c.ex
  exact pe_call0 F (hr.mono hk) hg hm kp b .nil pass0 hdb
/-- a constant of the module -/
theorem pe_gc {v : V} (hg : Gl X x) (h : ∃ u, X.mg x = some u ∧ RelV v u) (hd : (x == ("__debug__" : Str)) = false := by decide) : PE X (.Name x pos) (tC v) := by
  obtain ⟨u, hm, r⟩ := h
  exact pe_glob hg hm r hd
end
/-- the rule for such a def -/
theorem fn_calm {P : Program} {w : World} {K : PySem.W.Frag} {mg : Str → Option Value} {base : Heap} {k : Nat} {x qual : Str} {st : Stmt} {f : Addr} {fd : FuncData} {N ps : List Str} {sp : Sp} (F : Fun K x qual st f fd) (S : FnScope N ps (defScope st))
    (len : ∀ vs H Q E, sp vs H Q E → vs.length = ps.length)
    (body : ∀ (cdv : Value) (A : Around) (outer : List Env) (s : Shared) (H : Hp) (vs : List V) (Q : VK) (E : XK), Calm A → Room k (A.deeper (envOfC qual (defScope st) s.heap.objs.size f cdv)) → sp vs H Q E →
      ∃ t, PSs (cxOf CX0 P w K mg base N qual (defScope st) f cdv A outer s H E).nox (defBody st) t ∧ t { nx := fun _ J => Q .non J, rt := Q } (start N vs) H) : FnG P w K mg base (k + 1) f fd ps sp := by
  obtain ⟨oc, od, kV, doc, pm, an, cdv, ct, osl, rfl, lk, hcd⟩ := F.ex
  refine ⟨len, fun A outer s H args us vs Q E hgd hr e0 hb r hsp => ?_⟩
  have KX : K.In s.heap := e0.mod.kin.keeps fun b o z => (e0.bs b o z).1
  have lim : s.heap.NoLimit := e0.mod.nolimit.keeps fun b o z => (e0.bs b o z).1
  have hkind : ∀ y ∈ ps.zip us, (defScope st).names.lookup y.1 = some .local ∨ ((defScope st).names.lookup y.1 = some .cell ∧ ((cellsFrom (s.heap.objs.size + 1) (defScope st).names []).lookup y.1).isSome = true) := by
    intro y hy
    rcases S.par y.1 (List.of_mem_zip hy).1 with z | z
    · exact Or.inl z
    · exact Or.inr ⟨z, PySem.W.cellsFrom_some _ _ _ (Or.inl z)⟩
  refine codeAny_call_function hr.depth (KX _ _ lk) rfl S.co S.gen rfl (PySem.W.codeRec_of KX hcd) (hb _ _ _ _ (wpAny_newFunctionEnv_cells S.kind hkind fun env he s1 z => ?_))
  cases he
  refine ⟨lim.keeps z.toInCall.keep, codeAny_func ?_⟩
  obtain ⟨t, ht, hq⟩ := body cdv A outer s H vs Q E hgd (hr.deeper _) hsp
  have I := inv_start (CX := CX0) (P := P) (w := w) (mg := mg) (E := E) S hr.hd e0 (len _ _ _ _ hsp) r z
  refine wpAny_mono (ht.nox.run [] s1 (start N vs) H _ I hq) (fun fl s' got => ?_) fun e s' got => got
  match fl, got with
  | .ret u, ⟨v, σ', H', J, rv, q⟩ => exact ⟨v, H', J.os, J.bare, J.base, J.hok, rv, q⟩
  | .next, ⟨σ', H', J, q⟩ => exact ⟨.non, H', J.os, J.bare, J.base, J.hok, rfl, q⟩
  | .brk, ⟨_, _, _, q⟩ => exact False.elim q
  | .cont, ⟨_, _, _, q⟩ => exact False.elim q

/-! ### the end of a law whose own def shows data -/
theorem hid_mod {P : Program} {w : World} {K : PySem.W.Frag} {mg mb : Str → Option Value} {s : Shared} {a : Addr} {H : Hp} {vs : List Value}
    (KX : K.In s.heap) (hns : s.heap.Ns mainGlobals mg) (hb : s.heap.Ns builtinsNs mb) (hbb : ∀ x : Str, x ≠ "__name__" → mb x = bootBuiltins x) (hlim : s.heap.NoLimit) (hg : s.gens = #[])
    (ha : s.heap.get? a = some { cls := .type "list", data := .seq vs.toArray }) (hok : HOk P w H s.heap) (hA : ∀ b u, H b = some u → b = a) (hK : ∀ u, H a = some u → K.lookup a = none) :
    K.In (hidT s.heap H) ∧ (hidT s.heap H).Ns mainGlobals mg ∧ Env0 P w K mg (hidT s.heap H) callerA [] s H := by
  have dictFree : ∀ {b : Addr} {o : Obj} {es : Array DictEntry} {ep : Nat}, s.heap.get? b = some o → o.data = .dict es ep → H b = none := by
    intro b o es ep e d
    cases z : H b with
    | none => rfl
    | some u =>
      cases hA b u z
      rw [ha] at e
      cases e
      cases (show Data.seq vs.toArray 0 = Data.dict es ep from d)
  have nsK : ∀ {b : Addr} {m : Str → Option Value}, s.heap.Ns b m → (hidT s.heap H).Ns b m := by
    intro b m ⟨o, es, ep, e, d, r⟩
    exact ⟨o, es, ep, hidT_get e (dictFree e d), d, r⟩
  have hKb : K.In (hidT s.heap H) := by
    intro b o e
    refine hidT_get (KX b o e) ?_
    cases z : H b with
    | none => rfl
    | some u =>
      cases hA b u z
      rw [hK u z] at e
      cases e
  obtain ⟨mc, l1, l2⟩ := hlim
  exact ⟨hKb, nsK hns, ⟨rfl, ⟨hKb, nsK hns, ⟨mb, nsK hb, hbb⟩, ⟨mc, nsK l1, l2⟩⟩, fun b o e => of_hidT e, Nat.le_of_eq (hidT_size _ _), trivial, fun b z => (nomatch z), hok, .of_eq hg⟩⟩

theorem end_run {P : Program} {w : World} {K : PySem.W.Frag} {mg mb : Str → Option Value} {k : Nat} {fa a : Addr} {fd : FuncData} {x : Str} {sp : Sp} {s : Shared} {vs : List Value} {H : Hp}
    (KX : K.In s.heap) (hns : s.heap.Ns mainGlobals mg) (hb : s.heap.Ns builtinsNs mb) (hbb : ∀ x : Str, x ≠ "__name__" → mb x = bootBuiltins x) (hlim : s.heap.NoLimit) (hg : s.gens = #[])
    (ha : s.heap.get? a = some { cls := .type "list", data := .seq vs.toArray }) (hok : HOk P w H s.heap) (hA : ∀ b u, H b = some u → b = a) (hK : ∀ u, H a = some u → K.lookup a = none) (hO : Only H) (hr : Room k callerA)
    (F : ∀ base : Heap, K.In base → base.Ns mainGlobals mg → FnG P w K mg base k fa fd [x] sp) (bd : ∀ (s : Shared) (u : Value), BindsTo s fd ⟨[u], []⟩ [(x, u)])
    (hsp : sp [.ref a] H (fun v _ => v = .bl true) E0) :
    codeAny (model P w) callerA (.call (.ref fa) ⟨[.ref a], []⟩) (fun r s' => r = .ok (.ret (.bool true)) ∧ PySem.OldK s.heap s'.heap ∧ s'.os = s.os ∧ AllBare s'.gens) s := by
  obtain ⟨h1, h2, e0⟩ := hid_mod KX hns hb hbb hlim hg ha hok hA hK
  refine codeAny_mono ((F _ h1 h2).go callerA [] s H ⟨[.ref a], []⟩ [.ref a] [.ref a] _ _ rfl hr e0 (bd s _) (.cons rfl .nil) hsp) fun r s' got => ?_
  match r, got with
  | .error _, got => exact False.elim got
  | .ok .next, got => exact False.elim got
  | .ok .brk, got => exact False.elim got
  | .ok .cont, got => exact False.elim got
  | .ok (.ret u), got =>
    obtain ⟨v, J, os, bare, un, hokJ, rv, q⟩ := got
    cases (show v = V.bl true from q)
    cases (show u = Value.bool true from rv)
    refine ⟨rfl, PySem.OldK.of_keep fun b o e => ?_, os, bare⟩
    cases z : H b with
    | none => exact un.keep b o e z (fun y => nomatch y) (fun y => nomatch y)
    | some u =>
      rcases hO b with y | ⟨ob, xs, y⟩
      · rw [z] at y
        cases y
      · obtain ⟨e1, _⟩ := hok b _ y
        obtain ⟨e2, _⟩ := hokJ b _ (un.frzs b ob _ y)
        rw [e] at e1
        cases e1
        exact e2

/-- the goal that the head leaves, from the law's promise (shown where nothing is being shown) -/
theorem walk_calm {l : PySem.W.OpenLaw} {n k : Nat} {q : Program} {loose : List Str} {XP : (Str → Option Value) → Heap → Prop} {YP : World → Heap → Prop} {d : DefRec} {K : Params → PySem.W.Frag} {sp : PySem.W.Frag → Sp} {x : Str}
    (hn : l.most = some n) (hn2 : n ≤ sizeLine) (hdf : d.params.defaults = []) (hr : Room k callerA) (hY : ∀ (w : World) (h : Heap), YP w h → (K w.params).In h)
    (F : ∀ (w : World) (mg : Str → Option Value) (fa : Addr) (h : Heap), (K w.params).In h → h.Ns mainGlobals mg → mg d.name = some (.ref fa) →
      ∃ fd : FuncData, (∀ (s : Shared) (u : Value), BindsTo s fd ⟨[u], []⟩ [(x, u)]) ∧ ∀ base : Heap, (K w.params).In base → base.Ns mainGlobals mg → FnG l.prog w (K w.params) mg base k fa fd [x] (sp (K w.params)))
    (hsp : ∀ (K : PySem.W.Frag) (H : Hp) (a : Addr) (ns : List Int), ns.length ≤ n → Only H → SqL K H a (ns.map V.int) → sp K [.ref a] H (fun v _ => v = .bl true) E0) :
    PySem.W.WalkO q loose XP YP l.row.toRowW d [] (fun f vs => PySem.call f vs) := by
  refine Att.attach_call hn hdf fun w s0 s mg mb fa o pm cd doc a vs ns G Y ho hd hcd hmg hobj hints hlen hg => ?_
  have KX := hY w _ Y
  obtain ⟨fd, bd, hF⟩ := F w mg fa _ KX G.T.g hmg
  have rv := vals_ints hints
  have hl : ns.length ≤ sizeLine := Nat.le_trans hlen hn2
  cases hk : (K w.params).lookup a with
  | some ob =>
    have e := KX a ob hk
    rw [hobj] at e
    cases e
    refine end_run KX G.T.g G.T.b G.T.builtins G.T.nolimit hg hobj (H := fun _ => none) (fun b u z => nomatch z) (fun b u z => nomatch z) (fun u z => nomatch z) (fun _ => Or.inl rfl) hr hF bd (hsp _ _ a ns hlen (fun _ => Or.inl rfl) ?_)
    exact Or.inr ⟨_, vs.toArray, _, hk, rfl, rfl, rfl, by rw [List.size_toArray, hints.length]; exact hl, by simpa using rv⟩
  | none =>
    let ob : Obj := { cls := .type "list", data := .seq vs.toArray }
    let H : Hp := fun b => if b = a then some (.frz ob (.lst (ns.map V.int))) else none
    have at_a : H a = some (.frz ob (.lst (ns.map V.int))) := if_pos rfl
    have off : ∀ b, b ≠ a → H b = none := fun b n => if_neg n
    have hO : Only H := fun b => by
      by_cases z : b = a
      · cases z
        exact Or.inr ⟨_, _, at_a⟩
      · exact Or.inl (off b z)
    have hA : ∀ b u, H b = some u → b = a := fun b u e => by
      by_cases z : b = a
      · exact z
      · rw [off b z] at e
        cases e
    refine end_run KX G.T.g G.T.b G.T.builtins G.T.nolimit hg hobj (H := H) (fun b u e => ?_) hA (fun _ _ => hk) hO hr hF bd (hsp _ _ a ns hlen hO (Or.inl (Or.inr ⟨_, at_a⟩)))
    cases hA b u e
    rw [at_a] at e
    cases e
    exact ⟨hobj, by rw [List.length_map]; exact hl, vs, _, rv, hobj⟩
end RT
set_option Elab.async false
set_option linter.all false
set_option maxRecDepth 100000
/-! readings, one step each: what is wanted of the rest, put in front -/
namespace RT
open PySem PySem.Spec PyProof.Rows L2
theorem smallM {n : Nat} (h : n ≤ 1000000) : n < sizeLine := Nat.lt_of_le_of_lt h (by decide)
/-! ### the rules under names of their own: what is asked is kept closed -/
def qInt : List V → Hp → VK → Prop := fun xs H Q => (∃ i, xs = [.int i] ∧ Q (.int i) H) ∨ ∃ k, xs = [.bl k] ∧ Q (.int (if k then 1 else 0)) H
def qAbs : List V → Hp → VK → Prop := fun xs H Q => ∃ i, xs = [.int i] ∧ Q (.int (if i < 0 then -i else i)) H
def qMax2 : List V → Hp → VK → Prop := fun xs H Q => ∃ i j, xs = [.int i, .int j] ∧ Q (.int (if j > i then j else i)) H
def qMin2 : List V → Hp → VK → Prop := fun xs H Q => ∃ i j, xs = [.int i, .int j] ∧ Q (.int (if j < i then j else i)) H
def qLenQ (K : PySem.W.Frag) : List V → Hp → VK → Prop := fun xs H Q => ∃ p ys, xs = [.ref p] ∧ (SqL K H p ys ∨ SqT K H p ys) ∧ Q (.int ys.length) H
def qLenS : List V → Hp → VK → Prop := fun xs H Q => ∃ z, xs = [.str z] ∧ z.length ≤ sizeLine ∧ Q (.int z.length) H
def qStrI : List V → Hp → VK → Prop := fun xs H Q => ∃ i, xs = [.int i] ∧ i.natAbs.log2 < 1920 ∧ Q (.str (toString i)) H
def qList (K : PySem.W.Frag) : List V → Hp → VK → Prop := fun xs H Q => ∃ p ys, xs = [.ref p] ∧ (SqL K H p ys ∨ SqT K H p ys) ∧ ∀ l, H l = none → Q (.ref l) (upd H l (.lst ys))
def qTuple (K : PySem.W.Frag) : List V → Hp → VK → Prop := fun xs H Q => ∃ p ys, xs = [.ref p] ∧ ((SqL K H p ys ∧ ∀ l, H l = none → Q (.ref l) (upd H l (.tup ys))) ∨ (SqT K H p ys ∧ Q (.ref p) H))
def aL (xs : List V) (H : Hp) (Q : VK) : Prop := xs.length ≤ sizeLine ∧ ∀ p, H p = none → Q (.ref p) (upd H p (.lst xs))
def aT (xs : List V) (H : Hp) (Q : VK) : Prop := xs.length ≤ sizeLine ∧ ∀ p, H p = none → Q (.ref p) (upd H p (.tup xs))
def aRev (K : PySem.W.Frag) (x : V) (H : Hp) (Q : VK) : Prop := ∃ a xs, x = .ref a ∧ SqL K H a xs ∧ ∀ p, H p = none → Q (.ref p) (upd H p (.lst xs.reverse))
def oAddS : R2 := fun x y H Q => ∃ i j, x = .str i ∧ y = .str j ∧ i.length + j.length ≤ sizeLine ∧ Q (.str (i ++ j)) H
def oInC : R2 := fun x y H Q => ∃ (c : Nat) (z : Str), x = .str ⟨#[c]⟩ ∧ y = .str z ∧ Q (.bl (decide (c ∈ z.cps.toList))) H
def oNinC : R2 := fun x y H Q => ∃ (c : Nat) (z : Str), x = .str ⟨#[c]⟩ ∧ y = .str z ∧ Q (.bl (!decide (c ∈ z.cps.toList))) H
def mJoin (K : PySem.W.Frag) : V → List V → Hp → VK → Prop := fun x xs H Q => ∃ a p, ∃ ys : List Str, x = .str a ∧ xs = [.ref p] ∧ (SqL K H p (ys.map V.str) ∨ SqT K H p (ys.map V.str)) ∧ (ys.map (fun y => y.length)).sum + ys.length * a.length ≤ 16777216 ∧ Q (.str (Txt.join a ys)) H
def mUpper : V → List V → Hp → VK → Prop := fun x xs H Q => ∃ a, x = .str a ∧ xs = [] ∧ a.length ≤ 5592405 ∧ Q (.str (Txt.upper a)) H
section
variable {X : Cx} {o e : Expr} {to te : TE}
theorem c_int : CallR X (.type "int") qInt := call_int1
theorem c_abs : CallR X (.builtin "abs") qAbs := call_abs
theorem c_max2 (hc : X.calm = true) : CallR X (.builtin "max") qMax2 := call_max2 hc
theorem c_min2 (hc : X.calm = true) : CallR X (.builtin "min") qMin2 := call_min2 hc
theorem c_lenQ : CallR X (.builtin "len") (qLenQ X.K) := call_len_seq
theorem c_lenS : CallR X (.builtin "len") qLenS := call_len_str
theorem c_strI : CallR X (.type "str") qStrI := call_str_int
theorem c_list : CallR X (.type "list") (qList X.K) := call_list_of
theorem c_tuple : CallR X (.type "tuple") (qTuple X.K) := call_tuple_of
theorem o_addS : OpR X (binaryOp .Add) oAddS := op_add_str
theorem o_inC : OpR X (compareOp .In) oInC := op_in_sign
theorem o_ninC : OpR X (compareOp .NotIn) oNinC := op_notIn_sign
theorem p_join {apos pos : Pos} (ho : PE X o to) (he : PE X e te) (hs : starEach [e] X.env = [(false, eval e X.env)] := by rfl) (hb : attributeBase o "join" X.env (eval o X.env) = eval o X.env := by rfl) (hl : (apos.endLine == pos.line) = true := by rfl) :
    PE X (.Call (.Attribute o "join" apos) [e] [] pos) (tM1 (mJoin X.K) to te) := pe_join ho he hs hb hl
theorem p_upper {apos pos : Pos} (ho : PE X o to) (hb : attributeBase o "upper" X.env (eval o X.env) = eval o X.env := by rfl) (hl : (apos.endLine == pos.line) = true := by rfl) :
    PE X (.Call (.Attribute o "upper" apos) [] [] pos) (tM0 mUpper to) := pe_upper ho hb hl
end
section
variable {t u : TS} {D : Ends} {σ : L2.St} {H : Hp} {te ta tb tc : TE} {g : TG} {Q : VK} {c d : TT} {i : Nat} {v x y : V} {K : PySem.W.Frag} {A B : Prop}
theorem w_seq (h : t { D with nx := u D } σ H) : tSeq t u D σ H := h
theorem w_next (h : D.nx σ H) : tNext D σ H := h
theorem w_ret (h : te σ H D.rt) : tRet te D σ H := h
theorem w_retN (h : D.rt .non H) : tRetN D σ H := h
theorem w_drop (h : te σ H fun _ J => D.nx σ J) : tDrop te D σ H := h
theorem w_asg (h : te σ H fun x J => g x σ J D.nx) : tAsg te g D σ H := h
theorem w_gname {N : L2.St → Hp → Prop} (h : N (σ.set i (some v)) H) : gName i v σ H N := h
theorem w_ifS (h : c σ H fun b J => if b = true then t D σ J else u D σ J) : tIfS c t u D σ H := h
theorem w_break (h : D.bk σ H) : tBreak D σ H := h
theorem w_cont (h : D.ct σ H) : tCont D σ H := h
theorem w_var (e : σ[i]? = some (some v)) (h : Q v H) : tVar i σ H Q := ⟨v, e, h⟩
theorem w_c (h : Q v H) : tC v σ H Q := h
theorem w_op {r : R2} (h : ta σ H fun x J => tb σ J fun y L => r x y L Q) : tOp r ta tb σ H Q := h
theorem w_un {r : V → Hp → VK → Prop} (h : ta σ H fun x J => r x J Q) : tUn r ta σ H Q := h
theorem w_if (h : c σ H fun b J => if b = true then ta σ J Q else tb σ J Q) : tIf c ta tb σ H Q := h
theorem w_bl {P : Bool → Prop} {b : Bool} (h : P b) : ∃ k, V.bl b = .bl k ∧ P k := ⟨b, rfl, h⟩
section
variable {N : Bool → Hp → Prop}
theorem w_test (h : te σ H fun x J => ∃ k, x = .bl k ∧ N k J) : tTest te σ H N := h
theorem w_B (h : te σ H fun x J => ∃ k, x = .bl k ∧ N k J) : tB te σ H N := h
theorem w_and (h : c σ H fun b J => if b = true then d σ J N else N false J) : tAnd c d σ H N := h
theorem w_or (h : c σ H fun b J => if b = true then N true J else d σ J N) : tOr c d σ H N := h
theorem w_not (h : c σ H fun b J => N (!b) J) : tNot c σ H N := h
theorem w_yes (h : N true H) : tYes σ H N := h
end
theorem w_andV (h : ta σ H fun x J => ∃ k, x = .bl k ∧ if k = true then tb σ J Q else Q (.bl false) J) : tAndV ta tb σ H Q := h
theorem w_orV (h : ta σ H fun x J => ∃ k, x = .bl k ∧ if k = true then Q (.bl true) J else tb σ J Q) : tOrV ta tb σ H Q := h
theorem w_notV (h : ta σ H fun x J => ∃ k, x = .bl k ∧ Q (.bl (!k)) J) : tNotV ta σ H Q := h
theorem w_chain {r r' : R2} (h : ta σ H fun x J => tb σ J fun y L => r x y L fun z M => ∃ k, z = .bl k ∧ (if k = true then tc σ M fun z' M' => r' y z' M' Q else Q (.bl false) M)) : tChain r r' ta tb tc σ H Q := h
section
variable {tl : TA} {N : List V → Hp → Prop}
theorem w_nil (h : N [] H) : tNil σ H N := h
theorem w_cons (h : ta σ H fun x J => tl σ J fun xs L => N (x :: xs) L) : tCons ta tl σ H N := h
theorem w_cb {r : List V → Hp → VK → Prop} (h : tl σ H fun vs J => r vs J Q) : tCB r tl σ H Q := h
theorem w_call {sp : Sp} {E : XK} (h : tl σ H fun vs J => sp vs J Q E) : tCall sp [] E tl σ H Q := by
  have e : (fun vs J => sp (vs ++ []) J Q E) = fun vs J => sp vs J Q E := by
    funext vs J
    rw [List.append_nil]
  show tl σ H fun vs J => sp (vs ++ []) J Q E
  rw [e]
  exact h
end
theorem w_sl {r : V → Option Int → Option Int → Hp → VK → Prop} {p q : TO} (h : te σ H fun x J => p σ J fun l L => q σ L fun u M => r x l u M Q) : tSl r te p q σ H Q := h
theorem w_nopart {N : Option Int → Hp → Prop} (h : N none H) : tNoPart σ H N := h
theorem w_part {N : Option Int → Hp → Prop} (h : te σ H fun x J => ∃ i, x = .int i ∧ N (some i) J) : tPart te σ H N := h
theorem w_int {P : Int → Prop} {n : Int} (h : P n) : ∃ i, V.int n = .int i ∧ P i := ⟨n, rfl, h⟩
theorem w_m0 {r : V → List V → Hp → VK → Prop} (h : te σ H fun x J => (∃ a, x = .str a) ∧ r x [] J Q) : tM0 r te σ H Q := h
theorem w_m1 {r : V → List V → Hp → VK → Prop} (h : ta σ H fun x J => (∃ a, x = .str a) ∧ tb σ J fun y L => r x [y] L Q) : tM1 r ta tb σ H Q := h
theorem w_isstr {z : Str} (h : A) : (∃ a, V.str z = .str a) ∧ A := ⟨⟨z, rfl⟩, h⟩
/-! operations on values -/
theorem w_I0 {f : Int → Int → V} {m n : Int} (h : Q (f m n) H) : rI0 f (.int m) (.int n) H Q := ⟨m, n, rfl, rfl, h⟩
theorem w_I {C : Int → Int → Prop} {f : Int → Int → V} {m n : Int} (hc : C m n) (h : Q (f m n) H) : rI C f (.int m) (.int n) H Q := ⟨m, n, rfl, rfl, hc, h⟩
theorem w_U {f : Int → V} {m : Int} (h : Q (f m) H) : rU f (.int m) H Q := ⟨m, rfl, h⟩
theorem w_eqI {m n : Int} (h : Q (.bl (decide (m = n))) H) : rEq (.int m) (.int n) H Q := ⟨rfl, by
  have e : decide (V.int m = V.int n) = decide (m = n) := by
    by_cases z : m = n
    · cases z
      rw [decide_eq_true rfl, decide_eq_true rfl]
    · rw [decide_eq_false z, decide_eq_false fun q => z (V.int.inj q)]
  rw [e]
  exact h⟩
theorem w_neI {m n : Int} (h : Q (.bl (!decide (m = n))) H) : rNe (.int m) (.int n) H Q := ⟨rfl, by
  have e : decide (V.int m = V.int n) = decide (m = n) := by
    by_cases z : m = n
    · cases z
      rw [decide_eq_true rfl, decide_eq_true rfl]
    · rw [decide_eq_false z, decide_eq_false fun q => z (V.int.inj q)]
  rw [e]
  exact h⟩
theorem w_eqS {m n : Str} (h : Q (.bl (decide (m = n))) H) : rEq (.str m) (.str n) H Q := ⟨rfl, by
  have e : decide (V.str m = V.str n) = decide (m = n) := by
    by_cases z : m = n
    · cases z
      rw [decide_eq_true rfl, decide_eq_true rfl]
    · rw [decide_eq_false z, decide_eq_false fun q => z (V.str.inj q)]
  rw [e]
  exact h⟩
theorem w_neS {m n : Str} (h : Q (.bl (!decide (m = n))) H) : rNe (.str m) (.str n) H Q := ⟨rfl, by
  have e : decide (V.str m = V.str n) = decide (m = n) := by
    by_cases z : m = n
    · cases z
      rw [decide_eq_true rfl, decide_eq_true rfl]
    · rw [decide_eq_false z, decide_eq_false fun q => z (V.str.inj q)]
  rw [e]
  exact h⟩
theorem w_int1 {m : Int} (h : Q (.int m) H) : qInt [.int m] H Q := Or.inl ⟨m, rfl, h⟩
theorem w_abs {m : Int} (h : Q (.int (if m < 0 then -m else m)) H) : qAbs [.int m] H Q := ⟨m, rfl, h⟩
theorem w_max2 {m n : Int} (h : Q (.int (if n > m then n else m)) H) : qMax2 [.int m, .int n] H Q := ⟨m, n, rfl, h⟩
theorem w_min2 {m n : Int} (h : Q (.int (if n < m then n else m)) H) : qMin2 [.int m, .int n] H Q := ⟨m, n, rfl, h⟩


/-! a test that is open, or not -/
theorem w_T (h : A) : if true = true then A else B := iteT h
theorem w_F (h : B) : if false = true then A else B := iteF h
theorem w_nT (h : B) : if (!true) = true then A else B := iteF h
theorem w_nF (h : A) : if (!false) = true then A else B := iteT h
theorem w_dec {p : Prop} [Decidable p] (h1 : p → A) (h2 : ¬ p → B) : if decide p = true then A else B := by
  by_cases z : p
  · rw [decide_eq_true z]
    exact iteT (h1 z)
  · rw [decide_eq_false z]
    exact iteF (h2 z)
theorem w_ndec {p : Prop} [Decidable p] (h1 : ¬ p → A) (h2 : p → B) : if (!decide p) = true then A else B := by
  by_cases z : p
  · rw [decide_eq_true z]
    exact iteF (h2 z)
  · rw [decide_eq_false z]
    exact iteT (h1 z)
theorem w_yes' {p : Prop} [Decidable p] (z : p) (h : A) : if decide p = true then A else B := w_dec (fun _ => h) fun n => absurd z n
theorem w_no' {p : Prop} [Decidable p] (z : ¬ p) (h : B) : if decide p = true then A else B := w_dec (fun n => absurd n z) fun _ => h
theorem w_bool {b : Bool} (h1 : b = true → A) (h2 : b = false → B) : if b = true then A else B := by
  cases b with
  | true => exact iteT (h1 rfl)
  | false => exact iteF (h2 rfl)
/-! lists by place, numbers within bounds -/
theorem w_ixL {a : Addr} {xs : List V} {n : Int} (h : H a = some (.lst xs)) (e : atI xs n = some v) (q : Q v H) : rIxL K (.ref a) (.int n) H Q := ⟨a, xs, n, v, rfl, rfl, SqL.of h, e, q⟩
theorem w_ixQ {a : Addr} {xs : List V} {n : Int} (h : SqL K H a xs) (e : atI xs n = some v) (q : Q v H) : rIxL K (.ref a) (.int n) H Q := ⟨a, xs, n, v, rfl, rfl, h, e, q⟩
theorem w_ixT {a : Addr} {xs : List V} {n : Int} (h : H a = some (.tup xs)) (e : atI xs n = some v) (q : Q v H) : rIxT K (.ref a) (.int n) H Q := ⟨a, xs, n, v, rfl, rfl, SqT.of h, e, q⟩
theorem w_setL {N : Hp → Prop} {a : Addr} {xs : List V} {n : Int} {j : Nat} (h : H a = some (.lst xs)) (e : ixN xs.length n = some j) (q : ∀ J, Ext a H J → J a = some (.lst (xs.set j v)) → N J) : rSetL (.ref a) (.int n) v H N :=
  ⟨a, xs, n, j, rfl, rfl, h, e, q _ Ext.upd upd_same⟩
theorem w_gsub {to ti : TE} {s : TSet} {N : L2.St → Hp → Prop} (h : to σ H fun o J => ti σ J fun i L => s o i v L fun M => N σ M) : gSub to ti s v σ H N := h
theorem w_mul {m n : Int} (h : (-18446744073709551616 < m ∧ m < 18446744073709551616) ∨ (-18446744073709551616 < n ∧ n < 18446744073709551616)) (q : Q (.int (m * n)) H) : rI CMul (fun i j => .int (i * j)) (.int m) (.int n) H Q := by
  refine w_I ?_ q
  rcases h with h | h
  · exact Or.inl ⟨by omega, by omega⟩
  · exact Or.inr ⟨by omega, by omega⟩
theorem w_mod {m n : Int} (h : 0 < n) (q : Q (.int (m % n)) H) : rI (fun _ j => 0 < j) (fun i j => .int (i % j)) (.int m) (.int n) H Q := w_I h q
theorem w_div {m n : Int} (h : 0 < n ∧ n < 1073741824) (q : Q (.int (m / n)) H) : rI CDiv (fun i j => .int (i / j)) (.int m) (.int n) H Q := w_I h q
theorem w_pow {m n : Int} (h : 0 ≤ n ∧ n ≤ 1000000 ∧ m.natAbs < 2 ^ 64) (q : Q (.int (m ^ n.toNat)) H) : rI CPow (fun i j => .int (i ^ j.toNat)) (.int m) (.int n) H Q := w_I h q
/-! new things: what stood stands -/
theorem w_lst {tl : TA} (h : tl σ H fun xs J => aL xs J Q) : tLst tl σ H Q := h
theorem w_tup {tl : TA} (h : tl σ H fun xs J => aT xs J Q) : tTup tl σ H Q := h
theorem w_new {o : HO} (q : ∀ p L, H p = none → Same H L → L p = some o → Q (.ref p) L) : ∀ p, H p = none → Q (.ref p) (upd H p o) := fun p n => q p _ n (same_new n) upd_same
theorem w_newL {xs : List V} (h : Nat.ble xs.length 1000000 = true) (q : ∀ p L, H p = none → Same H L → L p = some (.lst xs) → Q (.ref p) L) : aL xs H Q := ⟨Nat.le_of_lt (smallM (Nat.le_of_ble_eq_true h)), w_new q⟩
theorem w_newT {xs : List V} (h : Nat.ble xs.length 1000000 = true) (q : ∀ p L, H p = none → Same H L → L p = some (.tup xs) → Q (.ref p) L) : aT xs H Q := ⟨Nat.le_of_lt (smallM (Nat.le_of_ble_eq_true h)), w_new q⟩
theorem w_cat {a b : Addr} {xs ys : List V} (h1 : H a = some (.lst xs)) (h2 : H b = some (.lst ys)) (hz : xs.length + ys.length ≤ 1000000) (q : ∀ p L, H p = none → Same H L → L p = some (.lst (xs ++ ys)) → Q (.ref p) L) : rCat (.ref a) (.ref b) H Q :=
  ⟨a, b, xs, ys, rfl, rfl, h1, h2, Nat.le_of_lt (smallM hz), w_new q⟩
theorem w_slL {a : Addr} {xs : List V} {lo hi : Option Int} (h : SqL K H a xs) (q : ∀ p L, H p = none → Same H L → L p = some (.lst (cutV xs lo hi)) → Q (.ref p) L) : rSlL K (.ref a) lo hi H Q := ⟨a, xs, rfl, h, w_new q⟩
theorem w_lenL {a : Addr} {xs : List V} (h : SqL K H a xs) (q : Q (.int (xs.length : Int)) H) : qLenQ K [.ref a] H Q := ⟨a, xs, rfl, Or.inl h, q⟩
theorem w_lenH {a : Addr} {xs : List V} (h : H a = some (.lst xs)) (q : Q (.int (xs.length : Int)) H) : qLenQ K [.ref a] H Q := w_lenL (SqL.of h) q
theorem w_lenT {a : Addr} {xs : List V} (h : H a = some (.tup xs)) (q : Q (.int (xs.length : Int)) H) : qLenQ K [.ref a] H Q := ⟨a, xs, rfl, Or.inr (SqT.of h), q⟩
theorem w_lenS {z : Str} (h : z.length ≤ 1000000) (q : Q (.int (z.length : Int)) H) : qLenS [.str z] H Q := ⟨z, rfl, Nat.le_of_lt (smallM h), q⟩
theorem w_addS {y z : Str} (h : y.length + z.length ≤ 1000000) (q : Q (.str (y ++ z)) H) : oAddS (.str y) (.str z) H Q := ⟨y, z, rfl, rfl, Nat.le_of_lt (smallM h), q⟩
theorem w_inC {ch : Nat} {z : Str} (q : Q (.bl (decide (ch ∈ z.cps.toList))) H) : oInC (.str ⟨#[ch]⟩) (.str z) H Q := ⟨ch, z, rfl, rfl, q⟩
theorem w_ninC {ch : Nat} {z : Str} (q : Q (.bl (!decide (ch ∈ z.cps.toList))) H) : oNinC (.str ⟨#[ch]⟩) (.str z) H Q := ⟨ch, z, rfl, rfl, q⟩
theorem w_strI {m : Int} (h : m.natAbs.log2 < 1920) (q : Q (.str (toString m)) H) : qStrI [.int m] H Q := ⟨m, rfl, h, q⟩
theorem w_upper {z : Str} (h : z.length ≤ 1000000) (q : Q (.str (Txt.upper z)) H) : mUpper (.str z) [] H Q := ⟨z, rfl, rfl, by omega, q⟩
theorem w_join {z : Str} {p : Addr} {ys : List Str} (h : SqL K H p (ys.map V.str)) (hz : (ys.map (fun y => y.length)).sum + ys.length * z.length ≤ 1000000) (q : Q (.str (Txt.join z ys)) H) : mJoin K (.str z) [.ref p] H Q := ⟨z, p, ys, rfl, rfl, Or.inl h, by omega, q⟩
theorem w_ixS {z : Str} {n : Int} {ch : Nat} (h : z.length ≤ 1000000) (e : atI z.cps.toList n = some ch) (q : Q (.str ⟨#[ch]⟩) H) : rIxS (.str z) (.int n) H Q := ⟨z, n, ch, rfl, rfl, Nat.le_of_lt (smallM h), e, q⟩
theorem w_slS {z : Str} {lo hi : Option Int} (h : z.length ≤ 1000000) (q : Q (.str (cutS z lo hi)) H) : rSlS (.str z) lo hi H Q := ⟨z, rfl, Nat.le_of_lt (smallM h), q⟩
end
/-! ### loops and comprehensions over what is walked -/
section
variable {J : It} {g : TG} {tb : TS} {D : Ends} {σ : L2.St} {H : Hp} {te ta : TE} {tt : TT} {wi : TI} {vs : List Nat} {Q : VK} {n : Nat} {G : Hp → Prop} {Y : Nat → Hp → V → Hp → Prop} {R : It → Hp → Prop} {K : PySem.W.Frag}
def LoopOf (J : It) (g : TG) (tb : TS) (D : Ends) (σ : L2.St) (H : Hp) : Prop := ∃ W : Nat → Nat → L2.St → Hp → Prop, (∃ m, W 0 m σ H) ∧ ∀ i m σ H, W i m σ H →
  (J.stop i H ∧ D.nx σ H) ∨ (J.go i H ∧ ∃ N : L2.St → Hp → Prop, (∀ σ' H', N σ' H' → ∃ m', m' < m ∧ W (i + 1) m' σ' H') ∧ ∀ x H', J.yld i H x H' → g x σ H' fun σ2 H2 => tb { D with nx := N, ct := N, bk := D.nx } σ2 H2)
theorem w_for (h : wi σ H fun J L => LoopOf J g tb D σ L) : tFor wi g tb D σ H := h
theorem w_loop (w : Walk J n G Y) (Pv : Nat → L2.St → Hp → Prop) (h0 : Pv 0 σ H) (hG : ∀ i σ H, i ≤ n → Pv i σ H → G H)
    (hs : ∀ i x σ L M, i < n → Pv i σ L → Y i L x M → g x σ M fun σ2 H2 => tb { D with nx := Pv (i + 1), ct := Pv (i + 1), bk := D.nx } σ2 H2) (hd : ∀ σ H, Pv n σ H → D.nx σ H) : LoopOf J g tb D σ H := for_it w Pv h0 hG hs hd
def CompOf (J : It) (g : TG) (tt : TT) (te : TE) (vs : List Nat) (D : Addr) (σ : L2.St) (Qd : Hp → Prop) (H1 : Hp) : Prop := ∃ W : Nat → Nat → Hp → Prop, (∃ m, W 0 m (upd H1 D (.lst []))) ∧ ∀ i m H, W i m H →
  (J.stop i H ∧ Qd H) ∨ (J.go i H ∧ ∃ Nx : Hp → Prop, (∀ H', Nx H' → ∃ m', m' < m ∧ W (i + 1) m' H') ∧ ∀ x H', J.yld i H x H' → g x (wipe σ vs) H' fun σ2 H2 => wipe σ2 vs = wipe σ vs ∧ tt σ2 H2 fun b H3 =>
    if b = true then te σ2 H3 fun y H4 => ∃ acc, H4 D = some (.lst acc) ∧ acc.length < sizeLine ∧ Nx (upd H4 D (.lst (acc ++ [y]))) else Nx H3)
theorem w_lc (h : wi σ H fun J L => ∀ D, L D = none → CompOf J g tt te vs D σ (fun M => Q (.ref D) M) L) : tLc wi g tt te vs σ H Q := h
/-- behind i turns: the list so far is at D -/
def Sofar (I : Nat → List V → Hp → Prop) (D : Addr) (i : Nat) (L : Hp) : Prop := ∃ acc, acc.length ≤ i ∧ L D = some (.lst acc) ∧ I i acc L
theorem w_comp {D : Addr} {Qd : Hp → Prop} (w : Walk J n G Y) (I : Nat → List V → Hp → Prop) (new : H D = none) (h0 : ∀ L, Same H L → L D = some (.lst []) → I 0 [] L) (hG : ∀ i acc L, I i acc L → G L)
    (turn : ∀ i acc x L M, i < n → acc.length ≤ i → I i acc L → L D = some (.lst acc) → Y i L x M → g x (wipe σ vs) M fun σ2 N => wipe σ2 vs = wipe σ vs ∧ tt σ2 N fun b O =>
      if b = true then te σ2 O fun y U => ∃ acc, U D = some (.lst acc) ∧ acc.length < sizeLine ∧ Sofar I D (i + 1) (upd U D (.lst (acc ++ [y]))) else Sofar I D (i + 1) O)
    (done : ∀ acc L, acc.length ≤ n → L D = some (.lst acc) → I n acc L → Qd L) : CompOf J g tt te vs D σ Qd H := by
  refine lc_it w (Sofar I D) ⟨[], Nat.le_refl _, upd_same, h0 _ (same_new new) upd_same⟩ (fun i L _ p => ?_) (fun i x L M hi p hy => ?_) fun L p => ?_
  · obtain ⟨acc, _, _, p⟩ := p
    exact hG i acc L p
  · obtain ⟨acc, h1, h2, p⟩ := p
    exact turn i acc x L M hi h1 p h2 hy
  · obtain ⟨acc, h1, h2, p⟩ := p
    exact done acc L h1 h2 p
theorem w_put {I : Nat → List V → Hp → Prop} {D : Addr} {i : Nat} {acc : List V} {y : V} {U : Hp} (h : U D = some (.lst acc)) (hl : acc.length ≤ i) (hi : i ≤ 1000000) (q : ∀ Z, Ext D U Z → Z D = some (.lst (acc ++ [y])) → I (i + 1) (acc ++ [y]) Z) :
    ∃ acc, U D = some (.lst acc) ∧ acc.length < sizeLine ∧ Sofar I D (i + 1) (upd U D (.lst (acc ++ [y]))) :=
  ⟨acc, h, smallM (Nat.le_trans hl hi), acc ++ [y], by rw [List.length_append]; exact Nat.add_le_add hl (Nat.le_refl 1), upd_same, q _ Ext.upd upd_same⟩
theorem w_skip {I : Nat → List V → Hp → Prop} {D : Addr} {i : Nat} {acc : List V} {U : Hp} (h : U D = some (.lst acc)) (hl : acc.length ≤ i) (q : I (i + 1) acc U) : Sofar I D (i + 1) U := ⟨acc, by omega, h, q⟩
/-! what is walked -/
def onL (K : PySem.W.Frag) (x : V) (H : Hp) (R : It → Hp → Prop) : Prop := ∃ a, x = .ref a ∧ (∃ xs, SqL K H a xs) ∧ R (Itl K a) H
def onT (K : PySem.W.Frag) (x : V) (H : Hp) (R : It → Hp → Prop) : Prop := ∃ a, x = .ref a ∧ (∃ xs, SqT K H a xs) ∧ R (Itt K a) H
def onS (v : V) (H : Hp) (R : It → Hp → Prop) : Prop := ∃ x, v = .str x ∧ R (Its x) H
def onR1 (vs : List V) (H : Hp) (R : It → Hp → Prop) : Prop := ∃ j : Int, vs = [.int j] ∧ -(2 ^ 62) ≤ j ∧ j < 2 ^ 62 ∧ R (Itr 0 j.toNat) H
def onR2 (vs : List V) (H : Hp) (R : It → Hp → Prop) : Prop := ∃ i j : Int, vs = [.int i, .int j] ∧ (-(2 ^ 62) ≤ i ∧ i < 2 ^ 62 ∧ -(2 ^ 62) ≤ j ∧ j < 2 ^ 62) ∧ R (Itr i (j - i).toNat) H
theorem w_iList (h : te σ H fun x L => onL K x L R) : iList K te σ H R := h
theorem w_iTup (h : te σ H fun x L => onT K x L R) : iTup K te σ H R := h
theorem w_iStr (h : te σ H fun x L => onS x L R) : iStr te σ H R := h
theorem w_iR1 {tl : TA} (h : tl σ H fun x L => onR1 x L R) : iRng1 tl σ H R := h
theorem w_iR2 {tl : TA} (h : tl σ H fun x L => onR2 x L R) : iRng2 tl σ H R := h
theorem w_onQ {a : Addr} {xs : List V} (h : SqL K H a xs) (q : R (Itl K a) H) : onL K (.ref a) H R := ⟨a, rfl, ⟨xs, h⟩, q⟩
theorem w_onL {a : Addr} {xs : List V} (h : H a = some (.lst xs)) (q : R (Itl K a) H) : onL K (.ref a) H R := ⟨a, rfl, ⟨xs, SqL.of h⟩, q⟩
theorem w_onU {a : Addr} {xs : List V} (h : SqT K H a xs) (q : R (Itt K a) H) : onT K (.ref a) H R := ⟨a, rfl, ⟨xs, h⟩, q⟩
theorem w_onT {a : Addr} {xs : List V} (h : H a = some (.tup xs)) (q : R (Itt K a) H) : onT K (.ref a) H R := ⟨a, rfl, ⟨xs, SqT.of h⟩, q⟩
theorem w_onS {z : Str} (q : R (Its z) H) : onS (.str z) H R := ⟨z, rfl, q⟩
theorem w_onR1 {j : Int} (h : -1000000000 ≤ j ∧ j ≤ 1000000000) (q : R (Itr 0 j.toNat) H) : onR1 [.int j] H R := ⟨j, rfl, by omega, by omega, q⟩
theorem w_onR2 {i j : Int} (h : -1000000000 ≤ i ∧ i ≤ 1000000000 ∧ -1000000000 ≤ j ∧ j ≤ 1000000000) (q : R (Itr i (j - i).toNat) H) : onR2 [.int i, .int j] H R := ⟨i, j, rfl, by omega, q⟩
end
section
variable {K : PySem.W.Frag} {H : Hp} {Q : VK} {x v : V}
theorem w_isi {t : Value} {n : String} {b : Bool} (ty : TyX K H x t) (e : PySem.W.kitOne K t (.type n) = some b) (q : Q (.bl b) H) : rIsi K [x, .ty n] H Q := ⟨x, .ty n, t, .type n, b, rfl, .ty n, ty, e, q⟩
theorem w_all {a : Addr} {bs : List Bool} (h : H a = some (.lst (bs.map V.bl))) (q : Q (.bl (bs.all id)) H) : rAll K [.ref a] H Q := ⟨a, bs, rfl, SqL.of h, q⟩
theorem w_any {a : Addr} {bs : List Bool} (h : H a = some (.lst (bs.map V.bl))) (q : Q (.bl (bs.any id)) H) : rAny K [.ref a] H Q := ⟨a, bs, rfl, SqL.of h, q⟩
theorem w_rep {a : Addr} {xs : List V} {n : Int} (h : H a = some (.lst xs)) (hn : 0 ≤ n ∧ n ≤ 1000) (hl : xs.length ≤ 1000) (q : ∀ p L, H p = none → Same H L → L p = some (.lst (List.replicate n.toNat xs).flatten) → Q (.ref p) L) : rRep (.ref a) (.int n) H Q := by
  refine ⟨a, n, xs, rfl, rfl, h, by omega, by omega, ?_, w_new q⟩
  have h1 : n.toNat ≤ 1000 := by omega
  exact Nat.le_trans (Nat.mul_le_mul hl h1) (by decide)
theorem w_revL {te : TE} {σ : L2.St} (h : te σ H fun x J => aRev K x J Q) : tRevL K te σ H Q := h
theorem w_rev {a : Addr} {xs : List V} (h : H a = some (.lst xs)) (q : ∀ p L, H p = none → Same H L → L p = some (.lst xs.reverse) → Q (.ref p) L) : aRev K (.ref a) H Q := ⟨a, xs, rfl, SqL.of h, w_new q⟩
theorem w_append {a : Addr} {xs : List V} (h : H a = some (.lst xs)) (hl : xs.length ≤ 1000000) (q : ∀ L, Ext a H L → L a = some (.lst (xs ++ [v])) → Q .non L) : rAppend (.ref a) [v] H Q := ⟨a, xs, v, rfl, rfl, h, smallM hl, q _ Ext.upd upd_same⟩
theorem w_bm {T : String} {r : V → List V → Hp → VK → Prop} {to : TE} {t : TA} {σ : L2.St} (h : to σ H fun x J => tyV K T x J ∧ t σ J fun xs L => r x xs L Q) : tBM K T r to t σ H Q := h
theorem w_bm0 {T : String} {r : V → List V → Hp → VK → Prop} {to : TE} {σ : L2.St} (h : to σ H fun x J => tyV K T x J ∧ r x [] J Q) : tBM0 K T r to σ H Q := h
theorem w_islst {a : Addr} {xs : List V} {A : Prop} (h : H a = some (.lst xs)) (q : A) : tyV K "list" (.ref a) H ∧ A := ⟨Or.inl ⟨rfl, _, SqL.of h⟩, q⟩
theorem w_kw {sp : Sp} {gV : List V → List V → List V} {E : XK} {tk : TA} {m : Nat} {σ : L2.St} (h : tk σ H fun zs J => zs.length = m ∧ sp (gV [] zs) J Q E) : tKw m sp gV E tk σ H Q := h
/-- a list's repr -/
theorem w_repr {a : Addr} {xs : List V} {ds : List PyData} (h : H a = some (.lst xs)) (hd : DpAll K H xs ds) (h1 : PyData.showable (.list ds) = true) (h2 : PyData.hasDict (.list ds) = false) (h3 : PyData.depth (.list ds) ≤ 60) (h4 : (PyData.shown (.list ds)).length ≤ sizeLine)
    (q : Q (.str (PyData.shown (.list ds))) H) : rReprD K [.ref a] H Q := ⟨a, .list ds, rfl, .lst (SqL.of h) hd, h1, h2, h3, h4, q⟩
theorem dp_bools : ∀ bs : List Bool, DpAll K H (bs.map V.bl) (bs.map PyData.bool)
  | [] => .nil
  | b :: r => .cons (.bl b) (dp_bools r)
theorem bools_short : ∀ bs : List Bool, PyData.leavesShortAll 13 (bs.map PyData.bool) = true ∧ PyData.bulkAll (bs.map PyData.bool) = bs.length ∧ PyData.showableAll (bs.map PyData.bool) = true ∧ PyData.hasDictAll (bs.map PyData.bool) = false ∧ PyData.depthAll (bs.map PyData.bool) ≤ 1
  | [] => ⟨by simp only [List.map, PyData.leavesShortAll], by simp only [List.map, PyData.bulkAll, List.length_nil], by simp only [List.map, PyData.showableAll], by simp only [List.map, PyData.hasDictAll], by simp only [List.map, PyData.depthAll]; omega⟩
  | b :: r => by
    obtain ⟨h1, h2, h3, h4, h5⟩ := bools_short r
    simp only [List.map_cons, PyData.leavesShortAll, PyData.leavesShort, PyData.bulkAll, PyData.bulk, PyData.showableAll, PyData.showable, PyData.hasDictAll, PyData.hasDict, PyData.depthAll, PyData.depth, List.length_cons, h1, h2, h3, h4]
    refine ⟨rfl, ?_, rfl, rfl, ?_⟩ <;> omega
/-- repr of a list of bools -/
theorem w_reprB {a : Addr} {bs : List Bool} (h : H a = some (.lst (bs.map V.bl))) (hl : bs.length ≤ 1000) (q : Q (.str (PyData.shown (.list (bs.map PyData.bool)))) H) : rReprD K [.ref a] H Q := by
  obtain ⟨h1, h2, h3, h4, h5⟩ := bools_short bs
  refine w_repr h (dp_bools bs) (by simpa only [PyData.showable] using h3) (by simpa only [PyData.hasDict] using h4) (by simp only [PyData.depth]; omega) ?_ q
  exact PyData.shown_fits_bulk (B := 13) (by decide) (by decide) (by simpa only [PyData.leavesShort] using h1) (by simp only [PyData.bulk]; omega)
end
section
variable {K : PySem.W.Frag} {x qual : Str} {st : Stmt} {f : Addr} {fd : FuncData} {p : Str}
/-- a def of one parameter called by its name -/
theorem kw_one (F : Fun K x qual st f fd) (h : ∀ (kV doc pm : Value) (an : Option Addr) (cdv ct z : Value), bindArgs (PySem.W.fnOf x qual (defArgs st) (defBody st) (defScope st) .none kV doc pm an cdv ct) ⟨[], [(p, z)]⟩ = pure [(p, z)]) : KBn K fd [p] 0 [p] (fun _ ws => ws) (fun _ zs => zs) := by
  obtain ⟨oc, od, kV, doc, pm, an, cdv, ct, osl, rfl, lk, hcd⟩ := F.ex
  refine ⟨fun s us ws _ h1 h2 => ?_, fun _ r => r⟩
  match us, ws, h1, h2 with
  | [], [z], _, _ => exact .of_eq (h kV doc pm an cdv ct z)
end
/-- a place that lies in the list -/
theorem at_in {α : Type} {xs : List α} {n : Int} (h0 : 0 ≤ n) (h1 : n < xs.length) : ∃ v, atI xs n = some v ∧ v ∈ xs := by
  obtain ⟨m, rfl⟩ := Int.eq_ofNat_of_zero_le h0
  have h : m < xs.length := by omega
  exact ⟨xs[m], atI_nat (List.getElem?_eq_getElem h), List.getElem_mem h⟩
/-! ### texts as lists of signs -/
theorem joinL_nil : ∀ ps : List (List Nat), TL.joinL [] ps = ps.flatten
  | [] => rfl
  | [p] => by
    show p = p ++ []
    rw [List.append_nil]
  | p :: q :: r => by
    show p ++ ([] ++ TL.joinL [] (q :: r)) = p ++ (q :: r).flatten
    rw [List.nil_append, joinL_nil (q :: r)]
theorem join_signs (cs : List Nat) : (Txt.join (Str.ofString "") (cs.map fun c => (⟨#[c]⟩ : Str))).cps.toList = cs := by
  rw [TL.join_eq, show (Str.join (Str.ofString "") (cs.map fun c => (⟨#[c]⟩ : Str))).cps.toList = TL.joinL [] ((cs.map fun c => (⟨#[c]⟩ : Str)).map TL.tl) from TL.tl_join _ _, joinL_nil, List.map_map]
  induction cs with
  | nil => rfl
  | cons c r ih => rw [List.map_cons, List.flatten_cons, ih]; rfl
theorem signs_sum : ∀ cs : List Nat, ((cs.map fun c => (⟨#[c]⟩ : Str)).map fun y => y.length).sum = cs.length
  | [] => rfl
  | c :: r => by
    rw [List.map_cons, List.map_cons, List.sum_cons, signs_sum r, List.length_cons]
    show 1 + r.length = r.length + 1
    omega
theorem str_len (z : Str) : z.length = z.cps.toList.length := TL.len_tl z
theorem sign_at {z : Str} {d : Int} (h0 : 0 ≤ d) (h1 : d < (z.length : Nat)) : ∃ c, atI z.cps.toList d = some c ∧ c ∈ z.cps.toList := at_in h0 (by rw [← str_len]; exact h1)
theorem len_add (x y : Str) : (x ++ y).length = x.length + y.length := strLen_append x y
theorem len_cut (z : Str) (lo hi : Option Int) : (cutS z lo hi).length ≤ z.length := cutS_length z lo hi
/-- joined signs -/
theorem w_joinC {K : PySem.W.Frag} {H : Hp} {Q : VK} {p : Addr} {cs : List Nat} (h : H p = some (.lst (cs.map fun c => V.str ⟨#[c]⟩))) (hl : cs.length ≤ 1000) (q : ∀ z : Str, z.cps.toList = cs → z.length = cs.length → Q (.str z) H) : mJoin K (.str (Str.ofString "")) [.ref p] H Q := by
  have h2 : H p = some (.lst ((cs.map fun c => (⟨#[c]⟩ : Str)).map V.str)) := by
    rw [h, List.map_map]
    rfl
  refine w_join (SqL.of h2) ?_ (q _ (join_signs cs) (by rw [str_len, join_signs]))
  rw [signs_sum, List.length_map]
  show cs.length + cs.length * 0 ≤ 1000000
  omega
/-- a text of a list of texts, all of one kind -/
theorem pick_str {P : Str → Prop} {zs : List Str} {d n : Int} (h : ∀ z ∈ zs, P z) (d0 : 0 ≤ d) (d1 : d < n) (e : ((zs.length : Nat) : Int) = n) : ∃ z, atI (zs.map V.str) d = some (.str z) ∧ P z ∧ z ∈ zs := by
  obtain ⟨v, hv, hm⟩ := at_in (xs := zs.map V.str) d0 (by rw [List.length_map]; omega)
  obtain ⟨z, hz, rfl⟩ := List.mem_map.mp hm
  exact ⟨z, hv, h z hz, hz⟩
theorem small_log {n : Int} (h : n.natAbs < 1000000) : n.natAbs.log2 < 1920 := by
  have : n.natAbs.log2 ≤ 20 := by
    by_cases z : n.natAbs = 0
    · rw [z]
      decide
    · have := (Nat.log2_lt z (k := 20)).mpr (by omega)
      omega
  omega
theorem lt_len {z : Str} {d m : Int} (h : d < m) (e : ((z.length : Nat) : Int) = m) : d < (z.length : Nat) := by omega
/-! ### dicts that are written -/
section
variable {σ : L2.St} {H : Hp} {Q : VK} {trs : List (TE × TE)} {tk tv : TE}
def aDK (H : Hp) (Q : VK) : Prop := ∀ p, H p = none → Q (.ref p) (upd H p (.dK []))
theorem w_dnew (h : aDK H Q) : tDNewK σ H Q := h
theorem w_newD (q : ∀ p L, H p = none → Same H L → L p = some (.dK []) → Q (.ref p) L) : aDK H Q := fun p n => q p _ n (same_new n) upd_same
def dEnd (p : Addr) (ps : List (V × V)) (H2 : Hp) (Q : VK) : Prop := H2 p = some (.dK []) ∧ ∃ kvs : List (Key × V), ps = kvs.map (fun kv => (kV kv.1, kv.2)) ∧ kvs.length ≤ 15 ∧ Q (.ref p) (upd H2 p (.dK (mergeK [] kvs)))
theorem w_disp (h : ∀ p L, H p = none → Same H L → L p = some (.dK []) → tPairs trs σ L fun ps M => dEnd p ps M Q) : tDisp trs σ H Q := fun p n => h p _ n (same_new n) upd_same
theorem w_pnil {N : List (V × V) → Hp → Prop} (h : N [] H) : tPairs [] σ H N := h
theorem w_pcons {N : List (V × V) → Hp → Prop} (h : tk σ H fun x J => tv σ J fun y L => tPairs trs σ L fun ps M => N ((x, y) :: ps) M) : tPairs ((tk, tv) :: trs) σ H N := h
theorem w_dEnd {p : Addr} {ps : List (V × V)} (kvs : List (Key × V)) (h : H p = some (.dK [])) (e : ps = kvs.map (fun kv => (kV kv.1, kv.2))) (hl : kvs.length ≤ 15) (q : ∀ L, Ext p H L → L p = some (.dK (mergeK [] kvs)) → Q (.ref p) L) : dEnd p ps H Q := ⟨h, kvs, e, hl, q _ Ext.upd upd_same⟩
end
def parEnd (i j : Nat) (D : Ends) (σ : L2.St) (vs : List V) (H : Hp) : Prop := ∃ v w, vs = [v, w] ∧ D.nx ((σ.set i (some v)).set j (some w)) H
theorem w_par {i j : Nat} {ta : TA} {D : Ends} {σ : L2.St} {H : Hp} (h : ta σ H fun vs J => parEnd i j D σ vs J) : tPar i j ta D σ H := h
theorem w_parEnd {i j : Nat} {D : Ends} {σ : L2.St} {H : Hp} {v w : V} (h : D.nx ((σ.set i (some v)).set j (some w)) H) : parEnd i j D σ [v, w] H := ⟨v, w, rfl, h⟩
def parEnd3 (i j l : Nat) (D : Ends) (σ : L2.St) (vs : List V) (H : Hp) : Prop := ∃ u v w, vs = [u, v, w] ∧ D.nx (((σ.set i (some u)).set j (some v)).set l (some w)) H
theorem w_par3 {i j l : Nat} {ta : TA} {D : Ends} {σ : L2.St} {H : Hp} (h : ta σ H fun vs J => parEnd3 i j l D σ vs J) : tPar3 i j l ta D σ H := h
theorem w_parEnd3 {i j l : Nat} {D : Ends} {σ : L2.St} {H : Hp} {u v w : V} (h : D.nx (((σ.set i (some u)).set j (some v)).set l (some w)) H) : parEnd3 i j l D σ [u, v, w] H := ⟨u, v, w, rfl, h⟩
/-! ### texts among texts, texts repeated -/
section
variable {K : PySem.W.Frag} {H : Hp} {Q : VK}
theorem inV_strs (y : Str) : ∀ zs : List Str, inV (.str y) (zs.map V.str) = decide (y ∈ zs)
  | [] => rfl
  | z :: r => by
    show ((z == y) || inV (.str y) (r.map V.str)) = _
    rw [inV_strs y r]
    by_cases e : y = z
    · cases e
      rw [beq_self_eq_true]
      exact (decide_eq_true (List.mem_cons_self ..)).symm
    · rw [show (z == y) = false from beq_eq_false_iff_ne.mpr fun q => e q.symm, Bool.false_or]
      by_cases h : y ∈ r
      · rw [decide_eq_true h, decide_eq_true (List.mem_cons_of_mem _ h)]
      · rw [decide_eq_false h, decide_eq_false fun q => (List.mem_cons.mp q).elim e h]
theorem flat_strs : ∀ zs : List Str, (zs.map V.str).all flatV = true
  | [] => rfl
  | _ :: r => flat_strs r
theorem w_inLS {a : Addr} {y : Str} {zs : List Str} (h : H a = some (.lst (zs.map V.str))) (q : Q (.bl (decide (y ∈ zs))) H) : rIn K false (.str y) (.ref a) H Q :=
  ⟨a, _, rfl, Or.inl (SqL.of h), rfl, flat_strs zs, by rw [if_neg Bool.false_ne_true, inV_strs]; exact q⟩
theorem w_ninLS {a : Addr} {y : Str} {zs : List Str} (h : H a = some (.lst (zs.map V.str))) (q : Q (.bl (!decide (y ∈ zs))) H) : rIn K true (.str y) (.ref a) H Q :=
  ⟨a, _, rfl, Or.inl (SqL.of h), rfl, flat_strs zs, by rw [if_pos rfl, inV_strs]; exact q⟩
theorem w_inTS {a : Addr} {y : Str} {zs : List Str} (h : H a = some (.tup (zs.map V.str))) (q : Q (.bl (decide (y ∈ zs))) H) : rIn K false (.str y) (.ref a) H Q :=
  ⟨a, _, rfl, Or.inr (SqT.of h), rfl, flat_strs zs, by rw [if_neg Bool.false_ne_true, inV_strs]; exact q⟩
def repS (x : Str) (n : Int) : Str := ⟨(List.replicate n.toNat x.cps).foldl (fun a b => a ++ b) #[]⟩
theorem fold_size (a : Array Nat) : ∀ (m : Nat) (b : Array Nat), ((List.replicate m a).foldl (fun a b => a ++ b) b).size = b.size + m * a.size
  | 0, b => by
    show b.size = b.size + 0 * a.size
    omega
  | m + 1, b => by
    show ((List.replicate m a).foldl (fun a b => a ++ b) (b ++ a)).size = _
    rw [fold_size a m, Array.size_append, Nat.add_mul]
    omega
theorem repS_len (x : Str) (n : Int) : (repS x n).length = n.toNat * x.length := by
  show ((List.replicate n.toNat x.cps).foldl (fun a b => a ++ b) #[]).size = _
  rw [fold_size]
  show 0 + n.toNat * x.cps.size = n.toNat * x.cps.size
  omega
def oMulS : R2 := fun x y H Q => ∃ (z : Str) (n : Int), x = .str z ∧ y = .int n ∧ 0 < z.length ∧ z.length ≤ 1000 ∧ 2 ≤ n ∧ n ≤ 1000 ∧ Q (.str (repS z n)) H
theorem o_mulS {X : Cx} : OpR X (binaryOp .Mult) oMulS := by
  intro pins s σ H x y v u Q I rx ry h
  obtain ⟨z, n, rfl, rfl, z0, z1, n2, n3, q⟩ := h
  obtain ⟨t, rfl⟩ := rx
  obtain ⟨t', rfl⟩ := ry
  have hm : z.length * n.toNat ≤ 1000 * 1000 := Nat.mul_le_mul z1 (by omega)
  have g1 : (n == 1 || z.length == 0) = false := by
    rw [Bool.or_eq_false_iff]
    exact ⟨beq_eq_false_iff_ne.mpr (by omega), beq_eq_false_iff_ne.mpr (by omega)⟩
  refine PySem.P.mul_str ?_ (fun _ _ => ?_) (fun _ _ => ?_) ?_
  · rw [Bool.or_eq_false_iff]
    exact ⟨decide_eq_false (by omega), decide_eq_false (by omega)⟩
  · have : (1000 : Int) ≤ (2 ^ 63 - 1) / n := by
      rw [Int.le_ediv_iff_mul_le (by omega)]
      omega
    omega
  · exact PyProof.Rows.short24 (by omega)
  · rw [if_neg (by omega), g1, if_neg Bool.false_ne_true]
    have e : (repS z n).length ≤ 16777216 := by
      rw [repS_len, Nat.mul_comm]
      omega
    exact ⟨e, .str (repS z n), H, I.tok _, ⟨_, rfl⟩, q⟩
theorem w_mulS {z : Str} {n : Int} (h : 0 < z.length ∧ z.length ≤ 1000) (hn : 2 ≤ n ∧ n ≤ 1000) (q : Q (.str (repS z n)) H) : oMulS (.str z) (.int n) H Q := ⟨z, n, rfl, rfl, h.1, h.2, hn.1, hn.2, q⟩
end
/-! ### the rules that speak of the written part, with its name given -/
section
variable {X : Cx} {K : PySem.W.Frag} {o e : Expr} {to te : TE}
theorem k_ixL (h : X.K = K := by rfl) : IxR X (rIxL K) := h ▸ ix_list
theorem k_ixT (h : X.K = K := by rfl) : IxR X (rIxT K) := h ▸ ix_tup
theorem k_ix (h : X.K = K := by rfl) : IxR X (rIx K) := h ▸ ix_seq
theorem k_slL (h : X.K = K := by rfl) : SlR X (rSlL K) := h ▸ sl_list
theorem k_slT (h : X.K = K := by rfl) : SlR X (rSlT K) := h ▸ sl_tup
theorem k_in (h : X.K = K := by rfl) : OpR X (compareOp .In) (rIn K false) := h ▸ op_in_seq
theorem k_nin (h : X.K = K := by rfl) : OpR X (compareOp .NotIn) (rIn K true) := h ▸ op_notIn_seq
theorem k_lenQ (h : X.K = K := by rfl) : CallR X (.builtin "len") (qLenQ K) := h ▸ c_lenQ
theorem k_list (h : X.K = K := by rfl) : CallR X (.type "list") (qList K) := h ▸ c_list
theorem k_tuple (h : X.K = K := by rfl) : CallR X (.type "tuple") (qTuple K) := h ▸ c_tuple
theorem k_isi (h : X.K = K := by rfl) : CallR X (.builtin "isinstance") (rIsi K) := h ▸ call_isi
theorem k_all (hc : X.calm = true) (h : X.K = K := by rfl) : CallR X (.builtin "all") (rAll K) := h ▸ cr_all hc
theorem k_any (hc : X.calm = true) (h : X.K = K := by rfl) : CallR X (.builtin "any") (rAny K) := h ▸ cr_any hc
theorem k_repr {k : Nat} (hr : Room k X.A) (hgd : X.A.guards = some []) (h : X.K = K := by rfl) : CallR X (.builtin "repr") (rReprD K) := h ▸ call_repr_data hr hgd
theorem k_eqD (hu : X.A.units + 64 < cLine) (h : X.K = K := by rfl) : OpR X (compareOp .Eq) (rEqD K) := h ▸ op_eqD hu
theorem k_neD (hu : X.A.units + 64 < cLine) (h : X.K = K := by rfl) : OpR X (compareOp .NotEq) (rNeD K) := h ▸ op_neD hu
theorem k_catT (h : X.K = K := by rfl) : OpR X (binaryOp .Add) (rCatT K) := h ▸ op_catT
theorem k_join {apos pos : Pos} (ho : PE X o to) (he : PE X e te) (h : X.K = K := by rfl) (hs : starEach [e] X.env = [(false, eval e X.env)] := by rfl) (hb : attributeBase o "join" X.env (eval o X.env) = eval o X.env := by rfl) (hl : (apos.endLine == pos.line) = true := by rfl) :
    PE X (.Call (.Attribute o "join" apos) [e] [] pos) (tM1 (mJoin K) to te) := h ▸ p_join ho he hs hb hl
theorem k_iL {tg l : Expr} {tl : TE} (hl : PE X l tl) (h : X.K = K := by rfl) : PI X tg l (iList K tl) := h ▸ pi_list hl
theorem k_iT {tg l : Expr} {tl : TE} (hl : PE X l tl) (h : X.K = K := by rfl) : PI X tg l (iTup K tl) := h ▸ pi_tup hl
theorem k_rev {k : Nat} {p1 p2 p3 pos : Pos} (he : PE X e te) (h : X.K = K := by rfl) : PE X (.Subscript e (.Slice none none (some (.UnaryOp .USub (.Constant (.int 1) k p1) p2)) p3) pos) (tRevL K te) := h ▸ pe_revL he
theorem k_bm {T : String} {r : V → List V → Hp → VK → Prop} {t : TA} (p : PE X e (tBM X.K T r to t)) (h : X.K = K := by rfl) : PE X e (tBM K T r to t) := h ▸ p
theorem k_bm0 {T : String} {r : V → List V → Hp → VK → Prop} (p : PE X e (tBM0 X.K T r to)) (h : X.K = K := by rfl) : PE X e (tBM0 K T r to) := h ▸ p
end
/-- the ways of an if meet: Mid holds behind both -/
theorem w_cut {t u : TS} {D : Ends} {σ : L2.St} {H : Hp} (Mid : L2.St → Hp → Prop) (h : t { D with nx := Mid } σ H) (q : ∀ σ' J, Mid σ' J → u D σ' J) : C8.tCut t u D σ H := ⟨Mid, h, q⟩
/-! ### what the top has written -/
/-- a def of the text, under its own name -/
def DefAt (K : PySem.W.Frag) (mg : Str → Option Value) (x : Str) (st : Stmt) : Prop := ∃ (f : Addr) (fd : FuncData), Fun K x x st f fd ∧ mg x = some (.ref f)
theorem def_at {K : PySem.W.Frag} {h : Heap} {mg : Str → Option Value} {x : Str} {st : Stmt} {f : Addr} {od an : Option Addr} {sl : Array (Option Value)} {oc kV dc pm cd ct : Value} (X : K.In h) (G : h.Ns mainGlobals mg)
    (a : PySem.W.nsIn K mainGlobals x = some (some (.ref f))) (l : K.lookup f = some ⟨oc, od, .func (PySem.W.fnOf x x (defArgs st) (defBody st) (defScope st) .none kV dc pm an cd ct), sl⟩) (c : PySem.W.codeIn K cd x = true) (k : PySem.W.keepIn K (.ref f) = true) : DefAt K mg x st :=
  ⟨f, _, fun_mk l c k, PySem.W.mg_of X G a⟩
theorem con_at {K : PySem.W.Frag} {h : Heap} {mg : Str → Option Value} {x : Str} {u : Value} {v : V} (X : K.In h) (G : h.Ns mainGlobals mg) (a : PySem.W.nsIn K mainGlobals x = some (some u)) (r : RelV v u) : ∃ u, mg x = some u ∧ RelV v u := ⟨u, PySem.W.mg_of X G a, r⟩
theorem non_at {K : PySem.W.Frag} {h : Heap} {mg : Str → Option Value} {x : Str} (X : K.In h) (G : h.Ns mainGlobals mg) (a : PySem.W.nsIn K mainGlobals x = some none) : mg x = none := PySem.W.mg_none_of X G a
theorem Cal.of {P : Program} {w : World} {K : PySem.W.Frag} {mg : Str → Option Value} {base : Heap} {k : Nat} {x : Str} {sp : Sp} {st : Stmt} {f : Addr} {fd : FuncData} {ps : List Str} (F : Fun K x x st f fd) (hm : mg x = some (.ref f)) (b : Binds K fd ps []) (h : FnOk P w K mg base CX0 k f fd ps sp) : Cal P w K mg base k x sp := ⟨f, fd, ps, h, hm, F.kp, b⟩
theorem CalG.of {P : Program} {w : World} {K : PySem.W.Frag} {mg : Str → Option Value} {base : Heap} {k : Nat} {x : Str} {sp : Sp} {st : Stmt} {f : Addr} {fd : FuncData} {ps : List Str} (F : Fun K x x st f fd) (hm : mg x = some (.ref f)) (b : Binds K fd ps []) (h : FnG P w K mg base k f fd ps sp) : CalG P w K mg base k x sp := ⟨f, fd, ps, h, hm, F.kp, b⟩
end RT
set_option Elab.async false
set_option linter.all false
set_option maxRecDepth 100000
/-! data with a Lean type, over the abstract heap -/
namespace RT
open PySem PySem.Spec PyProof.Rows L2 PySem.W

/-! ### data stays -/
theorem Same.sqT {K : PySem.W.Frag} {H J : Hp} {a : Addr} {xs : List V} (e : Same H J) (h : SqT K H a xs) : SqT K J a xs := by
  rcases h with (h | ⟨o, h⟩) | h
  · exact .inl (.inl (e _ _ h))
  · exact .inl (.inr ⟨o, e _ _ h⟩)
  · exact .inr h
section
variable {K : PySem.W.Frag} {H J : Hp}
mutual
theorem dp_same (e : Same H J) : ∀ (d : PyData) (v : V), Dp K H v d → Dp K J v d
  | .none, _, .non => .non
  | .bool _, _, .bl b => .bl b
  | .int _, _, .int i => .int i
  | .str _, _, .str x => .str x
  | .list ds, _, .lst h1 h2 => .lst (Same.seq e h1) (dpAll_same e ds _ h2)
  | .tuple ds, _, .tup h1 h2 => .tup (Same.sqT e h1) (dpAll_same e ds _ h2)
theorem dpAll_same (e : Same H J) : ∀ (ds : List PyData) (vs : List V), DpAll K H vs ds → DpAll K J vs ds
  | [], _, .nil => .nil
  | d :: ds, _, .cons h1 h2 => .cons (dp_same e d _ h1) (dpAll_same e ds _ h2)
end
mutual
/-- no list within: what can't change -/
def imm : PyData → Bool
  | .list _ => false
  | .tuple ds => immAll ds
  | .dict _ => false
  | _ => true
def immAll : List PyData → Bool
  | [] => true
  | d :: ds => imm d && immAll ds
end
theorem sqT_ext {a p : Addr} {xs ys : List V} (e : Ext p H J) (hp : H p = some (.lst ys)) (h : SqT K H a xs) : SqT K J a xs := by
  rcases h with (h | ⟨o, h⟩) | h
  · exact .inl (.inl (e _ _ (ne_of h hp (by intro z; cases z)) h))
  · exact .inl (.inr ⟨o, e _ _ (ne_of h hp (by intro z; cases z)) h⟩)
  · exact .inr h
mutual
theorem dp_ext {p : Addr} {ys : List V} (e : Ext p H J) (hp : H p = some (.lst ys)) : ∀ (d : PyData) (v : V), imm d = true → Dp K H v d → Dp K J v d
  | .none, _, _, .non => .non
  | .bool _, _, _, .bl b => .bl b
  | .int _, _, _, .int i => .int i
  | .str _, _, _, .str x => .str x
  | .list _, _, i, .lst _ _ => by simp [imm] at i
  | .tuple ds, _, i, .tup h1 h2 => .tup (sqT_ext e hp h1) (dpAll_ext e hp ds _ (by simpa [imm] using i) h2)
theorem dpAll_ext {p : Addr} {ys : List V} (e : Ext p H J) (hp : H p = some (.lst ys)) : ∀ (ds : List PyData) (vs : List V), immAll ds = true → DpAll K H vs ds → DpAll K J vs ds
  | [], _, _, .nil => .nil
  | d :: ds, _, i, .cons h1 h2 => by
    simp only [immAll, Bool.and_eq_true] at i
    exact .cons (dp_ext e hp d _ i.1 h1) (dpAll_ext e hp ds _ i.2 h2)
end
theorem dpAll_app : ∀ {xs ys : List V} {ds es : List PyData}, DpAll K H xs ds → DpAll K H ys es → DpAll K H (xs ++ ys) (ds ++ es)
  | _, _, _, _, .nil, h => h
  | _, _, _, _, .cons a r, h => .cons a (dpAll_app r h)
theorem dpAll_len : ∀ {xs : List V} {ds : List PyData}, DpAll K H xs ds → xs.length = ds.length
  | _, _, .nil => rfl
  | _, _, .cons _ r => by rw [List.length_cons, List.length_cons, dpAll_len r]
theorem dpAll_at : ∀ {xs : List V} {ds : List PyData} {i : Nat} {x : V}, DpAll K H xs ds → xs[i]? = some x → ∃ d, ds[i]? = some d ∧ Dp K H x d
  | _, _, _, _, .nil, h => by simp at h
  | _, _, 0, _, .cons a _, h => by
    cases (Option.some.inj h : _ = _)
    exact ⟨_, rfl, a⟩
  | _, _, i + 1, _, .cons _ r, h => dpAll_at (i := i) r h
theorem dpAll_pick : ∀ {xs : List V} {ds : List PyData} {i : Nat} {d : PyData}, DpAll K H xs ds → ds[i]? = some d → ∃ x, xs[i]? = some x ∧ Dp K H x d
  | _, _, _, _, .nil, h => by simp at h
  | _, _, 0, _, .cons a _, h => by
    cases (Option.some.inj h : _ = _)
    exact ⟨_, rfl, a⟩
  | _, _, i + 1, _, .cons _ r, h => dpAll_pick (i := i) r h
end

/-! ### with a type -/
section
variable {α β : Type} [DecidableEq α] [Datum α] [DecidableEq β] [Datum β] {K : PySem.W.Frag} {H J : Hp}
/-- v is x -/
abbrev Tv (K : PySem.W.Frag) (H : Hp) (v : V) (x : α) : Prop := Dp K H v (Datum.toD x)
abbrev Tva (K : PySem.W.Frag) (H : Hp) (vs : List V) (xs : List α) : Prop := DpAll K H vs (xs.map Datum.toD)
theorem Tv.same {v : V} {x : α} (h : Tv K H v x) (e : Same H J) : Tv K J v x := dp_same e _ _ h
theorem Tva.same {vs : List V} {xs : List α} (h : Tva K H vs xs) (e : Same H J) : Tva K J vs xs := dpAll_same e _ _ h
theorem tv_str (z : Str) : Tv K H (.str z) z := .str z
theorem tv_int (i : Int) : Tv K H (.int i) i := .int i
theorem tv_bool (b : Bool) : Tv K H (.bl b) b := .bl b
theorem tva_strs : ∀ zs : List Str, Tva K H (zs.map V.str) zs
  | [] => .nil
  | z :: r => .cons (.str z) (tva_strs r)
theorem tva_bools : ∀ bs : List Bool, Tva K H (bs.map V.bl) bs
  | [] => .nil
  | b :: r => .cons (.bl b) (tva_bools r)
theorem tv_lst {a : Addr} {vs : List V} {xs : List α} (h : H a = some (.lst vs)) (r : Tva K H vs xs) : Tv K H (.ref a) xs := .lst (SqL.of h) r
theorem tv_tup {a : Addr} {vs : List V} {xs : List α} (h : H a = some (.tup vs)) (r : Tva K H vs xs) : Tv K H (.ref a) (Tup.mk xs) := .tup (SqT.of h) r
theorem tv_pair {a : Addr} {u v : V} {x : α} {y : β} (h : H a = some (.tup [u, v])) (hu : Tv K H u x) (hv : Tv K H v y) : Tv K H (.ref a) (x, y) := .tup (SqT.of h) (.cons hu (.cons hv .nil))
theorem is_str {v : V} {z : Str} (h : Tv K H v z) : v = .str z := by
  cases h
  rfl
theorem is_pair {v : V} {x : α} {y : β} (h : Tv K H v (x, y)) : ∃ a u w, v = .ref a ∧ SqT K H a [u, w] ∧ Tv K H u x ∧ Tv K H w y := by
  cases h with
  | tup h1 h2 =>
    cases h2 with
    | cons a r =>
      cases r with
      | cons b r =>
        cases r
        exact ⟨_, _, _, rfl, h1, a, b⟩
theorem is_tup {v : V} {xs : List α} (h : Tv K H v (Tup.mk xs)) : ∃ a vs, v = .ref a ∧ SqT K H a vs ∧ Tva K H vs xs := by
  cases h with
  | tup h1 h2 => exact ⟨_, _, rfl, h1, h2⟩
theorem is_lst {v : V} {xs : List α} (h : Tv K H v xs) : ∃ a vs, v = .ref a ∧ SqL K H a vs ∧ Tva K H vs xs := by
  cases h with
  | lst h1 h2 => exact ⟨_, _, rfl, h1, h2⟩
theorem Tva.len {vs : List V} {xs : List α} (h : Tva K H vs xs) : vs.length = xs.length := by
  have := dpAll_len h
  rw [List.length_map] at this
  exact this
theorem Tva.app {vs ws : List V} {xs ys : List α} (h : Tva K H vs xs) (g : Tva K H ws ys) : Tva K H (vs ++ ws) (xs ++ ys) := by
  show DpAll K H _ ((xs ++ ys).map Datum.toD)
  rw [List.map_append]
  exact dpAll_app h g
theorem Tva.one {v : V} {x : α} (h : Tv K H v x) : Tva K H [v] [x] := .cons h .nil
theorem Tva.at {vs : List V} {xs : List α} {i : Nat} {v : V} (h : Tva K H vs xs) (e : vs[i]? = some v) : ∃ x, xs[i]? = some x ∧ Tv K H v x := by
  obtain ⟨d, hd, r⟩ := dpAll_at h e
  rw [List.getElem?_map] at hd
  obtain ⟨x, hx, rfl⟩ := Option.map_eq_some_iff.mp hd
  exact ⟨x, hx, r⟩
theorem Tva.pick {vs : List V} {xs : List α} {i : Nat} {x : α} (h : Tva K H vs xs) (e : xs[i]? = some x) : ∃ v, vs[i]? = some v ∧ Tv K H v x :=
  dpAll_pick h (by rw [List.getElem?_map, e]; rfl)
end

/-! ### the rules -/
section
variable {α : Type} [DecidableEq α] [Datum α] {X : Cx} {K : PySem.W.Frag} {pins : List (Addr × Obj)} {σ : L2.St} {H : Hp} {s : Shared}
theorem Tv.holds {v : V} {u : Value} {x : α} (I : Inv X pins σ H s) (h : Tv X.K H v x) (r : RelV v u) : Holds s.heap u x := Dp.reads I _ _ _ h r
def oEqT (α : Type) [DecidableEq α] [Datum α] (K : PySem.W.Frag) : R2 := fun x y H Q => ∃ a b : α, Tv K H x a ∧ Tv K H y b ∧ Q (.bl (decide (a = b))) H
def oNeT (α : Type) [DecidableEq α] [Datum α] (K : PySem.W.Frag) : R2 := fun x y H Q => ∃ a b : α, Tv K H x a ∧ Tv K H y b ∧ Q (.bl (decide (a ≠ b))) H
theorem k_eqT {k : Nat} (hr : Room k X.A) (hd : Datum.depth α ≤ 60) (h : X.K = K := by rfl) : OpR X (compareOp .Eq) (oEqT α K) := by
  subst h
  intro pins s σ H x y v u Q I rx ry h
  obtain ⟨a, b, ha, hb, q⟩ := h
  have un := hr.units
  exact eq_datum (ha.holds I rx) (hb.holds I ry) (by omega) ⟨.bl _, H, I, rfl, q⟩
theorem k_neT {k : Nat} (hr : Room k X.A) (hd : Datum.depth α ≤ 60) (h : X.K = K := by rfl) : OpR X (compareOp .NotEq) (oNeT α K) := by
  subst h
  intro pins s σ H x y v u Q I rx ry h
  obtain ⟨a, b, ha, hb, q⟩ := h
  have un := hr.units
  exact ne_datum (ha.holds I rx) (hb.holds I ry) (by omega) ⟨.bl _, H, I, rfl, q⟩
def oInL (α : Type) [DecidableEq α] [Datum α] (K : PySem.W.Frag) : R2 := fun x y H Q => ∃ (a : α) (xs : List α), Tv K H x a ∧ Tv K H y xs ∧ Q (.bl (decide (a ∈ xs))) H
def oNinL (α : Type) [DecidableEq α] [Datum α] (K : PySem.W.Frag) : R2 := fun x y H Q => ∃ (a : α) (xs : List α), Tv K H x a ∧ Tv K H y xs ∧ Q (.bl (decide (a ∉ xs))) H
def oInU (α : Type) [DecidableEq α] [Datum α] (K : PySem.W.Frag) : R2 := fun x y H Q => ∃ (a : α) (xs : List α), Tv K H x a ∧ Tv K H y (Tup.mk xs) ∧ Q (.bl (decide (a ∈ xs))) H
def oNinU (α : Type) [DecidableEq α] [Datum α] (K : PySem.W.Frag) : R2 := fun x y H Q => ∃ (a : α) (xs : List α), Tv K H x a ∧ Tv K H y (Tup.mk xs) ∧ Q (.bl (decide (a ∉ xs))) H
theorem lst_holds {a : Addr} {vs : List V} {xs : List α} (I : Inv X pins σ H s) (h1 : SqL X.K H a vs) (h2 : Tva X.K H vs xs) : ∃ us, s.heap.IsList a us ∧ HoldAll s.heap us.toList xs := by
  obtain ⟨its, r, pl, hz⟩ := I.list h1
  exact ⟨_, pl.isList, Dp.readsAll I _ _ _ h2 r⟩
theorem tup_holds {a : Addr} {vs : List V} {xs : List α} (I : Inv X pins σ H s) (h1 : SqT X.K H a vs) (h2 : Tva X.K H vs xs) : ∃ us, s.heap.IsTuple a us ∧ HoldAll s.heap us.toList xs := by
  obtain ⟨its, r, pl, hz⟩ := I.tuple h1
  exact ⟨_, pl, Dp.readsAll I _ _ _ h2 r⟩
theorem k_inL {k : Nat} (hr : Room k X.A) (hd : Datum.depth α ≤ 60) (h : X.K = K := by rfl) : OpR X (compareOp .In) (oInL α K) := by
  subst h
  intro pins s σ H x y v u Q I rx ry h
  obtain ⟨a, xs, ha, hb, q⟩ := h
  have un := hr.units
  obtain ⟨l, vs, rfl, h1, h2⟩ := is_lst hb
  cases ry
  obtain ⟨us, g1, g2⟩ := lst_holds I h1 h2
  exact in_list_datum g1 g2 (ha.holds I rx) (by omega) ⟨.bl _, H, I, rfl, q⟩
theorem k_ninL {k : Nat} (hr : Room k X.A) (hd : Datum.depth α ≤ 60) (h : X.K = K := by rfl) : OpR X (compareOp .NotIn) (oNinL α K) := by
  subst h
  intro pins s σ H x y v u Q I rx ry h
  obtain ⟨a, xs, ha, hb, q⟩ := h
  have un := hr.units
  obtain ⟨l, vs, rfl, h1, h2⟩ := is_lst hb
  cases ry
  obtain ⟨us, g1, g2⟩ := lst_holds I h1 h2
  exact notIn_list_datum g1 g2 (ha.holds I rx) (by omega) ⟨.bl _, H, I, rfl, q⟩
theorem k_inU {k : Nat} (hr : Room k X.A) (hd : Datum.depth α ≤ 60) (h : X.K = K := by rfl) : OpR X (compareOp .In) (oInU α K) := by
  subst h
  intro pins s σ H x y v u Q I rx ry h
  obtain ⟨a, xs, ha, hb, q⟩ := h
  have un := hr.units
  obtain ⟨l, vs, rfl, h1, h2⟩ := is_tup hb
  cases ry
  obtain ⟨us, g1, g2⟩ := tup_holds I h1 h2
  exact in_tuple_datum g1 g2 (ha.holds I rx) (by omega) ⟨.bl _, H, I, rfl, q⟩
theorem k_ninU {k : Nat} (hr : Room k X.A) (hd : Datum.depth α ≤ 60) (h : X.K = K := by rfl) : OpR X (compareOp .NotIn) (oNinU α K) := by
  subst h
  intro pins s σ H x y v u Q I rx ry h
  obtain ⟨a, xs, ha, hb, q⟩ := h
  have un := hr.units
  obtain ⟨l, vs, rfl, h1, h2⟩ := is_tup hb
  cases ry
  obtain ⟨us, g1, g2⟩ := tup_holds I h1 h2
  exact notIn_tuple_datum g1 g2 (ha.holds I rx) (by omega) ⟨.bl _, H, I, rfl, q⟩
end
section
variable {α : Type} [DecidableEq α] [Datum α] {K : PySem.W.Frag} {H : Hp} {Q : VK} {x y : V}
theorem w_eqT {a b : α} (h1 : Tv K H x a) (h2 : Tv K H y b) (q : Q (.bl (decide (a = b))) H) : oEqT α K x y H Q := ⟨a, b, h1, h2, q⟩
theorem w_neT {a b : α} (h1 : Tv K H x a) (h2 : Tv K H y b) (q : Q (.bl (decide (a ≠ b))) H) : oNeT α K x y H Q := ⟨a, b, h1, h2, q⟩
theorem w_inL {a : α} {xs : List α} (h1 : Tv K H x a) (h2 : Tv K H y xs) (q : Q (.bl (decide (a ∈ xs))) H) : oInL α K x y H Q := ⟨a, xs, h1, h2, q⟩
theorem w_ninL {a : α} {xs : List α} (h1 : Tv K H x a) (h2 : Tv K H y xs) (q : Q (.bl (decide (a ∉ xs))) H) : oNinL α K x y H Q := ⟨a, xs, h1, h2, q⟩
theorem w_inU {a : α} {xs : List α} (h1 : Tv K H x a) (h2 : Tv K H y (Tup.mk xs)) (q : Q (.bl (decide (a ∈ xs))) H) : oInU α K x y H Q := ⟨a, xs, h1, h2, q⟩
theorem w_ninU {a : α} {xs : List α} (h1 : Tv K H x a) (h2 : Tv K H y (Tup.mk xs)) (q : Q (.bl (decide (a ∉ xs))) H) : oNinU α K x y H Q := ⟨a, xs, h1, h2, q⟩
/-- repr of typed data -/
theorem w_reprT {a : Addr} {z : α} (h : Tv K H (.ref a) z) (h1 : PyData.showable (Datum.toD z) = true) (h2 : PyData.hasDict (Datum.toD z) = false) (h3 : Datum.depth α ≤ 60) (h4 : (PyData.shown (Datum.toD z)).length ≤ sizeLine) (q : Q (.str (PyData.shown (Datum.toD z))) H) : rReprD K [.ref a] H Q :=
  ⟨a, _, rfl, h, h1, h2, Nat.le_trans (Datum.depth_le z) h3, h4, q⟩
end
end RT
set_option Elab.async false
set_option linter.all false
set_option maxRecDepth 100000
set_option maxHeartbeats 4000000
/-! enumerate over a tuple -/
namespace RT
open PySem PySem.Spec PyProof.Rows L2
/-- enumerate(v), v anything whose iterator begins as told -/
theorem enum_new {v : Value} {o : Obj} {Hh : Heap → Prop} (B : PySem.Begins v o Hh) :
    Meets (PySem.Builtin.«enumerate.__new__» ⟨[.type "enumerate", v], []⟩) (fun _ R s => Hh s.heap ∧
      R (.ok (.ret (.ref (s.heap.push o).objs.size))) { s with heap := (s.heap.push o).push { cls := .type "enumerate", data := .fields #[.none, .bool false, .ref s.heap.objs.size, rawInt 0, .none, .none] } }) :=
  .of_wp fun prog w A R s h => by
    obtain ⟨hp, g, d, tk, os⟩ := s
    obtain ⟨h1, h⟩ := h
    have e0 := sub_enumerate
    have q1 : ∀ {A' : Around} {E : Value → Shared → Prop} {Q : Value → Shared → Prop}, Q (.ref hp.objs.size) ⟨hp.push o, g, d, tk, os⟩ → wpAny (model prog w) A' (pyIter v) Q E ⟨hp, g, d, tk, os⟩ :=
      fun q => B.iter prog w _ _ ⟨hp, g, d, tk, os⟩ _ h1 q
    wp_walk using q1
    refine wpAny_stack_any fun st => wpAny_pure ?_
    split
    · rename_i c _ _ _ _ _
      cases (c == Value.type "enumerate") <;> (wp_walk using q1; exact ⟨_, rfl, h⟩)
    · wp_walk using q1
      exact ⟨_, rfl, h⟩
section
variable {prog : Program} {w : World} {A : Around} {E : Value → Shared → Prop} {s : Shared}
theorem enum_call {v : Value} {o : Obj} {Hh : Heap → Prop} {Q : Value → Shared → Prop} (B : PySem.Begins v o Hh) (h1 : Hh s.heap)
    (h : ∀ h', IsEnum h' (s.heap.objs.size + 1) s.heap.objs.size 0 .none → h'.get? s.heap.objs.size = some o → (∀ b u, s.heap.get? b = some u → h'.get? b = some u) → Q (.ref (s.heap.objs.size + 1)) { s with heap := h' }) :
    wpAny (model prog w) A (call (.type "enumerate") [v]) Q E s := by
  refine callType_new PySem.F.called_enumerate (by decide) (PySem.F.typeCall_enumerate_1 _) (PySem.F.newCall_enumerate_1 _) (fun obj => PySem.F.args_object_init_2 obj _) PySem.F.entry_enumerate_new (enum_new B) ⟨h1, ?_⟩
  have size1 : (s.heap.push o).objs.size = s.heap.objs.size + 1 := Heap.size_push ..
  show _ ∧ _
  rw [size1]
  have e2 : IsEnum ((s.heap.push o).push { cls := .type "enumerate", data := .fields #[.none, .bool false, .ref s.heap.objs.size, rawInt 0, .none, .none] }) (s.heap.objs.size + 1) s.heap.objs.size 0 .none := by
    have z := Heap.get?_push_size (s.heap.push o) (o := { cls := .type "enumerate", data := .fields #[.none, .bool false, .ref s.heap.objs.size, rawInt 0, .none, .none] }) rfl
    rw [size1] at z
    exact z
  exact ⟨⟨_, e2, rfl⟩, h _ e2 (Heap.get?_push_of_some _ (Heap.get?_push_size _ B.free)) fun b u x => Heap.get?_push_of_some _ (Heap.get?_push_of_some _ x)⟩
end
/-- the tuple at a, each item in a new pair -/
def Itu (K : PySem.W.Frag) (a : Addr) : It :=
  ⟨fun i H => ∃ xs x, SqT K H a xs ∧ xs[i]? = some x, fun i H v J => ∃ T x, v = .ref T ∧ H T = none ∧ J = upd H T (.tup [.int (i : Nat), x]) ∧ ∀ xs, SqT K H a xs → xs[i]? = some x, fun i H => ∃ xs, SqT K H a xs ∧ xs.length = i⟩
theorem turn_itu {P : Program} {w : World} {K : PySem.W.Frag} {elts : List Expr} {kk : Nat} {tpos : Pos} (a e it : Addr) (hat : a ≠ it) :
    Turn P w K (.Tuple elts kk tpos) (Itu K a) [e, it] e (fun i h => (∃ old, IsEnum h e it ((i : Nat) : Int) old) ∧ h.IsTupleIter it a i ∧ e ≠ it ∧ e ≠ a) where
  mem := by simp
  obj := fun i h st b hb => by
    obtain ⟨⟨old, he⟩, ⟨o, ho, hc, hd⟩, _⟩ := st
    rcases (show b = e ∨ b = it by simpa using hb) with rfl | rfl
    · exact ⟨_, he, fun v q => nomatch q⟩
    · exact ⟨o, ho, fun v q => by rw [hd] at q; cases q⟩
  keep := fun i h h' st k => by
    obtain ⟨⟨old, he⟩, hi, hne⟩ := st
    exact ⟨⟨old, k e (by simp) _ he⟩, hi.at fun o q => k it (by simp) o q, hne⟩
  item := by
    intro X hP hw hK hc i pins s σ H E I hf st hg
    subst hP hw hK
    obtain ⟨⟨old, he⟩, hit, hne, hna⟩ := st
    obtain ⟨xs, x, hq, hx⟩ := hg
    obtain ⟨its, rv, p, hz⟩ := I.tuple hq
    obtain ⟨u, hu, ru⟩ := rv.get hx
    have hlt : i < its.toArray.size := by
      have z := (List.getElem?_eq_some_iff.mp hu).1
      simpa using z
    have he1 : e < s.heap.objs.size := Heap.lt_size he
    have hi1 : it < s.heap.objs.size := by
      obtain ⟨_, q, _⟩ := hit
      exact Heap.lt_size q
    have DD : Draws X.prog X.w X.A.in1 it [it, a] its.toArray.size (fun i v => its.toArray[i]? = some v) (fun i h => h.IsTupleIter it a i ∧ h.IsTuple a its.toArray) := .tuple (show X.A.in1.handled = none from I.ok.hd hc) it a hat its.toArray
    refine wpAny_pyNext_enum_itemC DD he ⟨hit, p⟩ hlt hne (by simp [hne, hna]) fun v h' tk hv ho hst hT hsz hk => ?_
    have eu : v = u := by
      have z := hv
      rw [List.getElem?_toArray, hu] at z
      exact (Option.some.inj z).symm
    subst eu
    refine ⟨_, rfl, wpAny_letOwnedTupleGo_enum (s := { s with heap := h', toks := tk + 1 }) ho fun h2 he2 sb => ?_⟩
    have t2 : h2.get? s.heap.objs.size = some { cls := .type "tuple", data := .seq #[.int (i : Nat) tk, v] } := (sb.2 _ (Nat.ne_of_gt he1)).trans hT
    have fr : H s.heap.objs.size = none := I.hok.fresh (Nat.le_refl _)
    have I1 : Inv X pins σ (upd H s.heap.objs.size (.tup [.int (i : Nat), x])) { s with heap := h2, toks := tk + 1 } :=
      I.turnedNew (ch := [e, it]) (fun b ob hb q => (sb.2 b (fun z => hb (by simp [z]))).trans (hk b ob (fun z => hb (by simp [z])) (fun z => hb (by simp [z])) q)) hf (Nat.le_refl _)
        ⟨by show 2 ≤ sizeLine; decide, [.int (i : Nat) tk, v], .cons ⟨_, rfl⟩ (.cons ru .nil), ⟨_, t2, rfl, _, rfl⟩⟩
    refine ⟨.ref s.heap.objs.size, _, I1, rfl, ⟨_, x, rfl, fr, rfl, fun ys hy => by rw [I.tuple_inj hy hq]; exact hx⟩, ⟨⟨v, ?_⟩, hst.1.at fun o q => (sb.2 it (Ne.symm hne)).trans q, hne, hna⟩, fun b hb => ?_⟩
    · have e1 : ((i + 1 : Nat) : Int) = (i : Int) + 1 := by omega
      rw [e1]
      exact he2
    · have hb2 : b < s.heap.objs.size := by
        rcases (show b = e ∨ b = it by simpa using hb) with rfl | rfl
        · exact he1
        · exact hi1
      rw [upd_ne (Nat.ne_of_lt hb2)]
      exact (hf b hb).1
  done := by
    intro X hP hw hK hc i pins s σ H E I hf st hg
    subst hP hw hK
    obtain ⟨⟨old, he⟩, hit, hne, hna⟩ := st
    obtain ⟨xs, hq, hx⟩ := hg
    obtain ⟨its, rv, p, hz⟩ := I.tuple hq
    obtain ⟨f0, f1, f2, f3, f4, f5⟩ := hf it (by simp)
    have hl := rv.length
    refine wpAny_pyNext_enum_endD (.tuple (show X.A.in1.handled = none from I.ok.hd hc) it a hat its.toArray) he ⟨?_, p⟩ fun h' eb => ⟨rfl, I.turned (t' := s.toks) (fun b o hb q => eb b o hb q) f0 f1 f3 f4 f5⟩
    have en : its.toArray.size = i := by
      rw [List.size_toArray, ← hl]
      exact hx
    rw [en]
    exact hit
  self := fun A i s Q E st h => by
    obtain ⟨⟨_, he⟩, _⟩ := st
    exact wpAny_pyIter_enum he h
def aEnumU (K : PySem.W.Frag) (vs : List V) (H : Hp) (R : It → Hp → Prop) : Prop := ∃ a xs, vs = [.ref a] ∧ SqT K H a xs ∧ R (Itu K a) H
def iEnumU (K : PySem.W.Frag) (ta : TA) : TI := fun σ H R => ta σ H fun vs J => aEnumU K vs J R
theorem pi_enumU {X : Cx} {e : Expr} {ta : TA} {p pos tpos : Pos} {elts : List Expr} {kk : Nat} (hg : Gl X "enumerate") (hm : X.mg "enumerate" = none) (ha : PA X [e] ta) (hs : starEach [e] X.env = [(false, eval e X.env)] := by rfl) :
    PI X (.Tuple elts kk tpos) (.Call (.Name "enumerate" p) [e] [] pos) (iEnumU X.K ta) := by
  refine ⟨fun pins s σ H R I h => Call_ (ld_blt I hg hm boot_enumerate (PyProof.Rows.callWith_type1 (thn (ha.run pos pins s σ H _ I h) fun us s1 got => ?_) hs rfl))⟩
  obtain ⟨vs, H1, I1, r1, a, xs, rfl, hq, q⟩ := got
  rw [Vals.ref1 r1]
  obtain ⟨its, rv, pt, hz⟩ := I1.tuple hq
  have la : a < s1.heap.objs.size := by
    obtain ⟨o, ho, _⟩ := id pt
    exact Heap.lt_size ho
  refine enum_call (PySem.begins_tuple a its.toArray) pt fun h' he hit hk => wpAny_pyIter_enum he ?_
  have I2 : Inv X pins σ H1 { s1 with heap := h' } := I1.kept (t' := s1.toks) hk
  refine ⟨s1.heap.objs.size + 1, [s1.heap.objs.size + 1, s1.heap.objs.size], _, _, H1, rfl, I2, turn_itu a (s1.heap.objs.size + 1) s1.heap.objs.size (Nat.ne_of_lt la), ⟨⟨.none, he⟩, ⟨_, hit, rfl, rfl⟩, Nat.succ_ne_self _, Nat.ne_of_gt (Nat.lt_succ_of_lt la)⟩, fun b hb => ?_, q⟩
  have le : s1.heap.objs.size ≤ b := by
    rcases (show b = s1.heap.objs.size + 1 ∨ b = s1.heap.objs.size by simpa using hb) with rfl | rfl
    · exact Nat.le_add_right _ _
    · exact Nat.le_refl _
  exact I1.fpOk le (I1.hok.fresh le)
theorem walk_itu {K : PySem.W.Frag} {a : Addr} {xs : List V} : Walk (Itu K a) xs.length (fun H => SqT K H a xs) (YPair (fun i => some (.int (i : Nat))) (fun i => xs[i]?)) := by
  refine ⟨fun i _ hi q => ⟨xs, xs[i], q, by simp [hi]⟩, fun _ q => ⟨xs, q, rfl⟩, fun i H v J _ q y => ?_⟩
  obtain ⟨T, x, h1, h2, h3, h4⟩ := y
  exact ⟨T, .int (i : Nat), x, h1, h2, h3, rfl, h4 xs q⟩
theorem w_iEnumU {K : PySem.W.Frag} {ta : TA} {σ : L2.St} {H : Hp} {R : It → Hp → Prop} (h : ta σ H fun vs J => aEnumU K vs J R) : iEnumU K ta σ H R := h
end RT
set_option Elab.async false
set_option linter.all false
set_option maxRecDepth 100000
set_option maxHeartbeats 4000000
/-! zip over a list and a tuple, in any order; targets with a star -/
namespace RT
open PySem PySem.Spec PyProof.Rows L2
/-- b: a tuple, else a list -/
def SqA (K : PySem.W.Frag) (b : Bool) (H : Hp) (a : Addr) (xs : List V) : Prop := if b = true then SqT K H a xs else SqL K H a xs
def HpA (b : Bool) (h : Heap) (a : Addr) (its : Array Value) : Prop := if b = true then h.IsTuple a its else h.IsList a its
def ItA (b : Bool) (h : Heap) (i a : Addr) (k : Nat) : Prop := if b = true then h.IsTupleIter i a k else h.IsListIter i a k
def oA (b : Bool) (a : Addr) : Obj := if b = true then { cls := .type "tuple_iterator", data := .fields #[.ref a, .int 0 0] } else { cls := .type "list_iterator", data := .fields #[.ref a, .int 0 0] }
theorem beginsA (b : Bool) (a : Addr) (its : Array Value) : PySem.Begins (.ref a) (oA b a) fun h => HpA b h a its := by
  cases b
  · exact PySem.begins_list a its
  · exact PySem.begins_tuple a its
theorem drawsA {P : Program} {w : World} {A : Around} (b : Bool) (hh : A.handled = none) (i a : Addr) (ne : a ≠ i) (its : Array Value) : Draws P w A i [i, a] its.size (fun k v => its[k]? = some v) (fun k h => ItA b h i a k ∧ HpA b h a its) := by
  cases b
  · exact Draws.list hh i a ne its
  · exact Draws.tuple hh i a ne its
theorem ItA.ob {b : Bool} {h : Heap} {i a : Addr} {k : Nat} (x : ItA b h i a k) : ∃ o, h.get? i = some o ∧ ∀ v, o.data ≠ .cell v := by
  cases b
  · obtain ⟨o, e, _, d⟩ := (show h.IsListIter i a k from x)
    exact ⟨o, e, fun v q => by rw [d] at q; cases q⟩
  · obtain ⟨o, e, _, d⟩ := (show h.IsTupleIter i a k from x)
    exact ⟨o, e, fun v q => by rw [d] at q; cases q⟩
theorem ItA.at {b : Bool} {h h' : Heap} {i a : Addr} {k : Nat} (x : ItA b h i a k) (e : ∀ o, h.get? i = some o → h'.get? i = some o) : ItA b h' i a k := by
  cases b
  · exact (show h.IsListIter i a k from x).at e
  · exact (show h.IsTupleIter i a k from x).at e
theorem seqA {X : Cx} {pins : List (Addr × Obj)} {σ : L2.St} {H : Hp} {s : Shared} {b : Bool} {a : Addr} {xs : List V} (I : L2.Inv X pins σ H s) (h : SqA X.K b H a xs) : ∃ its : List Value, Vals xs its ∧ HpA b s.heap a its.toArray ∧ a < s.heap.objs.size := by
  cases b
  · obtain ⟨its, rv, p, _⟩ := I.list (show SqL X.K H a xs from h)
    exact ⟨its, rv, p.isList, p.lt⟩
  · obtain ⟨its, rv, p, _⟩ := I.tuple (show SqT X.K H a xs from h)
    obtain ⟨o, ho, _⟩ := id p
    exact ⟨its, rv, p, Heap.lt_size ho⟩
theorem seqA_inj {X : Cx} {pins : List (Addr × Obj)} {σ : L2.St} {H : Hp} {s : Shared} {b : Bool} {a : Addr} {xs ys : List V} (I : L2.Inv X pins σ H s) (h : SqA X.K b H a xs) (h' : SqA X.K b H a ys) : xs = ys := by
  cases b
  · exact I.list_inj (show SqL X.K H a xs from h) h'
  · exact I.tuple_inj (show SqT X.K H a xs from h) h'
theorem oA_free (b : Bool) (a : Addr) : (oA b a).isFreed = false := by cases b <;> rfl
theorem oA_it {b : Bool} {a i : Addr} {h : Heap} (e : h.get? i = some (oA b a)) : ItA b h i a 0 := by
  cases b
  · exact ⟨_, e, rfl, rfl⟩
  · exact ⟨_, e, rfl, rfl⟩
theorem zip_newA {u v : Value} {o1 o2 : Obj} {H1 H2 : Heap → Prop} (B1 : PySem.Begins u o1 H1) (B2 : PySem.Begins v o2 H2) :
    Meets (PySem.Builtin.«zip.__new__» ⟨[.type "zip", u, v], []⟩) (fun _ R s => H1 s.heap ∧ H2 s.heap ∧
      R (.ok (.ret (.ref (((((s.heap.push o1).push o2).push { cls := .type "tuple", data := .seq #[.ref s.heap.objs.size, .ref (s.heap.push o1).objs.size] }).push { cls := .type "tuple", data := .seq #[.none, .none] }).objs.size))))
        { s with heap := (((((s.heap.push o1).push o2).push { cls := .type "tuple", data := .seq #[.ref s.heap.objs.size, .ref (s.heap.push o1).objs.size] }).push { cls := .type "tuple", data := .seq #[.none, .none] }).push
          { cls := .type "zip", data := .fields #[.none, .bool false, .bool false, .ref ((s.heap.push o1).push o2).objs.size, .ref (((s.heap.push o1).push o2).push { cls := .type "tuple", data := .seq #[.ref s.heap.objs.size, .ref (s.heap.push o1).objs.size] }).objs.size] }) }) :=
  .of_wp fun prog w A R s h => by
    obtain ⟨hp, g, d, tk, os⟩ := s
    obtain ⟨h1, h2, h⟩ := h
    have e0 := PySem.sub_zip
    have q1 : ∀ {A' : Around} {E : Value → Shared → Prop} {Q : Value → Shared → Prop}, Q (.ref hp.objs.size) ⟨hp.push o1, g, d, tk, os⟩ → wpAny (model prog w) A' (pyIter u) Q E ⟨hp, g, d, tk, os⟩ := fun q => B1.iter prog w _ _ ⟨hp, g, d, tk, os⟩ _ h1 q
    have q2 : ∀ {A' : Around} {E : Value → Shared → Prop} {Q : Value → Shared → Prop}, Q (.ref (hp.push o1).objs.size) ⟨(hp.push o1).push o2, g, d, tk, os⟩ → wpAny (model prog w) A' (pyIter v) Q E ⟨hp.push o1, g, d, tk, os⟩ :=
      fun q => B2.iter prog w _ _ ⟨hp.push o1, g, d, tk, os⟩ _ (B2.keeps _ _ h2 fun b o' e => Heap.get?_push_of_some _ e) q
    wp_walk using q1, q2
    exact ⟨_, rfl, h⟩
section
variable {prog : Program} {w : World} {A : Around} {E : Value → Shared → Prop} {s : Shared}
theorem zip_callA {b1 b2 : Bool} {l1 l2 : Addr} {xs ys : Array Value} {Q : Value → Shared → Prop} (hl1 : HpA b1 s.heap l1 xs) (hl2 : HpA b2 s.heap l2 ys)
    (h : ∀ h', (PySem.IsZip h' (s.heap.objs.size + 4) (s.heap.objs.size + 2) (s.heap.objs.size + 3) .none ∧ PySem.IsPair h' (s.heap.objs.size + 2) (.ref s.heap.objs.size) (.ref (s.heap.objs.size + 1)) ∧
      PySem.IsPair h' (s.heap.objs.size + 3) .none .none ∧ ItA b1 h' s.heap.objs.size l1 0 ∧ ItA b2 h' (s.heap.objs.size + 1) l2 0) → (∀ c o, s.heap.get? c = some o → h'.get? c = some o) → Q (.ref (s.heap.objs.size + 4)) { s with heap := h' }) :
    wpAny (model prog w) A (call (.type "zip") [.ref l1, .ref l2]) Q E s := by
  refine (callType_new PySem.F.called_zip (by decide) (PySem.F.typeCall_zip_2 _ _) (PySem.F.newCall_zip_2 _ _) (fun obj => PySem.F.args_object_init_3 obj _ _) PySem.F.entry_zip_new (zip_newA (beginsA b1 l1 xs) (beginsA b2 l2 ys)) ⟨hl1, hl2, ?_⟩)
  generalize ho1 : oA b1 l1 = o1
  generalize ho2 : oA b2 l2 = o2
  have n1 : (s.heap.push o1).objs.size = s.heap.objs.size + 1 := by rw [Heap.size_push]
  have n2 : ((s.heap.push o1).push o2).objs.size = s.heap.objs.size + 2 := by rw [Heap.size_push, n1]
  rw [n1, n2]
  generalize ho3 : ({ cls := .type "tuple", data := .seq #[.ref s.heap.objs.size, .ref (s.heap.objs.size + 1)] } : Obj) = o3
  generalize ho4 : ({ cls := .type "tuple", data := .seq #[.none, .none] } : Obj) = o4
  have n3 : (((s.heap.push o1).push o2).push o3).objs.size = s.heap.objs.size + 3 := by rw [Heap.size_push, n2]
  have n4 : ((((s.heap.push o1).push o2).push o3).push o4).objs.size = s.heap.objs.size + 4 := by rw [Heap.size_push, n3]
  rw [n3, n4]
  generalize ho5 : ({ cls := .type "zip", data := .fields #[.none, .bool false, .bool false, .ref (s.heap.objs.size + 2), .ref (s.heap.objs.size + 3)] } : Obj) = o5
  have f1 : o1.isFreed = false := ho1 ▸ oA_free b1 l1
  have f2 : o2.isFreed = false := ho2 ▸ oA_free b2 l2
  have f3 : o3.isFreed = false := by rw [← ho3]; rfl
  have f4 : o4.isFreed = false := by rw [← ho4]; rfl
  have f5 : o5.isFreed = false := by rw [← ho5]; rfl
  have a1 := Heap.get?_push_size s.heap f1
  have a2 := Heap.get?_push_size (s.heap.push o1) f2
  have a3 := Heap.get?_push_size ((s.heap.push o1).push o2) f3
  have a4 := Heap.get?_push_size (((s.heap.push o1).push o2).push o3) f4
  have a5 := Heap.get?_push_size ((((s.heap.push o1).push o2).push o3).push o4) f5
  rw [n1] at a2
  rw [n2] at a3
  rw [n3] at a4
  rw [n4] at a5
  have up : ∀ {hh : Heap} {o : Obj} {c : Addr} {u : Obj}, hh.get? c = some u → (hh.push o).get? c = some u := fun e => Heap.get?_push_of_some _ e
  have a4' := up (o := o5) a4
  have a3' := up (o := o5) (up (o := o4) a3)
  have a2' := up (o := o5) (up (o := o4) (up (o := o3) a2))
  have a1' := up (o := o5) (up (o := o4) (up (o := o3) (up (o := o2) a1)))
  show _ ∧ _
  refine ⟨⟨_, a5, by rw [← ho5]⟩, h _ ⟨?_, ?_, ?_, ?_, ?_⟩ fun c u x => up (up (up (up (up x))))⟩
  · rw [← ho5] at a5 ⊢
    exact a5
  · rw [← ho3] at a3' ⊢
    exact a3'
  · rw [← ho4] at a4' ⊢
    exact a4'
  · exact oA_it (ho1.symm ▸ a1')
  · exact oA_it (ho2.symm ▸ a2')
end
/-- the things at a and b, the items in new pairs -/
def Itm (K : PySem.W.Frag) (b1 b2 : Bool) (a b : Addr) : It :=
  ⟨fun i H => ∃ (xs ys : List V) (x y : V), SqA K b1 H a xs ∧ SqA K b2 H b ys ∧ xs[i]? = some x ∧ ys[i]? = some y, fun i H v J => ∃ T x y, v = .ref T ∧ H T = none ∧ J = upd H T (.tup [x, y]) ∧ (∀ xs, SqA K b1 H a xs → xs[i]? = some x) ∧ (∀ ys, SqA K b2 H b ys → ys[i]? = some y),
    fun i H => ∃ xs ys : List V, SqA K b1 H a xs ∧ SqA K b2 H b ys ∧ i ≤ xs.length ∧ i ≤ ys.length ∧ (i = xs.length ∨ i = ys.length)⟩
theorem sep_of {z TI TO i1 i2 a b : Addr} (D : PySem.ZipApart z TI TO i1 i2 a b) : PySem.ZipSep2 z TI TO i1 i2 [i1, a] [i2, b] :=
  ⟨D.TIz, D.TOz, D.TITO, D.TIi1, by simp, by simp [D.i1z.symm, D.l1z.symm], by simp [D.TOi1, D.l1TO.symm], D.TIi2, by simp, by simp [D.i2z.symm, D.l2z.symm], by simp [D.TOi2, D.l2TO.symm], by simp [D.i12, D.l2i1.symm], by simp [D.i12.symm, D.l1i2.symm]⟩
theorem turn_itm {P : Program} {w : World} {K : PySem.W.Frag} {elts : List Expr} {kk : Nat} {tpos : Pos} {b1 b2 : Bool} {a b z TI TO i1 i2 : Addr} (D : PySem.ZipApart z TI TO i1 i2 a b) :
    Turn P w K (.Tuple elts kk tpos) (Itm K b1 b2 a b) [z, TI, TO, i1, i2] z (fun i h => PySem.IsZip h z TI TO .none ∧ PySem.IsPair h TI (.ref i1) (.ref i2) ∧ (∃ x y, PySem.IsPair h TO x y) ∧ ItA b1 h i1 a i ∧ ItA b2 h i2 b i) where
  mem := by simp
  obj := fun i h st c hc => by
    obtain ⟨hz, hTI, ⟨x, y, hTO⟩, g1, g2⟩ := st
    rcases (show c = z ∨ c = TI ∨ c = TO ∨ c = i1 ∨ c = i2 by simpa using hc) with rfl | rfl | rfl | rfl | rfl
    · exact ⟨_, hz, fun v q => nomatch q⟩
    · exact ⟨_, hTI, fun v q => nomatch q⟩
    · exact ⟨_, hTO, fun v q => nomatch q⟩
    · exact g1.ob
    · exact g2.ob
  keep := fun i h h' st k => by
    obtain ⟨hz, hTI, ⟨x, y, hTO⟩, g1, g2⟩ := st
    exact ⟨k z (by simp) _ hz, k TI (by simp) _ hTI, ⟨x, y, k TO (by simp) _ hTO⟩, g1.at fun o q => k i1 (by simp) o q, g2.at fun o q => k i2 (by simp) o q⟩
  item := by
    intro X hP hw hK hc i pins s σ H E I hf st hg
    subst hP hw hK
    obtain ⟨hz, hTI, ⟨x0, y0, hTO⟩, g1, g2⟩ := st
    obtain ⟨xs, ys, x, y, hx, hy, ex, ey⟩ := hg
    obtain ⟨its, rv, p1, _⟩ := seqA I hx
    obtain ⟨jts, sv, p2, _⟩ := seqA I hy
    obtain ⟨u, hu, ru⟩ := rv.get ex
    obtain ⟨u', hu', ru'⟩ := sv.get ey
    have lt1 : i < its.toArray.size := by simpa using (List.getElem?_eq_some_iff.mp hu).1
    have lt2 : i < jts.toArray.size := by simpa using (List.getElem?_eq_some_iff.mp hu').1
    have hzl : z < s.heap.objs.size := Heap.lt_size hz
    have hh : X.A.in1.handled = none := I.ok.hd hc
    refine PySem.wpAny_pyNext_zipD2_item (sep_of D) (drawsA b1 hh i1 a D.l1i1 its.toArray) (drawsA b2 hh i2 b D.l2i2 jts.toArray) hz hTI hTO ⟨g1, p1⟩ ⟨g2, p2⟩ lt1 lt2 fun v1 v2 h' tk e1 e2 z' TO' s1 s2 hT hsz hk => ?_
    have ev1 : v1 = u := by
      rw [List.getElem?_toArray, hu] at e1
      exact (Option.some.inj e1).symm
    have ev2 : v2 = u' := by
      rw [List.getElem?_toArray, hu'] at e2
      exact (Option.some.inj e2).symm
    subst ev1 ev2
    refine ⟨_, rfl, PySem.wpAny_letOwnedTupleGo_zip (s := { s with heap := h', toks := tk }) z' fun h2 z2 sb => ?_⟩
    have t2 : h2.get? s.heap.objs.size = some { cls := .type "tuple", data := .seq #[v1, v2] } := (sb.2 _ (Nat.ne_of_gt hzl)).trans hT
    have new : ObjOk X.prog X.w (upd H s.heap.objs.size (.tup [x, y])) h2 s.heap.objs.size (.tup [x, y]) := ⟨by show 2 ≤ sizeLine; decide, [v1, v2], .cons ru (.cons ru' .nil), ⟨_, t2, rfl, _, rfl⟩⟩
    have I1 : L2.Inv X pins σ (upd H s.heap.objs.size (.tup [x, y])) { s with heap := h2, toks := tk } := I.turnedNew (ch := [z, TI, TO, i1, i2])
      (fun c o hb q => (sb.2 c (fun q' => hb (by simp [q']))).trans (hk c o (fun q' => hb (by simp [q'])) (fun q' => hb (by simp [q'])) (fun q' => hb (by simp [q'])) (fun q' => hb (by simp [q'])) q)) hf (Nat.le_refl _) new
    refine ⟨.ref s.heap.objs.size, _, I1, rfl, ⟨_, x, y, rfl, I.hok.fresh (Nat.le_refl _), rfl, fun l hl => by rw [seqA_inj I hl hx]; exact ex, fun l hl => by rw [seqA_inj I hl hy]; exact ey⟩, ⟨z2, ?_, ⟨v1, v2, ?_⟩, ?_, ?_⟩, fun c hcm => ?_⟩
    · exact (sb.2 _ D.TIz).trans (hk _ _ D.TIz D.TITO D.TIi1 D.TIi2 hTI)
    · exact (sb.2 _ D.TOz).trans TO'
    · exact s1.1.at fun o q => (sb.2 _ D.i1z).trans q
    · exact s2.1.at fun o q => (sb.2 _ D.i2z).trans q
    · obtain ⟨o1, q1, _⟩ := g1.ob
      obtain ⟨o2, q2, _⟩ := g2.ob
      have hlt : c < s.heap.objs.size := by
        rcases (show c = z ∨ c = TI ∨ c = TO ∨ c = i1 ∨ c = i2 by simpa using hcm) with rfl | rfl | rfl | rfl | rfl
        · exact hzl
        · exact Heap.lt_size hTI
        · exact Heap.lt_size hTO
        · exact Heap.lt_size q1
        · exact Heap.lt_size q2
      rw [upd_ne (Nat.ne_of_lt hlt)]
      exact (hf c hcm).1
  done := by
    intro X hP hw hK hc i pins s σ H E I hf st hg
    subst hP hw hK
    obtain ⟨hz, hTI, ⟨x0, y0, hTO⟩, g1, g2⟩ := st
    obtain ⟨xs, ys, hx, hy, l1, l2, l3⟩ := hg
    obtain ⟨its, rv, p1, _⟩ := seqA I hx
    obtain ⟨jts, sv, p2, _⟩ := seqA I hy
    have n1 : its.toArray.size = xs.length := by rw [List.size_toArray, rv.length]
    have n2 : jts.toArray.size = ys.length := by rw [List.size_toArray, sv.length]
    have hh : X.A.in1.handled = none := I.ok.hd hc
    exact PySem.wpAny_pyNext_zipD2_end (sep_of D) (drawsA b1 hh i1 a D.l1i1 its.toArray) (drawsA b2 hh i2 b D.l2i2 jts.toArray) hz hTI hTO ⟨g1, p1⟩ ⟨g2, p2⟩ (by omega) (by omega) (by omega) fun h' tk hk => ⟨rfl, I.turnedL (t' := tk) (ch := [z, TI, TO, i1, i2])
      (fun c o hb q => hk c o (fun q' => hb (by simp [q'])) (fun q' => hb (by simp [q'])) (fun q' => hb (by simp [q'])) (fun q' => hb (by simp [q'])) q) hf⟩
  self := fun A i s Q E st h => PySem.wpAny_pyIter_zip st.1 h
def aZipM (K : PySem.W.Frag) (vs : List V) (H : Hp) (R : It → Hp → Prop) : Prop := ∃ a b b1 b2 xs ys, vs = [.ref a, .ref b] ∧ SqA K b1 H a xs ∧ SqA K b2 H b ys ∧ R (Itm K b1 b2 a b) H
def iZipM (K : PySem.W.Frag) (ta : TA) : TI := fun σ H R => ta σ H fun vs J => aZipM K vs J R
theorem pi_zipM {X : Cx} {e e2 : Expr} {ta : TA} {p pos tpos : Pos} {elts : List Expr} {kk : Nat} (hg : Gl X "zip") (hm : X.mg "zip" = none) (ha : PA X [e, e2] ta) (hs : starEach [e, e2] X.env = (false, eval e X.env) :: starEach [e2] X.env := by rfl)
    (hpl : (backTo pos (starEach [e2] X.env)).any (·.1) = false := by rfl) : PI X (.Tuple elts kk tpos) (.Call (.Name "zip" p) [e, e2] [] pos) (iZipM X.K ta) := by
  refine ⟨fun pins s σ H R I h => Call_ (ld_blt I hg hm PyProof.Rows.boot_zip (PyProof.Rows.callWith_type1 (thn (ha.run pos pins s σ H _ I h) fun us s1 got => ?_) hs hpl))⟩
  obtain ⟨vs, H1, I1, r1, a, b, b1, b2, xs, ys, rfl, hx, hy, q⟩ := got
  match us, r1 with
  | [_, _], .cons rfl (.cons rfl .nil) =>
  obtain ⟨its, rv, p1, lt1⟩ := seqA I1 hx
  obtain ⟨jts, sv, p2, lt2⟩ := seqA I1 hy
  refine zip_callA p1 p2 fun h' ⟨hz, hTI, hTO, g1, g2⟩ hk => PySem.wpAny_pyIter_zip hz ?_
  have I2 : L2.Inv X pins σ H1 { s1 with heap := h' } := I1.kept (t' := s1.toks) hk
  refine ⟨s1.heap.objs.size + 4, [s1.heap.objs.size + 4, s1.heap.objs.size + 2, s1.heap.objs.size + 3, s1.heap.objs.size, s1.heap.objs.size + 1], _, _, H1, rfl, I2, turn_itm (PySem.W.ktu_apart s1.heap.objs.size a b lt1 lt2), ⟨hz, hTI, ⟨_, _, hTO⟩, g1, g2⟩, fun c hc => ?_, q⟩
  have hle : s1.heap.objs.size ≤ c := by
    rcases (show c = s1.heap.objs.size + 4 ∨ c = s1.heap.objs.size + 2 ∨ c = s1.heap.objs.size + 3 ∨ c = s1.heap.objs.size ∨ c = s1.heap.objs.size + 1 by simpa using hc) with rfl | rfl | rfl | rfl | rfl <;> first | exact Nat.le_add_right _ _ | exact Nat.le_refl _
  exact I1.fpOk hle (I1.hok.fresh hle)
theorem walk_itm {K : PySem.W.Frag} {b1 b2 : Bool} {a b : Addr} {xs ys : List V} {n : Nat} (hn : n = min xs.length ys.length) : Walk (Itm K b1 b2 a b) n (fun H => SqA K b1 H a xs ∧ SqA K b2 H b ys) (YPair (fun i => xs[i]?) (fun i => ys[i]?)) := by
  refine ⟨fun i _ hi q => ⟨xs, ys, xs[i]'(by omega), ys[i]'(by omega), q.1, q.2, List.getElem?_eq_getElem _, List.getElem?_eq_getElem _⟩, fun _ q => ⟨xs, ys, q.1, q.2, by omega, by omega, by omega⟩, fun i H v H' _ q y => ?_⟩
  obtain ⟨T, x, z, e1, e2, e3, e4, e5⟩ := y
  exact ⟨T, x, z, e1, e2, e3, e4 xs q.1, e5 ys q.2⟩
theorem w_iZipM {K : PySem.W.Frag} {ta : TA} {σ : L2.St} {H : Hp} {R : It → Hp → Prop} (h : ta σ H fun vs J => aZipM K vs J R) : iZipM K ta σ H R := h
theorem k_zip {X : Cx} {K : PySem.W.Frag} {tg l : Expr} {ta : TA} (p : PI X tg l (iZipM X.K ta)) (h : X.K = K := by rfl) : PI X tg l (iZipM K ta) := h ▸ p
end RT
set_option Elab.async false
set_option linter.all false
set_option maxRecDepth 100000
/-! sorted of a list of typed data; statements that are never reached -/
namespace RT
open PySem PySem.Spec PyProof.Rows L2 PySem.W
/-- a statement, an expression that nothing leads to -/
theorem ps_dead {X : Cx} {st : Stmt} : PS X st (fun _ _ _ => False) := ⟨fun _ _ _ _ _ _ h => h.elim⟩
theorem pe_dead {X : Cx} {e : Expr} : PE X e (fun _ _ _ => False) := ⟨fun _ _ _ _ _ _ h => h.elim⟩
section
variable {α : Type} [DecidableEq α] [Datum α]
def rSortV (α : Type) [DecidableEq α] [Datum α] (K : PySem.W.Frag) : List V → Hp → VK → Prop := fun vs H Q => ∃ (a : Addr) (xs : List V) (bs : List α), vs = [.ref a] ∧ SqL K H a xs ∧ Tva K H xs bs ∧ bs.length ≤ 1000 ∧
  ∀ ys p J, H p = none → Same H J → J p = some (.lst ys) → Tva K J ys (bs.mergeSort (dataLe false Datum.toD)) → Q (.ref p) J
theorem each_of {X : Cx} {pins : List (Addr × Obj)} {σ : L2.St} {H : Hp} {s : Shared} (I : Inv X pins σ H s) : ∀ {xs : List V} {bs : List α} {us : List Value}, Tva X.K H xs bs → Vals xs us → EachIs (fun v b => ∃ x, RelV x v ∧ Tv X.K H x b) us bs
  | [], [], _, _, .nil => .nil
  | _ :: _, _ :: _, _, .cons h t, .cons r q => .cons ⟨_, r, h⟩ (each_of I t q)
theorem each_pick {K : PySem.W.Frag} {H : Hp} : ∀ {us : List Value} {bs : List α}, EachIs (fun v b => ∃ x, RelV x v ∧ Tv K H x b) us bs → ∃ ys, Vals ys us ∧ Tva K H ys bs
  | _, _, .nil => ⟨[], .nil, .nil⟩
  | _, _, .cons ⟨x, r, h⟩ t => by
    obtain ⟨ys, q, g⟩ := each_pick t
    exact ⟨x :: ys, .cons r q, .cons h g⟩
theorem each_reads {X : Cx} {pins : List (Addr × Obj)} {σ : L2.St} {H : Hp} {s : Shared} (I : Inv X pins σ H s) : ∀ {us : List Value} {bs : List α}, EachIs (fun v b => ∃ x, RelV x v ∧ Tv X.K H x b) us bs → EachIs (fun v b => ∃ as, Reads s.heap v (Datum.toD b) as) us bs
  | _, _, .nil => .nil
  | _, _, .cons ⟨x, r, h⟩ t => .cons (Dp.reads I _ x _ h r) (each_reads I t)
theorem cr_sortV {X : Cx} {k : Nat} (hr : Room k X.A) (hd : Datum.depth α ≤ 60) (hal : ∀ b b' : α, alike (Datum.toD b) (Datum.toD b') = true) (hk : ∀ bs : List α, PySem.W.Sortable (bs.map Datum.toD)) : CallR X (.builtin "sorted") (rSortV α X.K) := by
  intro pins s σ H vs us Q I r h
  obtain ⟨a, xs, bs, rfl, hs, ht, hl, q⟩ := h
  obtain ⟨its, rv, pl, hz⟩ := I.list hs
  rw [Vals.ref1 r]
  have un := hr.units
  have e := each_of I ht rv
  refine sorted_data (enc := (Datum.toD : α → PyData)) pl.isList e (each_reads I e) (.of hal) (hk bs) (by rw [sizeLine_eq]; omega) (fun b _ => by have := Datum.depth_le b; omega) fun out hlen eo => ?_
  obtain ⟨ys, ry, ty⟩ := each_pick eo
  obtain ⟨ep, he⟩ := PyProof.Rows.sortedAll_at s.heap its out.toArray
  have fr : H (s.heap.objs.size + 1) = none := I.hok.fresh (Nat.le_succ _)
  have hy : ys.length ≤ sizeLine := by
    rw [ry.length, hlen, sizeLine_eq]
    omega
  exact ⟨.ref _, upd H (s.heap.objs.size + 1) (.lst ys), I.laid (t' := s.toks) (fun _ _ => PyProof.Rows.sortedAll_old) (Nat.le_succ _) ⟨hy, out, ep, ry, he⟩, rfl, q ys _ _ fr (same_new fr) upd_same (ty.same (same_new fr))⟩
end
end RT
set_option Elab.async false
set_option linter.all false
set_option maxRecDepth 100000
set_option maxHeartbeats 4000000
/-! targets with a star, great ints, sums, gcd by its module's name -/
namespace RT
open PySem PySem.Spec PyProof.Rows L2
/-! ### targets with a star -/
section
variable {prog : Program} {w : World} {A : Around} {E : Value → Shared → Prop} {s : Shared}
theorem drawA {b : Bool} {it a : Addr} {its : Array Value} (ne : a ≠ it) (n : Nat) {Q : List Value → Shared → Prop} (h1 : ItA b s.heap it a 0) (h2 : HpA b s.heap a its) (hn : n ≤ its.size)
    (hQ : ∀ h', ItA b h' it a n → HpA b h' a its → Heap.SameBut it s.heap h' → Q (its.toList.take n) { s with heap := h' }) : wpAny (model prog w) A (draw (.ref it) n) Q E s := by
  cases b
  · refine PySem.W.kun_draw (items := its) ne n 0 s Q (show s.heap.IsListIter it a 0 from h1) (show s.heap.IsList a its from h2) (by omega) fun h' e1 e2 => ?_
    rw [Nat.zero_add] at e1
    rw [List.drop_zero]
    exact hQ h' e1 ((show s.heap.IsList a its from h2).extBut e2.extBut ne) e2
  · refine PyProof.Rows.draw_tuple (items := its) ne n 0 s Q (show s.heap.IsTupleIter it a 0 from h1) (show s.heap.IsTuple a its from h2) (by omega) fun h' e1 e2 => ?_
    rw [Nat.zero_add] at e1
    rw [List.drop_zero]
    exact hQ h' e1 ((show s.heap.IsTuple a its from h2).extBut e2.extBut ne) e2
theorem collectA {b : Bool} {it a : Addr} {its : Array Value} (hh : A.handled = none) (ne : a ≠ it) (n : Nat) {Q : List Value → Shared → Prop} (h1 : ItA b s.heap it a n) (h2 : HpA b s.heap a its) (hn : n ≤ its.size) (hz : its.size ≤ sizeLine) (la : a < s.heap.objs.size)
    (hQ : ∀ h' tk, (∀ c o, c ≠ it → s.heap.get? c = some o → h'.get? c = some o) → Q (its.toList.drop n) { s with heap := h', toks := tk }) : wpAny (model prog w) A (collect (.ref it)) Q E s := by
  obtain ⟨oi, hoi, _⟩ := h1.ob
  cases b
  · exact PySem.W.kun_collect (T := "list_iterator") (.inr (.inr (.inl rfl))) (Walks.list (A := A.in1) hh it a ne its) (fun j u st => st.1.typeIs) hn ⟨h1, h2⟩ (Heap.lt_size hoi) la hQ hz
  · exact PySem.W.kun_collect (T := "tuple_iterator") (.inr (.inr (.inr rfl))) (Walks.tuple (A := A.in1) hh it a ne its) (fun j u st => st.1.typeIs) hn ⟨h1, h2⟩ (Heap.lt_size hoi) la hQ hz
theorem walkable {b : Bool} {a : Addr} {its : Array Value} {Q : Bool → Shared → Prop} (h : HpA b s.heap a its) (q : Q false s) : wpAny (model prog w) A (notIterableAtAll (.ref a)) Q E s := by
  unfold notIterableAtAll
  cases b
  · exact wpAny_bind (wpAny_specialOf (show s.heap.IsList a its from h).typeIs PySem.F.slot_list_iter.lookup (wpAny_pure q))
  · exact wpAny_bind (wpAny_specialOf (show s.heap.IsTuple a its from h).typeIs PySem.F.slot_tuple_iter.lookup (wpAny_pure q))
theorem star_items {b : Bool} {a : Addr} {its : Array Value} {n i : Nat} {Q : List Value → Shared → Prop} (hh : A.handled = none) (hp : HpA b s.heap a its) (la : a < s.heap.objs.size) (hi : i < n) (hn : n ≤ its.size + 1) (hz : its.size ≤ 16384)
    (h : ∀ (h' : Heap) (tk : Nat), (∀ c o, s.heap.get? c = some o → h'.get? c = some o) →
      Q (its.toList.take i ++ [.ref h'.objs.size] ++ (its.toList.drop i).drop (its.size + 1 - n)) { s with heap := h'.push { cls := .type "list", data := .seq ((its.toList.drop i).take (its.size + 1 - n)).toArray }, toks := tk }) : wpAny (model prog w) A (unpackItems (.ref a) n (some i)) Q E s := by
  have ne : a ≠ s.heap.objs.size := Nat.ne_of_lt la
  have B := beginsA b a its
  unfold unpackItems
  refine wpAny_bind (walkable hp ?_)
  rw [if_neg (by decide)]
  refine wpAny_bind (wpAny_holding (B.iter prog w _ _ s _ hp (wpAny_bind (wpAny_holding (drawA ne i (oA_it (Heap.get?_push_size s.heap (oA_free b a))) (B.keeps _ _ hp fun c o e => Heap.get?_push_of_some _ e) (by omega) fun h1 e1 e2 e3 => ?_)))))
  have len1 : (its.toList.take i).length = i := by
    rw [List.length_take, Array.length_toList]
    omega
  rw [if_neg (show ¬ (its.toList.take i).length < i by omega)]
  have la1 : a < h1.objs.size := by
    cases b
    · obtain ⟨o, ho, _⟩ := (show h1.IsList a its from e2)
      exact Heap.lt_size ho
    · obtain ⟨o, ho, _⟩ := (show h1.IsTuple a its from e2)
      exact Heap.lt_size ho
  refine wpAny_bind (wpAny_holding (collectA (s := { s with heap := h1 }) hh ne i e1 e2 (by omega) (by rw [sizeLine_eq]; omega) la1 fun h2 tk e4 => ?_))
  have len2 : (its.toList.drop i).length = its.size - i := by rw [List.length_drop, Array.length_toList]
  have cut : (its.toList.drop i).length - (n - 1 - i) = its.size + 1 - n := by omega
  show wpAny _ _ (if (its.toList.drop i).length < n - 1 - i then _ else _) _ _ _
  rw [if_neg (show ¬ (its.toList.drop i).length < n - 1 - i by omega)]
  show wpAny _ _ (newList ((its.toList.drop i).take ((its.toList.drop i).length - (n - 1 - i))) >>= fun d => pure (its.toList.take i ++ [d] ++ (its.toList.drop i).drop ((its.toList.drop i).length - (n - 1 - i)))) _ _ _
  rw [cut]
  have kp : ∀ c o, s.heap.get? c = some o → h2.get? c = some o := fun c o e => e4 c o (Nat.ne_of_lt (Heap.lt_size e)) (e3.extBut c o (Nat.ne_of_lt (Heap.lt_size e)) (Heap.get?_push_of_some _ e))
  refine wpAny_bind (wpAny_newList (wpAny_pure (h h2 tk kp)) ?_)
  rw [List.length_take, sizeLine_eq]
  omega
end
def gStar (K : PySem.W.Frag) (n i : Nat) (t : TGs) : TG := fun v σ H Q => ∃ b a xs, v = .ref a ∧ SqA K b H a xs ∧ n ≤ xs.length + 1 ∧ xs.length ≤ 16384 ∧ ∀ D, H D = none → t (xs.take i ++ [.ref D] ++ (xs.drop i).drop (xs.length + 1 - n)) σ (upd H D (.lst ((xs.drop i).take (xs.length + 1 - n)))) Q
theorem Vals.take {xs : List V} {us : List Value} (r : Vals xs us) : ∀ k : Nat, Vals (xs.take k) (us.take k) := by
  induction r with
  | nil => intro k; simp; exact .nil
  | cons h t ih => intro k; cases k with
    | zero => exact .nil
    | succ k => exact .cons h (ih k)
theorem Vals.drop {xs : List V} {us : List Value} (r : Vals xs us) : ∀ k : Nat, Vals (xs.drop k) (us.drop k) := by
  induction r with
  | nil => intro k; simp; exact .nil
  | cons h t ih => intro k; cases k with
    | zero => exact .cons h t
    | succ k => exact ih k
theorem pg_star {X : Cx} {es : List Expr} {k : Nat} {pos : Pos} {t : TGs} {n i : Nat} (hc : X.calm = true) (h : PGs X es t) (hn : (assignEach es X.env).length = n := by rfl) (hst : (assignEach es X.env).findIdx? (·.1) = some i := by rfl) (hi : i < n := by decide) : PG X (.Tuple es k pos) (gStar X.K n i t) := by
  refine ⟨fun pins s σ H v u Q I r hw => ?_⟩
  obtain ⟨b, a, xs, e1, hq, hl, hz, hw⟩ := hw
  subst e1
  cases r
  obtain ⟨its, rv, hp, la⟩ := seqA I hq
  have en : its.toArray.size = xs.length := by rw [List.size_toArray, rv.length]
  rw [PyProof.Rows.assign_Tuple]
  refine wpAny_bind (wpAny_standAt ?_)
  unfold unpack
  rw [hn, hst]
  refine wpAny_bind (wpAny_holding (star_items (I.ok.hd hc) hp la hi (by omega) (by omega) fun h2 tk kp => ?_))
  rw [en]
  have I2 : L2.Inv X pins σ H { s with heap := h2, toks := tk } := I.kept (t' := tk) kp
  have fr : H h2.objs.size = none := I2.hok.fresh (Nat.le_refl _)
  have rv2 : Vals ((xs.drop i).take (xs.length + 1 - n)) ((its.toArray.toList.drop i).take (xs.length + 1 - n)) := Vals.take (Vals.drop (by simpa using rv) i) _
  have I3 : L2.Inv X pins σ (upd H h2.objs.size (.lst ((xs.drop i).take (xs.length + 1 - n)))) { s with heap := h2.push { cls := .type "list", data := .seq ((its.toArray.toList.drop i).take (xs.length + 1 - n)).toArray }, toks := tk } :=
    I2.laid (t' := tk) (fun c o e => Heap.get?_push_of_some _ e) (Nat.le_refl _) ⟨by rw [List.length_take, List.length_drop, sizeLine_eq]; omega, _, 0, rv2, Heap.get?_push_size h2 rfl⟩
  refine h.run pins _ σ _ (xs.take i ++ [.ref h2.objs.size] ++ (xs.drop i).drop (xs.length + 1 - n)) _ Q I3 ?_ (hw _ fr)
  exact ((Vals.take (xs := xs) (us := its.toArray.toList) (by simpa using rv) i).append (.cons (show L2.RelV (V.ref h2.objs.size) (Value.ref h2.objs.size) from rfl) .nil)).append (Vals.drop (Vals.drop (xs := xs) (us := its.toArray.toList) (by simpa using rv) i) _)
theorem pgs_star {X : Cx} {e : Expr} {pos : Pos} {es : List Expr} {g : TG} {t : TGs} (h : PG X e g) (r : PGs X es t) (hs : assignEach (.Starred e pos :: es) X.env = (true, assign e X.env) :: assignEach es X.env := by rfl) : PGs X (.Starred e pos :: es) (gCons g t) := by
  refine ⟨fun pins s σ H vs us Q I rv hw => ?_⟩
  obtain ⟨v, vr, rfl, hw⟩ := hw
  match us, rv with
  | _ :: _, .cons r1 r2 =>
  rw [hs]
  exact assignInOrder_cons (thn (h.run pins s σ H _ _ _ I r1 hw) fun _ s1 ⟨σ1, H1, I1, q1⟩ => r.run pins s1 σ1 H1 _ _ Q I1 r2 q1)
/-! ### great ints -/
theorem noPy {x y : Int} (h : x.natAbs < 2 ^ 13500) : Builtin.divisionGoesByPylong x y = false := by
  have k : ∀ z : Int, z ≠ 0 → (if z == 0 then 0 else z.natAbs.log2 / 30 + 1) = z.natAbs.log2 / 30 + 1 := fun z hz => if_neg (by simpa using hz)
  have hx : (if x == 0 then 0 else x.natAbs.log2 / 30 + 1) ≤ 450 := by
    by_cases e : x = 0
    · rw [e]
      exact Nat.zero_le _
    · have z : x.natAbs ≠ 0 := by omega
      have lt := (Nat.log2_lt z).mpr h
      rw [k x e]
      omega
  show (decide ((if y == 0 then 0 else y.natAbs.log2 / 30 + 1) > 300) && decide ((if x == 0 then 0 else x.natAbs.log2 / 30 + 1) > (if y == 0 then 0 else y.natAbs.log2 / 30 + 1) + 150)) = false
  generalize (if x == 0 then 0 else x.natAbs.log2 / 30 + 1) = a at *
  generalize (if y == 0 then 0 else y.natAbs.log2 / 30 + 1) = b at *
  by_cases hb : b > 300
  · rw [decide_eq_false (show ¬ a > b + 150 by omega), Bool.and_false]
  · rw [decide_eq_false hb]
    rfl
/-- less than so many bits -/
def Sz (b : Nat) (x : Int) : Prop := x.natAbs < 2 ^ b
def CDivZ (i j : Int) : Prop := j ≠ 0 ∧ Sz 13500 i
def CMulZ (i j : Int) : Prop := ∃ a b : Nat, Sz a i ∧ Sz b j ∧ a + b ≤ 100000
def CPowZ (i j : Int) : Prop := 0 ≤ j ∧ ∃ a : Nat, Sz a i ∧ (a : Int) * j ≤ 1000000
section
variable {X : Cx} {K : PySem.W.Frag} {H : Hp} {Q : VK}
theorem bits_of {x : Int} {b : Nat} (h : Sz b x) : Builtin.Int.intBits x ≤ b := by
  unfold Builtin.Int.intBits
  by_cases e : x = 0
  · rw [e]
    exact Nat.zero_le _
  · have z : x.natAbs ≠ 0 := by omega
    have lt := (Nat.log2_lt z).mpr h
    split <;> omega
theorem o_divZ : OpR X (binaryOp .FloorDiv) (rI CDivZ fun i j => .int (i.fdiv j)) := opI fun i j _ _ _ _ _ hc q => floordiv_int hc.1 q (.inl (noPy hc.2))
theorem o_mulZ : OpR X (binaryOp .Mult) (rI CMulZ fun i j => .int (i * j)) := opI fun i j _ _ _ _ _ hc q => mul_int q (by
  obtain ⟨a, b, ha, hb, hab⟩ := hc
  have e : bitsLine = 134217728 := by decide
  have h1 := bits_of ha
  have h2 := bits_of hb
  unfold IntMulOk
  intro z
  rw [Bool.and_eq_true] at z
  have z2 := z.2
  unfold Builtin.Int.intTooBig at z2
  have z3 := of_decide_eq_true z2
  rw [e] at z3
  omega)
theorem o_powZ : OpR X (binaryOp .Pow) (rI CPowZ fun i j => .int (i ^ j.toNat)) := opI fun i j _ _ _ _ _ hc q => pow_int hc.1 (by
  obtain ⟨h0, a, ha, hab⟩ := hc
  have h1 : (Builtin.Int.intBits i : Int) ≤ (a : Int) := Int.ofNat_le.mpr (bits_of ha)
  have h2 := Int.mul_le_mul_of_nonneg_right h1 h0
  have e : (2 : Int) ^ 27 = 134217728 := by decide
  rw [e]
  omega) q
theorem w_divZ {m n : Int} (h : n ≠ 0) (hb : Sz 13500 m) (q : Q (.int (m.fdiv n)) H) : rI CDivZ (fun i j => .int (i.fdiv j)) (.int m) (.int n) H Q := w_I ⟨h, hb⟩ q
theorem w_divP {m n : Int} (h : 0 < n) (hb : Sz 13500 m) (q : Q (.int (m / n)) H) : rI CDivZ (fun i j => .int (i.fdiv j)) (.int m) (.int n) H Q := w_divZ (by omega) hb (by rw [Int.fdiv_eq_ediv_of_nonneg m (by omega)]; exact q)
theorem w_mulZ {m n : Int} {a b : Nat} (ha : Sz a m) (hb : Sz b n) (hab : a + b ≤ 100000) (q : Q (.int (m * n)) H) : rI CMulZ (fun i j => .int (i * j)) (.int m) (.int n) H Q := w_I ⟨a, b, ha, hb, hab⟩ q
theorem w_powZ {m n : Int} {a : Nat} (h0 : 0 ≤ n) (ha : Sz a m) (hab : (a : Int) * n ≤ 1000000) (q : Q (.int (m ^ n.toNat)) H) : rI CPowZ (fun i j => .int (i ^ j.toNat)) (.int m) (.int n) H Q := w_I ⟨h0, a, ha, hab⟩ q
theorem Sz.mono {a b : Nat} {x : Int} (h : Sz a x) (l : a ≤ b) : Sz b x := Nat.lt_of_lt_of_le h (Nat.pow_le_pow_right (by decide) l)
theorem Sz.mul {a b : Nat} {x y : Int} (h : Sz a x) (k : Sz b y) : Sz (a + b) (x * y) := wide_lt h k
theorem Sz.add {a : Nat} {x y : Int} (h : Sz a x) (k : Sz a y) : Sz (a + 1) (x + y) := by
  unfold Sz at *
  rw [Nat.pow_succ]
  omega
theorem Sz.sub {a : Nat} {x y : Int} (h : Sz a x) (k : Sz a y) : Sz (a + 1) (x - y) := by
  unfold Sz at *
  rw [Nat.pow_succ]
  omega
theorem Sz.neg {a : Nat} {x : Int} (h : Sz a x) : Sz a (-x) := by
  unfold Sz at *
  omega
theorem Sz.le {a : Nat} {x y : Int} (h : Sz a y) (k : x.natAbs ≤ y.natAbs) : Sz a x := Nat.lt_of_le_of_lt k h
theorem Sz.small {x : Int} {b : Nat} (h : x.natAbs < 2 ^ 20) (hb : 20 ≤ b) : Sz b x := Nat.lt_of_lt_of_le h (Nat.pow_le_pow_right (by decide) hb)
/-! ### sums, the greatest common divisor, other things by value -/
def qSum (K : PySem.W.Frag) : List V → Hp → VK → Prop := rSum K
theorem k_sum (hc : X.calm = true) (h : X.K = K := by rfl) : CallR X (.builtin "sum") (qSum K) := h ▸ cr_sum hc
theorem w_sum {a : Addr} {ns : List Int} (h : H a = some (.lst (ns.map V.int))) (q : Q (.int ns.sum) H) : qSum K [.ref a] H Q := ⟨a, ns, rfl, SqL.of h, q⟩
theorem w_gcd {m n : Int} (q : Q (.int ((Nat.gcd m.natAbs n.natAbs : Nat) : Int)) H) : rGcd [.int m, .int n] H Q := ⟨m, n, rfl, q⟩
theorem w_ninPair {t x y : Int} {a : Addr} (h : H a = some (.tup [.int x, .int y])) (q : Q (.bl (!decide (t = x ∨ t = y))) H) : rIn K true (.int t) (.ref a) H Q := by
  refine ⟨a, _, rfl, .inr (SqT.of h), rfl, rfl, ?_⟩
  have e : (if true = true then !inV (V.int t) [V.int x, V.int y] else inV (V.int t) [V.int x, V.int y]) = !decide (t = x ∨ t = y) := by
    rw [if_pos rfl]
    congr 1
    show (([V.int x, V.int y] : List V).any fun y => eqV y (V.int t)) = _
    simp only [List.any_cons, List.any_nil, Bool.or_false]
    show (decide (x = t) || decide (y = t)) = decide (t = x ∨ t = y)
    by_cases h1 : t = x <;> by_cases h2 : t = y <;> simp [h1, h2, eq_comm]
  rw [e]
  exact q
theorem k_star {e : Expr} {es : List Expr} {te : TE} {t : TA} {p : Pos} (h : PA X (.Starred e p :: es) (StX.tStar X.K te t)) (hk : X.K = K := by rfl) : PA X (.Starred e p :: es) (StX.tStar K te t) := hk ▸ h
theorem k_tupG {tg : Expr} {n : Nat} {t : TGs} (p : PG X tg (gTup X.K n t)) (h : X.K = K := by rfl) : PG X tg (gTup K n t) := h ▸ p
theorem k_starG {tg : Expr} {n i : Nat} {t : TGs} (p : PG X tg (gStar X.K n i t)) (h : X.K = K := by rfl) : PG X tg (gStar K n i t) := h ▸ p
def onStar (K : PySem.W.Frag) (x : V) (J : Hp) (N : List V → Hp → Prop) : Prop := ∃ p xs, x = V.ref p ∧ (SqT K J p xs ∨ SqL K J p xs) ∧ N xs J
theorem w_star {e : TE} {t : TA} {σ : L2.St} {R : List V → Hp → Prop} (h : e σ H fun x J => onStar K x J fun xs L => t σ L fun ys M => R (xs ++ ys) M) : StX.tStar K e t σ H R := h
theorem w_onStarL {a : Addr} {xs : List V} {N : List V → Hp → Prop} (h : SqL K H a xs) (q : N xs H) : onStar K (.ref a) H N := ⟨a, xs, rfl, .inr h, q⟩
theorem w_onStarT {a : Addr} {xs : List V} {N : List V → Hp → Prop} (h : SqT K H a xs) (q : N xs H) : onStar K (.ref a) H N := ⟨a, xs, rfl, .inl h, q⟩
theorem w_gT2 {i j : Nat} {a : Addr} {u v : V} {σ : L2.St} {N : L2.St → Hp → Prop} (h : H a = some (.tup [u, v])) (q : N ((σ.set i (some u)).set j (some v)) H) : gTup K 2 (gCons (gName i) (gCons (gName j) gNil)) (.ref a) σ H N :=
  ⟨a, _, rfl, SqT.of h, rfl, _, _, rfl, _, _, rfl, rfl, q⟩
theorem w_gT2q {i j : Nat} {a : Addr} {u v : V} {σ : L2.St} {N : L2.St → Hp → Prop} (h : SqT K H a [u, v]) (q : N ((σ.set i (some u)).set j (some v)) H) : gTup K 2 (gCons (gName i) (gCons (gName j) gNil)) (.ref a) σ H N :=
  ⟨a, _, rfl, h, rfl, _, _, rfl, _, _, rfl, rfl, q⟩
end
/-! ### a comprehension that maps, item by item -/
theorem w_compM {J : It} {g : TG} {te : TE} {σ : L2.St} {H : Hp} {vs : List Nat} {n : Nat} {G : Hp → Prop} {Y : Nat → Hp → V → Hp → Prop} {D : Addr} {Qd : Hp → Prop} {ys : List V} (w : Walk J n G Y) (hl : ys.length = n) (hz : n ≤ 1000000) (new : H D = none) (hG : ∀ L, Same H L → G L)
    (turn : ∀ i x L M y (R : VK), i < n → Same H L → Y i L x M → ys[i]? = some y → (∀ U, Same L U → R y U) → g x (wipe σ vs) M fun σ2 N => wipe σ2 vs = wipe σ vs ∧ te σ2 N R)
    (done : ∀ L, Same H L → L D = some (.lst ys) → Qd L) : CompOf J g tYes te vs D σ Qd H := by
  refine w_comp w (fun i acc L => acc = ys.take i ∧ Same H L) new (fun L s h => ⟨by simp, s⟩) (fun i acc L h => hG L h.2) (fun i acc x L M hi ha h hD hy => ?_) (fun acc L _ hD h => ?_)
  · have ey : ys[i]? = some (ys[i]'(by omega)) := List.getElem?_eq_getElem _
    refine turn i x L M _ _ hi h.2 hy ey fun U sU => ?_
    refine w_put (sU _ _ hD) ha (by omega) fun Z e hZ => ⟨?_, ?_⟩
    · rw [h.1, List.take_add_one, ey]
      rfl
    · exact Same.ofExt (h.2.trans sU) new e
  · obtain ⟨e, s⟩ := h
    rw [e, List.take_of_length_le (by omega)] at hD
    exact done L s hD
theorem yAt_same {xs : List V} {i : Nat} {L M : Hp} {x : V} (h : YAt xs i L x M) : M = L ∧ xs[i]? = some x := h
/-! ### ints in lists and tuples -/
/-- v: a list or a tuple (b) of these ints -/
def IntsB (K : PySem.W.Frag) (H : Hp) (b : Bool) (v : V) (xs : List Int) : Prop := ∃ a, v = .ref a ∧ SqA K b H a (xs.map V.int)
theorem Same.tup {K : PySem.W.Frag} {H H' : Hp} {a : Addr} {xs : List V} (e : Same H H') (h : SqT K H a xs) : SqT K H' a xs := by
  rcases h with (h | ⟨o, h⟩) | h
  · exact .inl (.inl (e a _ h))
  · exact .inl (.inr ⟨o, e a _ h⟩)
  · exact .inr h
theorem SqA.same {K : PySem.W.Frag} {b : Bool} {H H' : Hp} {a : Addr} {xs : List V} (h : SqA K b H a xs) (e : Same H H') : SqA K b H' a xs := by
  cases b
  · exact e.seq (show SqL K H a xs from h)
  · exact Same.tup e (show SqT K H a xs from h)
theorem IntsB.same {K : PySem.W.Frag} {H H' : Hp} {b : Bool} {v : V} {xs : List Int} (h : IntsB K H b v xs) (e : Same H H') : IntsB K H' b v xs := by
  obtain ⟨a, e1, h1⟩ := h
  exact ⟨a, e1, h1.same e⟩
/-- rows of ints -/
def MatB (K : PySem.W.Frag) (H : Hp) (b : Bool) (vs : List V) (rows : List (List Int)) : Prop := vs.length = rows.length ∧ ∀ (i : Nat) (v : V) (r : List Int), vs[i]? = some v → rows[i]? = some r → IntsB K H b v r
theorem MatB.same {K : PySem.W.Frag} {H H' : Hp} {b : Bool} {vs : List V} {rows : List (List Int)} (h : MatB K H b vs rows) (e : Same H H') : MatB K H' b vs rows := ⟨h.1, fun i v r h1 h2 => (h.2 i v r h1 h2).same e⟩
theorem getI {xs : List Int} {i : Nat} {v : V} (h : (xs.map V.int)[i]? = some v) : ∃ x, v = .int x ∧ xs[i]? = some x := by
  rw [List.getElem?_map] at h
  cases e : xs[i]? with
  | none =>
    rw [e] at h
    cases h
  | some x =>
    rw [e] at h
    exact ⟨x, (Option.some.inj h).symm, rfl⟩
theorem at_int {xs : List Int} {d : Nat} (h : d < xs.length) : atI (xs.map V.int) (d : Int) = some (.int (xs.getD d 0)) := by
  have e : (xs.map V.int)[d]? = some (.int (xs.getD d 0)) := by
    rw [List.getElem?_map, List.getD_eq_getElem?_getD, List.getElem?_eq_getElem h]
    rfl
  exact atI_nat e
theorem tyA {K : PySem.W.Frag} {b : Bool} {H : Hp} {a : Addr} {xs : List V} (h : SqA K b H a xs) : TyX K H (.ref a) (.type (if b = true then "tuple" else "list")) := by
  cases b
  · rcases (show SqL K H a xs from h) with (h | ⟨o, h⟩) | ⟨o, its, n, h1, h2, _⟩
    · exact .base (.lst h)
    · exact .base (.frz h)
    · exact .kList h1 h2
  · rcases (show SqT K H a xs from h) with (h | ⟨o, h⟩) | ⟨o, its, n, h1, h2, _⟩
    · exact .base (.tup h)
    · exact .fTuple h
    · exact .kTuple h1 h2
theorem w_lenQ {K : PySem.W.Frag} {H : Hp} {Q : VK} {b : Bool} {a : Addr} {xs : List V} (h : SqA K b H a xs) (q : Q (.int (xs.length : Int)) H) : qLenQ K [.ref a] H Q := by
  cases b
  · exact ⟨a, xs, rfl, .inl h, q⟩
  · exact ⟨a, xs, rfl, .inr h, q⟩
theorem w_ixTq {K : PySem.W.Frag} {H : Hp} {Q : VK} {a : Addr} {xs : List V} {n : Int} {v : V} (h : SqT K H a xs) (e : atI xs n = some v) (q : Q v H) : rIxT K (.ref a) (.int n) H Q := ⟨a, xs, n, v, rfl, rfl, h, e, q⟩
theorem w_onEnumU {K : PySem.W.Frag} {H : Hp} {a : Addr} {xs : List V} {R : It → Hp → Prop} (h : SqT K H a xs) (q : R (Itu K a) H) : aEnumU K [.ref a] H R := ⟨a, xs, rfl, h, q⟩
/-- a new pair of a turn -/
theorem pair_same {f g : Nat → Option V} {i : Nat} {L M : Hp} {x : V} (h : YPair f g i L x M) : ∃ T u v, x = .ref T ∧ M T = some (.tup [u, v]) ∧ Same L M ∧ f i = some u ∧ g i = some v := by
  obtain ⟨T, u, v, rfl, n, rfl, h1, h2⟩ := h
  exact ⟨T, u, v, rfl, upd_same, same_new n, h1, h2⟩
def aEnumL (K : PySem.W.Frag) (vs : List V) (H : Hp) (R : It → Hp → Prop) : Prop := ∃ a xs, vs = [.ref a] ∧ SqL K H a xs ∧ R (Ite K a) H
theorem w_iEnumL {K : PySem.W.Frag} {ta : TA} {σ : L2.St} {H : Hp} {R : It → Hp → Prop} (h : ta σ H fun vs J => aEnumL K vs J R) : iEnum K ta σ H R := h
theorem w_onEnumL {K : PySem.W.Frag} {H : Hp} {a : Addr} {xs : List V} {R : It → Hp → Prop} (h : SqL K H a xs) (q : R (Ite K a) H) : aEnumL K [.ref a] H R := ⟨a, xs, rfl, h, q⟩
theorem fst_some {xs : List Int} {i : Nat} {x : Int} (h : xs[i]? = some x) (hx : x ≠ 0) (hz : ∀ j, j < i → xs.getD j 0 = 0) : Lin.fstP xs = some i := by
  unfold Lin.fstP
  rw [List.findIdx?_eq_some_iff_getElem]
  obtain ⟨hl, e⟩ := List.getElem?_eq_some_iff.mp h
  refine ⟨hl, by simpa [e] using hx, fun j hj => ?_⟩
  have := hz j hj
  rw [List.getD_eq_getElem?_getD, List.getElem?_eq_getElem (Nat.lt_trans hj hl)] at this
  simpa using this
theorem fst_none {xs : List Int} (h : ∀ j, j < xs.length → xs.getD j 0 = 0) : Lin.fstP xs = none := by
  unfold Lin.fstP
  rw [List.findIdx?_eq_none_iff]
  intro x hx
  obtain ⟨j, hj⟩ := List.mem_iff_getElem?.mp hx
  obtain ⟨hl, e⟩ := List.getElem?_eq_some_iff.mp hj
  have := h j hl
  rw [List.getD_eq_getElem?_getD, hj] at this
  simpa using this
theorem take_fold {α β : Type} (f : β → α → β) (b : β) {xs : List α} {i : Nat} {x : α} (h : xs[i]? = some x) : (xs.take (i + 1)).foldl f b = f ((xs.take i).foldl f b) x := by
  rw [List.take_add_one, h, List.foldl_append]
  rfl
end RT
set_option Elab.async false
set_option linter.all false
set_option maxRecDepth 100000
set_option maxHeartbeats 4000000
/-! sorted of a tuple of typed data -/
namespace RT
open PySem PySem.Spec PyProof.Rows L2 PySem.W
section
variable {prog : Program} {w : World} {A : Around} {E : Value → Shared → Prop} {s : Shared}
theorem gather_tup {t : Addr} {vs : List Value} {Q : List Value → Shared → Prop} (ht : s.heap.IsTuple t vs.toArray) (fits : vs.length ≤ sizeLine)
    (h : Q vs { s with heap := (s.heap.push (seqObj "list" #[] 0)).update s.heap.objs.size (Obj.mapSeq (· ++ vs.toArray)) }) :
    wpAny (model prog w) A (collect (.ref t)) Q E s := by
  obtain ⟨o, ho, hc, n, hd⟩ := id ht
  unfold PySem.collect
  refine PySem.wpAny_bind (wpAny_runValue (codeAny_builtin entry_proto_collect' ?_))
  show wpAny _ _ (do again (.builtin "list.__iadd__" ⟨[← newList [], .ref t], []⟩)) _ _ s
  refine PySem.wpAny_bind (wpAny_newList (wpAny_pure ⟨Code.quiet_builtin _ (by decide +kernel), codeAny_builtin entry_list_iadd' ?_⟩))
  have fresh : (s.heap.push (seqObj "list" #[] 0)).get? s.heap.objs.size = some (seqObj "list" #[] 0) := Heap.get?_push_size _ rfl
  have ho' : (s.heap.push (seqObj "list" #[] 0)).get? t = some o := Heap.get?_push_of_some _ ho
  show wpAny _ _ (Builtin.List.listExtendWith (.ref s.heap.objs.size) (.ref t) (.ref s.heap.objs.size)) _ _ { s with heap := s.heap.push (seqObj "list" #[] 0) }
  unfold PySem.Builtin.List.listExtendWith
  refine PySem.wpAny_bind (wpAny_typeOf (T := "tuple") ⟨o, ho', hc⟩ ?_)
  rw [if_pos (by rw [show (Value.type "tuple" == Value.type "tuple") = true from rfl]; exact Bool.or_true _)]
  refine PySem.wpAny_bind (listItems_at ho' hd ?_)
  refine PySem.wpAny_bind (listItems_at (xs := #[]) (n := 0) fresh rfl ?_)
  rw [if_neg (by simp)]
  refine PySem.wpAny_bind (listUpdate_at (xs := #[]) (n := 0) fresh rfl ?_ (Nat.zero_le _) ?_)
  · refine wpAny_pure ?_
    show wpAny (model prog w) A (load s.heap.objs.size >>= fun o => match o.data with
      | .seq xs _ => pure xs.toList
      | _ => unsupported "internal:collect") Q E { s with heap := (s.heap.push (seqObj "list" #[] 0)).update s.heap.objs.size (Obj.mapSeq (· ++ vs.toArray)) }
    refine PySem.wpAny_bind (wpAny_load (get?_update_seq fresh _) ?_)
    show wpAny _ _ (pure ((#[] : Array Value) ++ vs.toArray).toList) Q E _
    have e : ((#[] : Array Value) ++ vs.toArray).toList = vs := by simp
    rw [e]
    exact wpAny_pure h
  · show (#[] ++ vs.toArray).size ≤ sizeLine + 1
    simp only [Array.size_append, List.size_toArray, List.length_nil]
    omega
theorem sorted_tup {t : Addr} {vs : List Value} {κ : PyProof.Rows.KeyKind} {Q : Value → Shared → Prop} (ht : s.heap.IsTuple t vs.toArray) (fits : vs.length ≤ sizeLine)
    (S : SortsAt prog w A.in1.in1 { s with heap := sortingHeap (copyHeap s.heap vs) (s.heap.objs.size + 1) vs } κ vs)
    (h : Q (.ref (s.heap.objs.size + 1)) { s with heap := PyProof.Rows.sortedAll s.heap vs (sortVals κ false vs vs).toArray }) : wpAny (model prog w) A (call (.builtin "sorted") [.ref t]) Q E s := by
  refine call_function_entry_kw kind_sorted plain_sorted entry_sorted (args_sorted1 _) ?_
  unfold PySem.Builtin.«sorted»
  refine PySem.wpAny_bind (m := checkCount "sorted" 1 1 _) (wpAny_pure ?_)
  refine PySem.wpAny_bind (gather_tup ht fits ?_)
  refine PySem.wpAny_bind (wpAny_newList ?_ fits)
  have size1 : ((s.heap.push (seqObj "list" #[] 0)).update s.heap.objs.size (Obj.mapSeq (· ++ vs.toArray))).objs.size = s.heap.objs.size + 1 := by
    rw [Heap.size_update]
    exact Heap.size_push _ _
  show wpAny _ _ _ _ _ { s with heap := copyHeap s.heap vs }
  rw [size1]
  refine PySem.wpAny_bind (PySem.wpAny_holding (wpAny_call_entry_kw slot_list_sort ⟨_, copyHeap_at s.heap vs, rfl⟩ entry_list_sort ?_ (args_list_sort _)))
  exact list_sort_vals (s := { s with heap := copyHeap s.heap vs }) (copyHeap_at s.heap vs) S fits ⟨_, rfl, wpAny_pure ⟨_, rfl, h⟩⟩
variable {α : Type} [DecidableEq α] [Datum α]
def rSortU (α : Type) [DecidableEq α] [Datum α] (K : PySem.W.Frag) : List V → Hp → VK → Prop := fun vs H Q => ∃ (a : Addr) (xs : List V) (bs : List α), vs = [.ref a] ∧ SqT K H a xs ∧ Tva K H xs bs ∧ bs.length ≤ 1000 ∧
  ∀ ys p J, H p = none → Same H J → J p = some (.lst ys) → Tva K J ys (bs.mergeSort (dataLe false Datum.toD)) → Q (.ref p) J
theorem cr_sortU {X : Cx} {k : Nat} (hr : Room k X.A) (hd : Datum.depth α ≤ 60) (hal : ∀ b b' : α, alike (Datum.toD b) (Datum.toD b') = true) (hk : ∀ bs : List α, PySem.W.Sortable (bs.map Datum.toD)) : CallR X (.builtin "sorted") (rSortU α X.K) := by
  intro pins s σ H vs us Q I r h
  obtain ⟨a, xs, bs, rfl, hs, ht, hl, q⟩ := h
  obtain ⟨its, rv, pl, hz⟩ := I.tuple hs
  rw [Vals.ref1 r]
  have un := hr.units
  have e := each_of I ht rv
  have er := each_reads I e
  have er' : EachIs (fun v b => ∃ as, Reads (sortingHeap (copyHeap s.heap its) (s.heap.objs.size + 1) its) v ((Datum.toD : α → PyData) b) as) its bs := er.mono fun _ _ ⟨as, r⟩ => ⟨as, PyProof.Rows.Reads.keeps (fun _ _ => sorting_copy_old) r⟩
  have fits : its.length ≤ sizeLine := by
    rw [e.length, sizeLine_eq]
    omega
  refine sorted_tup pl fits (SortsAt.data (s := { s with heap := sortingHeap (copyHeap s.heap its) (s.heap.objs.size + 1) its }) (each_map (R := fun v d => ∃ as, Reads (sortingHeap (copyHeap s.heap its) (s.heap.objs.size + 1) its) v d as) (Datum.toD : α → PyData) er') (.of hal) (hk bs) (bound_map fun b _ => by have := Datum.depth_le b; show X.A.units + 2 + _ < _; omega)) ?_
  have eo := sortVals_data (enc := (Datum.toD : α → PyData)) false e er' (.of hal)
  obtain ⟨ys, ry, ty⟩ := each_pick eo
  obtain ⟨ep, he⟩ := PyProof.Rows.sortedAll_at s.heap its (sortVals (dataKind (sortingHeap (copyHeap s.heap its) (s.heap.objs.size + 1) its) (bs.map Datum.toD)) false its its).toArray
  have fr : H (s.heap.objs.size + 1) = none := I.hok.fresh (Nat.le_succ _)
  have hy : ys.length ≤ sizeLine := by
    rw [ry.length, sortVals_length false rfl]
    exact fits
  exact ⟨.ref _, upd H (s.heap.objs.size + 1) (.lst ys), I.laid (t' := s.toks) (fun _ _ => PyProof.Rows.sortedAll_old) (Nat.le_succ _) ⟨hy, _, ep, ry, he⟩, rfl, q ys _ _ fr (same_new fr) upd_same (ty.same (same_new fr))⟩
end
end RT
set_option Elab.async false
set_option linter.all false
set_option maxRecDepth 100000
set_option maxHeartbeats 4000000
/-! sets of texts: set(list), sorted(set) -/
namespace RT
open PySem PySem.Spec PyProof.Rows L2 PySem.Froz
/-! ### the payload -/
theorem relayAll_plain (t : SetTable) (es : Array (Int × Value)) (n : Nat) (h : t.plain = false) : (relayAll t es n).2.1.plain = false := by
  unfold relayAll
  cases q : t.relaid (es.map (·.1)) n with
  | none => rfl
  | some z =>
    obtain ⟨t', order⟩ := z
    dsimp only
    split
    · unfold SetTable.relaid SetTable.laid at q
      cases c : SetTable.layClean (SetTable.sizeAbove n - 1) (es.map (·.1)) with
      | none =>
        rw [c] at q
        simp at q
      | some owner =>
        rw [c] at q
        have e : _ = t' := congrArg Prod.fst (Option.some.inj q)
        rw [← e]
        exact h
    · rfl
/-- what holds of the payload of a set of texts -/
structure SX (P : Program) (w : World) (D : SD) (l : List Str) : Prop where
  ok : TxOk P w D l
  nd : l.Nodup
  ris : Ris D.2.2.place.toList
  led : w.params.followText "set-order" = true ∨ D.2.2.led = true
theorem sx_new {P : Program} {w : World} : SX P w (#[], 0, .fresh 0 0 (!w.params.followText "set-order")) [] := by
  refine ⟨TxOk.nil rfl, List.nodup_nil, List.Pairwise.nil, ?_⟩
  show _ ∨ (!w.params.followText "set-order") = true
  cases w.params.followText "set-order"
  · exact .inr rfl
  · exact .inl rfl
theorem off_led (t : SetTable) : (if t.plain = true then { t with plain := false } else t).led = t.led ∧ (if t.plain = true then { t with plain := false } else t).place = t.place := by
  split <;> exact ⟨rfl, rfl⟩
theorem tail_ris {ep : Nat} {es : Array (Int × Value)} {t : SetTable} {b : Bool} (r : Ris t.place.toList) : Ris (tailTx ep es t b).2.2.place.toList := by
  unfold tailTx
  split
  · exact relayAll_ris _ _ _
  · exact r
theorem tail_led {ep : Nat} {es : Array (Int × Value)} {t : SetTable} {b : Bool} : (tailTx ep es t b).2.2.led = t.led := by
  unfold tailTx
  split
  · exact relayAll_led _ _ _
  · rfl
theorem sx_add {P : Program} {w : World} {D : SD} {l : List Str} {k : Str} (u : Tok) (F : SX P w D l) (hk : k ∉ l) : SX P w (addTx (hashStr w k) (.str k u) D) (k :: l) := by
  obtain ⟨es, ep, t⟩ := D
  have r1 := layNew_ris t es (hashStr w k) (.str k u) F.ris
  have l1 := layNew_led t es (hashStr w k) (.str k u)
  obtain ⟨o1, o2⟩ := off_led (layNew t es (hashStr w k) (.str k u)).2.1
  refine ⟨add_ok u F.ok, List.nodup_cons.mpr ⟨hk, F.nd⟩, tail_ris ?_, F.led.imp_right fun e => tail_led.trans ?_⟩
  · rw [o2]
    exact r1
  · rw [o1, l1]
    exact e
section
variable {P : Program} {w : World} {A : Around} {E : Value → Shared → Prop} {s : Shared}
/-- adding what is there -/
theorem add_same {a : Addr} {T : String} {D : SD} {l : List Str} {k : Str} {u : Tok} {Q : Bool → Shared → Prop} (ho : s.heap.get? a = some (sObj T D)) (F : TxOk P w D l) (hk : k ∈ l) (hb : l.length < scanBound)
    (h : Q false s) : wpAny (model P w) A (setAddHashed a (.str k u) (hashStr w k)) Q E s := by
  obtain ⟨es, ep, t⟩ := D
  have hd : (sObj T (es, ep, t)).data = .set es ep t := rfl
  have hel : ElemsOf (strKind P w) es.toList := F.el
  have hf : t.fits es.size = true := F.fit
  have hsz : es.size = l.length := F.sz
  have key : (strKind P w).is k (.str k u) = true := PySem.Froz.is_str k u
  obtain ⟨e, he, hq⟩ := (F.mem k).mp hk
  unfold setAddHashed setAddHashedIn
  refine wpAny_holding (wpAny_bind (wpAny_setState_of ho hd hf ?_))
  dsimp only
  rw [byScan_of rfl (by omega) hel]
  simp only [↓reduceIte]
  unfold setAddByScan
  refine wpAny_bind (wpAny_bind (wpAny_rule (wpAny_bind (wpAny_setScan_of (knd := strKind P w) (k := k) key ho hd hf hel ?_))))
  cases c : List.findIdx? (fun e => (strKind P w).is k e.2) es.toList with
  | none =>
    have z := List.findIdx?_eq_none_iff.mp c e he
    rw [hq] at z
    cases z
  | some j =>
    dsimp only
    exact wpAny_pure (wpAny_pure h)
/-- the set's object with a payload like this -/
def SetAtX (P : Program) (w : World) (h : Heap) (a : Addr) (l : List Str) : Prop := ∃ D, h.get? a = some (sObj "set" D) ∧ SX P w D l
/-- S.add(k), as a set is filled -/
theorem fill_one {a : Addr} {l : List Str} {k : Str} {u : Tok} {Q : Bool → Shared → Prop} (h0 : SetAtX P w s.heap a l) (hb : l.length + 1 < scanBound)
    (h : ∀ h' tk l' b, SetAtX P w h' a l' → (∀ c o, c ≠ a → s.heap.get? c = some o → h'.get? c = some o) → s.toks ≤ tk → (∀ z, z ∈ l' ↔ z = k ∨ z ∈ l) → l'.length ≤ l.length + 1 → Q b { s with heap := h', toks := tk }) : wpAny (model P w) A (setAdd a (.str k u)) Q E s := by
  obtain ⟨D, ho, F⟩ := h0
  unfold setAdd
  refine wpAny_holding (wpAny_bind ((strKind P w).pyHash (PySem.Froz.is_str k u) ?_))
  by_cases hk : k ∈ l
  · refine add_same (s := { s with toks := s.toks + 1 }) ho F.ok hk (by omega) ?_
    exact h s.heap (s.toks + 1) l false ⟨D, ho, F⟩ (fun _ _ _ e => e) (Nat.le_succ _) (fun z => ⟨.inr, fun q => q.elim (fun e => e ▸ hk) id⟩) (Nat.le_succ _)
  · refine add_x (s := { s with toks := s.toks + 1 }) ho F.ok hk hb ?_
    refine h (s.heap.update a fun _ => sObj "set" (addTx (hashStr w k) (.str k u) D)) (s.toks + 1) (k :: l) true ⟨_, get_upd _ ho rfl, sx_add u F hk⟩ (fun c o ne e => ?_) (Nat.le_succ _) (fun z => List.mem_cons) (Nat.le_refl _)
    rw [Heap.get?_update_other _ _ (Ne.symm ne)]
    exact e
/-- what the walk has handed over so far is in the set -/
def Part (P : Program) (w : World) (h : Heap) (S : Addr) (ks : List Str) (i : Nat) : Prop := ∃ l, SetAtX P w h S l ∧ (∀ z, z ∈ l ↔ z ∈ ks.take i) ∧ l.length ≤ i
theorem SetAtX.same {h h' : Heap} {a : Addr} {l : List Str} (x : SetAtX P w h a l) (k : ∀ o, h.get? a = some o → h'.get? a = some o) : SetAtX P w h' a l := by
  obtain ⟨D, ho, F⟩ := x
  exact ⟨D, k _ ho, F⟩
theorem fill_loop {I S : Addr} {fp wr : List Addr} {G : Array GenState → Array GenState → Prop} {n : Nat} {Pv : Nat → Value → Prop} {St : Nat → Shared → Prop} {R : Result → Shared → Prop} (W : WalksS P w A.in1 I fp wr G n Pv St) (out : S ∉ fp)
    {ks : List Str} (hn : n = ks.length) (few : ks.length < 4000) (val : ∀ i v, Pv i v → ∃ k u, ks[i]? = some k ∧ v = .str k u) {h0 : Heap} (free : h0.get? S = none) (fresh : ∀ b ∈ wr, h0.get? b = none) :
    ∀ (m i : Nat) (s : Shared), n - i = m → i ≤ n → St i s → (∀ b o, h0.get? b = some o → s.heap.get? b = some o) → Part P w s.heap S ks i →
      (∀ s', Moved (S :: wr) G s s' → Part P w s'.heap S ks n → (∀ b o, h0.get? b = some o → s'.heap.get? b = some o) → R (.ok (.ret .none)) s') → codeAny (model P w) A (.builtin "set.update.loop" ⟨[.ref S, .ref I], []⟩) R s := by
  have notS : S ∉ wr := fun z => out (W.sub _ z)
  have more : ∀ b ∈ wr, b ∈ S :: wr := fun b z => List.mem_cons_of_mem _ z
  have old : ∀ {s s' : Shared}, Moved wr G s s' → (∀ b o, h0.get? b = some o → s.heap.get? b = some o) → ∀ b o, h0.get? b = some o → s'.heap.get? b = some o := fun mv k b o e =>
    mv.heap b o (fun z => by rw [fresh b z] at e; cases e) (k b o e)
  intro m
  induction m with
  | zero =>
    intro i s hm hi st k pt hR
    obtain rfl : i = n := by omega
    refine codeAny_builtin F.entry_set_update_loop ?_
    rw [Around.under_plainId F.plain_set_update_loop _]
    refine wpAny_bind (m := pyNext (.ref I)) (W.done s _ _ st fun s' mv => ?_)
    have pt' : Part P w s'.heap S ks i := by
      obtain ⟨l, x, y⟩ := pt
      exact ⟨l, x.same fun o e => mv.heap S o notS e, y⟩
    exact wpAny_pure (hR s' (mv.mono more) pt' (old mv k))
  | succ m ih =>
    intro i s hm hi st k pt hR
    refine codeAny_builtin F.entry_set_update_loop ?_
    rw [Around.under_plainId F.plain_set_update_loop _]
    refine wpAny_bind (m := pyNext (.ref I)) (W.item i s _ _ (by omega) st fun v s1 pv st1 mv => ?_)
    obtain ⟨x, u, hx, rfl⟩ := val i v pv
    have k1 := old mv k
    obtain ⟨l, xl, mem, len⟩ := pt
    have xl1 : SetAtX P w s1.heap S l := xl.same fun o e => mv.heap S o notS e
    have hi2 : i < ks.length := (List.getElem?_eq_some_iff.mp hx).1
    refine wpAny_bind (m := holding [Value.str x u] (setAdd S (.str x u))) (wpAny_holding (fill_one xl1 (by unfold scanBound; omega) fun h2 tk l2 b xl2 kp tk1 mem2 len2 => ?_))
    have part2 : Part P w h2 S ks (i + 1) := by
      refine ⟨l2, xl2, fun z => ?_, by omega⟩
      rw [mem2, mem, List.take_add_one, hx, List.mem_append]
      simp only [Option.toList_some, List.mem_singleton]
      exact or_comm
    refine wpAny_pure ⟨plainId_quiet F.plain_set_update_loop _, ih (i + 1) { s1 with heap := h2, toks := tk } (by omega) (by omega) (W.frame _ s1 _ _ st1 tk1 fun b hb o e => kp b o (fun z => out (z ▸ hb)) e) (fun b o e => ?_) part2 fun s3 mv3 pt3 k3 => ?_⟩
    · exact kp b o (fun z => by rw [z, free] at e; cases e) (k1 b o e)
    · exact hR s3 (Moved.trans W.gtrans ((mv.mono more).then_heap tk1 fun b o hb e => kp b o (fun z => hb (by rw [z]; exact List.mem_cons_self)) e) mv3) pt3 k3
abbrev freshSet (w : World) : Obj := { cls := .type "set", dict := none, data := .set #[] 0 (.fresh 0 0 (!w.params.followText "set-order")) }
theorem strs_get : ∀ {vs : List Value} {ks : List Str} {i : Nat} {v : Value}, StrsAre vs ks → vs[i]? = some v → ∃ k u, ks[i]? = some k ∧ v = .str k u
  | _, _, 0, _, .cons k u _, e => by
    cases e
    exact ⟨k, u, rfl, rfl⟩
  | _, _, i + 1, _, .cons _ _ r, e => strs_get (i := i) r e
/-- a class of the language called: what its __new__ and its __init__ do -/
theorem new_then_init {T newId initId : String} {args : List Value} {Q Q₁ : Value → Shared → Prop} (ft : TypeCalled T newId initId) (hct : checkTypeCall T ⟨args, []⟩ = pure ()) (hnew : codeAny (model P w) A.in1 (.call (.builtin newId) ⟨.type T :: args, []⟩) (wants Q₁ E) s)
    (hini : ∀ obj s₁, Q₁ obj s₁ → s₁.TypeIs obj T ∧ codeAny (model P w) A.in1 (.call (.builtin initId) ⟨obj :: args, []⟩) (wants (fun r s₂ => r = .none ∧ Q obj s₂) E) s₁) : wpAny (model P w) A (call (.type T) args) Q E s := by
  obtain ⟨c, tl, hm⟩ := ft.mro
  have e1 := ft.made
  have e2 := ft.sub
  have e3 := ft.notType
  have e4 := ft.canCreate
  refine wpAny_call (codeAny_of_tree ?_)
  show wpAny _ _ (callAny (.type T) _) _ _ _
  refine wpAny_pure ⟨Code.quiet_builtin _ (by decide +kernel), codeAny_builtin F.entry_type_call ?_⟩
  rw [Around.under_plain (weight_type_call_type T args []) rfl]
  repeat (any_goals (first | assumption | wp_step))
  refine codeAny_mono hnew fun r s₁ z => ?_
  match r, z with
  | .error _, z => exact z
  | .ok .next, z => exact z.elim
  | .ok .brk, z => exact z.elim
  | .ok .cont, z => exact z.elim
  | .ok (.ret obj), z =>
    obtain ⟨ty, ci⟩ := hini obj s₁ z
    have b1 := ft.init.lookup
    have b2 := ft.init.bind obj
    repeat (any_goals (first | assumption | wp_step))
    refine codeAny_mono ci fun r2 s2 z2 => ?_
    match r2, z2 with
    | .error _, z2 => exact z2
    | .ok .next, z2 => exact z2.elim
    | .ok .brk, z2 => exact z2.elim
    | .ok .cont, z2 => exact z2.elim
    | .ok (.ret v), z2 =>
      obtain ⟨rfl, q⟩ := z2
      repeat (any_goals (first | assumption | wp_step))
theorem set_of_texts {l : Addr} {items : Array Value} {ks : List Str} {Q : Value → Shared → Prop} (hh : A.handled = none) (hl : s.heap.IsList l items) (hS : StrsAre items.toList ks) (few : ks.length < 4000)
    (h : ∀ h' tk l', SetAtX P w h' s.heap.objs.size l' → (∀ z, z ∈ l' ↔ z ∈ ks) → l'.length ≤ ks.length → (∀ b o, s.heap.get? b = some o → h'.get? b = some o) → Q (.ref s.heap.objs.size) { s with heap := h', toks := tk }) :
    wpAny (model P w) A (call (.type "set") [.ref l]) Q E s := by
  have size : items.size = ks.length := by
    have := hS.length
    rw [Array.length_toList] at this
    exact this
  have old : ∀ b, s.heap.objs.size ≤ b → s.heap.get? b = none := fun b hb => by
    cases q : s.heap.get? b with
    | none => rfl
    | some o =>
      exact absurd (Nat.lt_of_lt_of_le (Heap.lt_size q) hb) (Nat.lt_irrefl _)
  refine new_then_init (T := "set") (Q₁ := fun obj s₁ => obj = .ref s.heap.objs.size ∧ s₁ = { s with heap := s.heap.push (freshSet w) }) F.called_set (F.typeCall_set_1 _) (code_set_led1 (.ref l) ⟨rfl, rfl⟩) ?_
  rintro obj s1 ⟨rfl, rfl⟩
  have at1 : (s.heap.push (freshSet w)).get? s.heap.objs.size = some (freshSet w) := Heap.get?_push_size _ rfl
  refine ⟨⟨_, at1, rfl⟩, codeAny_call_builtin F.called_set.init.plain F.entry_set_init (check_set_init_1 ⟨_, at1, rfl⟩ ?_)⟩
  obtain ⟨ol, hol, hcl, nl, hdl⟩ := hl
  obtain ⟨ocls, odict, odata, oslots⟩ := ol
  simp only at hcl hdl
  subst hcl; subst hdl
  have lt : l < s.heap.objs.size := Heap.lt_size hol
  have at2 : (s.heap.push (freshSet w)).get? l = some { cls := .type "list", dict := odict, data := .seq items nl, slots := oslots } := Heap.get?_push_of_some _ hol
  have isl : (s.heap.push (freshSet w)).IsList l items := ⟨_, at2, rfl, nl, rfl⟩
  have f1 := F.sub_list_set
  have f2 := F.sub_list_frozenset
  have f3 : (Value.type "list" == Value.type "dict") = false := by decide
  unfold Builtin.«set.__init__» noKeywords Builtin.Frozenset.updateFrom
  generalize hPI : pyIter = PI
  wp_walk
  subst hPI
  have sz1 : (s.heap.push (freshSet w)).objs.size = s.heap.objs.size + 1 := Heap.size_push ..
  have ne1 : l ≠ (s.heap.push (freshSet w)).objs.size := by rw [sz1]; exact Nat.ne_of_lt (Nat.lt_succ_of_lt lt)
  have out : s.heap.objs.size ∉ [(s.heap.push (freshSet w)).objs.size, l] := by
    rw [sz1]
    simp only [List.mem_cons, List.not_mem_nil, or_false, not_or]
    exact ⟨Nat.ne_of_lt (Nat.lt_succ_self _), Nat.ne_of_gt lt⟩
  refine wpAny_pyIter_list isl (wpAny_bind (wpAny_runValue ?_))
  have hh3 : A.in1.in1.in1.handled = none := by simp [hh]
  have items_at : ∀ (i : Nat) (v : Value), items[i]? = some v → ∃ k u, ks[i]? = some k ∧ v = .str k u := fun i v hv => by
    have hv2 : items.toList[i]? = some v := by rw [Array.getElem?_toList]; exact hv
    exact strs_get hS hv2
  refine fill_loop ((Walks.list hh3 _ l ne1 items).toS) out size few items_at (old _ (Nat.le_refl _)) (fun b hb => old b (by rw [List.mem_singleton.mp hb, sz1]; exact Nat.le_succ _)) (items.size - 0) 0 _ (by omega) (Nat.zero_le _)
    ⟨⟨_, Heap.get?_push_size _ rfl, rfl, rfl⟩, isl.push _⟩ (fun b o e => Heap.get?_push_of_some _ (Heap.get?_push_of_some _ e)) ⟨[], ⟨(#[], 0, .fresh 0 0 (!w.params.followText "set-order")), Heap.get?_push_of_some _ at1, sx_new⟩, fun z => by simp, Nat.zero_le _⟩ fun s' mv pt k => ?_
  obtain ⟨h', g', d', tk', os'⟩ := s'
  obtain rfl : g' = s.gens := mv.gens
  obtain rfl : d' = s.drawn := mv.drawn
  obtain rfl : os' = s.os := mv.os
  obtain ⟨l', x, mem, len⟩ := pt
  rw [size] at mem len
  exact wpAny_pure (wpAny_pure ⟨rfl, h h' tk' l' x (fun z => by rw [mem, List.take_length]) len k⟩)
theorem perm_of_sub {α : Type} [BEq α] [LawfulBEq α] : ∀ {l zs : List α}, l.Nodup → (∀ z ∈ l, z ∈ zs) → zs.length ≤ l.length → zs.Perm l
  | [], zs, _, _, n => by
    have : zs = [] := List.length_eq_zero_iff.mp (by simpa using n)
    rw [this]
  | k :: l, zs, nd, sub, n => by
    obtain ⟨n1, n2⟩ := List.nodup_cons.mp nd
    have hk := sub k List.mem_cons_self
    have p := List.perm_cons_erase hk
    refine p.trans (List.Perm.cons k (perm_of_sub n2 (fun z hz => ?_) ?_))
    · refine (List.mem_erase_of_ne (fun e => n1 (by rw [← e]; exact hz))).mpr (sub z (List.mem_cons_of_mem _ hz))
    · rw [List.length_erase_of_mem hk]
      have : zs.length ≤ l.length + 1 := n
      omega
/-- values that are texts -/
theorem strs_list : ∀ {vs : List Value}, (∀ v ∈ vs, ∃ k u, v = .str k u) → ∃ ks, StrsAre vs ks ∧ ∀ k, k ∈ ks ↔ ∃ u, Value.str k u ∈ vs
  | [], _ => ⟨[], .nil, fun k => by simp⟩
  | v :: vs, h => by
    obtain ⟨k, u, rfl⟩ := h v List.mem_cons_self
    obtain ⟨ks, a, b⟩ := strs_list (vs := vs) fun w hw => h w (List.mem_cons_of_mem _ hw)
    refine ⟨k :: ks, .cons k u a, fun z => ?_⟩
    rw [List.mem_cons, b z]
    constructor
    · rintro (rfl | ⟨u2, m⟩)
      · exact ⟨u, List.mem_cons_self⟩
      · exact ⟨u2, List.mem_cons_of_mem _ m⟩
    · rintro ⟨u2, m⟩
      rcases List.mem_cons.mp m with e | m
      · cases e
        exact .inl rfl
      · exact .inr ⟨u2, m⟩
theorem sorted_texts {a : Addr} {l : List Str} {Q : Value → Shared → Prop} (x : SetAtX P w s.heap a l) (hh : A.handled = none) (few : l.length < 4000)
    (hQ : ∀ s' p (out : List Value) (c : Nat) (ys : List Str), (∀ b o, s.heap.get? b = some o → s'.heap.get? b = some o) → s'.gens = s.gens → s'.os = s.os → s.heap.objs.size ≤ p → s'.heap.get? p = some (seqObj "list" out.toArray c) → StrsAre out ys → ys.Perm l → sortedS ys = true → Q (.ref p) s') :
    wpAny (model P w) A (call (.builtin "sorted") [.ref a]) Q E s := by
  obtain ⟨⟨es, ep, t⟩, ho, F0⟩ := x
  have hel : ElemsOf (strKind P w) es.toList := F0.ok.el
  have hsz : es.size = l.length := F0.ok.sz
  have hb : es.size < scanBound := by unfold scanBound; omega
  refine Calls.call_function_entry kind_sorted plain_sorted entry_sorted (args_sorted1 _) ?_
  unfold Builtin.«sorted»
  refine wpAny_bind (m := checkCount "sorted" 1 1 _) (wpAny_pure (wpAny_bind (collect_set (A := A.in1) hh ⟨_, ho, rfl, rfl⟩ F0.ok.fit hb F0.ris F0.led fun s1 vs k1 hz g1 o1 pm => ?_)))
  have texts : ∀ v ∈ vs, ∃ k u, v = .str k u := fun v hv => by
    obtain ⟨e, he, rfl⟩ := List.mem_map.mp (pm.mem_iff.mp hv)
    obtain ⟨⟨k, hk, _⟩, _⟩ := hel e he
    obtain ⟨u, hu⟩ := Value.isStrOf_shape hk
    exact ⟨k, u, hu⟩
  obtain ⟨zs, hS, mem⟩ := strs_list texts
  have lv : vs.length = l.length := by
    rw [pm.length_eq, List.length_map, Array.length_toList]
    exact hsz
  have pz : zs.Perm l := by
    refine perm_of_sub F0.nd (fun z hz => ?_) (by rw [← hS.length, lv]; exact Nat.le_refl _)
    obtain ⟨e, he, hq⟩ := (F0.ok.mem z).mp hz
    obtain ⟨u, hu⟩ := Value.isStrOf_shape hq
    exact (mem z).mpr ⟨u, pm.mem_iff.mpr (List.mem_map.mpr ⟨e, he, hu⟩)⟩
  have big : vs.length ≤ sizeLine := by rw [lv, sizeLine_eq]; omega
  refine wpAny_bind (wpAny_newList ?_ big)
  have oL : (s1.heap.push (seqObj "list" vs.toArray 0)).get? s1.heap.objs.size = some (seqObj "list" vs.toArray 0) := Heap.get?_push_size _ rfl
  have srt : ∀ {Q2 : Value → Shared → Prop}, (∀ st' : SortSt, (arrOf st').Perm (pairsOf vs) → SortedToK PyProof.Rows.strKind (arrOf st') (pairsOf vs).size → Q2 .none { s1 with heap := sortedHeap (s1.heap.push (seqObj "list" vs.toArray 0)) s1.heap.objs.size vs ((arrOf st').map (·.2)) }) →
      wpAny (model P w) A.in1 (call (.builtin "list.sort") [.ref s1.heap.objs.size]) Q2 E { s1 with heap := s1.heap.push (seqObj "list" vs.toArray 0) } := fun {Q2} q =>
    wpAny_call_entry PyProof.Rows.slot_list_sort ⟨_, oL, rfl⟩ PyProof.Rows.entry_list_sort (list_sort_treeKAny strKind_oneLt (s := { s1 with heap := s1.heap.push (seqObj "list" vs.toArray 0) }) oL hS.keysOf (fun v₁ v₂ rest e => keyKind_strs (by rw [← e]; exact hS)) big fun st' hp hs => ⟨_, rfl, q st' hp hs⟩) (PyProof.Rows.args_list_sort _)
  refine wpAny_bind (wpAny_holding (srt fun st' hp hs => ?_))
  obtain ⟨ys, y1, y2, y3⟩ := sorted_out_str hS hp hs
  obtain ⟨c, hc⟩ := PyProof.Rows.sortedHeap_at (vs := vs) (out := (arrOf st').map (·.2)) oL
  refine wpAny_pure ⟨_, rfl, hQ _ s1.heap.objs.size ((arrOf st').map (·.2)).toList c ys (fun b u e => ?_) g1 o1 hz (by rw [Array.toArray_toList]; exact hc) y1 (y2.trans pz) y3⟩
  have e1 := k1 b u e
  have lt := Heap.lt_size e1
  show (sortedHeap (s1.heap.push (seqObj "list" vs.toArray 0)) s1.heap.objs.size vs _).get? b = some u
  rw [PyProof.Rows.sortedHeap_old (Nat.ne_of_lt lt) (by rw [size_push']; exact Nat.lt_succ_of_lt lt)]
  exact Heap.get?_push_of_some _ e1
end
/-! ### over the abstract heap -/
def SetT (P : Program) (w : World) (a : Addr) (l : List Str) : HO := .ext fun h => SetAtX P w h a l
theorem setT_ok {P : Program} {w : World} {H : Hp} {h : Heap} {a : Addr} {l : List Str} (x : SetAtX P w h a l) : ObjOk P w H h a (SetT P w a l) := by
  obtain ⟨D, ho, F⟩ := id x
  exact ⟨x, ⟨_, ho⟩, fun h1 h2 p k => SetAtX.same p (k ·)⟩
section
variable {X : Cx}
def rSetL (K : PySem.W.Frag) (P : Program) (w : World) : List V → Hp → VK → Prop := fun xs H Q => ∃ (l : Addr) (ks : List Str), xs = [V.ref l] ∧ SqL K H l (ks.map V.str) ∧ ks.length < 4000 ∧
  ∀ a zs J, H a = none → Same H J → J a = some (SetT P w a zs) → (∀ z, z ∈ zs ↔ z ∈ ks) → zs.length ≤ ks.length → Q (.ref a) J
theorem cr_setL (hc : X.calm = true) : CallR X (.type "set") (rSetL X.K X.prog X.w) := by
  intro pins s σ H xs us Q I r h
  obtain ⟨l, ks, rfl, hl, few, q⟩ := h
  rw [Vals.ref1 r]
  obtain ⟨its, rv, pl, hz⟩ := I.list hl
  have hn : H s.heap.objs.size = none := I.hok.fresh (Nat.le_refl _)
  refine set_of_texts (P := X.prog) (w := X.w) (I.ok.hd hc) pl.isList (by simpa using rv.strs) few fun h' tk zs x mem len k => ?_
  exact ⟨.ref s.heap.objs.size, upd H s.heap.objs.size (SetT X.prog X.w s.heap.objs.size zs), I.laid (t' := tk) k (Nat.le_refl _) (setT_ok x), rfl, q _ zs _ hn (same_new hn) upd_same mem len⟩
def rSortX (P : Program) (w : World) : List V → Hp → VK → Prop := fun xs H Q => ∃ (a : Addr) (zs : List Str), xs = [V.ref a] ∧ H a = some (SetT P w a zs) ∧ zs.length < 4000 ∧
  ∀ (ys : List Str) p J, H p = none → Same H J → J p = some (.lst (ys.map V.str)) → ys.Perm zs → ys.Nodup → sortedS ys = true → Q (.ref p) J
theorem cr_sortX (hc : X.calm = true) : CallR X (.builtin "sorted") (rSortX X.prog X.w) := by
  intro pins s σ H xs us Q I r h
  obtain ⟨a, zs, rfl, ha, few, q⟩ := h
  rw [Vals.ref1 r]
  have x : SetAtX X.prog X.w s.heap a zs := (I.hok a _ ha).1
  have nd : zs.Nodup := let ⟨_, _, F⟩ := x; F.nd
  refine sorted_texts x (I.ok.hd hc) few fun s' p out c ys k g o hp hg hS pm so => ?_
  have fr : H p = none := I.hok.fresh hp
  have sz : (ys.map V.str).length ≤ sizeLine := by
    rw [List.length_map, pm.length_eq, sizeLine_eq]
    omega
  have vv : Vals (ys.map V.str) out := vals_of_strs hS
  have J : Inv X pins σ (upd H p (.lst (ys.map V.str))) { s with heap := s'.heap, gens := s'.gens, drawn := s'.drawn, toks := s'.toks } :=
    I.call (ch := []) (Un.laid k hp fr) (I.hok.laid k hp ⟨sz, out, c, vv, hg⟩) (by rw [g]; exact I.bare) (fun _ z => nomatch z)
  have e : s' = { s with heap := s'.heap, gens := s'.gens, drawn := s'.drawn, toks := s'.toks } := by
    cases s'
    cases s
    cases o
    rfl
  rw [e]
  exact ⟨.ref p, _, J, rfl, q ys p _ fr (same_new fr) upd_same pm (pm.nodup_iff.mpr nd) so⟩
end
end RT
set_option Elab.async false
set_option linter.all false
set_option maxRecDepth 100000
set_option maxHeartbeats 4000000
/-! defs with a star parameter and keyword-only ones behind it: called by position, by keywords; classes made so -/
namespace RT
open PySem PySem.Spec PyProof.Rows L2 StX
abbrev SpK := List V → List V → Hp → VK → XK → Prop
/-- a def called with keywords -/
def FnRK (P : Program) (w : World) (K : PySem.W.Frag) (mg : Str → Option Value) (base : Heap) (CX : CXT) (k : Nat) (f : Addr) (ks : List Str) (sp : SpK) : Prop :=
  ∀ (A : Around) (outer : List Env) (s : Shared) (H : Hp) (us ws : List Value) (vs zs : List V) (Q : VK) (E : XK), Room k A → Env0 P w K mg base A outer s H → Vals vs us → Vals zs ws → zs.length = ks.length → sp vs zs H Q E →
    codeAny (model P w) A (.call (.ref f) ⟨us, ks.zip ws⟩) (CR CX outer P w H s Q E) s
/-- what binding comes to: the values of the parameters before the star, and what is left over as a tuple -/
structure StB (K : PySem.W.Frag) (fd : FuncData) (qs : List Str) (pv : Str) (np : Nat) (rs : Nat → Prop) (ks : List Str) (g : List Value → List Value → List Value) (gV : List V → List V → List V) : Prop where
  to : ∀ (us rest ws : List Value), us.length = np → rs rest.length → ws.length = ks.length → ∀ (M : Model) (A' : Around) (Q : List (Str × Value) → Shared → Prop) (Ex : Value → Shared → Prop) (s : Shared), K.In s.heap →
    wpAny M A' (newTuple rest >>= fun t => pure (qs.zip (g us ws) ++ [(pv, t)])) Q Ex s → wpAny M A' (bindArgs fd ⟨us ++ rest, ks.zip ws⟩) Q Ex s
  rel : ∀ {vs zs : List V} {us ws : List Value}, Vals vs us → Vals zs ws → Vals (gV vs zs) (g us ws)
  len : ∀ (us ws : List Value), us.length = np → ws.length = ks.length → (g us ws).length = qs.length
section
variable {CX : CXT} {P : Program} {w : World} {K : PySem.W.Frag} {mg : Str → Option Value} {base : Heap} {k np : Nat} {f : Addr} {name qual pv : Str} {params : Arguments} {body : List Stmt} {scope : Scope} {dV kV doc pm cdv ct oc : Value} {an od : Option Addr}
  {osl : Array (Option Value)} {N qs ks : List Str} {rs : Nat → Prop} {sp : Sp} {g : List Value → List Value → List Value} {gV : List V → List V → List V}
def spStar (np : Nat) (rs : Nat → Prop) (gV : List V → List V → List V) (sp : Sp) : SpK := fun vs zs H Q E => ∃ ws rest, vs = ws ++ rest ∧ ws.length = np ∧ rs rest.length ∧ rest.length ≤ sizeLine ∧ ∀ p, H p = Option.none → sp (gV ws zs ++ [V.ref p]) (upd H p (.tup rest)) Q E
theorem fn_starK (lk : K.lookup f = some ⟨oc, od, .func (PySem.W.fnOf name qual params body scope dV kV doc pm an cdv ct), osl⟩) (hcd : PySem.W.codeIn K cdv qual = true) (S : FnScope N (qs ++ [pv]) scope) (hCX : CXUp CX)
    (B : StB K (PySem.W.fnOf name qual params body scope dV kV doc pm an cdv ct) qs pv np rs ks g gV)
    (hbody : ∀ (A : Around) (outer : List Env) (s : Shared) (H : Hp) (vs : List V) (Q : VK) (E : XK), Room k (A.deeper (envOfC qual scope s.heap.objs.size f cdv)) → sp vs H Q E →
      ∃ t, PSs (cxOf CX P w K mg base N qual scope f cdv A outer s H E) body t ∧ t { nx := fun _ H' => Q .non H', rt := Q } (start N vs) H) :
    FnRK P w K mg base CX (k + 1) f ks (spStar np rs gV sp) := by
  intro A outer s H us wk vs zs Q E hr e0 r rz hz hsp
  obtain ⟨ws, rest, ev, hl, hrs, hy, hq⟩ := hsp
  subst ev
  obtain ⟨u1, u2, eu, r1, r2⟩ := vals_split r
  subst eu
  have hn : H s.heap.objs.size = Option.none := e0.hok.fresh (Nat.le_refl _)
  have hl1 : u1.length = np := by rw [← r1.length]; exact hl
  have hl2 : u2.length ≤ sizeLine := by rw [← r2.length]; exact hy
  have hrs2 : rs u2.length := by rw [← r2.length]; exact hrs
  have hl3 : wk.length = ks.length := by rw [← rz.length]; exact hz
  have KX : K.In s.heap := e0.mod.kin.keeps fun b o e => (e0.bs b o e).1
  have rg := B.rel r1 rz
  have lg := B.len u1 wk hl1 hl3
  refine run_bnd lk hcd S hr e0 (G := fun xs H2 => ∃ p, H p = Option.none ∧ xs = gV ws zs ++ [V.ref p] ∧ H2 = upd H p (.tup rest)) (fun A' Ex Q' h => ?_) fun s2 H2 xs ⟨p, hp, ex, eH⟩ hr' => ?_
  · refine B.to u1 u2 wk hl1 hrs2 hl3 _ _ _ _ _ KX ?_
    refine wpAny_bind (wpAny_newTuple (wpAny_pure ?_) hl2)
    have new : ObjOk P w (upd H s.heap.objs.size (.tup rest)) (s.heap.push ({ cls := .type "tuple", data := .seq u2.toArray } : Obj)) s.heap.objs.size (.tup rest) := ⟨hy, u2, r2, ⟨_, Heap.get?_push_size _ rfl, rfl, _, rfl⟩⟩
    have un := un_laid (fs := frs outer) (s := s) (o := ({ cls := .type "tuple", data := .seq u2.toArray } : Obj)) (u := .tup rest) hn
    have z := h _ _ (gV ws zs ++ [V.ref s.heap.objs.size]) (g u1 wk ++ [Value.ref s.heap.objs.size]) (env0_laid e0 new) un rfl (fun e s' => hCX outer s H _ _ E e s' un (fun b o q => Heap.get?_push_of_some _ q) rfl) (rg.append (.cons rfl .nil))
      (by rw [List.length_append, List.length_append, rg.length, lg] <;> rfl) ⟨_, hn, rfl, rfl⟩
    rw [List.zip_append lg.symm] at z
    exact z
  · subst ex eH
    exact hbody A outer s2 _ _ Q E hr' (hq p hp)
end
/-- the looks of keyword defaults, one behind another, then the rest -/
theorem wp_kwd {α β γ : Type} {K : PySem.W.Frag} {M : Model} {A : Around} {D : Addr} {x : Str} {v : Value} {k1 : Option Value → Sem β} {k2 : β → Sem γ} {k3 : γ → Sem α} {a : β} {Q : α → Shared → Prop} {Ex : Value → Shared → Prop} {s : Shared} (X : K.In s.heap)
    (h : PySem.W.nsIn K D x = some (some v)) (e : k1 (some v) = pure a) (q : wpAny M A (k2 a >>= k3) Q Ex s) : wpAny M A (((nsGet D x >>= k1) >>= k2) >>= k3) Q Ex s := by
  have l1 : PySem.W.Looks M s.heap (nsGet D x >>= k1) a := (PySem.W.looks_nsIn X h).andThen (PySem.W.Looks.of_pure e)
  rw [bind_assoc]
  exact wpAny_bind (l1.here q)

/-! ### C(e, .., k = v, ..) by such an __init__ -/
def tMakeRK (C : Addr) (m : Nat) (sp : SpK) (E : XK) (t tk : TA) : TE := fun σ H Q => t σ H fun vs H1 => tk σ H1 fun zs H2 => zs.length = m ∧ ∀ x dx, H2 x = Option.none → H2 dx = Option.none → dx ≠ x →
  sp (V.ref x :: vs) zs (upd (upd H2 dx (.own x)) x (.ins C dx [])) (fun v H3 => v = .non ∧ Q (.ref x) H3) E
section
variable {X : Cx} {CX : CXT} {k : Nat} {f C : Addr} {sp : SpK} {E : XK} {x : Str} {e : Expr} {es : List Expr} {kws : List Keyword} {t tk : TA} {p pos : Pos} {ks : List Str}
theorem run_makeRK {pins : List (Addr × Obj)} {σ : L2.St} {H : Hp} {s : Shared} {Q : VK} {us ws : List Value} {vs zs : List V} (M : Mk X.K C f) (F : FnRK X.prog X.w X.K X.mg X.base CX k f ks sp) (hr : Room (k + 1) X.A) (hx : Passes CX X E) (I : Inv X pins σ H s) (r : Vals vs us) (rz : Vals zs ws) (lz : zs.length = ks.length)
    (h : ∀ x dx, H x = Option.none → H dx = Option.none → dx ≠ x → sp (V.ref x :: vs) zs (upd (upd H dx (.own x)) x (.ins C dx [])) (fun v H2 => v = .non ∧ Q (.ref x) H2) E) :
    wpAny (model X.prog X.w) X.A (call (.ref C) us (ks.zip ws)) (EP X pins σ Q) X.xe s := by
  have hq := h (s.heap.objs.size + 1) s.heap.objs.size (I.hok.fresh (Nat.le_succ _)) (I.hok.fresh (Nat.le_refl _)) (Nat.ne_of_lt (Nat.lt_succ_self _))
  have I2 := Inv.made (C := C) I
  have r2 : Vals (V.ref (s.heap.objs.size + 1) :: vs) (Value.ref (s.heap.objs.size + 1) :: us) := .cons rfl r
  refine wpAny_call (make_map (f := f) I.kIn M.makes M.init (beq_iff_eq.mp M.fn) (codeAny_mono (F _ X.stack _ _ (Value.ref (s.heap.objs.size + 1) :: us) ws _ zs _ E (hr.make C us (ks.zip ws)) (I2.env0.make C us (ks.zip ws)) r2 rz lz hq) fun r s' hq' => ?_))
  cases r with
  | error e => exact hx pins σ _ _ e s' I2 hq'
  | ok fl =>
    cases fl with
    | ret u =>
      obtain ⟨v, H', I3, rv, ev, q3⟩ := I2.after hq'
      subst ev
      exact ⟨rv, ⟨V.ref (s.heap.objs.size + 1), H', I3, rfl, q3⟩⟩
    | next => exact False.elim hq'
    | brk => exact False.elim hq'
    | cont => exact False.elim hq'
/-- C(k = v, ..) -/
theorem pe_makeRK0 (M : Mk X.K C f) (F : FnRK X.prog X.w X.K X.mg X.base CX k f ks sp) (hr : Room (k + 1) X.A) (hg : Gl X x) (hm : X.mg x = some (.ref C)) (hx : Passes CX X E) (hkw : PK X kws tk)
    (hall : (backToKw pos (keywordEach kws X.env)).all (·.1.isSome) = true := by rfl) (hks : (backToKw pos (keywordEach kws X.env)).filterMap (·.1) = ks := by rfl) (hdb : (x == ("__debug__" : Str)) = false := by decide)
    (hpl : ((backTo pos (starEach [] X.env)).any (·.1) || (backToKw pos (keywordEach kws X.env)).any (·.1.isNone)) = false := by rfl) :
    PE X (.Call (.Name x p) [] kws pos) (tMakeRK C ks.length sp E tNil tk) := by
  refine ⟨fun pins s σ H Q I h => ?_⟩
  refine wpAny_Call_Name_kw (ld_glob I hg hm ?_ hdb)
  refine PySem.W.callWith_KW0 (h₀ := X.base) I.ok.mod.kin M.kp hall ?_ hpl
  refine thn (hkw.run pos pins s σ H _ I h) fun ws s2 ⟨zs, H2, I2, rz, l2, q2⟩ => ⟨I2.kIn, ?_⟩
  rw [hks]
  exact run_makeRK (us := []) (vs := []) M F hr hx I2 .nil rz l2 q2
/-- C(e, .., k = v, ..) -/
theorem pe_makeRK (M : Mk X.K C f) (F : FnRK X.prog X.w X.K X.mg X.base CX k f ks sp) (hr : Room (k + 1) X.A) (hg : Gl X x) (hm : X.mg x = some (.ref C)) (hx : Passes CX X E) (ha : PA X (e :: es) t) (hkw : PK X kws tk)
    (hall : (backToKw pos (keywordEach kws X.env)).all (·.1.isSome) = true := by rfl) (hks : (backToKw pos (keywordEach kws X.env)).filterMap (·.1) = ks := by rfl) (hdb : (x == ("__debug__" : Str)) = false := by decide)
    (he : starEach (e :: es) X.env = (false, eval e X.env) :: starEach es X.env := by rfl) (hpl : ((backTo pos (starEach (e :: es) X.env)).any (·.1) || (backToKw pos (keywordEach kws X.env)).any (·.1.isNone)) = false := by rfl) :
    PE X (.Call (.Name x p) (e :: es) kws pos) (tMakeRK C ks.length sp E t tk) := by
  refine ⟨fun pins s σ H Q I h => ?_⟩
  refine wpAny_Call_Name_kw (ld_glob I hg hm ?_ hdb)
  refine PySem.W.callWith_KW (h₀ := X.base) I.ok.mod.kin M.kp hall (thn (ha.run pos pins s σ H _ I h) fun us s1 ⟨vs, H1, I1, r, q⟩ => ?_) hpl he
  refine thn (hkw.run pos pins s1 σ H1 _ I1 q) fun ws s2 ⟨zs, H2, I2, rz, l2, q2⟩ => ⟨I2.kIn, ?_⟩
  rw [hks]
  exact run_makeRK M F hr hx I2 r rz l2 q2
/-- C(e, ..) without keywords -/
theorem FnRK.plain {P : Program} {w : World} {K : PySem.W.Frag} {mg : Str → Option Value} {base : Heap} (F : FnRK P w K mg base CX k f [] sp) : FnR P w K mg base CX k f (fun vs H Q E => sp vs [] H Q E) := fun A outer s H us vs Q E hr e0 r h => F A outer s H us [] vs [] Q E hr e0 r .nil rfl h
end
/-- a class of this program made with such keywords -/
structure CalK (P : Program) (w : World) (K : PySem.W.Frag) (mg : Str → Option Value) (base : Heap) (k : Nat) (x : Str) (C : Addr) (ks : List Str) (sp : SpK) : Prop where
  ex : ∃ f, Mk K C f ∧ FnRK P w K mg base CX0 k f ks sp ∧ mg x = some (.ref C)
section
variable {X : Cx} {k j : Nat} {C : Addr} {sp : SpK} {x : Str} {e : Expr} {es : List Expr} {kws : List Keyword} {t tk : TA} {p pos : Pos} {ks : List Str}
theorem pe_mkK0 (c : CalK X.prog X.w X.K X.mg X.base k x C ks sp) (hr : Room j X.A) (hj : k + 1 ≤ j) (hg : Gl X x) (hkw : PK X kws tk)
    (hall : (backToKw pos (keywordEach kws X.env)).all (·.1.isSome) = true := by rfl) (hks : (backToKw pos (keywordEach kws X.env)).filterMap (·.1) = ks := by rfl) (hdb : (x == ("__debug__" : Str)) = false := by decide)
    (hpl : ((backTo pos (starEach [] X.env)).any (·.1) || (backToKw pos (keywordEach kws X.env)).any (·.1.isNone)) = false := by rfl) :
    PE X (.Call (.Name x p) [] kws pos) (tMakeRK C ks.length sp E0 tNil tk) := by
  obtain ⟨f, M, F, hm⟩ := c.ex
  exact pe_makeRK0 M F (hr.mono hj) hg hm pass0 hkw hall hks hdb hpl
theorem pe_mkK (c : CalK X.prog X.w X.K X.mg X.base k x C ks sp) (hr : Room j X.A) (hj : k + 1 ≤ j) (hg : Gl X x) (ha : PA X (e :: es) t) (hkw : PK X kws tk)
    (hall : (backToKw pos (keywordEach kws X.env)).all (·.1.isSome) = true := by rfl) (hks : (backToKw pos (keywordEach kws X.env)).filterMap (·.1) = ks := by rfl) (hdb : (x == ("__debug__" : Str)) = false := by decide)
    (he : starEach (e :: es) X.env = (false, eval e X.env) :: starEach es X.env := by rfl) (hpl : ((backTo pos (starEach (e :: es) X.env)).any (·.1) || (backToKw pos (keywordEach kws X.env)).any (·.1.isNone)) = false := by rfl) :
    PE X (.Call (.Name x p) (e :: es) kws pos) (tMakeRK C ks.length sp E0 t tk) := by
  obtain ⟨f, M, F, hm⟩ := c.ex
  exact pe_makeRK M F (hr.mono hj) hg hm pass0 ha hkw hall hks hdb he hpl
/-- without keywords -/
def tMakeR0 (C : Addr) (sp : SpK) (t : TA) : TE := tMakeR C (fun vs H Q E => sp vs [] H Q E) E0 t
theorem pe_mkR (c : CalK X.prog X.w X.K X.mg X.base k x C [] sp) (hr : Room j X.A) (hj : k + 1 ≤ j) (hg : Gl X x) (ha : PA X (e :: es) t) (hdb : (x == ("__debug__" : Str)) = false := by decide)
    (he : starEach (e :: es) X.env = (false, eval e X.env) :: starEach es X.env := by rfl) (hpl : (backTo pos (starEach es X.env)).any (·.1) = false := by rfl) : PE X (.Call (.Name x p) (e :: es) [] pos) (tMakeR0 C sp t) := by
  obtain ⟨f, M, F, hm⟩ := c.ex
  exact pe_makeR M F.plain (hr.mono hj) hg hm pass0 ha hdb he hpl
end
section
variable {C : Addr} {m : Nat} {sp : SpK} {E : XK} {t tk : TA} {σ : L2.St} {H : Hp} {Q : VK}
def aMk (C : Addr) (m : Nat) (sp : SpK) (vs zs : List V) (H2 : Hp) (Q : VK) : Prop := zs.length = m ∧ ∀ x dx, H2 x = Option.none → H2 dx = Option.none → dx ≠ x → sp (V.ref x :: vs) zs (upd (upd H2 dx (.own x)) x (.ins C dx [])) (fun v H3 => v = .non ∧ Q (.ref x) H3) E0
theorem w_mkK (h : t σ H fun vs H1 => tk σ H1 fun zs H2 => aMk C m sp vs zs H2 Q) : tMakeRK C m sp E0 t tk σ H Q := h
def aMk0 (C : Addr) (sp : SpK) (vs : List V) (H2 : Hp) (Q : VK) : Prop := ∀ x dx, H2 x = Option.none → H2 dx = Option.none → dx ≠ x → sp (V.ref x :: vs) [] (upd (upd H2 dx (.own x)) x (.ins C dx [])) (fun v H3 => v = .non ∧ Q (.ref x) H3) E0
theorem w_mkR (h : t σ H fun vs H2 => aMk0 C sp vs H2 Q) : tMakeR0 C sp t σ H Q := h
end
end RT
set_option Elab.async false
set_option linter.all false
set_option maxRecDepth 100000
set_option maxHeartbeats 4000000
/-! instances of own classes: str, repr, ==, != by their own defs -/
namespace RT
open PySem PySem.Spec PyProof.Rows L2
/-- the class (or one above it) has the def at f under this name -/
structure OwnM (K : PySem.W.Frag) (C : Addr) (n : Str) (f : Addr) : Prop where
  at_ : PySem.W.findIn K (.ref C) n = some (some (.ref f))
  fn : PySem.W.isFn K (.ref f) = true
theorem ins_inst {X : Cx} {pins : List (Addr × Obj)} {σ : L2.St} {H : Hp} {s : Shared} {a C dx : Addr} {fs : List (Str × V)} (I : Inv X pins σ H s) (e : H a = some (.ins C dx fs)) : ∃ ox od, PySem.W.InstAt s.heap a ox C od := by
  obtain ⟨mA, O, _⟩ := ins_get I.hok e
  obtain ⟨od, J, _⟩ := O.look
  exact ⟨_, _, J⟩
section
variable {X : Cx} {k : Nat} {f : Addr} {fd : FuncData} {ps : List Str} {sp : Sp} {pins : List (Addr × Obj)} {σ : L2.St} {H : Hp} {s : Shared} {Q : VK}
/-- a def called somewhere below the running body -/
theorem run_below {us : List Value} {vs : List V} (F : FnOk X.prog X.w X.K X.mg X.base CX0 k f fd ps sp) (A : Around) (hA : A.frames = X.A.frames) (hr : Room k A) (hb : Binds X.K fd ps []) (I : Inv X pins σ H s) (r : Vals vs us) (h : sp vs H Q E0) :
    wpAny (model X.prog X.w) A (call (.ref f) us) (EP X pins σ Q) X.xe s := by
  have hl : (us ++ []).length = ps.length := by
    rw [List.append_nil, ← r.length]
    exact F.len _ _ _ _ h
  have e0 : Env0 X.prog X.w X.K X.mg X.base A X.stack s H := by
    have e := I.env0
    exact ⟨by rw [hA]; exact e.frames, e.mod, e.bs, e.bsz, e.funs, e.frf, e.hok, e.bare⟩
  have b := hb s us I.kIn hl
  rw [List.append_nil] at b
  refine wpAny_call (codeAny_mono (F.run A X.stack s H ⟨us, []⟩ us vs Q E0 hr e0 b r h) fun r s' hq => ?_)
  match r, hq with
  | .error _, hq => exact False.elim hq
  | .ok (.ret u), hq => exact I.after hq
  | .ok .next, hq => exact False.elim hq
  | .ok .brk, hq => exact False.elim hq
  | .ok .cont, hq => exact False.elim hq
end
/-- a text comes back -/
def aStr (Q : VK) : VK := fun v J => ∃ z, v = .str z ∧ Q (.str z) J
theorem strBack {X : Cx} {pins : List (Addr × Obj)} {σ : L2.St} {Q : VK} {u : Value} {s' : Shared} (h : EP X pins σ (aStr Q) u s') : PySem.W.StrBack (fun u' s'' => EP X pins σ Q u' s'') u s' := by
  obtain ⟨v, J, I, r, z, rfl, q⟩ := h
  obtain ⟨t, rfl⟩ := (show ∃ t, u = Value.str z t from r)
  exact ⟨.str z, J, I, r, q⟩
section
open PySem.Calls PySem.W
open Builtin Builtin.Str
variable {prog : Program} {w : World} {A : Around} {E : Value → Shared → Prop} {s : Shared} {K : Frag} {x C f : Addr} {ox : Obj} {od : Option Obj}
/-- some text that Q speaks of -/
def TxtQ (Q : Value → Shared → Prop) : Value → Shared → Prop := fun r s' => ∃ y u, r = .str y u ∧ Q r s'
theorem txtQ_of {Q : Value → Shared → Prop} {r : Value} {s' : Shared} (z : StrBack Q r s') : TxtQ Q r s' := by
  cases r with
  | str y u => exact ⟨y, u, rfl, z⟩
  | _ => exact z.elim
theorem text_by_own {B : Around} {Q : Value → Shared → Prop} (hu : B.units < cLine) (X : K.In s.heap) (I : InstAt s.heap x ox C od) (m : OwnM K C "__str__" f) (h : wpAny (model prog w) B (call (.ref f) [.ref x]) (StrBack Q) E s) :
    wpAny (model prog w) B (Builtin.Str.strOf (.ref x)) (TxtQ Q) E s := by
  have body : wpAny (model prog w) B (call (.ref f) [.ref x]) (TxtQ Q) E s := wpAny_mono h (fun r s' z => txtQ_of z) fun _ _ z => z
  unfold Builtin.Str.strOf
  have no : isExactStr (.ref x) = false := rfl
  rw [no]
  refine wpAny_bind (m := cRoomFor _ _) (wpAny_cRoomFor hu (wpAny_bind (m := callSpecial? (.ref x) (Str.ofString "__str__")) ?_))
  refine special_fn X I m.at_ (beq_iff_eq.mp m.fn) (wpAny_mono body (fun r s' z => ?_) fun _ _ z => z)
  obtain ⟨y, u, rfl, q⟩ := z
  exact wpAny_pure ⟨y, u, rfl, q⟩
theorem call_str_own {Q : Value → Shared → Prop} (hu : A.in1.in1.units < cLine) (X : K.In s.heap) (I : InstAt s.heap x ox C od) (m : OwnM K C "__str__" f)
    (h : wpAny (model prog w) A.in1.in1 (call (.ref f) [.ref x]) (StrBack Q) E s) : wpAny (model prog w) A (call (.type "str") [.ref x]) Q E s := by
  have made := text_by_own hu X I m h
  have p1 : plainId "str.__new__" = true := by decide +kernel
  refine callType_codes (T := "str") (Bi := Builtin.«object.__init__») (Q₁ := TxtQ Q) PySem.F.called_str (PySem.F.typeCall_str_1 _) PySem.F.entry_object_init (codeAny_of_tree ?new) ?ini
  case ini =>
    intro obj s1 z
    obtain ⟨y, u, rfl, q⟩ := z
    refine ⟨typeIs_str s1 y u, PySem.F.args_object_init_2 _ _, ?_⟩
    exact object_init_meets PySem.F.called_str.init.lookup PySem.F.called_str.made (by decide) prog w A.in1 _ s1 ⟨typeIs_str s1 y u, rfl, q⟩
  case new =>
    show wpAny _ A.in1.in1 (checkBuiltinCall "str.__new__" ⟨[.type "str", .ref x], []⟩ >>= fun _ => again (.builtin "str.__new__" ⟨[.type "str", .ref x], []⟩)) _ _ s
    have inner : codeAny (model prog w) A.in1 (.builtin "str.__new__" ⟨[.type "str", .ref x], []⟩) (wants (TxtQ Q) E) s := by
      refine codeAny_builtin PySem.F.entry_str_new ?_
      rw [Around.under_plainId p1 _, str_new_tree]
      exact wpAny_bind (wpAny_pure (wpAny_bind (wpAny_of_eq isSubtype_str_str (wpAny_bind (wpAny_mono made (fun r s1 z => wpAny_pure z) fun _ _ z => z)))))
    exact wpAny_bind (wpAny_of_eq (PySem.F.newCall_str_1 _) (wpAny_pure ⟨plainId_quiet p1 _, inner⟩))
theorem call_repr_own {Q : Value → Shared → Prop} (hu : A.in1.units < cLine) (X : K.In s.heap) (I : InstAt s.heap x ox C od) (hs : findIn K (.ref C) "__repr__" = some (some (.ref f))) (hf : isFn K (.ref f) = true)
    (h : wpAny (model prog w) A.in1 (call (.ref f) [.ref x]) (StrBack Q) E s) : wpAny (model prog w) A (call (.builtin "repr") [.ref x]) Q E s := by
  refine PySem.Calls.call_function_entry PySem.F.kind_repr PySem.F.plain_repr PySem.F.entry_repr (PySem.F.args_repr1 _) ?_
  unfold Builtin.«repr»
  refine wpAny_bind (m := oneArg "repr" _) (wpAny_pure ?_)
  refine wpAny_bind (m := cRoomFor _ _) (wpAny_cRoomFor hu ?_)
  refine wpAny_bind (m := specialOf _ _) (wpAny_bind (I.type.here ((looks_findIn X hs).here ?_)))
  refine wpAny_bind (m := callSpecialIfBound? (.ref x) (Str.ofString "__repr__")) (ifBound_K X I hs hf (wpAny_mono h (fun r s' z => ?_) fun _ _ y => y))
  cases r <;> first | exact z.elim | exact wpAny_bind (wpAny_isInstance (T := "str") (b := true) (typeIs_str _ _ _) isSubtype_str_str (wpAny_pure ⟨_, rfl, z⟩))
/-- a comparison that the left side settles -/
theorem rich_left {op : CmpOp} {b tb : Value} {Q : Value → Shared → Prop} (hu : A.units < cLine) (X : K.In s.heap) (I : InstAt s.heap x ox C od) (ht : Looks (model prog w) s.heap (typeOf b) tb) (hn : notFirst K C tb = true)
    (left : wpAny (model prog w) A (tryCompare (.ref x) (cmpInfo op).2.1 b) (fun r s' => ∃ v, r = some v ∧ Q v s') E s) : wpAny (model prog w) A (richCompare op (.ref x) b) Q E s := by
  have done_ : ∀ r s', (∃ v, r = some v ∧ Q v s') → ∀ k : Sem Value, wpAny (model prog w) A (match r with | some v => pure v | none => k) Q E s' := by
    rintro r s' ⟨v, rfl, q⟩ k
    exact wpAny_pure q
  unfold richCompare
  simp only [oneThing_ref]
  refine wpAny_holding (wpAny_bind (wpAny_cRoomFor hu (wpAny_bind (I.type.here (wpAny_bind (ht.here ?_))))))
  by_cases same : ((Value.ref C) != tb) = true
  · have sub : subIn K tb (.ref C) = some false := by
      rcases Bool.or_eq_true_iff.mp hn with e | e
      · rw [beq_iff_eq.mp e] at same
        simp at same
      · exact beq_iff_eq.mp e
    rw [if_pos same]
    refine wpAny_bind ((looks_subIn X sub).here ?_)
    rw [if_neg Bool.false_ne_true]
    exact wpAny_bind (wpAny_mono left (fun r s' z => by obtain ⟨v, rfl, q⟩ := z; exact wpAny_pure q) fun _ _ z => z)
  · rw [if_neg same]
    refine wpAny_bind (wpAny_pure ?_)
    rw [if_neg Bool.false_ne_true]
    exact wpAny_bind (wpAny_mono left (fun r s' z => by obtain ⟨v, rfl, q⟩ := z; exact wpAny_pure q) fun _ _ z => z)
/-- != by the own == -/
theorem try_ne_own {b : Value} {Q : Option Value → Shared → Prop} (hu : A.in1.units < cLine) (X : K.In s.heap) (I : InstAt s.heap x ox C od) (he : OwnM K C "__eq__" f) (hne : findIn K (.ref C) "__ne__" = some (some (.builtin "object.__ne__"))) (hm : mroIn K C (.type "object") = some true)
    (h : wpAny (model prog w) A.in1 (call (.ref f) [.ref x, b]) (fun v s' => ∃ c, v = .bool c ∧ Q (some (.bool (!c))) s') E s) : wpAny (model prog w) A (tryCompare (.ref x) "__ne__" b) Q E s := by
  have inner : wpAny (model prog w) A (call (.builtin "object.__ne__") [.ref x, b]) (fun v s' => ∃ c, v = .bool c ∧ Q (some v) s') E s := by
    refine wpAny_call (codeAny_call_builtin PySem.F.slot_object_ne.plain PySem.F.cmpEntry_ne (check_slot PySem.F.cmpKind_ne PySem.F.cmpSplit_ne (I.type.andThen (looks_mroIn X hm)) (PySem.F.cmpArgs_ne _ _) ?_))
    unfold Builtin.«object.__ne__»
    refine wpAny_bind (m := slotArgs "__ne__" 1 _) (wpAny_pure (wpAny_bind (m := cRoomFor _ _) (wpAny_cRoomFor hu ?_)))
    refine wpAny_bind (m := callSpecialIfBound? (.ref x) (Str.ofString "__eq__") [b]) (ifBound_K X I he.at_ he.fn (wpAny_mono h (fun v s' z => ?_) fun _ _ z => z))
    obtain ⟨c, rfl, q⟩ := z
    exact wpAny_bind (wpAny_truthy_bool (wpAny_pure ⟨_, rfl, q⟩))
  unfold tryCompare
  have bnd : wpAny (model prog w) A (callSpecialIfBound? (.ref x) "__ne__" [b]) (fun r s' => ∃ c, r = some (.bool c) ∧ Q r s') E s := by
    have last : wpAny (model prog w) A (call (.builtin "object.__ne__") ([.ref x] ++ [b]) >>= fun v => pure (some v)) (fun r s' => ∃ c, r = some (.bool c) ∧ Q r s') E s :=
      wpAny_bind (wpAny_mono inner (fun v s' z => by obtain ⟨c, rfl, q⟩ := z; exact wpAny_pure ⟨c, rfl, q⟩) fun _ _ z => z)
    have bs : bindSpecial (.builtin "object.__ne__") (.ref x) = pure (.builtin "object.__ne__", [.ref x]) := PySem.F.slot_object_ne.bind _
    simp only [callSpecialIfBound?, bindSpecialIfBound?, bs]
    refine wpAny_holding (wpAny_bind (wpAny_bind (wpAny_bind (I.type.here ((looks_findIn X hne).here (wpAny_bind (wpAny_askSetting (wpAny_ite ?_))))))))
    split
    · exact wpAny_bind (wpAny_pure (wpAny_pure last))
    · exact wpAny_tryCatch (wpAny_bind (wpAny_pure (wpAny_pure last)))
  exact wpAny_bind (wpAny_mono bnd (fun r s' z => by obtain ⟨c, rfl, q⟩ := z; exact wpAny_pure q) fun _ _ z => z)
end
/-! ### over the abstract heap -/
/-- a method of a class: its def keeps its promise -/
structure CalM (P : Program) (w : World) (K : PySem.W.Frag) (mg : Str → Option Value) (base : Heap) (k : Nat) (C : Addr) (n : Str) (ps : List Str) (sp : Sp) : Prop where
  ex : ∃ f fd, OwnM K C n f ∧ FnOk P w K mg base CX0 k f fd ps sp ∧ Binds K fd ps []
/-- a truth value comes back -/
def aBool (Q : VK) : VK := fun v J => ∃ b, v = .bl b ∧ Q (.bl b) J
def rStrO (C : Addr) (sp : Sp) : List V → Hp → VK → Prop := fun xs H Q => ∃ a dx fs, xs = [V.ref a] ∧ H a = some (.ins C dx fs) ∧ sp [.ref a] H (aStr Q) E0
section
variable {X : Cx} {C : Addr} {sp : Sp} {k j : Nat}
theorem cr_strO (c : CalM X.prog X.w X.K X.mg X.base k C "__str__" ["self"] sp) (hr : Room j X.A) (hk : k + 3 ≤ j) : CallR X (.type "str") (rStrO C sp) := by
  intro pins s σ H xs us Q I r h
  obtain ⟨a, dx, fs, rfl, ea, q⟩ := h
  rw [Vals.ref1 r]
  obtain ⟨f, fd, m, F, b⟩ := c.ex
  obtain ⟨ox, od, J⟩ := ins_inst I ea
  have hr2 : Room (k + 1) X.A.in1.in1 := (hr.mono hk).in1.in1
  exact call_str_own hr2.units0 I.kIn J m (wpAny_mono (run_below (vs := [V.ref a]) F X.A.in1.in1 rfl (hr2.mono (Nat.le_succ _)) b I (.cons rfl .nil) q) (fun u s' z => strBack z) fun _ _ z => z)
theorem cr_reprO (c : CalM X.prog X.w X.K X.mg X.base k C "__repr__" ["self"] sp) (hr : Room j X.A) (hk : k + 3 ≤ j) : CallR X (.builtin "repr") (rStrO C sp) := by
  intro pins s σ H xs us Q I r h
  obtain ⟨a, dx, fs, rfl, ea, q⟩ := h
  rw [Vals.ref1 r]
  obtain ⟨f, fd, m, F, b⟩ := c.ex
  obtain ⟨ox, od, J⟩ := ins_inst I ea
  have hr2 : Room (k + 1) X.A.in1 := (hr.mono hk).in1.mono (Nat.le_succ _)
  exact call_repr_own hr2.units0 I.kIn J m.at_ m.fn (wpAny_mono (run_below (vs := [V.ref a]) F X.A.in1 rfl (hr2.mono (Nat.le_succ _)) b I (.cons rfl .nil) q) (fun u s' z => strBack z) fun _ _ z => z)
/-- a == b, a of the class -/
def oEqO (K : PySem.W.Frag) (C : Addr) (sp : Sp) : R2 := fun x y H Q => ∃ a dx fs t, x = .ref a ∧ H a = some (.ins C dx fs) ∧ TyX K H y t ∧ PySem.W.notFirst K C t = true ∧ sp [x, y] H (aBool Q) E0
def oNeO (K : PySem.W.Frag) (C : Addr) (sp : Sp) : R2 := fun x y H Q => ∃ a dx fs t, x = .ref a ∧ H a = some (.ins C dx fs) ∧ TyX K H y t ∧ PySem.W.notFirst K C t = true ∧ sp [x, y] H (aBool fun v J => ∀ b, v = .bl b → Q (.bl (!b)) J) E0
theorem or_eqO (c : CalM X.prog X.w X.K X.mg X.base k C "__eq__" ["self", "other"] sp) (hr : Room j X.A) (hk : k + 3 ≤ j) : OpR X (compareOp .Eq) (oEqO X.K C sp) := by
  intro pins s σ H x y v u Q I rx ry h
  obtain ⟨a, dx, fs, t, rfl, ea, ty, nf, q⟩ := h
  obtain rfl : v = Value.ref a := rx
  obtain ⟨f, fd, m, F, b⟩ := c.ex
  obtain ⟨ox, od, J⟩ := ins_inst I ea
  obtain ⟨P, Z, p, _⟩ := kit_of I ry ty
  have hr2 := hr.mono hk
  refine rich_left (op := .Eq) hr2.units0 I.kIn J (Z.ty _ _ I.kIn p) nf ?_
  show wpAny _ _ (tryCompare (.ref a) "__eq__" u) _ _ _
  unfold tryCompare
  refine wpAny_bind (PySem.W.ifBound_K I.kIn J m.at_ m.fn (wpAny_mono (run_below (vs := [V.ref a, y]) F X.A rfl (hr2.mono (by omega)) b I (.cons rfl (.cons ry .nil)) q) (fun r s' z => ?_) fun _ _ z => z))
  obtain ⟨w, J2, I2, rw_, c, rfl, q2⟩ := z
  cases rw_
  exact wpAny_pure ⟨_, rfl, .bl c, J2, I2, rfl, q2⟩
theorem or_neO (c : CalM X.prog X.w X.K X.mg X.base k C "__eq__" ["self", "other"] sp) (hne : PySem.W.findIn X.K (.ref C) "__ne__" = some (some (.builtin "object.__ne__"))) (hm : PySem.W.mroIn X.K C (.type "object") = some true) (hr : Room j X.A) (hk : k + 3 ≤ j) : OpR X (compareOp .NotEq) (oNeO X.K C sp) := by
  intro pins s σ H x y v u Q I rx ry h
  obtain ⟨a, dx, fs, t, rfl, ea, ty, nf, q⟩ := h
  obtain rfl : v = Value.ref a := rx
  obtain ⟨f, fd, m, F, b⟩ := c.ex
  obtain ⟨ox, od, J⟩ := ins_inst I ea
  obtain ⟨P, Z, p, _⟩ := kit_of I ry ty
  have hr2 := hr.mono hk
  have hr3 : Room (k + 1) X.A.in1 := hr2.in1.mono (Nat.le_succ _)
  refine rich_left (op := .NotEq) hr2.units0 I.kIn J (Z.ty _ _ I.kIn p) nf ?_
  show wpAny _ _ (tryCompare (.ref a) "__ne__" u) _ _ _
  refine try_ne_own hr3.units0 I.kIn J m hne hm (wpAny_mono (run_below (vs := [V.ref a, y]) F X.A.in1 rfl (hr3.mono (Nat.le_succ _)) b I (.cons rfl (.cons ry .nil)) q) (fun r s' z => ?_) fun _ _ z => z)
  obtain ⟨w, J2, I2, rw_, c, rfl, q2⟩ := z
  cases rw_
  exact ⟨c, rfl, _, rfl, .bl (!c), J2, I2, rfl, q2 c rfl⟩
end
end RT
set_option Elab.async false
set_option linter.all false
set_option maxRecDepth 100000
set_option maxHeartbeats 4000000
/-! fields, properties, truth and class of own instances; f-texts: readings, one step each -/
namespace RT
open PySem PySem.Spec PyProof.Rows L2
section
open PySem.Calls PySem.W PySem.Sem
theorem inst_true {M : Model} {A : Around} {E : Value → Shared → Prop} {s : Shared} {K : Frag} {x C : Addr} {ox : Obj} {od : Option Obj} {Q : Bool → Shared → Prop} (X : K.In s.heap) (I : InstAt s.heap x ox C od)
    (n1 : findIn K (.ref C) "__bool__" = some none) (n2 : findIn K (.ref C) "__len__" = some none) (h : Q true s) : wpAny M A (truthy (.ref x)) Q E s := by
  have s1 : wpAny M A (callSpecial? (.ref x) (Str.ofString "__bool__")) (fun r s' => r = none ∧ s' = s) E s := wpAny_bind (wpAny_bind (I.type.here ((looks_findIn X n1).here (wpAny_pure ⟨rfl, rfl⟩))))
  unfold truthy
  refine wpAny_bind (m := callSpecial? (.ref x) (Str.ofString "__bool__")) (wpAny_mono s1 (fun r s' z => ?_) fun _ _ z => z)
  obtain ⟨rfl, rfl⟩ := z
  exact wpAny_bind (wpAny_bind (I.type.here ((looks_findIn X n2).here (wpAny_pure h))))
theorem meets_bool_inst (K : Frag) (x C : Addr) (n1 : findIn K (.ref C) "__bool__" = some none) (n2 : findIn K (.ref C) "__len__" = some none) :
    Meets (Builtin.«bool.__new__» ⟨[.type "bool", .ref x], []⟩) (fun _ R s => (K.In s.heap ∧ ∃ ox od, InstAt s.heap x ox C od) ∧ R (.ok (.ret (.bool true))) s) :=
  Meets.of_wp fun prog w A R s hs => by
    obtain ⟨⟨X, ox, od, I⟩, hs⟩ := hs
    have f1 := PySem.F.conv_sub_bool
    have tr : ∀ {A' : Around} {E' : Value → Shared → Prop} {Q' : Bool → Shared → Prop}, Q' true s → wpAny (model prog w) A' (truthy (.ref x)) Q' E' s := fun q => inst_true X I n1 n2 q
    obtain ⟨hp, g, d, tk, os⟩ := s
    repeat (any_goals (first | assumption | (with_reducible refine tr ?_) | wp_step))
    all_goals first | exact ⟨_, rfl, hs⟩ | exact hs | skip
end
/-- what of a class of this program must hold: fields are its objects' own, isinstance and truth are the language's -/
structure OwnC (K : PySem.W.Frag) (C : Addr) : Prop where
  ins : C8.InsC K C
  kp : PySem.W.keepIn K (.ref C) = true
  ne : PySem.W.findIn K (.ref C) "__ne__" = some (some (.builtin "object.__ne__"))
section
variable {X : Cx} {K : PySem.W.Frag} {C : Addr} {e o : Expr} {te tv : TE} {f n fl : Str} {pos pos' : Pos}
def tFldC (C : Addr) (f : Str) (te : TE) : TE := fun σ H Q => te σ H fun x J => ∃ a dx fs v, x = .ref a ∧ J a = some (.ins C dx fs) ∧ fs.lookup f = some v ∧ Q v J
theorem pe_fldC (c : OwnC X.K C) (n : NoAttr X.K C f) (he : PE X e te) (hb : attributeBase e f X.env (eval e X.env) = eval e X.env := by rfl) : PE X (.Attribute e f pos) (tFldC C f te) := by
  refine ⟨fun pins s σ H Q I h => ?_⟩
  refine attr_of hb (thn (he.run pins s σ H _ I h) fun u s1 ⟨x, H1, I1, rx, a, dx, fs, v, ex, ea, l, q⟩ => ?_)
  subst ex
  obtain rfl : u = Value.ref a := rx
  exact getattr_ok I1 ea c.ins.cl n l fun u' s2 I2 ru => ⟨v, H1, I2, ru, q⟩
def sFldC (C : Addr) (f : Str) (te tv : TE) : TS := fun D σ H => tv σ H fun y H1 => te σ H1 fun x H2 => ∃ a dx fs, x = .ref a ∧ H2 a = some (.ins C dx fs) ∧ fs.length < 1000 ∧ ∀ J, Ext a H2 J → J a = some (.ins C dx (putF f y fs)) → D.nx σ J
theorem ps_fldC (c : OwnC X.K C) (n : NoAttr X.K C f) (ha : PE X o te) (hv : PE X e tv) (hs : swapsWith e (some (.Attribute o f pos')) pos.line X.env = pure false := by rfl) : PS X (.Assign [.Attribute o f pos'] e pos) (sFldC C f te tv) := by
  refine ⟨fun pins s σ H D I h => ?_⟩
  refine plainObj_wpAny_Assign_Attribute (thn (hv.run pins s σ H _ I h) fun u s1 ⟨y, H1, I1, ry, q⟩ => thn (ha.run pins s1 σ H1 _ I1 q) fun ov s2 ⟨x, H2, I2, rx, a, dx, fs, ex, ea, few, q2⟩ => ?_) hs
  subst ex
  obtain rfl : ov = Value.ref a := rx
  exact setattr_ok I2 ea c.ins.cl n few ry fun s3 I3 => ⟨σ, _, I3, q2 _ Ext.upd upd_same⟩
/-- a property that hands a field out -/
structure GetP (P : Program) (w : World) (K : PySem.W.Frag) (mg : Str → Option Value) (base : Heap) (C : Addr) (n fl : Str) : Prop where
  ex : ∃ p g fd, PropOf K C n p g ∧ FnOk P w K mg base CX0 1 g fd ["self"] (getSp C fl) ∧ Binds K fd ["self"] []
theorem pe_getC {j : Nat} (c : OwnC X.K C) (g : GetP X.prog X.w X.K X.mg X.base C n fl) (hr : Room j X.A) (hj : 2 ≤ j) (he : PE X e te) (hb : attributeBase e n X.env (eval e X.env) = eval e X.env := by rfl) : PE X (.Attribute e n pos) (tFldC C fl te) := by
  obtain ⟨p, gg, fd, hp, F, b⟩ := g.ex
  refine ⟨fun pins s σ H Q I h => ?_⟩
  refine attr_of hb (thn (he.run pins s σ H _ I h) fun u s1 ⟨x, H1, I1, rx, a, dx, fs, v, ex, ea, l, q⟩ => ?_)
  subst ex
  obtain rfl : u = Value.ref a := rx
  exact getprop_ok (E := E0) I1 ea c.ins.cl hp F (hr.mono hj) b .nil pass0 ⟨a, dx, fs, v, rfl, ea, l, q⟩
def rIsC (C : Addr) : List V → Hp → VK → Prop := fun xs H Q => ∃ a dx fs, xs = [.ref a, .ref C] ∧ H a = some (.ins C dx fs) ∧ Q (.bl true) H
theorem cr_isC (c : OwnC X.K C) : CallR X (.builtin "isinstance") (rIsC C) := C8.call_isC c.ins
def rBoolO (C : Addr) : List V → Hp → VK → Prop := fun xs H Q => ∃ a dx fs, xs = [.ref a] ∧ H a = some (.ins C dx fs) ∧ Q (.bl true) H
theorem cr_boolO (n1 : PySem.W.findIn X.K (.ref C) "__bool__" = some none) (n2 : PySem.W.findIn X.K (.ref C) "__len__" = some none) : CallR X (.type "bool") (rBoolO C) := by
  intro pins s σ H xs us Q I r h
  obtain ⟨a, dx, fs, rfl, ea, q⟩ := h
  rw [Vals.ref1 r]
  exact call_bool_1 (meets_bool_inst X.K a C n1 n2) ⟨⟨I.kIn, ins_inst I ea⟩, rfl, .bl true, H, I, rfl, q⟩
end
/-- the class by its name -/
theorem pe_own {X : Cx} {C : Addr} {x : Str} {pos : Pos} (h : X.mg x = some (.ref C)) (hg : Gl X x) (hd : (x == ("__debug__" : Str)) = false := by decide) : PE X (.Name x pos) (tC (.ref C)) := pe_glob hg h rfl hd
section
variable {C a dx : Addr} {f : Str} {te tv : TE} {σ : L2.St} {H : Hp} {Q : VK} {fs : List (Str × V)} {v x y : V} {D : Ends} {sp : Sp}
def aFldC (C : Addr) (f : Str) (x : V) (J : Hp) (Q : VK) : Prop := ∃ a dx fs v, x = .ref a ∧ J a = some (.ins C dx fs) ∧ fs.lookup f = some v ∧ Q v J
theorem w_fldT (h : te σ H fun x J => aFldC C f x J Q) : tFldC C f te σ H Q := h
theorem w_fldC (e : H a = some (.ins C dx fs)) (l : fs.lookup f = some v) (q : Q v H) : aFldC C f (.ref a) H Q := ⟨a, dx, fs, v, rfl, e, l, q⟩
theorem w_setT (h : tv σ H fun y H1 => te σ H1 fun x H2 => ∃ a dx fs, x = .ref a ∧ H2 a = some (.ins C dx fs) ∧ fs.length < 1000 ∧ ∀ J, Ext a H2 J → J a = some (.ins C dx (putF f y fs)) → D.nx σ J) : sFldC C f te tv D σ H := h
theorem w_setC {y : V} {N : Hp → Prop} (e : H a = some (.ins C dx fs)) (few : fs.length < 1000) (q : ∀ J, Ext a H J → J a = some (.ins C dx (putF f y fs)) → N J) : ∃ a' dx fs, V.ref a = .ref a' ∧ H a' = some (.ins C dx fs) ∧ fs.length < 1000 ∧ ∀ J, Ext a' H J → J a' = some (.ins C dx (putF f y fs)) → N J := ⟨a, dx, fs, rfl, e, few, q⟩
theorem w_isC (e : H a = some (.ins C dx fs)) (q : Q (.bl true) H) : rIsC C [.ref a, .ref C] H Q := ⟨a, dx, fs, rfl, e, q⟩
theorem w_boolO (e : H a = some (.ins C dx fs)) (q : Q (.bl true) H) : rBoolO C [.ref a] H Q := ⟨a, dx, fs, rfl, e, q⟩
theorem w_strO (e : H a = some (.ins C dx fs)) (q : sp [.ref a] H (aStr Q) E0) : rStrO C sp [.ref a] H Q := ⟨a, dx, fs, rfl, e, q⟩
end
/-! ### f-texts -/
section
variable {X : Cx} {v1 v2 : Expr} {rest : List Expr} {ts : List TE} {pos : Pos}
def tFs (ts : List TE) : TE := fun σ H Q => tJs ts Str.empty σ H fun z J => Q (.str z) J
theorem pe_fs (h : PJ X (v1 :: v2 :: rest) ts) : PE X (.JoinedStr (v1 :: v2 :: rest) pos) (tFs ts) := pe_joined h
end
section
variable {t te : TE} {ts : List TE} {acc z : Str} {σ : L2.St} {H : Hp} {Q : VK} {N : Str → Hp → Prop}
theorem w_fs (h : tJs ts Str.empty σ H fun z J => Q (.str z) J) : tFs ts σ H Q := h
theorem w_js0 (h : N acc H) : tJs [] acc σ H N := h
def aJs (acc : Str) (ts : List TE) (σ : L2.St) (N : Str → Hp → Prop) (x : V) (H : Hp) : Prop := ∃ y : Str, x = .str y ∧ (acc ++ y).length ≤ sizeLine ∧ tJs ts (acc ++ y) σ H N
def aFmt (x : V) (H : Hp) (Q : VK) : Prop := (∃ y : Str, x = .str y ∧ y.length ≤ sizeLine ∧ Q (.str y) H) ∨ ∃ i : Int, x = .int i ∧ i.natAbs.log2 < 1920 ∧ Q (.str (toString i)) H
theorem w_jsC (h : t σ H fun x H1 => aJs acc ts σ N x H1) : tJs (t :: ts) acc σ H N := h
theorem w_jsA {y : Str} (n : (acc ++ y).length ≤ 1000000) (h : tJs ts (acc ++ y) σ H N) : aJs acc ts σ N (.str y) H := ⟨y, rfl, Nat.le_of_lt (smallM n), h⟩
theorem w_fmtT (h : te σ H fun x H1 => aFmt x H1 Q) : tFmt te σ H Q := h
theorem w_fmt (n : z.length ≤ 1000000) (q : Q (.str z) H) : aFmt (.str z) H Q := .inl ⟨z, rfl, Nat.le_of_lt (smallM n), q⟩
theorem w_fmtI {i : Int} (n : i.natAbs.log2 < 1920) (q : Q (.str (toString i)) H) : aFmt (.int i) H Q := .inr ⟨i, rfl, n, q⟩
end
end RT
set_option Elab.async false
set_option linter.all false
set_option maxRecDepth 100000
set_option maxHeartbeats 4000000
/-! dicts, while loops, pops: readings, one step each -/
namespace RT
open PySem PySem.Spec PyProof.Rows L2
section
variable {κ : Type} [DecidableEq κ]
theorem valV_none {kvs : List (κ × V)} {k : κ} : valV kvs k = none ↔ ∀ p ∈ kvs, p.1 ≠ k := by
  unfold valV
  rw [Option.map_eq_none_iff, List.find?_eq_none]
  exact ⟨fun h p hp e => h p hp (decide_eq_true e), fun h p hp e => h p hp (of_decide_eq_true e)⟩
theorem valV_some {kvs : List (κ × V)} {k : κ} {v : V} (h : valV kvs k = some v) : (k, v) ∈ kvs := by
  unfold valV at h
  obtain ⟨p, hp, rfl⟩ := Option.map_eq_some_iff.mp h
  have e := of_decide_eq_true (List.find?_some (p := fun kv : κ × V => decide (kv.1 = k)) hp)
  have m := List.mem_of_find?_eq_some hp
  rw [← e]
  exact m
theorem valV_isSome {kvs : List (κ × V)} {k : κ} : (valV kvs k).isSome = true ↔ k ∈ kvs.map (·.1) := by
  cases h : valV kvs k with
  | none =>
    rw [valV_none] at h
    refine ⟨fun z => absurd z Bool.false_ne_true, fun m => ?_⟩
    obtain ⟨p, hp, e⟩ := List.mem_map.mp m
    exact absurd e (h p hp)
  | some v => exact ⟨fun _ => List.mem_map.mpr ⟨_, valV_some h, rfl⟩, fun _ => rfl⟩
theorem putK_new {kvs : List (κ × V)} {k : κ} {v : V} (h : k ∉ kvs.map (·.1)) : putK kvs k v = kvs ++ [(k, v)] := by
  unfold putK
  rw [if_neg]
  intro a
  obtain ⟨p, hp, e⟩ := List.any_eq_true.mp a
  exact h (List.mem_map.mpr ⟨p, hp, of_decide_eq_true e⟩)
theorem putK_old {kvs : List (κ × V)} {k : κ} {v : V} (h : k ∈ kvs.map (·.1)) : (putK kvs k v).map (·.1) = kvs.map (·.1) := by
  obtain ⟨p, hp, e⟩ := List.mem_map.mp h
  unfold putK
  rw [if_pos (List.any_eq_true.mpr ⟨p, hp, decide_eq_true e⟩), List.map_map]
  refine List.map_congr_left fun q _ => ?_
  show (if q.1 = k then (q.1, v) else q).1 = q.1
  split <;> rfl
end
section
variable {σ : L2.St} {H : Hp} {Q : VK} {a b : Addr} {td ty tv tx te : TE} {D : Ends} {v y z : V} {c : TT} {tb : TS}
theorem w_dnewT (q : ∀ p L, H p = none → Same H L → L p = some (.dT []) → Q (.ref p) L) : tDNewT σ H Q := fun p n => q p _ n (same_new n) upd_same
def aDIn (x y : V) (H : Hp) (Q : VK) : Prop := ∃ a o, x = .ref a ∧ DGet H a y o ∧ Q (.bl o.isSome) H
def aDNin (x y : V) (H : Hp) (Q : VK) : Prop := ∃ a o, x = .ref a ∧ DGet H a y o ∧ Q (.bl (!o.isSome)) H
def aDPut (x y v : V) (H : Hp) (N : Hp → Prop) : Prop := ∃ a M, x = .ref a ∧ DPut H a y v M ∧ N M
def aDGet (x y : V) (H : Hp) (Q : VK) : Prop := ∃ a v, x = .ref a ∧ DGet H a y (some v) ∧ Q v H
def aIsD (x : V) (H : Hp) (N : Addr → Prop) : Prop := ∃ a, x = .ref a ∧ IsD H a ∧ N a
def aDGet2 (a : Addr) (y z : V) (H : Hp) (Q : VK) : Prop := ∃ o, DGet H a y o ∧ Q (o.getD z) H
def aSetd (a : Addr) (y z : V) (H : Hp) (Q : VK) : Prop := ∃ (kvs : List (Key × V)) (k : Key), H a = some (.dK kvs) ∧ y = kV k ∧ kvs.length < sizeLine ∧ (∀ v, valV kvs k = some v → Q v H) ∧ (valV kvs k = none → Q z (upd H a (.dK (putK kvs k z))))
theorem w_dinT (h : ty σ H fun y J => td σ J fun x L => aDIn x y L Q) : tDIn ty td σ H Q := h
theorem w_dninT (h : ty σ H fun y J => td σ J fun x L => aDNin x y L Q) : tDNotIn ty td σ H Q := h
theorem w_dputT (h : tv σ H fun v J => td σ J fun x L => ty σ L fun y M => aDPut x y v M fun N => D.nx σ N) : sDPut td ty tv D σ H := h
theorem w_dgetT (h : td σ H fun x J => ty σ J fun y L => aDGet x y L Q) : tDGet td ty σ H Q := h
theorem w_dget2T (h : td σ H fun x J => aIsD x J fun a => ty σ J fun y L => tx σ L fun z M => aDGet2 a y z M Q) : tDGet2 td ty tx σ H Q := h
theorem w_setdT (h : td σ H fun x H1 => aIsD x H1 fun a => ty σ H1 fun y H2 => tx σ H2 fun z H3 => aSetd a y z H3 Q) : tDSetd td ty tx σ H Q := h
/-- in a dict of texts -/
theorem w_din {kvs : List (Key × V)} {k : Str} (h : H a = some (.dK kvs)) (q : ∀ c : Bool, (c = true ↔ (Sum.inr k : Key) ∈ kvs.map (·.1)) → Q (.bl c) H) : aDIn (.ref a) (.str k) H Q := ⟨a, _, rfl, DGet.k (k := Sum.inr k) h, q _ valV_isSome⟩
theorem w_dnin {kvs : List (Key × V)} {k : Str} (h : H a = some (.dK kvs)) (q : ∀ c : Bool, (c = true ↔ (Sum.inr k : Key) ∈ kvs.map (·.1)) → Q (.bl (!c)) H) : aDNin (.ref a) (.str k) H Q := ⟨a, _, rfl, DGet.k (k := Sum.inr k) h, q _ valV_isSome⟩
/-- the same of a dict whose keys are tuples of texts -/
theorem w_dinT2 {kvs : List (List Key × V)} {k : List Key} (h : H a = some (.dT kvs)) (hb : H b = some (.tup (k.map kV))) (q : ∀ c : Bool, (c = true ↔ k ∈ kvs.map (·.1)) → Q (.bl c) H) : aDIn (.ref a) (.ref b) H Q := ⟨a, _, rfl, DGet.t h hb, q _ valV_isSome⟩
theorem w_dput {kvs : List (Key × V)} {k : Str} {N : Hp → Prop} (h : H a = some (.dK kvs)) (few : kvs.length ≤ 1000000) (q : ∀ J, Ext a H J → J a = some (.dK (putK kvs (.inr k) v)) → N J) : aDPut (.ref a) (.str k) v H N := ⟨a, _, rfl, DPut.k (k := Sum.inr k) h (smallM few), q _ Ext.upd upd_same⟩
theorem w_dputT2 {kvs : List (List Key × V)} {k : List Key} {N : Hp → Prop} (h : H a = some (.dT kvs)) (hb : H b = some (.tup (k.map kV))) (few : kvs.length ≤ 1000000) (q : ∀ J, Ext a H J → J a = some (.dT (putK kvs k v)) → N J) : aDPut (.ref a) (.ref b) v H N :=
  ⟨a, _, rfl, .inr ⟨kvs, k, b, h, rfl, hb, smallM few, rfl⟩, q _ Ext.upd upd_same⟩
theorem w_dget {kvs : List (Key × V)} {k : Str} {v : V} (h : H a = some (.dK kvs)) (e : valV kvs (.inr k) = some v) (q : Q v H) : aDGet (.ref a) (.str k) H Q := ⟨a, v, rfl, by rw [← e]; exact DGet.k (k := Sum.inr k) h, q⟩
theorem w_isD {kvs : List (Key × V)} {N : Addr → Prop} (h : H a = some (.dK kvs)) (q : N a) : aIsD (.ref a) H N := ⟨a, rfl, .inl ⟨kvs, .inl h⟩, q⟩
theorem w_dget2 {kvs : List (Key × V)} {k : Str} {z : V} (h : H a = some (.dK kvs)) (q : Q ((valV kvs (.inr k)).getD z) H) : aDGet2 a (.str k) z H Q := ⟨_, DGet.k (k := Sum.inr k) h, q⟩
theorem w_setd {kvs : List (Key × V)} {k : Str} {z : V} (h : H a = some (.dK kvs)) (few : kvs.length ≤ 1000000) (q1 : ∀ v, valV kvs (.inr k) = some v → Q v H) (q2 : valV kvs (.inr k) = none → ∀ J, Ext a H J → J a = some (.dK (kvs ++ [(.inr k, z)])) → Q z J) : aSetd a (.str k) z H Q := by
  refine ⟨kvs, .inr k, h, rfl, smallM few, q1, fun e => ?_⟩
  have nk : (Sum.inr k : Key) ∉ kvs.map (·.1) := fun m => by
    obtain ⟨p, hp, ee⟩ := List.mem_map.mp m
    exact valV_none.mp e p hp ee
  rw [putK_new nk]
  exact q2 e _ Ext.upd upd_same
theorem w_pop {xs : List V} (h : H a = some (.lst (xs ++ [y]))) (q : ∀ J, Ext a H J → J a = some (.lst xs) → Q y J) : rPop (.ref a) [] H Q := ⟨a, _, y, rfl, rfl, h, by simp, by rw [List.dropLast_concat]; exact q _ Ext.upd upd_same⟩
theorem w_popAt {xs : List V} {i : Int} {n : Nat} (h : H a = some (.lst xs)) (e : i = n) (big : n < xs.length) (few : xs.length ≤ 1000000) (q : ∀ v J, xs[n]? = some v → Ext a H J → J a = some (.lst (xs.eraseIdx n)) → Q v J) : rPopAt (.ref a) [.int i] H Q := by
  subst e
  refine ⟨a, xs, n, n, xs[n], rfl, rfl, h, by omega, by omega, ?_, List.getElem?_eq_getElem big, q _ _ (List.getElem?_eq_getElem big) Ext.upd upd_same⟩
  unfold seqIndex?
  have h1 : ¬ ((n : Int) < 0) := by omega
  simp [h1, big]
/-- while: Pv stays, μ goes down -/
def WStep (Pv : L2.St → Hp → Prop) (μ : L2.St → Hp → Nat → Prop) (n : Nat) (tb : TS) (D : Ends) (σ : L2.St) (H : Hp) : Prop := ∃ N : L2.St → Hp → Prop, (∀ σ' H', N σ' H' → ∃ m', m' < n ∧ (Pv σ' H' ∧ μ σ' H' m')) ∧ tb { D with nx := N, ct := N, bk := D.nx } σ H
theorem w_whileT (Pv : L2.St → Hp → Prop) (μ : L2.St → Hp → Nat → Prop) (h0 : Pv σ H) (hm : ∃ n, μ σ H n) (hs : ∀ σ H n, Pv σ H → μ σ H n → c σ H fun b L => if b = true then WStep Pv μ n tb D σ L else D.nx σ L) : tWhile c tb D σ H := by
  obtain ⟨n, e⟩ := hm
  exact ⟨fun m σ H => Pv σ H ∧ μ σ H m, ⟨n, h0, e⟩, fun m σ H ⟨p, k⟩ => hs σ H m p k⟩
theorem w_wstep {Pv : L2.St → Hp → Prop} {μ : L2.St → Hp → Nat → Prop} {n : Nat} (h : tb { D with nx := fun σ' H' => ∃ m', m' < n ∧ (Pv σ' H' ∧ μ σ' H' m'), ct := fun σ' H' => ∃ m', m' < n ∧ (Pv σ' H' ∧ μ σ' H' m'), bk := D.nx } σ H) : WStep Pv μ n tb D σ H := ⟨_, fun _ _ z => z, h⟩
/-- the truth of a list, a tuple -/
theorem w_truL {K : PySem.W.Frag} {xs : List V} {N : Bool → Prop} (h : SqL K H a xs) (q : N (!xs.isEmpty)) : ∃ k, TruV K (.ref a) H k ∧ N k := ⟨_, .inl ⟨xs, h, rfl⟩, q⟩
theorem w_truT {K : PySem.W.Frag} {xs : List V} {N : Bool → Prop} (h : SqT K H a xs) (q : N (!xs.isEmpty)) : ∃ k, TruV K (.ref a) H k ∧ N k := ⟨_, .inr (.inl ⟨xs, h, rfl⟩), q⟩
end
section
variable {J : It} {n : Nat} {G : Hp → Prop} {Y : Nat → Hp → V → Hp → Prop} {g : TG} {tt : TT} {tk tv : TE} {wi : TI} {vs : List Nat} {σ : L2.St} {H : Hp} {Q : VK}
/-- {k: v for .. in ..} -/
def DcOf (J : It) (g : TG) (tt : TT) (tk tv : TE) (vs : List Nat) (D : Addr) (σ : L2.St) (Qd : Hp → Prop) (H1 : Hp) : Prop := ∃ W : Nat → Nat → Hp → Prop, (∃ m, W 0 m (upd H1 D (.dK []))) ∧ ∀ i m H, W i m H →
  (J.stop i H ∧ Qd H) ∨ (J.go i H ∧ ∃ Nx : Hp → Prop, (∀ H', Nx H' → ∃ m', m' < m ∧ W (i + 1) m' H') ∧ ∀ x H', J.yld i H x H' → g x (wipe σ vs) H' fun σ2 H2 => wipe σ2 vs = wipe σ vs ∧ tt σ2 H2 fun b H3 =>
    if b = true then tk σ2 H3 fun y H4 => tv σ2 H4 fun z H5 => ∃ kvs k, y = kV k ∧ H5 D = some (.dK kvs) ∧ kvs.length < sizeLine ∧ Nx (upd H5 D (.dK (putK kvs k z))) else Nx H3)
theorem w_dcT (h : wi σ H fun J L => ∀ D, L D = none → DcOf J g tt tk tv vs D σ (fun M => Q (.ref D) M) L) : tDc wi g tt tk tv vs σ H Q := h
def SofarD (I : Nat → List (Key × V) → Hp → Prop) (D : Addr) (i : Nat) (L : Hp) : Prop := ∃ kvs, kvs.length ≤ i ∧ L D = some (.dK kvs) ∧ I i kvs L
def aPutD (I : Nat → List (Key × V) → Hp → Prop) (D : Addr) (i : Nat) (y z : V) (U : Hp) : Prop := ∃ kvs k, y = kV k ∧ U D = some (.dK kvs) ∧ kvs.length < sizeLine ∧ SofarD I D (i + 1) (upd U D (.dK (putK kvs k z)))
theorem w_dc {D : Addr} {Qd : Hp → Prop} (w : Walk J n G Y) (I : Nat → List (Key × V) → Hp → Prop) (new : H D = none) (h0 : ∀ L, Same H L → L D = some (.dK []) → I 0 [] L) (hG : ∀ i kvs L, I i kvs L → G L)
    (turn : ∀ i kvs x L M, i < n → kvs.length ≤ i → I i kvs L → L D = some (.dK kvs) → Y i L x M → g x (wipe σ vs) M fun σ2 N => wipe σ2 vs = wipe σ vs ∧ tt σ2 N fun b O =>
      if b = true then tk σ2 O fun y U => tv σ2 U fun z Z => aPutD I D i y z Z else SofarD I D (i + 1) O)
    (done : ∀ kvs L, kvs.length ≤ n → L D = some (.dK kvs) → I n kvs L → Qd L) : DcOf J g tt tk tv vs D σ Qd H := by
  refine ⟨fun i m L => m = n - i ∧ i ≤ n ∧ SofarD I D i L, ⟨n, by simp, Nat.zero_le _, [], Nat.le_refl _, upd_same, h0 _ (same_new new) upd_same⟩, ?_⟩
  rintro i m L ⟨rfl, hi, kvs, hl, hD, p⟩
  have q := hG i kvs L p
  by_cases hlt : i < n
  · refine .inr ⟨w.goes i L hlt q, SofarD I D (i + 1), fun H' p' => ⟨n - (i + 1), by omega, rfl, hlt, p'⟩, fun x H' y => turn i kvs x L H' hlt hl p hD (w.yields i L x H' hlt q y)⟩
  · have e : i = n := by omega
    subst e
    exact .inl ⟨w.stops L q, done kvs L hl hD p⟩
theorem w_dcPut {I : Nat → List (Key × V) → Hp → Prop} {D : Addr} {i : Nat} {kvs : List (Key × V)} {k : Str} {z : V} {U : Hp} (h : U D = some (.dK kvs)) (hl : kvs.length ≤ i) (hi : i ≤ 1000000) (q : ∀ Z, Ext D U Z → Z D = some (.dK (putK kvs (.inr k) z)) → I (i + 1) (putK kvs (.inr k) z) Z) : aPutD I D i (.str k) z U :=
  ⟨kvs, .inr k, rfl, h, smallM (Nat.le_trans hl hi), putK kvs (.inr k) z, Nat.le_trans (length_putK kvs (.inr k) z) (Nat.add_le_add hl (Nat.le_refl 1)), upd_same, q _ Ext.upd upd_same⟩
end
theorem putK_keys {κ : Type} [DecidableEq κ] {kvs : List (κ × V)} {k x : κ} {v : V} : x ∈ (putK kvs k v).map (·.1) ↔ x ∈ kvs.map (·.1) ∨ x = k := by
  by_cases h : k ∈ kvs.map (·.1)
  · rw [putK_old h]
    exact ⟨.inl, fun c => c.elim id fun e => e ▸ h⟩
  · rw [putK_new h, List.map_append, List.mem_append]
    exact or_congr Iff.rfl ⟨fun m => List.mem_singleton.mp m, fun e => List.mem_singleton.mpr e⟩
theorem w_ninTS {K : PySem.W.Frag} {H : Hp} {Q : VK} {a : Addr} {y : Str} {zs : List Str} (h : H a = some (.tup (zs.map V.str))) (q : Q (.bl (!decide (y ∈ zs))) H) : rIn K true (.str y) (.ref a) H Q :=
  ⟨a, _, rfl, Or.inr (SqT.of h), rfl, flat_strs zs, by rw [if_pos rfl, inV_strs]; exact q⟩
end RT
set_option Elab.async false
set_option linter.all false
set_option maxRecDepth 100000
set_option maxHeartbeats 4000000
/-! the orders of texts and of pairs of texts: one arrangement alone is sorted -/
namespace RT
open PySem PySem.Spec PyProof.Rows L2 PySem.W
abbrev PP : Type := Str × Str
def leP : PP → PP → Bool := dataLe false (Datum.toD : PP → PyData)
def srtP (l : List PP) : List PP := l.mergeSort leP
theorem leP_total : TotalLe leP := by
  unfold leP dataLe
  exact PySem.W.sortLe_total _ _ _
theorem leP_anti (x y : PP) (h1 : leP x y = true) (h2 : leP y x = true) : x = y := by
  obtain ⟨a, b⟩ := x
  obtain ⟨c, d⟩ := y
  have e1 : (listOrd itemOrd).blt (keyToks (Datum.toD (c, d))) (keyToks (Datum.toD (a, b))) = false := by
    have z : (!(listOrd itemOrd).blt (keyToks (Datum.toD (c, d))) (keyToks (Datum.toD (a, b)))) = true := h1
    simpa using z
  have e2 : (listOrd itemOrd).blt (keyToks (Datum.toD (a, b))) (keyToks (Datum.toD (c, d))) = false := by
    have z : (!(listOrd itemOrd).blt (keyToks (Datum.toD (a, b))) (keyToks (Datum.toD (c, d)))) = true := h2
    simpa using z
  have e := (listOrd itemOrd).total _ _ e2 e1
  have e3 : ([.inl 1, .inr a.cps.toList, .inl 1, .inr b.cps.toList, .inl 0] : List (Int ⊕ List Nat)) = [.inl 1, .inr c.cps.toList, .inl 1, .inr d.cps.toList, .inl 0] := e
  simp only [List.cons.injEq, Sum.inr.injEq, and_true, true_and] at e3
  rw [str_of_cps e3.1, str_of_cps e3.2]
theorem leP_tt : ∀ x y, (leP x y || leP y x) = true := fun x y => by
  rcases leP_total.total x y with h | h <;> simp [h]
theorem srtP_perm (l : List PP) : (srtP l).Perm l := List.mergeSort_perm l _
theorem srtP_le (l : List PP) : (srtP l).Pairwise fun x y => leP x y = true := List.pairwise_mergeSort leP_total.trans leP_tt l
theorem srtP_of {a l : List PP} (p : a.Perm l) (h : a.Pairwise fun x y => leP x y = true) : a = srtP l := Srt.the_of_perm leP leP_total.trans leP_tt leP_anti p h
theorem srtP_eq {l m : List PP} (p : l.Perm m) : srtP l = srtP m := srtP_of ((srtP_perm l).trans p) (srtP_le l)
theorem srtP_iff {l m : List PP} : srtP l = srtP m ↔ l.Perm m := ⟨fun e => ((srtP_perm l).symm.trans (by rw [e])).trans (srtP_perm m), srtP_eq⟩
theorem srtP_mem {l : List PP} {x : PP} : x ∈ srtP l ↔ x ∈ l := (srtP_perm l).mem_iff
theorem srtP_len (l : List PP) : (srtP l).length = l.length := (srtP_perm l).length_eq
theorem srtP_idem (l : List PP) : srtP (srtP l) = srtP l := srtP_eq (srtP_perm l)
/-! ### texts -/
theorem lt_tri : ∀ a b : List Nat, a < b ∨ a = b ∨ b < a
  | [], [] => .inr (.inl rfl)
  | [], _ :: _ => .inl (List.nil_lt_cons _ _)
  | _ :: _, [] => .inr (.inr (List.nil_lt_cons _ _))
  | x :: a, y :: b => by
    rcases Nat.lt_trichotomy x y with h | h | h
    · exact .inl (List.cons_lt_cons_iff.mpr (.inl h))
    · subst h
      rcases lt_tri a b with h | h | h
      · exact .inl (List.cons_lt_cons_iff.mpr (.inr ⟨rfl, h⟩))
      · exact .inr (.inl (by rw [h]))
      · exact .inr (.inr (List.cons_lt_cons_iff.mpr (.inr ⟨rfl, h⟩)))
    · exact .inr (.inr (List.cons_lt_cons_iff.mpr (.inl h)))
def leS (a b : Str) : Bool := !ltCps b.cps.toList a.cps.toList
theorem leS_iff {a b : Str} : leS a b = true ↔ ¬ b.cps.toList < a.cps.toList := by
  unfold leS
  rw [ltCps_eq]
  simp
theorem leS_trans (a b c : Str) (h1 : leS a b = true) (h2 : leS b c = true) : leS a c = true := by
  rw [leS_iff] at *
  exact fun h => h1 (by
    rcases lt_tri b.cps.toList a.cps.toList with z | z | z
    · exact z
    · exact absurd (z ▸ h) h2
    · exact absurd (List.lt_trans h z) h2)
theorem leS_tt (a b : Str) : (leS a b || leS b a) = true := by
  by_cases h : leS a b = true
  · simp [h]
  · have h' : b.cps.toList < a.cps.toList := Classical.not_not.mp fun z => h (leS_iff.mpr z)
    have : leS b a = true := leS_iff.mpr fun z => absurd (List.lt_trans h' z) (List.lt_irrefl _)
    simp [this]
theorem leS_anti (a b : Str) (h1 : leS a b = true) (h2 : leS b a = true) : a = b := by
  rw [leS_iff] at h1 h2
  rcases lt_tri a.cps.toList b.cps.toList with z | z | z
  · exact absurd z h2
  · exact str_of_cps z
  · exact absurd z h1
def srtS (l : List Str) : List Str := l.mergeSort leS
theorem srtS_of {a l : List Str} (p : a.Perm l) (h : a.Pairwise fun x y => leS x y = true) : a = srtS l := Srt.the_of_perm leS leS_trans leS_tt leS_anti p h
theorem srtS_eq {l m : List Str} (p : l.Perm m) : srtS l = srtS m := srtS_of ((List.mergeSort_perm l _).trans p) (List.pairwise_mergeSort leS_trans leS_tt l)
theorem srtS_perm (l : List Str) : (srtS l).Perm l := List.mergeSort_perm l _
theorem srtS_le (l : List Str) : (srtS l).Pairwise fun x y => leS x y = true := List.pairwise_mergeSort leS_trans leS_tt l
theorem rising_le : ∀ (l : List Str) (p : Str), risingS p l = true → (p :: l).Pairwise fun x y => leS x y = true
  | [], p, _ => List.pairwise_singleton _ _
  | x :: r, p, h => by
    have h2 : (!ltCps x.cps.toList p.cps.toList && risingS x r) = true := h
    rw [Bool.and_eq_true] at h2
    have ih := rising_le r x h2.2
    refine List.pairwise_cons.mpr ⟨fun y hy => ?_, ih⟩
    rcases List.mem_cons.mp hy with rfl | hy
    · exact h2.1
    · exact leS_trans _ _ _ h2.1 ((List.pairwise_cons.mp ih).1 y hy)
theorem sorted_le {l : List Str} (h : sortedS l = true) : l.Pairwise fun x y => leS x y = true := by
  cases l with
  | nil => exact List.Pairwise.nil
  | cons x r => exact rising_le r x h
theorem sorted_srt {ys zs : List Str} (p : ys.Perm zs) (h : sortedS ys = true) : ys = srtS zs := srtS_of p (sorted_le h)
/-- two rows of the same texts, each once -/
theorem perm_nodup {l m : List Str} (h1 : l.Nodup) (h2 : m.Nodup) (h : ∀ x, x ∈ l ↔ x ∈ m) : l.Perm m := (List.perm_ext_iff_of_nodup h1 h2).mpr h
/-! ### the rules, the written part's name given -/
section
variable {X : Cx} {K : PySem.W.Frag} {P : Program} {w : World} {k : Nat}
theorem alike_pp (b b' : PP) : PySem.W.alike (Datum.toD b) (Datum.toD b') = true := rfl
theorem sortable_pp (bs : List PP) : PySem.W.Sortable (bs.map Datum.toD) := Sortable.tuples fun b => ⟨_, _, rfl⟩
def rSrtL (K : PySem.W.Frag) : List V → Hp → VK → Prop := rSortV PP K
def rSrtT (K : PySem.W.Frag) : List V → Hp → VK → Prop := rSortU PP K
theorem k_srtL (hr : Room k X.A) (h : X.K = K := by rfl) : CallR X (.builtin "sorted") (rSrtL K) := h ▸ cr_sortV hr (by decide) alike_pp sortable_pp
theorem k_srtT (hr : Room k X.A) (h : X.K = K := by rfl) : CallR X (.builtin "sorted") (rSrtT K) := h ▸ cr_sortU hr (by decide) alike_pp sortable_pp
theorem k_setL (hc : X.calm = true) (h1 : X.K = K := by rfl) (h2 : X.prog = P := by rfl) (h3 : X.w = w := by rfl) : CallR X (.type "set") (rSetL K P w) := h1 ▸ h2 ▸ h3 ▸ cr_setL hc
theorem k_sortX (hc : X.calm = true) (h2 : X.prog = P := by rfl) (h3 : X.w = w := by rfl) : CallR X (.builtin "sorted") (rSortX P w) := h2 ▸ h3 ▸ cr_sortX hc
def rSrtD : List V → Hp → VK → Prop := fun xs H Q => ∃ (a : Addr) (kvs : List (Key × V)) (ks : List Str), xs = [.ref a] ∧ H a = some (.dK kvs) ∧ kvs.map (·.1) = ks.map Sum.inr ∧ ks.length < 64 ∧ ∀ p J, H p = none → Same H J → J p = some (.lst ((srtS ks).map V.str)) → Q (.ref p) J
theorem cr_srtD (hc : X.calm = true) : CallR X (.builtin "sorted") rSrtD := by
  intro pins s σ H xs us Q I r h
  obtain ⟨a, kvs, ks, rfl, hd, hk, few, q⟩ := h
  exact call_sortedD hc pins s σ H _ us Q I r ⟨a, kvs, ks, rfl, .inl hd, hk, few, fun ys p pm so np => q p _ np (same_new np) (by rw [upd_same, ← sorted_srt pm so])⟩
end
section
variable {K : PySem.W.Frag} {P : Program} {w : World} {H : Hp} {Q : VK} {a : Addr}
theorem w_srtL {xs : List V} {bs : List PP} (h : SqL K H a xs) (t : Tva K H xs bs) (few : bs.length ≤ 1000) (q : ∀ ys p J, H p = none → Same H J → J p = some (.lst ys) → Tva K J ys (srtP bs) → Q (.ref p) J) : rSrtL K [.ref a] H Q := ⟨a, xs, bs, rfl, h, t, few, q⟩
theorem w_srtT {xs : List V} {bs : List PP} (h : SqT K H a xs) (t : Tva K H xs bs) (few : bs.length ≤ 1000) (q : ∀ ys p J, H p = none → Same H J → J p = some (.lst ys) → Tva K J ys (srtP bs) → Q (.ref p) J) : rSrtT K [.ref a] H Q := ⟨a, xs, bs, rfl, h, t, few, q⟩
theorem w_srtD {kvs : List (Key × V)} {ks : List Str} (h : H a = some (.dK kvs)) (e : kvs.map (·.1) = ks.map Sum.inr) (few : ks.length < 64) (q : ∀ p J, H p = none → Same H J → J p = some (.lst ((srtS ks).map V.str)) → Q (.ref p) J) : rSrtD [.ref a] H Q := ⟨a, kvs, ks, rfl, h, e, few, q⟩
theorem w_setTx {ks : List Str} (h : SqL K H a (ks.map V.str)) (few : ks.length < 4000) (q : ∀ p zs J, H p = none → Same H J → J p = some (SetT P w p zs) → (∀ z, z ∈ zs ↔ z ∈ ks) → zs.length ≤ ks.length → Q (.ref p) J) : rSetL K P w [.ref a] H Q := ⟨a, ks, rfl, h, few, q⟩
theorem w_sortX {zs : List Str} (h : H a = some (SetT P w a zs)) (few : zs.length < 4000) (q : ∀ (ys : List Str) p J, H p = none → Same H J → J p = some (.lst (ys.map V.str)) → ys.Perm zs → ys.Nodup → sortedS ys = true → Q (.ref p) J) : rSortX P w [.ref a] H Q := ⟨a, zs, rfl, h, few, q⟩
def qStrS : List V → Hp → VK → Prop := fun xs H Q => ∃ z, xs = [.str z] ∧ Q (.str z) H
theorem w_strS {z : Str} (q : Q (.str z) H) : qStrS [.str z] H Q := ⟨z, rfl, q⟩
end
end RT
set_option Elab.async false
set_option linter.all false
set_option maxRecDepth 100000
set_option maxHeartbeats 4000000
/-! rows of pairs of texts, each pair a tuple of its own -/
namespace RT
open PySem PySem.Spec PyProof.Rows L2 PySem.W
/-- v is the pair -/
def PairAt (H : Hp) (v : V) (l : PP) : Prop := ∃ p, v = .ref p ∧ H p = some (.tup [.str l.1, .str l.2])
inductive PairsAt (H : Hp) : List V → List PP → Prop where
  | nil : PairsAt H [] []
  | cons {v : V} {vs : List V} {l : PP} {ls : List PP} (h : PairAt H v l) (r : PairsAt H vs ls) : PairsAt H (v :: vs) (l :: ls)
section
variable {H J : Hp} {v : V} {l : PP} {vs ws : List V} {ls ms : List PP} {a : Addr}
theorem PairAt.same (h : PairAt H v l) (s : Same H J) : PairAt J v l := by
  obtain ⟨p, rfl, hp⟩ := h
  exact ⟨p, rfl, s _ _ hp⟩
theorem PairAt.ext {ys : List V} (h : PairAt H v l) (ha : H a = some (.lst ys)) (e : Ext a H J) : PairAt J v l := by
  obtain ⟨p, rfl, hp⟩ := h
  exact ⟨p, rfl, e _ _ (ne_of hp ha (by intro z; cases z)) hp⟩
theorem PairsAt.mono (f : ∀ v l, PairAt H v l → PairAt J v l) : ∀ {vs ls}, PairsAt H vs ls → PairsAt J vs ls
  | _, _, .nil => .nil
  | _, _, .cons h r => .cons (f _ _ h) (r.mono f)
theorem PairsAt.same (h : PairsAt H vs ls) (s : Same H J) : PairsAt J vs ls := h.mono fun _ _ x => x.same s
theorem PairsAt.ext {ys : List V} (h : PairsAt H vs ls) (ha : H a = some (.lst ys)) (e : Ext a H J) : PairsAt J vs ls := h.mono fun _ _ x => x.ext ha e
theorem PairsAt.len : ∀ {vs ls}, PairsAt H vs ls → vs.length = ls.length
  | _, _, .nil => rfl
  | _, _, .cons _ r => by rw [List.length_cons, List.length_cons, r.len]
theorem PairsAt.app : ∀ {vs ls}, PairsAt H vs ls → PairsAt H ws ms → PairsAt H (vs ++ ws) (ls ++ ms)
  | _, _, .nil, g => g
  | _, _, .cons h r, g => .cons h (r.app g)
theorem PairsAt.one (h : PairAt H v l) : PairsAt H [v] [l] := .cons h .nil
theorem PairsAt.at : ∀ {vs ls} {i : Nat} {v : V}, PairsAt H vs ls → vs[i]? = some v → ∃ l, ls[i]? = some l ∧ PairAt H v l
  | _, _, 0, _, .cons h _, e => by
    cases (Option.some.inj e : _ = _)
    exact ⟨_, rfl, h⟩
  | _, _, i + 1, _, .cons _ r, e => r.at (i := i) e
theorem PairsAt.pick : ∀ {vs ls} {i : Nat} {l : PP}, PairsAt H vs ls → ls[i]? = some l → ∃ v, vs[i]? = some v ∧ PairAt H v l
  | _, _, 0, _, .cons h _, e => by
    cases (Option.some.inj e : _ = _)
    exact ⟨_, rfl, h⟩
  | _, _, i + 1, _, .cons _ r, e => r.pick (i := i) e
theorem PairsAt.erase : ∀ {vs ls} (i : Nat), PairsAt H vs ls → PairsAt H (vs.eraseIdx i) (ls.eraseIdx i)
  | _, _, _, .nil => .nil
  | _, _, 0, .cons _ r => r
  | _, _, i + 1, .cons h r => .cons h (r.erase i)
theorem PairAt.tv {K : PySem.W.Frag} (h : PairAt H v l) : Tv K H v l := by
  obtain ⟨p, rfl, hp⟩ := h
  exact tv_pair hp (tv_str _) (tv_str _)
theorem PairsAt.tva {K : PySem.W.Frag} : ∀ {vs ls}, PairsAt H vs ls → Tva K H vs ls
  | _, _, .nil => .nil
  | _, _, .cons h r => .cons h.tv r.tva
theorem PairAt.uniq {l' : PP} (h : PairAt H v l) (g : PairAt H v l') : l = l' := by
  obtain ⟨p, rfl, hp⟩ := h
  obtain ⟨q, e, hq⟩ := g
  cases e
  rw [hp] at hq
  have z := HO.tup.inj (Option.some.inj hq)
  simp only [List.cons.injEq, V.str.injEq, and_true] at z
  exact Prod.ext z.1 z.2
end
/-! ### sorted -/
section
variable {X : Cx}
theorem peach_of {H : Hp} : ∀ {xs : List V} {bs : List PP} {us : List Value}, PairsAt H xs bs → Vals xs us → EachIs (fun v b => ∃ x, RelV x v ∧ PairAt H x b) us bs
  | _, _, _, .nil, .nil => .nil
  | _, _, _, .cons h t, .cons r q => .cons ⟨_, r, h⟩ (peach_of t q)
theorem peach_pick {H : Hp} : ∀ {us : List Value} {bs : List PP}, EachIs (fun v b => ∃ x, RelV x v ∧ PairAt H x b) us bs → ∃ ys, Vals ys us ∧ PairsAt H ys bs
  | _, _, .nil => ⟨[], .nil, .nil⟩
  | _, _, .cons ⟨x, r, h⟩ t => by
    obtain ⟨ys, q, g⟩ := peach_pick t
    exact ⟨x :: ys, .cons r q, .cons h g⟩
theorem peach_reads {pins : List (Addr × Obj)} {σ : L2.St} {H : Hp} {s : Shared} (I : Inv X pins σ H s) : ∀ {us : List Value} {bs : List PP}, EachIs (fun v b => ∃ x, RelV x v ∧ PairAt H x b) us bs → EachIs (fun v b => ∃ as, Reads s.heap v (Datum.toD b) as) us bs
  | _, _, .nil => .nil
  | _, _, .cons ⟨x, r, h⟩ t => .cons (Dp.reads I _ x _ h.tv r) (peach_reads I t)
def rSrtP (K : PySem.W.Frag) : List V → Hp → VK → Prop := fun vs H Q => ∃ (a : Addr) (xs : List V) (bs : List PP), vs = [.ref a] ∧ (SqL K H a xs ∨ SqT K H a xs) ∧ PairsAt H xs bs ∧ bs.length ≤ 1000 ∧
  ∀ ys p J, H p = none → Same H J → J p = some (.lst ys) → PairsAt J ys (srtP bs) → Q (.ref p) J
theorem cr_srtP {k : Nat} (hr : Room k X.A) : CallR X (.builtin "sorted") (rSrtP X.K) := by
  intro pins s σ H vs us Q I r h
  obtain ⟨a, xs, bs, rfl, hs, ht, hl, q⟩ := h
  have un := hr.units
  rw [Vals.ref1 r]
  have depth : ∀ b : PP, X.A.units + 2 + (Datum.toD b).depth < cLine := fun b => by
    have h1 := Datum.depth_le b
    have h2 : Datum.depth PP ≤ 60 := by decide
    omega
  rcases hs with hs | hs
  · obtain ⟨its, rv, pl, hz⟩ := I.list hs
    have e := peach_of ht rv
    refine sorted_data (enc := (Datum.toD : PP → PyData)) pl.isList e (peach_reads I e) (.of alike_pp) (sortable_pp bs) (by rw [sizeLine_eq]; omega) (fun b _ => by have := depth b; omega) fun out hlen eo => ?_
    obtain ⟨ys, ry, ty⟩ := peach_pick eo
    obtain ⟨ep, he⟩ := PyProof.Rows.sortedAll_at s.heap its out.toArray
    have fr : H (s.heap.objs.size + 1) = none := I.hok.fresh (Nat.le_succ _)
    have hy : ys.length ≤ sizeLine := by
      rw [ry.length, hlen, sizeLine_eq]
      omega
    exact ⟨.ref _, upd H (s.heap.objs.size + 1) (.lst ys), I.laid (t' := s.toks) (fun _ _ => PyProof.Rows.sortedAll_old) (Nat.le_succ _) ⟨hy, out, ep, ry, he⟩, rfl, q ys _ _ fr (same_new fr) upd_same (ty.same (same_new fr))⟩
  · obtain ⟨its, rv, pl, hz⟩ := I.tuple hs
    have e := peach_of ht rv
    have er := peach_reads I e
    have er' : EachIs (fun v b => ∃ as, Reads (sortingHeap (copyHeap s.heap its) (s.heap.objs.size + 1) its) v ((Datum.toD : PP → PyData) b) as) its bs := er.mono fun _ _ ⟨as, r⟩ => ⟨as, PyProof.Rows.Reads.keeps (fun _ _ => sorting_copy_old) r⟩
    have fits : its.length ≤ sizeLine := by
      rw [e.length, sizeLine_eq]
      omega
    refine sorted_tup pl fits (SortsAt.data (s := { s with heap := sortingHeap (copyHeap s.heap its) (s.heap.objs.size + 1) its }) (each_map (R := fun v d => ∃ as, Reads (sortingHeap (copyHeap s.heap its) (s.heap.objs.size + 1) its) v d as) (Datum.toD : PP → PyData) er') (.of alike_pp) (sortable_pp bs) (bound_map fun b _ => depth b)) ?_
    have eo := sortVals_data (enc := (Datum.toD : PP → PyData)) false e er' (.of alike_pp)
    obtain ⟨ys, ry, ty⟩ := peach_pick eo
    obtain ⟨ep, he⟩ := PyProof.Rows.sortedAll_at s.heap its (sortVals (dataKind (sortingHeap (copyHeap s.heap its) (s.heap.objs.size + 1) its) (bs.map Datum.toD)) false its its).toArray
    have fr : H (s.heap.objs.size + 1) = none := I.hok.fresh (Nat.le_succ _)
    have hy : ys.length ≤ sizeLine := by
      rw [ry.length, sortVals_length false rfl]
      exact fits
    exact ⟨.ref _, upd H (s.heap.objs.size + 1) (.lst ys), I.laid (t' := s.toks) (fun _ _ => PyProof.Rows.sortedAll_old) (Nat.le_succ _) ⟨hy, _, ep, ry, he⟩, rfl, q ys _ _ fr (same_new fr) upd_same (ty.same (same_new fr))⟩
theorem k_srtP {K : PySem.W.Frag} {k : Nat} (hr : Room k X.A) (h : X.K = K := by rfl) : CallR X (.builtin "sorted") (rSrtP K) := h ▸ cr_srtP hr
theorem c_strS : CallR X (.type "str") qStrS := SkE.call_str_str
end
theorem w_srtP {K : PySem.W.Frag} {H : Hp} {Q : VK} {a : Addr} {xs : List V} {bs : List PP} (h : SqL K H a xs ∨ SqT K H a xs) (t : PairsAt H xs bs) (few : bs.length ≤ 1000) (q : ∀ ys p J, H p = none → Same H J → J p = some (.lst ys) → PairsAt J ys (srtP bs) → Q (.ref p) J) : rSrtP K [.ref a] H Q := ⟨a, xs, bs, rfl, h, t, few, q⟩
/-! ### a walk over what is a list or a tuple -/
def iEither (K : PySem.W.Frag) (tl : TE) : TI := fun σ H R => tl σ H fun x J => ∃ a, x = .ref a ∧ (((∃ xs, SqL K J a xs) ∧ R (Itl K a) J) ∨ ((∃ xs, SqT K J a xs) ∧ R (Itt K a) J))
theorem pi_either {X : Cx} {tg l : Expr} {tl : TE} (hl : PE X l tl) : PI X tg l (iEither X.K tl) := by
  refine ⟨fun pins s σ H R I h => thn (hl.run pins s σ H _ I h) fun v s1 got => ?_⟩
  obtain ⟨x, H1, I1, r1, a, rfl, q⟩ := got
  cases r1
  have me : ∀ b, b ∈ [s1.heap.objs.size] → b = s1.heap.objs.size := fun b hb => by simpa using hb
  rcases q with ⟨⟨xs, hq⟩, q⟩ | ⟨⟨xs, hq⟩, q⟩
  · obtain ⟨its, rv, p, hz⟩ := I1.list hq
    refine wpAny_pyIter_list p.isList ⟨s1.heap.objs.size, [s1.heap.objs.size], _, _, H1, rfl, I1.kept (t' := s1.toks) fun b o e => Heap.get?_push_of_some _ e, turn_list a _, ⟨_, Heap.get?_push_size _ rfl, rfl, rfl⟩, fun b hb => ?_, q⟩
    obtain rfl := me b hb
    exact I1.fpOk (Nat.le_refl _) (I1.hok.fresh (Nat.le_refl _))
  · obtain ⟨its, rv, p, hz⟩ := I1.tuple hq
    refine wpAny_pyIter_tuple (show s1.heap.IsTuple a its.toArray from p) ⟨s1.heap.objs.size, [s1.heap.objs.size], _, _, H1, rfl, I1.kept (t' := s1.toks) fun b o e => Heap.get?_push_of_some _ e, turn_tuple a _, ⟨_, Heap.get?_push_size _ rfl, rfl, rfl⟩, fun b hb => ?_, q⟩
    obtain rfl := me b hb
    exact I1.fpOk (Nat.le_refl _) (I1.hok.fresh (Nat.le_refl _))
theorem k_iE {X : Cx} {K : PySem.W.Frag} {tg l : Expr} {tl : TE} (hl : PE X l tl) (h : X.K = K := by rfl) : PI X tg l (iEither K tl) := h ▸ pi_either hl
def onE (K : PySem.W.Frag) (x : V) (H : Hp) (R : It → Hp → Prop) : Prop := ∃ a, x = .ref a ∧ (((∃ xs, SqL K H a xs) ∧ R (Itl K a) H) ∨ ((∃ xs, SqT K H a xs) ∧ R (Itt K a) H))
theorem w_iE {K : PySem.W.Frag} {te : TE} {σ : L2.St} {H : Hp} {R : It → Hp → Prop} (h : te σ H fun x L => onE K x L R) : iEither K te σ H R := h
/-- a row: a list or a tuple -/
def SqE (K : PySem.W.Frag) (H : Hp) (a : Addr) (xs : List V) : Prop := SqL K H a xs ∨ SqT K H a xs
theorem SqE.same {K : PySem.W.Frag} {H J : Hp} {a : Addr} {xs : List V} (h : SqE K H a xs) (s : Same H J) : SqE K J a xs := h.elim (fun h => .inl (Same.seq s h)) fun h => .inr (Same.sqT s h)
theorem w_onE {K : PySem.W.Frag} {H : Hp} {R : It → Hp → Prop} {a : Addr} {xs : List V} (h : SqE K H a xs) (q : ∀ J (G : Hp → Prop), G H → (∀ L M, Same L M → G L → G M) → Walk J xs.length G (YAt xs) → R J H) : onE K (.ref a) H R := by
  rcases h with h | h
  · exact ⟨a, rfl, .inl ⟨⟨xs, h⟩, q _ (fun L => SqL K L a xs) h (fun _ _ s z => Same.seq s z) walk_list⟩⟩
  · exact ⟨a, rfl, .inr ⟨⟨xs, h⟩, q _ (fun L => SqT K L a xs) h (fun _ _ s z => Same.sqT s z) walk_tup⟩⟩
theorem w_truE {K : PySem.W.Frag} {H : Hp} {a : Addr} {xs : List V} {N : Bool → Prop} (h : SqE K H a xs) (q : N (!xs.isEmpty)) : ∃ k, TruV K (.ref a) H k ∧ N k := h.elim (fun h => w_truL h q) fun h => w_truT h q
theorem w_lenE {K : PySem.W.Frag} {H : Hp} {Q : VK} {a : Addr} {xs : List V} (h : SqE K H a xs) (q : Q (.int (xs.length : Int)) H) : qLenQ K [.ref a] H Q := ⟨a, xs, rfl, h, q⟩
end RT
set_option Elab.async false
set_option linter.all false
set_option maxRecDepth 100000
set_option maxHeartbeats 4000000
/-! a class made with a starred argument and keywords -/
namespace RT
open PySem PySem.Spec PyProof.Rows L2
section
open PySem.Calls PySem.W PySem.Sem
theorem starK {M : Model} {A : Around} {Ex : Value → Shared → Prop} {s : Shared} {K : Frag} {f : Value} {pos : Pos} {first : List Value} {args : List (Bool × Sem Value)} {kws : List (Option Str × Sem Value)} {Q : Value → Shared → Prop} (st : args.any (·.1) = true) (hk : keepIn K f = true)
    (h : wpAny M A (evalArgs f true args kws) (fun a s1 => K.In s1.heap ∧ wpAny M A (call f (first ++ a.pos) a.kw) Q Ex s1) Ex s) : wpAny M A (callWith pos f first args kws) Q Ex s := by
  have ends : ∀ {t : Sem Value} {s2 : Shared}, wpAny M A t Q Ex s2 → wpAny M A (t >>= fun r => holding [r] point >>= fun _ => Pure.pure r) Q Ex s2 := fun z =>
    wpAny_bind (wpAny_mono z (fun r s3 q => wpAny_bind (wpAny_holding (wpAny_point (wpAny_pure q)))) fun _ _ q => q)
  unfold callWith
  refine wpAny_bind (wpAny_holding (wpAny_mono h (fun a s1 got => ?_) fun _ _ q => q))
  obtain ⟨X, got⟩ := got
  obtain ⟨k, kind, look⟩ := keeps_K hk s1.heap X
  refine wpAny_bind (wpAny_standAt ?_)
  simp only [st, Bool.true_or]
  refine wpAny_bind (look.here ?_)
  rcases kind with rfl | rfl | rfl
  · refine ends ?_
    unfold callMarked
    exact Calls.wpAny_keep got
  · exact ends (wpAny_operating got)
  · exact ends (wpAny_operating got)
end
section
variable {X : Cx} {CX : CXT} {k j : Nat} {f C : Addr} {sp : SpK} {E : XK} {x : Str} {e : Expr} {es : List Expr} {kws : List Keyword} {t tk : TA} {p pos : Pos} {ks : List Str}
/-- C(e, .., *row, .., k = v, ..) -/
theorem pe_mkKS (c : CalK X.prog X.w X.K X.mg X.base k x C ks sp) (hr : Room j X.A) (hj : k + 1 ≤ j) (hg : Gl X x) (ha : PA X (e :: es) t) (hkw : PK X kws tk)
    (hall : (backToKw pos (keywordEach kws X.env)).all (·.1.isSome) = true := by rfl) (hks : (backToKw pos (keywordEach kws X.env)).filterMap (·.1) = ks := by rfl) (hdb : (x == ("__debug__" : Str)) = false := by decide)
    (he : starEach (e :: es) X.env = (false, eval e X.env) :: starEach es X.env := by rfl) (hst : (backTo pos (starEach (e :: es) X.env)).any (·.1) = true := by rfl) :
    PE X (.Call (.Name x p) (e :: es) kws pos) (tMakeRK C ks.length sp E0 t tk) := by
  obtain ⟨f, M, F, hm⟩ := c.ex
  refine ⟨fun pins s σ H Q I h => ?_⟩
  refine wpAny_Call_Name_kw (ld_glob I hg hm ?_ hdb)
  refine starK hst M.kp (evalArgs_kw2 hall (thn (ha.run pos pins s σ H _ I h) fun us s1 got => ?_) he)
  obtain ⟨vs, H1, I1, r, q⟩ := got
  refine thn (hkw.run pos pins s1 σ H1 _ I1 q) fun ws s2 got2 => ?_
  obtain ⟨zs, H2, I2, rz, l2, q2⟩ := got2
  refine ⟨I2.kIn, ?_⟩
  rw [hks]
  exact run_makeRK M F (hr.mono hj) pass0 I2 r rz l2 q2
end
end RT
set_option Elab.async false
set_option linter.all false
set_option maxRecDepth 100000
set_option maxHeartbeats 4000000
/-! anything beside texts: x in a tuple of texts, a text == x -/
namespace RT
open PySem PySem.Spec PyProof.Rows L2
section
open PySem.Calls PySem.W PySem.Sem PySem.SeqAt MeetsSeq AutoSeq1
theorem str_no_dict (b : Str) (u : Tok) (l : Addr) (o : Obj) (es : Array DictEntry) (n : Nat) (hd : o.data = .dict es n) (hc : o.cls = .type "dict") :
    Meets (Builtin.«str.__eq__» ⟨[.str b u, .ref l], []⟩) (fun _ R s => s.heap.get? l = some o ∧ R (.ok (.ret .notImplemented)) s) :=
  .of_wp fun prog w A R s h => by
    obtain ⟨hp, g, d, tk, os⟩ := s
    obtain ⟨hl, h⟩ := h
    obtain ⟨cls, dd, data, sl⟩ := o
    simp only at hd hc
    subst hd hc
    wp_walk using wpAny_loadPart' hl, wpAny_load hl
    exact ⟨_, rfl, h⟩
theorem dict_no_str (b : Str) (u : Tok) (l : Addr) (o : Obj) (es : Array DictEntry) (n : Nat) (hd : o.data = .dict es n) (hc : o.cls = .type "dict") :
    Meets (Builtin.«dict.__eq__» ⟨[.ref l, .str b u], []⟩) (fun _ R s => s.heap.get? l = some o ∧ R (.ok (.ret .notImplemented)) s) :=
  .of_wp fun prog w A R s h => by
    obtain ⟨hp, g, d, tk, os⟩ := s
    obtain ⟨hl, h⟩ := h
    obtain ⟨cls, dd, data, sl⟩ := o
    simp only at hd hc
    subst hd hc
    have ty : (⟨hp, g, d, tk, os⟩ : Shared).TypeIs (.ref l) "dict" := ⟨_, hl, rfl⟩
    have f1 := PySem.F.sub_str_dict
    show wpAny _ _ (Builtin.Dict.dictSlotArgs "__eq__" ⟨[.ref l, .str b u], []⟩ >>= _) _ _ _
    refine wpAny_bind ?_
    unfold Builtin.Dict.dictSlotArgs
    refine wpAny_bind (wpAny_notOrdered_dict ty ?_)
    show wpAny _ _ (Pure.pure (Value.ref l, Value.str b u)) _ _ _
    refine wpAny_pure ?_
    refine wpAny_bind (wpAny_isInstance (T := "str") (typeIs_str _ b u) f1 ?_)
    simp only [Bool.not_false, if_true]
    exact wpAny_bind (wpAny_rule (wpAny_pure ⟨_, rfl, h⟩))
variable {A : Around} {s : Shared}
theorem rc_dict (b : Str) (u : Tok) {l : Addr} {o : Obj} {es : Array DictEntry} {n : Nat} (hl : s.heap.get? l = some o) (hd : o.data = .dict es n) (hc : o.cls = .type "dict") (hu : A.units < cLine) : RcAt A s (.str b u) (.ref l) false := fun prog w E Q h =>
  rc_eq_decline_or (k := false) (typeIs_str s b u) ⟨_, hl, hc⟩ (by decide) PySem.F.sub_dict_str PySem.F.slot_str_eq PySem.F.slot_dict_eq_refl
    (fun _ hq => call_meets PySem.F.slot_str_eq (typeIs_str s b u) PySem.F.entry_str_eq (PySem.F.args_str_eq_2 _ _) (str_no_dict b u l o es n hd hc) ⟨hl, hq⟩)
    (fun _ hq => call_meets PySem.F.slot_dict_eq_refl ⟨_, hl, hc⟩ PySem.F.entry_dict_eq (PySem.F.args_dict_eq_2 _ _) (dict_no_str b u l o es n hd hc) ⟨hl, hq⟩)
    (fun _ hq => wpAny_of_eq (rfl : isSame (.str b u) (.ref l) = Pure.pure false) hq) (.inr hu) h
theorem eq_dict (b : Str) (u : Tok) {l : Addr} {o : Obj} {es : Array DictEntry} {n : Nat} (hl : s.heap.get? l = some o) (hd : o.data = .dict es n) (hc : o.cls = .type "dict") (hu : A.units < cLine) : EqAt A s (.str b u) (.ref l) false := fun prog w E Q h => by
  unfold eqBool
  refine wpAny_holding ?_
  rw [if_neg (by simp)]
  exact wpAny_bind (rc_dict b u hl hd hc hu prog w E _ (wpAny_truthy_bool h))
end
/-- what is no text: data without dicts, or a dict -/
def NoText (K : PySem.W.Frag) (H : Hp) (x : V) : Prop := (∃ d, Dp K H x d ∧ d.plain = true ∧ (∀ z, d ≠ .str z) ∧ PyData.depth d ≤ 60) ∨ ∃ a kvs, x = .ref a ∧ H a = some (.dK kvs)
section
open PySem.SeqAt
variable {X : Cx} {pins : List (Addr × Obj)} {σ : L2.St} {H : Hp} {s : Shared}
theorem NoText.at_ {A : Around} {x : V} {u : Value} {z : Str} {t : Tok} (h : NoText X.K H x) (I : Inv X pins σ H s) (r : RelV x u) (hu : A.units + 2 < cLine) : EqAt A s (.str z t) u false := by
  rcases h with ⟨d, hd, pl, ns, _⟩ | ⟨a, kvs, rfl, ha⟩
  · obtain ⟨as, rd⟩ := Dp.reads I d x u hd r
    have e := eqAt_plain (.str z) d A s (.str z t) u [] as (.str z t) rd rfl pl (by
      have : min (PyData.depth (.str z)) d.depth ≤ 0 := Nat.le_trans (Nat.min_le_left _ _) (by simp only [PyData.depth]; exact Nat.le_refl 0)
      omega)
    have e2 : PyData.eqv (.str z) d = false := by
      cases d with
      | str y => exact absurd rfl (ns y)
      | _ => rfl
    rw [e2] at e
    exact e
  · obtain rfl : u = Value.ref a := r
    obtain ⟨_, y, vs, ra, da⟩ := (show ObjOk X.prog X.w H s.heap a (.dK kvs) from I.hok a _ ha)
    obtain ⟨o, es, ep, hg, he, hd, _⟩ := da
    exact eq_dict z t hg hd he.1 (by omega)
def neg2 (neg b : Bool) : Bool := if neg then !b else b
/-- x (not) in a tuple of texts, x anything -/
def rInA (K : PySem.W.Frag) (neg : Bool) : R2 := fun x y H Q => ∃ (a : Addr) (zs : List Str), y = .ref a ∧ SqT K H a (zs.map V.str) ∧ ((∃ z, x = .str z ∧ Q (.bl (if neg then !decide (z ∈ zs) else decide (z ∈ zs))) H) ∨ (NoText K H x ∧ Q (.bl neg) H))
theorem none_any {zs : List Str} {x : V} {u : Value} {its : List Value} {A : Around} (h : NoText X.K H x) (I : Inv X pins σ H s) (r : RelV x u) (hu : A.units + 2 < cLine) (rv : Vals (zs.map V.str) its) : ∀ y ∈ its.toArray, EqAt A s y u false := by
  intro y hy
  have hy : y ∈ its := by simpa using hy
  have go : ∀ {zs : List Str} {its : List Value}, Vals (zs.map V.str) its → y ∈ its → ∃ z t, y = .str z t := fun {zs} => by
    induction zs with
    | nil =>
      intro its rv hy
      cases rv
      cases hy
    | cons z zs ih =>
      intro its rv hy
      cases rv with
      | cons r0 r1 =>
        rcases List.mem_cons.mp hy with e | e
        · obtain ⟨t, q⟩ := (show ∃ t, _ = Value.str z t from r0)
          exact ⟨z, t, e.trans q⟩
        · exact ih r1 e
  obtain ⟨z, t, e⟩ := go rv hy
  rw [e]
  exact h.at_ I r hu
theorem op_inA (hu : X.A.units + 64 < cLine) : OpR X (compareOp .In) (rInA X.K false) := by
  intro pins s σ H x y v u Q I rx ry h
  obtain ⟨a, zs, ey, hq, ⟨z, ex, q⟩ | ⟨nt, q⟩⟩ := h
  · exact op_in_seq pins s σ H x y v u Q I rx ry ⟨a, _, ey, .inr hq, by rw [ex]; rfl, flat_strs zs, by rw [ex, if_neg Bool.false_ne_true, inV_strs]; exact q⟩
  · subst ey
    obtain rfl : u = Value.ref a := ry
    obtain ⟨its, rv, pl, hz⟩ := I.tuple hq
    have un : X.A.in1.units + 2 < cLine := by
      have : X.A.in1.units ≤ X.A.units + 1 := Nat.le_refl _
      omega
    refine in_tupleAt (fun _ => false) pl (none_any nt I rx un rv) ⟨.bl _, H, I, rfl, ?_⟩
    rw [show its.toArray.any (fun _ => false) = false by simp]
    exact q
theorem op_ninA (hu : X.A.units + 64 < cLine) : OpR X (compareOp .NotIn) (rInA X.K true) := by
  intro pins s σ H x y v u Q I rx ry h
  obtain ⟨a, zs, ey, hq, ⟨z, ex, q⟩ | ⟨nt, q⟩⟩ := h
  · exact op_notIn_seq pins s σ H x y v u Q I rx ry ⟨a, _, ey, .inr hq, by rw [ex]; rfl, flat_strs zs, by rw [ex, if_pos rfl, inV_strs]; exact q⟩
  · subst ey
    obtain rfl : u = Value.ref a := ry
    obtain ⟨its, rv, pl, hz⟩ := I.tuple hq
    have un : X.A.in1.units + 2 < cLine := by
      have : X.A.in1.units ≤ X.A.units + 1 := Nat.le_refl _
      omega
    refine notIn_tupleAt (fun _ => false) pl (none_any nt I rx un rv) ⟨.bl _, H, I, rfl, ?_⟩
    rw [show its.toArray.any (fun _ => false) = false by simp]
    exact q
/-- a text == x, x anything -/
def rEqA (K : PySem.W.Frag) : R2 := fun x y H Q => ∃ z, x = .str z ∧ ((∃ z', y = .str z' ∧ Q (.bl (decide (z = z'))) H) ∨ (NoText K H y ∧ Q (.bl false) H))
theorem op_eqA (hu : X.A.units + 64 < cLine) : OpR X (compareOp .Eq) (rEqA X.K) := by
  intro pins s σ H x y v u Q I rx ry h
  obtain ⟨z, ex, ⟨z', ey, q⟩ | ⟨⟨d, hd, pl, ns, _⟩ | ⟨a, kvs, ey, ha⟩, q⟩⟩ := h
  · refine op_eq pins s σ H x y v u Q I rx ry ?_
    rw [ex, ey]
    exact w_eqS q
  · subst ex
    obtain ⟨t, e⟩ := (show ∃ t, v = Value.str z t from rx)
    rw [e]
    obtain ⟨as, rd⟩ := Dp.reads I d y u hd ry
    have e2 : PyData.eqv (.str z) d = false := by
      cases d with
      | str y => exact absurd rfl (ns y)
      | _ => rfl
    refine eq_plain (.str z t) rd rfl pl (by
      have : min (PyData.depth (.str z)) d.depth ≤ 0 := Nat.le_trans (Nat.min_le_left _ _) (by simp only [PyData.depth]; exact Nat.le_refl 0)
      omega) ?_
    rw [e2]
    exact ⟨.bl false, H, I, rfl, q⟩
  · subst ex ey
    obtain ⟨t, e⟩ := (show ∃ t, v = Value.str z t from rx)
    rw [e]
    obtain rfl : u = Value.ref a := ry
    obtain ⟨_, _, vs, _, o, es, ep, hg, he, hd, _⟩ := (show ObjOk X.prog X.w H s.heap a (.dK kvs) from I.hok a _ ha)
    exact rc_dict z t hg hd he.1 (by omega) _ _ _ _ ⟨.bl false, H, I, rfl, q⟩
end
section
variable {X : Cx} {K : PySem.W.Frag} {k : Nat}
theorem room65 (hr : Room k X.A) : X.A.units + 64 < cLine := hr.units
theorem k_inA (hr : Room k X.A) (h : X.K = K := by rfl) : OpR X (compareOp .In) (rInA K false) := h ▸ op_inA (room65 hr)
theorem k_ninA (hr : Room k X.A) (h : X.K = K := by rfl) : OpR X (compareOp .NotIn) (rInA K true) := h ▸ op_ninA (room65 hr)
theorem k_eqA (hr : Room k X.A) (h : X.K = K := by rfl) : OpR X (compareOp .Eq) (rEqA K) := h ▸ op_eqA (room65 hr)
end
section
variable {K : PySem.W.Frag} {H : Hp} {Q : VK} {a : Addr} {zs : List Str} {z z' : Str} {x : V}
theorem w_inA (h : SqT K H a (zs.map V.str)) (q : Q (.bl (decide (z ∈ zs))) H) : rInA K false (.str z) (.ref a) H Q := ⟨a, zs, rfl, h, .inl ⟨z, rfl, q⟩⟩
theorem w_ninA (h : SqT K H a (zs.map V.str)) (q : Q (.bl (!decide (z ∈ zs))) H) : rInA K true (.str z) (.ref a) H Q := ⟨a, zs, rfl, h, .inl ⟨z, rfl, q⟩⟩
theorem w_inA0 (h : SqT K H a (zs.map V.str)) (n : NoText K H x) (q : Q (.bl false) H) : rInA K false x (.ref a) H Q := ⟨a, zs, rfl, h, .inr ⟨n, q⟩⟩
theorem w_ninA0 (h : SqT K H a (zs.map V.str)) (n : NoText K H x) (q : Q (.bl true) H) : rInA K true x (.ref a) H Q := ⟨a, zs, rfl, h, .inr ⟨n, q⟩⟩
theorem w_eqA (q : Q (.bl (decide (z = z'))) H) : rEqA K (.str z) (.str z') H Q := ⟨z, rfl, .inl ⟨z', rfl, q⟩⟩
theorem w_eqA0 (n : NoText K H x) (q : Q (.bl false) H) : rEqA K (.str z) x H Q := ⟨z, rfl, .inr ⟨n, q⟩⟩
end
end RT
set_option Elab.async false
set_option linter.all false
set_option maxRecDepth 100000
set_option maxHeartbeats 4000000
/-! methods of own classes: by keywords; readings of the calls -/
namespace RT
open PySem PySem.Spec PyProof.Rows L2
/-- o.m(k = v, ..) -/
def tMetK (C : Addr) (m : Str) (n : Nat) (sp : Sp) (gV : List V → List V → List V) (ta : TE) (tk : TA) : TE := fun σ H Q => ta σ H fun x H1 => ∃ a dx fs, x = .ref a ∧ H1 a = some (.ins C dx fs) ∧ fs.lookup m = none ∧ tk σ H1 fun zs H2 => zs.length = n ∧ sp (gV [.ref a] zs) H2 Q E0
structure MetK (P : Program) (w : World) (K : PySem.W.Frag) (mg : Str → Option Value) (base : Heap) (k : Nat) (C : Addr) (m : Str) (ks : List Str) (sp : Sp) (gV : List V → List V → List V) : Prop where
  ex : ∃ f fd ps g, Cls K C ∧ Meth K C m f ∧ FnOk P w K mg base CX0 k f fd ps sp ∧ KBn K fd ps 1 ks g gV
section
variable {X : Cx} {k j : Nat} {C : Addr} {m : Str} {sp : Sp} {o : Expr} {ta : TE} {tk : TA} {apos pos : Pos} {kws : List Keyword} {ks : List Str} {gV : List V → List V → List V}
theorem pe_mtK {pl : Sem Bool} (c : MetK X.prog X.w X.K X.mg X.base k C m ks sp gV) (hr : Room j X.A) (hk : k ≤ j) (he : PE X o ta) (hkw : PK X kws tk)
    (hall : (backToKw pos (keywordEach kws X.env)).all (fun z => z.1.isSome) = true := by rfl) (hks : (backToKw pos (keywordEach kws X.env)).filterMap (fun z => z.1) = ks := by rfl)
    (hpl : ((backTo pos (starEach [] X.env)).any (fun z => z.1) || (backToKw pos (keywordEach kws X.env)).any (fun z => z.1.isNone)) = false := by rfl)
    (ht : eval (.Call (.Attribute o m apos) [] kws pos) X.env = (do
      let ov ← eval o X.env
      standAt apos.atName
      let (f, first) ← holding [ov] (getMethod ov m pl)
      callWith pos f first (backTo pos (starEach [] X.env)) (backToKw pos (keywordEach kws X.env))) := by rfl) :
    PE X (.Call (.Attribute o m apos) [] kws pos) (tMetK C m ks.length sp gV ta tk) := by
  obtain ⟨f, fd, ps, g, hc, hm, F, hb⟩ := c.ex
  refine ⟨fun pins s σ H Q I h => ?_⟩
  refine PySem.W.methodCall_KW (pl := pl) (thn (he.run pins s σ H _ I h) fun u s1 got => ?_) ht
  obtain ⟨x, H1, I1, rx, a, dx, fs, ex, ea, l, q⟩ := got
  subst ex
  obtain rfl : u = Value.ref a := rx
  refine getmeth_ok I1 ea hc hm l ?_
  refine PySem.W.callWith_KW0 (first := [.ref a]) (h₀ := X.base) I.ok.mod.kin hm.kp hall ?_ hpl
  refine thn (hkw.run pos pins s1 σ H1 _ I1 q) fun ws s2 got2 => ?_
  obtain ⟨zs, H2, I2, rz, l2, q2⟩ := got2
  refine ⟨I2.kIn, ?_⟩
  rw [hks]
  exact run_fnN (us := [.ref a]) (vs := [.ref a]) F (hr.mono hk) hb pass0 I2 (.cons rfl .nil) rz rfl l2 q2
end
section
variable {C a dx : Addr} {m : Str} {sp : Sp} {ta : TE} {t tk : TA} {σ : L2.St} {H : Hp} {Q : VK} {fs : List (Str × V)} {n : Nat} {gV : List V → List V → List V} {dvs : List V} {E : XK}
/-- the object of a call -/
def aMet (C : Addr) (m : Str) (x : V) (H : Hp) (N : Addr → Prop) : Prop := ∃ a dx fs, x = .ref a ∧ H a = some (.ins C dx fs) ∧ fs.lookup m = none ∧ N a
theorem w_metK (h : ta σ H fun x H1 => aMet C m x H1 fun a => tk σ H1 fun zs H2 => zs.length = n ∧ sp (gV [.ref a] zs) H2 Q E0) : tMetK C m n sp gV ta tk σ H Q := h
def aMetX (C : Addr) (m : Str) (x : V) (H : Hp) (A : Prop) : Prop := ∃ a dx fs, x = .ref a ∧ H a = some (.ins C dx fs) ∧ fs.lookup m = none ∧ A
theorem w_met (h : ta σ H fun x H1 => aMetX C m x H1 (t σ H1 fun vs H2 => sp (x :: (vs ++ dvs)) H2 Q E)) : tMeth C m sp dvs E ta t σ H Q := h
theorem w_aMetX {A : Prop} (e : H a = some (.ins C dx fs)) (l : fs.lookup m = none) (q : A) : aMetX C m (.ref a) H A := ⟨a, dx, fs, rfl, e, l, q⟩
theorem w_aMet {N : Addr → Prop} (e : H a = some (.ins C dx fs)) (l : fs.lookup m = none) (q : N a) : aMet C m (.ref a) H N := ⟨a, dx, fs, rfl, e, l, q⟩
end
/-! ### C.m(..), m a staticmethod of the own class -/
structure SMet (K : PySem.W.Frag) (C : Addr) (mc : Value) (m : Str) (p g : Addr) : Prop where
  at_ : PySem.W.findCls K (.ref C) mc m = some (.get (.builtin "staticmethod.__get__") (.ref p) .none (.ref C))
  rc : ∃ rest, PySem.W.recIn K p "staticmethod" = some (.ref g :: rest)
  hd : PySem.W.handedIn (.ref g) = true
  kp : PySem.W.keepIn K (.ref g) = true
structure StatM (P : Program) (w : World) (K : PySem.W.Frag) (mg : Str → Option Value) (base : Heap) (k : Nat) (C : Addr) (m : Str) (sp : Sp) : Prop where
  ex : ∃ mc p g fd ps, ClX.CRead K C mc ∧ SMet K C mc m p g ∧ FnOk P w K mg base CX0 k g fd ps sp ∧ Binds K fd ps []
def tStat (C : Addr) (sp : Sp) (ta : TE) (t : TA) : TE := fun σ H Q => ta σ H fun x H1 => x = .ref C ∧ t σ H1 fun vs H2 => sp vs H2 Q E0
section
variable {X : Cx} {k j : Nat} {C : Addr} {m : Str} {sp : Sp} {o e : Expr} {es : List Expr} {ta : TE} {t : TA} {apos pos : Pos}
theorem pe_stat {pl : Sem Bool} (c : StatM X.prog X.w X.K X.mg X.base k C m sp) (hr : Room j X.A) (hk : k ≤ j) (he : PE X o ta) (ha : PA X (e :: es) t)
    (hst : starEach (e :: es) X.env = (false, eval e X.env) :: starEach es X.env := by rfl) (hpl : (backTo pos (starEach es X.env)).any (·.1) = false := by rfl)
    (ht : eval (.Call (.Attribute o m apos) (e :: es) [] pos) X.env = (do
      let ov ← eval o X.env
      standAt apos.atName
      let (f, first) ← holding [ov] (getMethod ov m pl)
      callWith pos f first (backTo pos (starEach (e :: es) X.env)) (backToKw pos (keywordEach [] X.env))) := by rfl) :
    PE X (.Call (.Attribute o m apos) (e :: es) [] pos) (tStat C sp ta t) := by
  obtain ⟨mc, p, g, fd, ps, r, S, F, b⟩ := c.ex
  obtain ⟨rest, hp⟩ := S.rc
  refine ⟨fun pins s σ H Q I h => ?_⟩
  refine PySem.W.methodCall_KW (pl := pl) (thn (he.run pins s σ H _ I h) fun u s1 got => ?_) ht
  obtain ⟨x, H1, I1, rx, ex, q⟩ := got
  subst ex
  obtain rfl : u = Value.ref C := rx
  refine PySem.W.method_cls I1.kIn r.ga (PySem.W.cls_bind I1.kIn r.rd S.at_ (wpAny_call (PySem.W.sm_get (s := { s1 with toks := s1.toks + 1 }) I1.kIn hp (PySem.W.handed_on S.hd ?_))))
  have I2 := I1.tok (s1.toks + 1)
  refine PySem.W.callWith_K (first := []) (h₀ := X.base) I.ok.mod.kin S.kp (thn (ha.run pos pins _ σ H1 _ I2 q) fun us s2 got2 => ?_) hst hpl
  obtain ⟨vs, H2, I3, rv, q2⟩ := got2
  exact ⟨I3.kIn, run_fn F (hr.mono hk) b .nil pass0 I3 rv (by rw [List.append_nil]; exact q2)⟩
end
theorem w_stat {C : Addr} {sp : Sp} {ta : TE} {t : TA} {σ : L2.St} {H : Hp} {Q : VK} (h : ta σ H fun x H1 => x = .ref C ∧ t σ H1 fun vs H2 => sp vs H2 Q E0) : tStat C sp ta t σ H Q := h
/-! ### x in o, o of an own class with __contains__ -/
section
open PySem.Calls PySem.W PySem.Sem
theorem own_has {M : Model} {A : Around} {Ex : Value → Shared → Prop} {s : Shared} {K : Frag} {x C f : Addr} {ox : Obj} {od : Option Obj} {v : Value} {Q : Bool → Shared → Prop} (X : K.In s.heap) (I : InstAt s.heap x ox C od) (m : OwnM K C "__contains__" f)
    (h : wpAny M A (call (.ref f) [.ref x, v]) (fun r s' => ∃ b, r = .bool b ∧ Q b s') Ex s) : wpAny M A (contains (.ref x) v) Q Ex s := by
  unfold contains
  refine wpAny_holding (wpAny_bind (wpAny_bind (I.type.here ((looks_findIn X m.at_).here ?_))))
  rw [if_neg (by simp)]
  refine wpAny_bind (unlessNone_K X I m.at_ m.fn (wpAny_mono h (fun r s' z => ?_) fun _ _ z => z))
  obtain ⟨b, rfl, q⟩ := z
  exact wpAny_truthy_bool q
end
def oInO (neg : Bool) (C : Addr) (sp : Sp) : R2 := fun x y H Q => ∃ a dx fs, y = .ref a ∧ H a = some (.ins C dx fs) ∧ sp [y, x] H (aBool fun v J => ∀ b, v = .bl b → Q (.bl (if neg then !b else b)) J) E0
section
variable {X : Cx} {C : Addr} {sp : Sp} {k j : Nat}
theorem has_core {pins : List (Addr × Obj)} {σ : L2.St} {H : Hp} {s : Shared} {Q : VK} {a dx : Addr} {fs : List (Str × V)} {x : V} {v : Value} {neg : Bool} (c : CalM X.prog X.w X.K X.mg X.base k C "__contains__" ["self", "value"] sp) (hr : Room j X.A) (hk : k + 3 ≤ j) (I : Inv X pins σ H s) (ea : H a = some (.ins C dx fs)) (rx : RelV x v)
    (q : sp [.ref a, x] H (aBool fun v J => ∀ b, v = .bl b → Q (.bl (if neg then !b else b)) J) E0) : wpAny (model X.prog X.w) X.A (contains (.ref a) v) (fun b s' => EP X pins σ Q (.bool (if neg then !b else b)) s') X.xe s := by
  obtain ⟨f, fd, m, F, b⟩ := c.ex
  obtain ⟨ox, od, J⟩ := ins_inst I ea
  refine own_has I.kIn J m (wpAny_mono (run_below (vs := [V.ref a, x]) F X.A rfl (hr.mono (by omega)) b I (.cons rfl (.cons rx .nil)) q) (fun r s' z => ?_) fun _ _ z => z)
  obtain ⟨w, J2, I2, rw_, c, rfl, q2⟩ := z
  cases rw_
  exact ⟨c, rfl, .bl _, J2, I2, rfl, q2 c rfl⟩
theorem or_inO (c : CalM X.prog X.w X.K X.mg X.base k C "__contains__" ["self", "value"] sp) (hr : Room j X.A) (hk : k + 3 ≤ j) : OpR X (compareOp .In) (oInO false C sp) := by
  intro pins s σ H x y v u Q I rx ry h
  obtain ⟨a, dx, fs, rfl, ea, q⟩ := h
  obtain rfl : u = Value.ref a := ry
  exact wpAny_bind (wpAny_mono (has_core (neg := false) c hr hk I ea rx q) (fun b s' z => wpAny_pure z) fun _ _ z => z)
theorem or_ninO (c : CalM X.prog X.w X.K X.mg X.base k C "__contains__" ["self", "value"] sp) (hr : Room j X.A) (hk : k + 3 ≤ j) : OpR X (compareOp .NotIn) (oInO true C sp) := by
  intro pins s σ H x y v u Q I rx ry h
  obtain ⟨a, dx, fs, rfl, ea, q⟩ := h
  obtain rfl : u = Value.ref a := ry
  exact wpAny_bind (wpAny_mono (has_core (neg := true) c hr hk I ea rx q) (fun b s' z => wpAny_pure z) fun _ _ z => z)
end
section
variable {X : Cx} {K : PySem.W.Frag} {C : Addr} {sp : Sp} {k j : Nat}
theorem k_eqO (c : CalM X.prog X.w X.K X.mg X.base k C "__eq__" ["self", "other"] sp) (hr : Room j X.A) (hk : k + 3 ≤ j) (h : X.K = K := by rfl) : OpR X (compareOp .Eq) (oEqO K C sp) := h ▸ or_eqO c hr hk
theorem k_neO (c : CalM X.prog X.w X.K X.mg X.base k C "__eq__" ["self", "other"] sp) (hne : PySem.W.findIn X.K (.ref C) "__ne__" = some (some (.builtin "object.__ne__"))) (hm : PySem.W.mroIn X.K C (.type "object") = some true) (hr : Room j X.A) (hk : k + 3 ≤ j) (h : X.K = K := by rfl) : OpR X (compareOp .NotEq) (oNeO K C sp) := h ▸ or_neO c hne hm hr hk
end
end RT
set_option Elab.async false
set_option linter.all false
set_option maxRecDepth 100000
set_option maxHeartbeats 4000000
/-! sorted of a list of texts -/
namespace RT
open PySem PySem.Spec PyProof.Rows L2 PySem.W
theorem leS_data : (dataLe false (Datum.toD : Str → PyData)) = leS := by
  have e : dataLe false (fun b : Str => PyData.str b) = fun a b => decide (a.cps.toList ≤ b.cps.toList) := dataLe_str (fun b : Str => b)
  have e2 : (dataLe false (Datum.toD : Str → PyData)) = fun a b => decide (a.cps.toList ≤ b.cps.toList) := e
  rw [e2]
  funext a b
  by_cases h : leS a b = true
  · rw [h]
    exact decide_eq_true (List.not_lt.mp (leS_iff.mp h))
  · rw [Bool.eq_false_iff.mpr h]
    exact decide_eq_false fun z => h (leS_iff.mpr (List.not_lt.mpr z))
def rSrtS (K : PySem.W.Frag) : List V → Hp → VK → Prop := rSortV Str K
theorem k_srtS {X : Cx} {K : PySem.W.Frag} {k : Nat} (hr : Room k X.A) (h : X.K = K := by rfl) : CallR X (.builtin "sorted") (rSrtS K) :=
  h ▸ cr_sortV (α := Str) hr (by decide) (fun _ _ => rfl) fun bs => Sortable.others (enc := (Datum.toD : Str → PyData)) fun b => ⟨(fun e => PyData.noConfusion e), (fun xs e => PyData.noConfusion e)⟩
theorem tva_str : ∀ {K : PySem.W.Frag} {H : Hp} {ys : List V} {zs : List Str}, Tva K H ys zs → ys = zs.map V.str
  | _, _, [], [], _ => rfl
  | _, _, _ :: _, _ :: _, .cons h t => by rw [is_str h, tva_str t]; rfl
theorem w_srtS {K : PySem.W.Frag} {H : Hp} {Q : VK} {a : Addr} {zs : List Str} (h : SqL K H a (zs.map V.str)) (few : zs.length ≤ 1000) (q : ∀ p J, H p = none → Same H J → J p = some (.lst ((srtS zs).map V.str)) → Q (.ref p) J) : rSrtS K [.ref a] H Q :=
  ⟨a, _, zs, rfl, h, tva_strs zs, few, fun ys p J np s hp t => q p J np s (by rw [hp, tva_str t, leS_data]; rfl)⟩
end RT
set_option Elab.async false
set_option linter.all false
set_option maxRecDepth 100000
set_option maxHeartbeats 4000000
/-! a light head: facts as one Bool over the part of the heap that the module's names reach, defs as data -/
namespace RT
open PySem PySem.Spec PyProof.Rows L2
/-! ### the Hook -/
def obsK (ck : PySem.W.Frag → Bool) (fn : List He.DefD) (K : PySem.W.Frag) : He.AlD := (ck K && fn.all fun d => d.ok K, fn.map fun d => He.fnW K d.at_)
def SaysK (ck : PySem.W.Frag → Bool) (fn : List He.DefD) (K : PySem.W.Frag) : Prop := obsK ck fn K = He.valD fn
def obsKG (n : Nat) (ck : PySem.W.Frag → Bool) (fn : List He.DefD) (g : Addr → Option Obj) : He.AlD := obsK ck fn (He.frG g (He.asD g n))
def hookK (n : Nat) (ck : PySem.W.Frag → Bool) (fn : List He.DefD) : PySem.W.Hook where
  α := He.AlD
  obs := fun s => obsKG n ck fn s.heap.get?
  val := fun _ => He.valD fn
  says := fun _ h => ∃ K : PySem.W.Frag, K.In h ∧ SaysK ck fn K
  of := fun _ _ e => ⟨_, He.frG_in, e⟩
  keeps := fun _ _ _ ⟨K, hK, c⟩ k => ⟨K, PySem.W.Frag.In.keeps hK k, c⟩
theorem obsKG_eq {n : Nat} {ck : PySem.W.Frag → Bool} {fn : List He.DefD} {g : Addr → Option Obj} {s : Shared} (h : ∀ a, g a = s.heap.get? a) : obsKG n ck fn g = (hookK n ck fn).obs s := by
  have e : g = s.heap.get? := funext h
  rw [e] <;> rfl
section
variable {ck : PySem.W.Frag → Bool} {fn : List He.DefD} {K : PySem.W.Frag}
theorem SaysK.chk (c : SaysK ck fn K) : ck K = true := (He.ba (show (ck K && fn.all fun d => d.ok K) = true from congrArg (fun z : He.AlD => z.1) c)).1
theorem SaysK.def_ (c : SaysK ck fn K) (i : Nat) {d : He.DefD} (h : fn[i]? = some d := by rfl) : ∃ fd, FunD K d.name d.qual d.params d.body d.scope (d.dvs K) (d.kws K) (He.fAd K d.at_) fd := by
  have c2 := (He.ba (show (ck K && fn.all fun d => d.ok K) = true from congrArg (fun z : He.AlD => z.1) c)).2
  have e : fn.map (fun d => He.fnW K d.at_) = fn.map He.DefD.val := congrArg (fun z : He.AlD => z.2) c
  have e2 : (fn.map fun d => He.fnW K d.at_)[i]? = (fn.map He.DefD.val)[i]? := by rw [e]
  rw [List.getElem?_map, List.getElem?_map, h] at e2
  exact He.DefD.funD (Option.some.inj e2) (List.all_eq_true.mp c2 d (List.mem_of_getElem? h))
end
/-- a def without defaults, as the walk wants it -/
theorem fun_of {K : PySem.W.Frag} {x q : Str} {st : Stmt} {f : Addr} {fd : FuncData} (F : FunD K x q (defArgs st) (defBody st) (defScope st) [] [] f fd) : Fun K x q st f fd := by
  obtain ⟨oc, od, dV, kV, doc, pm, an, cdv, ct, osl, e, lk, hc, hd, hk⟩ := F.ex
  rcases hd with ⟨_, rfl⟩ | ⟨n, _⟩
  · exact ⟨⟨oc, od, kV, doc, pm, an, cdv, ct, osl, e, lk, hc⟩, F.kp⟩
  · exact absurd rfl n
/-- a def of the text: its datum -/
def dG (x : Str) (st : Stmt) : He.DefD := ⟨(x, none), x, x, defArgs st, defBody st, defScope st, [], []⟩
def dM (c m q : Str) (st : Stmt) : He.DefD := ⟨(c, some m), m, q, defArgs st, defBody st, defScope st, [], []⟩
theorem defAt_of {ck : PySem.W.Frag → Bool} {fn : List He.DefD} {K : PySem.W.Frag} {h : Heap} {mg : Str → Option Value} (X : K.In h) (G : h.Ns mainGlobals mg) (c : SaysK ck fn K) (i : Nat) {x : Str} {st : Stmt} (e : fn[i]? = some (dG x st)) (g : (He.Fa.glo x).ok K = true) : DefAt K mg x st := by
  obtain ⟨fd, F⟩ := c.def_ i e
  exact ⟨_, fd, fun_of F, He.glo_ok X G g⟩
/-! ### the run in parts -/
theorem map_two {α β γ : Type} {o : Option α} {f : α → β} {g : α → γ} {b : β} {c : γ} (h1 : o.map f = some b) (h2 : o.map g = some c) : o.map (fun x => (f x, g x)) = some (b, c) := by
  cases o with
  | none => cases h1
  | some x =>
    have e1 : f x = b := Option.some.inj h1
    have e2 : g x = c := Option.some.inj h2
    show some (f x, g x) = _
    rw [e1, e2]
theorem map_and {α : Type} {o : Option α} {f g : α → Bool} (h1 : o.map f = some true) (h2 : o.map g = some true) : o.map (fun x => f x && g x) = some true := by
  cases o with
  | none => cases h1
  | some x =>
    have e1 : f x = true := Option.some.inj h1
    have e2 : g x = true := Option.some.inj h2
    show some (f x && g x) = _
    rw [e1, e2]
    rfl
theorem map_true {α β : Type} {o : Option α} {f : α → β} {b : β} (h1 : o.map f = some b) : o.map (fun _ => true) = some true := by
  cases o with
  | none => cases h1
  | some x => rfl
theorem map_same {α β : Type} {o : Option α} {f g : α → β} {b : β} (e : ∀ x, f x = g x) (h : o.map g = some b) : o.map f = some b := by
  rw [show f = g from funext e]
  exact h
section
variable (r : PySem.W.OpenRow) (q : Program) (M n : Nat) (loose : List Str) (w : World)
/-- the run of a top without imports: what each part of it must give -/
def RA (β : Type) (f : PySem.W.SharedT → β) (b : β) : Prop := ∀ os : OsState, (HandSHeadRun.endF (HandSHeadRun.stepQ (HandSHeadRun.denQ HandSHeadRun.tabQ) r.prog w) M r.prog w os).map f = some b
def RLook : Prop := RA r M w Bool (fun s => HandSHeadRun.looksF r.prog (PySem.W.boot_heap w.params) s.abs) true
def RSeen : Prop := RA r M w _ (fun s => HandSHeadRun.seenQ q loose (importedModules r.prog.main.body) (fun s => PySem.W.xlAt q [] s && PySem.W.recOk r.toRowW.records s) s.abs) (PySem.W.openGood q loose)
def RK (c : PySem.W.Frag → Bool) : Prop := RA r M w Bool (fun s => c (He.frG (HandSHeadRun.getT s) (He.asD (HandSHeadRun.getT s) n))) true
def RF (fn : List He.DefD) : Prop := RA r M w _ (fun s => fn.map fun d => He.fnW (He.frG (HandSHeadRun.getT s) (He.asD (HandSHeadRun.getT s) n)) d.at_) (fn.map He.DefD.val)
/-- the same with imports at the head -/
def IA (β : Type) (f : Shared × PySem.W.SharedT → β) (b : β) : Prop := (HandSHeadRun.wholeF (fun p => HandSHeadRun.stepQ (HandSHeadRun.denQ HandSHeadRun.tabQ) p w) HandSHeadRun.fenceQ M r.prog).map f = some b
def ILook : Prop := IA r M w Bool (fun x => HandSHeadRun.looksF r.prog x.1.heap x.2.abs) true
def ISeen : Prop := IA r M w _ (fun x => HandSHeadRun.seenQ q loose (importedModules r.prog.main.body) (fun s => PySem.W.xlAt q [] s && PySem.W.recOk r.toRowW.records s) x.2.abs) (PySem.W.openGood q loose)
def IK (c : PySem.W.Frag → Bool) : Prop := IA r M w Bool (fun x => c (He.frG (HandSHeadRun.getT x.2) (He.asD (HandSHeadRun.getT x.2) n))) true
def IF (fn : List He.DefD) : Prop := IA r M w _ (fun x => fn.map fun d => He.fnW (He.frG (HandSHeadRun.getT x.2) (He.asD (HandSHeadRun.getT x.2) n)) d.at_) (fn.map He.DefD.val)
variable {r q M n loose w}
theorem RK.and {a b : PySem.W.Frag → Bool} (h1 : RK r M n w a) (h2 : RK r M n w b) : RK r M n w (fun K => a K && b K) := fun os => map_and (h1 os) (h2 os)
theorem IK.and {a b : PySem.W.Frag → Bool} (h1 : IK r M n w a) (h2 : IK r M n w b) : IK r M n w (fun K => a K && b K) := map_and (f := fun x => a _) (g := fun x => b _) h1 h2
theorem RK.same {a b : PySem.W.Frag → Bool} (e : ∀ K, a K = b K) (h : RK r M n w b) : RK r M n w a := fun os => map_same (fun x => e _) (h os)
theorem IK.same {a b : PySem.W.Frag → Bool} (e : ∀ K, a K = b K) (h : IK r M n w b) : IK r M n w a := map_same (f := fun x => a _) (g := fun x => b _) (fun x => e _) h
theorem runEq_mk {ck : PySem.W.Frag → Bool} {fn : List He.DefD} (h1 : RLook r M w) (h2 : RSeen r q M loose w) (h3 : RK r M n w ck) (h4 : RK r M n w fun K => fn.all fun d => d.ok K) (h5 : RF r M n w fn) :
    HandSHeadRun.RunEq r q (hookK n ck fn) (fun s => obsKG n ck fn (HandSHeadRun.getT s)) M loose w := fun os => map_two (h1 os) (map_two (h2 os) (map_two (map_and (h3 os) (h4 os)) (h5 os)))
theorem runEqI_mk {ck : PySem.W.Frag → Bool} {fn : List He.DefD} (h1 : ILook r M w) (h2 : ISeen r q M loose w) (h3 : IK r M n w ck) (h4 : IK r M n w fun K => fn.all fun d => d.ok K) (h5 : IF r M n w fn) :
    HandSHeadRun.RunEqI r q (hookK n ck fn) (fun s => obsKG n ck fn (HandSHeadRun.getT s)) M loose w := map_two h1 (map_two h2 (map_two (map_and h3 h4) h5))
end
/-! ### the end of a law over such a head -/
theorem walk_calmE {l : PySem.W.OpenLaw} {n k : Nat} {q : Program} {loose : List Str} {XP : (Str → Option Value) → Heap → Prop} {YP : World → Heap → Prop} {d : DefRec} {sp : PySem.W.Frag → Sp} {x : Str}
    (hn : l.most = some n) (hn2 : n ≤ sizeLine) (hdf : d.params.defaults = []) (hr : Room k callerA)
    (F : ∀ (w : World) (mg : Str → Option Value) (fa : Addr) (h : Heap), YP w h → h.Ns mainGlobals mg → mg d.name = some (.ref fa) →
      ∃ (K : PySem.W.Frag) (fd : FuncData), K.In h ∧ (∀ (s : Shared) (u : Value), BindsTo s fd ⟨[u], []⟩ [(x, u)]) ∧ ∀ base : Heap, K.In base → base.Ns mainGlobals mg → FnG l.prog w K mg base k fa fd [x] (sp K))
    (hsp : ∀ (K : PySem.W.Frag) (H : Hp) (a : Addr) (ns : List Int), ns.length ≤ n → Only H → SqL K H a (ns.map V.int) → sp K [.ref a] H (fun v _ => v = .bl true) E0) :
    PySem.W.WalkO q loose XP YP l.row.toRowW d [] (fun f vs => PySem.call f vs) := by
  refine Att.attach_call hn hdf fun w s0 s mg mb fa o pm cd doc a vs ns G Y ho hd hcd hmg hobj hints hlen hg => ?_
  obtain ⟨K, fd, KX, bd, hF⟩ := F w mg fa _ Y G.T.g hmg
  have rv := vals_ints hints
  have hl : ns.length ≤ sizeLine := Nat.le_trans hlen hn2
  cases hk : K.lookup a with
  | some ob =>
    have e := KX a ob hk
    rw [hobj] at e
    cases e
    refine end_run KX G.T.g G.T.b G.T.builtins G.T.nolimit hg hobj (H := fun _ => none) (fun b u z => nomatch z) (fun b u z => nomatch z) (fun u z => nomatch z) (fun _ => Or.inl rfl) hr hF bd (hsp _ _ a ns hlen (fun _ => Or.inl rfl) ?_)
    exact Or.inr ⟨_, vs.toArray, _, hk, rfl, rfl, rfl, by rw [List.size_toArray, hints.length]; exact hl, by simpa using rv⟩
  | none =>
    let ob : Obj := { cls := .type "list", data := .seq vs.toArray }
    let H : Hp := fun b => if b = a then some (.frz ob (.lst (ns.map V.int))) else none
    have at_a : H a = some (.frz ob (.lst (ns.map V.int))) := if_pos rfl
    have off : ∀ b, b ≠ a → H b = none := fun b n => if_neg n
    have hO : Only H := fun b => by
      by_cases z : b = a
      · cases z
        exact Or.inr ⟨_, _, at_a⟩
      · exact Or.inl (off b z)
    have hA : ∀ b u, H b = some u → b = a := fun b u e => by
      by_cases z : b = a
      · exact z
      · rw [off b z] at e
        cases e
    refine end_run KX G.T.g G.T.b G.T.builtins G.T.nolimit hg hobj (H := H) (fun b u e => ?_) hA (fun _ _ => hk) hO hr hF bd (hsp _ _ a ns hlen hO (Or.inl (Or.inr ⟨_, at_a⟩)))
    cases hA b u e
    rw [at_a] at e
    cases e
    exact ⟨hobj, by rw [List.length_map]; exact hl, vs, _, rv, hobj⟩
end RT
set_option Elab.async false
set_option linter.all false
set_option maxRecDepth 100000
set_option maxHeartbeats 4000000
/-! the light head's facts about an own class: getters of properties as data, a keyword default that is an object -/
namespace RT
open PySem PySem.Spec PyProof.Rows L2
/-- the getter of a property of a class of the module -/
def gAt (K : PySem.W.Frag) (c n : Str) : Addr := match PySem.W.recIn K (He.ma K (He.ga K c) n) "property" with
  | some (.ref g :: _) => g
  | _ => 0
structure GetD where
  cls : Str
  prop : Str
  qual : Str
  st : Stmt
def GetD.fw (K : PySem.W.Frag) (g : GetD) : He.FnW := match K.lookup (gAt K g.cls g.prop) with
  | some ⟨_, _, .func fd, _⟩ => some (fd.name, fd.qualname, fd.params, fd.body, fd.scope, fd.globals, fd.closure, fd.builtins)
  | _ => none
def GetD.val (g : GetD) : He.FnW := some (g.prop, g.qual, defArgs g.st, .stmts (defBody g.st), defScope g.st, mainGlobals, [], builtinsNs)
def GetD.ok (K : PySem.W.Frag) (g : GetD) : Bool := PySem.W.keepIn K (.ref (gAt K g.cls g.prop)) && ((match K.lookup (gAt K g.cls g.prop) with
  | some ⟨_, _, .func fd, _⟩ => PySem.W.codeIn K fd.code g.qual && He.dflB K fd.defaults []
  | _ => false) && (He.eqO (PySem.W.findIn K (.ref (He.ga K g.cls)) g.prop) (some (some (.ref (He.ma K (He.ga K g.cls) g.prop)))) && (He.eqO (PySem.W.specialIn K (.ref (He.ma K (He.ga K g.cls) g.prop)) "__get__") (some (some (.builtin "property.__get__"))) &&
  (decide (PySem.W.takesIn K (.ref (He.ma K (He.ga K g.cls) g.prop)) = some true) && (match PySem.W.recIn K (He.ma K (He.ga K g.cls) g.prop) "property" with
  | some (.ref h :: _) => decide (h = gAt K g.cls g.prop)
  | _ => false)))))
theorem GetD.out {K : PySem.W.Frag} {g : GetD} (e : g.fw K = g.val) (c : g.ok K = true) : ∃ fd, Fun K g.prop g.qual g.st (gAt K g.cls g.prop) fd ∧ PropOf K (He.ga K g.cls) g.prop (He.ma K (He.ga K g.cls) g.prop) (gAt K g.cls g.prop) := by
  obtain ⟨kp, c⟩ := He.ba c
  obtain ⟨c2, c⟩ := He.ba c
  obtain ⟨p1, c⟩ := He.ba c
  obtain ⟨p2, c⟩ := He.ba c
  obtain ⟨p3, p4⟩ := He.ba c
  have pr : PropOf K (He.ga K g.cls) g.prop (He.ma K (He.ga K g.cls) g.prop) (gAt K g.cls g.prop) := by
    refine ⟨He.eqO_ok p1, He.eqO_ok p2, of_decide_eq_true p3, ?_⟩
    cases r : PySem.W.recIn K (He.ma K (He.ga K g.cls) g.prop) "property" with
    | none =>
      rw [r] at p4
      cases p4
    | some vs =>
      rw [r] at p4
      cases vs with
      | nil => cases p4
      | cons v vs =>
        cases v with
        | ref h =>
          have z : h = gAt K g.cls g.prop := of_decide_eq_true p4
          exact ⟨vs, by rw [z]⟩
        | _ => cases p4
  unfold GetD.fw at e
  cases q : K.lookup (gAt K g.cls g.prop) with
  | none =>
    rw [q] at c2
    cases c2
  | some o =>
    obtain ⟨oc, od, dt, osl⟩ := o
    rw [q] at c2 e
    cases dt with
    | func fd =>
      obtain ⟨n1, n2, n3, n4, n5, n6, n7, n8, n9, n10, n11, n12, n13, n14, n15⟩ := fd
      have e2 : (some (n1, n2, n3, n4, n5, n6, n7, n15) : He.FnW) = some (g.prop, g.qual, defArgs g.st, .stmts (defBody g.st), defScope g.st, mainGlobals, [], builtinsNs) := e
      simp only [Option.some.injEq, Prod.mk.injEq] at e2
      obtain ⟨h1, h2, h3, h4, h5, h6, h7, h8⟩ := e2
      subst h1 h2 h3 h4 h5 h6 h7 h8
      have c3 : (PySem.W.codeIn K n13 g.qual && He.dflB K n8 []) = true := c2
      obtain ⟨k1, k3⟩ := He.ba c3
      rcases He.dflB_ok k3 with ⟨_, hd⟩ | ⟨n, _⟩
      · subst hd
        exact ⟨_, ⟨⟨oc, od, _, _, _, _, _, _, _, rfl, q, k1⟩, kp⟩, pr⟩
      · exact absurd rfl n
    | _ => cases c2
theorem GetD.getP {P : Program} {w : World} {K : PySem.W.Frag} {mg : Str → Option Value} {base : Heap} {g : GetD} {N : List Str} {fl : Str} (e : g.fw K = g.val) (c : g.ok K = true) (S : FnScope N ["self"] (defScope g.st)) (hN : N[0]? = some ("self" : Str)) (hb : ∃ p1 p2 p3, defBody g.st = [.Return (some (.Attribute (.Name "self" p1) fl p2)) p3])
    (cl : Cls K (He.ga K g.cls)) (n : NoAttr K (He.ga K g.cls) fl) (hB : ∀ (kV doc pm : Value) (an : Option Addr) (cdv ct : Value) (us : List Value), us.length = 1 → bindArgs (PySem.W.fnOf g.prop g.qual (defArgs g.st) (defBody g.st) (defScope g.st) .none kV doc pm an cdv ct) ⟨us, []⟩ = pure ((["self"] : List Str).zip us)) : GetP P w K mg base (He.ga K g.cls) g.prop fl := by
  obtain ⟨fd, F, pr⟩ := g.out e c
  obtain ⟨p1, p2, p3, hb⟩ := hb
  refine ⟨_, _, fd, pr, ?_, F.binds (ps := ["self"]) fun kV doc pm an cdv ct us hl => hB kV doc pm an cdv ct us hl⟩
  obtain ⟨oc, od, kV, doc, pm, an, cdv, ct, osl, rfl, lk, hc⟩ := F.ex
  exact fn_getter lk hc S hN hb cl n
/-- the keyword default x of a def, if it is an object -/
def kwAt (f : Str × Option Str) (x : Str) (K : PySem.W.Frag) : Addr := match K.lookup (He.fAd K f) with
  | some ⟨_, _, .func fd, _⟩ => (match fd.kwdefaults with
    | .ref D => (match PySem.W.nsIn K D x with
      | some (some (.ref a)) => a
      | _ => 0)
    | _ => 0)
  | _ => 0
/-- an empty tuple of the written part -/
def tup0B (K : PySem.W.Frag) (a : Addr) : Bool := match K.lookup a with
  | some ⟨.type c, _, .seq its _, _⟩ => decide (c = "tuple") && decide (its.toList.length = 0)
  | _ => false
theorem tup0B_ok {K : PySem.W.Frag} {a : Addr} (h : tup0B K a = true) (H : Hp) : SqT K H a [] := by
  unfold tup0B at h
  cases q : K.lookup a with
  | none =>
    rw [q] at h
    cases h
  | some o =>
    obtain ⟨oc, od, dt, osl⟩ := o
    rw [q] at h
    cases oc with
    | type c =>
      cases dt with
      | seq its n =>
        obtain ⟨h1, h2⟩ := He.ba (show (decide (c = "tuple") && decide (its.toList.length = 0)) = true from h)
        have e : its.toList = [] := List.length_eq_zero_iff.mp (of_decide_eq_true h2)
        refine .inr ⟨_, its, n, q, congrArg Value.type (of_decide_eq_true h1), rfl, ?_, by rw [e]; exact .nil⟩
        rw [← Array.length_toList, e]
        exact Nat.zero_le _
      | _ => cases h
    | _ => cases dt <;> cases h
/-- an own class: its objects' fields are their own, isinstance is the language's -/
def clsB (K : PySem.W.Frag) (c : Str) : Bool := (He.Fa.cls c).ok K && ((He.Fa.mkr c).ok K && (decide (PySem.W.findIn K (.ref (He.ga K c)) "__class__" = some (some (.builtin "object.__class__"))) && (decide (PySem.W.specialIn K (.builtin "object.__class__") "__get__" = some (some (.builtin "getset_descriptor.__get__"))) &&
  (decide (PySem.W.takesIn K (.builtin "object.__class__") = some true) && (decide (PySem.W.mroIn K (He.ga K c) (.type "object") = some true) && (decide (PySem.W.kitOne K (.ref (He.ga K c)) (.ref (He.ga K c)) = some true) && decide (PySem.W.findIn K (.ref (He.ga K c)) "__ne__" = some (some (.builtin "object.__ne__")))))))))
theorem clsB_ok {K : PySem.W.Frag} {c : Str} (h : clsB K c = true) : OwnC K (He.ga K c) ∧ Mk K (He.ga K c) (He.ma K (He.ga K c) "__init__") := by
  obtain ⟨h1, h⟩ := He.ba h
  obtain ⟨h2, h⟩ := He.ba h
  obtain ⟨h3, h⟩ := He.ba h
  obtain ⟨h4, h⟩ := He.ba h
  obtain ⟨h5, h⟩ := He.ba h
  obtain ⟨h6, h⟩ := He.ba h
  obtain ⟨h7, h8⟩ := He.ba h
  have m := He.mkr_ok h2
  exact ⟨⟨⟨He.cls_ok h1, of_decide_eq_true h3, of_decide_eq_true h4, of_decide_eq_true h5, of_decide_eq_true h6, of_decide_eq_true h7⟩, m.kp, of_decide_eq_true h8⟩, m⟩
/-! ### the Hook with getters -/
abbrev AlC : Type := Bool × (List He.FnW × List He.FnW)
def obsC (ck : PySem.W.Frag → Bool) (fn : List He.DefD) (gs : List GetD) (K : PySem.W.Frag) : AlC := (ck K && fn.all fun d => d.ok K, (fn.map fun d => He.fnW K d.at_, gs.map fun g => g.fw K))
def valC (fn : List He.DefD) (gs : List GetD) : AlC := (true, (fn.map He.DefD.val, gs.map GetD.val))
def SaysC (ck : PySem.W.Frag → Bool) (fn : List He.DefD) (gs : List GetD) (K : PySem.W.Frag) : Prop := obsC ck fn gs K = valC fn gs
def obsCG (n : Nat) (ck : PySem.W.Frag → Bool) (fn : List He.DefD) (gs : List GetD) (g : Addr → Option Obj) : AlC := obsC ck fn gs (He.frG g (He.asD g n))
def hookC (n : Nat) (ck : PySem.W.Frag → Bool) (fn : List He.DefD) (gs : List GetD) : PySem.W.Hook where
  α := AlC
  obs := fun s => obsCG n ck fn gs s.heap.get?
  val := fun _ => valC fn gs
  says := fun _ h => ∃ K : PySem.W.Frag, K.In h ∧ SaysC ck fn gs K
  of := fun _ _ e => ⟨_, He.frG_in, e⟩
  keeps := fun _ _ _ ⟨K, hK, c⟩ k => ⟨K, PySem.W.Frag.In.keeps hK k, c⟩
theorem obsCG_eq {n : Nat} {ck : PySem.W.Frag → Bool} {fn : List He.DefD} {gs : List GetD} {g : Addr → Option Obj} {s : Shared} (h : ∀ a, g a = s.heap.get? a) : obsCG n ck fn gs g = (hookC n ck fn gs).obs s := by
  have e : g = s.heap.get? := funext h
  rw [e] <;> rfl
section
variable {ck : PySem.W.Frag → Bool} {fn : List He.DefD} {gs : List GetD} {K : PySem.W.Frag}
theorem SaysC.k (c : SaysC ck fn gs K) : SaysK ck fn K := by
  have h1 := congrArg (fun z : AlC => z.1) c
  have h2 := congrArg (fun z : AlC => z.2.1) c
  exact Prod.ext h1 h2
theorem SaysC.get (c : SaysC ck fn gs K) (i : Nat) {g : GetD} (h : gs[i]? = some g) : g.fw K = g.val := by
  have h2 : (gs.map fun g => g.fw K) = gs.map GetD.val := congrArg (fun z : AlC => z.2.2) c
  have e2 : (gs.map fun g => g.fw K)[i]? = (gs.map GetD.val)[i]? := by rw [h2]
  rw [List.getElem?_map, List.getElem?_map, h] at e2
  exact Option.some.inj e2
end
section
variable (r : PySem.W.OpenRow) (q : Program) (M n : Nat) (loose : List Str) (w : World)
def RG (gs : List GetD) : Prop := RA r M w _ (fun s => gs.map fun g => g.fw (He.frG (HandSHeadRun.getT s) (He.asD (HandSHeadRun.getT s) n))) (gs.map GetD.val)
variable {r q M n loose w}
theorem runEqC_mk {ck : PySem.W.Frag → Bool} {fn : List He.DefD} {gs : List GetD} (h1 : RLook r M w) (h2 : RSeen r q M loose w) (h3 : RK r M n w ck) (h4 : RK r M n w fun K => fn.all fun d => d.ok K) (h5 : RF r M n w fn) (h6 : RG r M n w gs) :
    HandSHeadRun.RunEq r q (hookC n ck fn gs) (fun s => obsCG n ck fn gs (HandSHeadRun.getT s)) M loose w := fun os => map_two (h1 os) (map_two (h2 os) (map_two (map_and (h3 os) (h4 os)) (map_two (h5 os) (h6 os))))
end
end RT
set_option Elab.async false
set_option linter.all false
set_option maxRecDepth 100000
set_option maxHeartbeats 4000000
/-! the light head's facts about functions that stand behind descriptors: getters of properties, staticmethods -/
namespace RT
open PySem PySem.Spec PyProof.Rows L2
/-- a function whose place is computed -/
structure AtD where
  at_ : PySem.W.Frag → Addr
  name : Str
  qual : Str
  st : Stmt
def AtD.fw (K : PySem.W.Frag) (d : AtD) : He.FnW := match K.lookup (d.at_ K) with
  | some ⟨_, _, .func fd, _⟩ => some (fd.name, fd.qualname, fd.params, fd.body, fd.scope, fd.globals, fd.closure, fd.builtins)
  | _ => none
def AtD.val (d : AtD) : He.FnW := some (d.name, d.qual, defArgs d.st, .stmts (defBody d.st), defScope d.st, mainGlobals, [], builtinsNs)
def AtD.ok (K : PySem.W.Frag) (d : AtD) : Bool := PySem.W.keepIn K (.ref (d.at_ K)) && (match K.lookup (d.at_ K) with
  | some ⟨_, _, .func fd, _⟩ => PySem.W.codeIn K fd.code d.qual && He.dflB K fd.defaults []
  | _ => false)
theorem AtD.out {K : PySem.W.Frag} {d : AtD} (e : d.fw K = d.val) (c : d.ok K = true) : ∃ fd, Fun K d.name d.qual d.st (d.at_ K) fd := by
  obtain ⟨kp, c2⟩ := He.ba c
  unfold AtD.fw at e
  cases q : K.lookup (d.at_ K) with
  | none =>
    rw [q] at c2
    cases c2
  | some o =>
    obtain ⟨oc, od, dt, osl⟩ := o
    rw [q] at c2 e
    cases dt with
    | func fd =>
      obtain ⟨n1, n2, n3, n4, n5, n6, n7, n8, n9, n10, n11, n12, n13, n14, n15⟩ := fd
      have e2 : (some (n1, n2, n3, n4, n5, n6, n7, n15) : He.FnW) = some (d.name, d.qual, defArgs d.st, .stmts (defBody d.st), defScope d.st, mainGlobals, [], builtinsNs) := e
      simp only [Option.some.injEq, Prod.mk.injEq] at e2
      obtain ⟨h1, h2, h3, h4, h5, h6, h7, h8⟩ := e2
      subst h1 h2 h3 h4 h5 h6 h7 h8
      have c3 : (PySem.W.codeIn K n13 d.qual && He.dflB K n8 []) = true := c2
      obtain ⟨k1, k3⟩ := He.ba c3
      rcases He.dflB_ok k3 with ⟨_, hd⟩ | ⟨n, _⟩
      · subst hd
        exact ⟨_, ⟨oc, od, _, _, _, _, _, _, _, rfl, q, k1⟩, kp⟩
      · exact absurd rfl n
    | _ => cases c2
def GetD.toA (g : GetD) : AtD := ⟨fun K => gAt K g.cls g.prop, g.prop, g.qual, g.st⟩
/-! ### staticmethods -/
/-- the record of C.m -/
def spAt (K : PySem.W.Frag) (c m : Str) : Addr := match PySem.W.findCls K (.ref (He.ga K c)) (.type "type") m with
  | some (.get _ (.ref p) _ _) => p
  | _ => 0
def sAt (K : PySem.W.Frag) (c m : Str) : Addr := match PySem.W.recIn K (spAt K c m) "staticmethod" with
  | some (.ref g :: _) => g
  | _ => 0
def stA (c m q : Str) (st : Stmt) : AtD := ⟨fun K => sAt K c m, m, q, st⟩
def staB (K : PySem.W.Frag) (c m : Str) : Bool := PySem.W.readsIn K (He.ga K c) (.type "type") && (He.eqO (PySem.W.specialIn K (.ref (He.ga K c)) "__getattribute__") (some (some (.builtin "type.__getattribute__"))) && ((match PySem.W.findCls K (.ref (He.ga K c)) (.type "type") m with
  | some (.get (.builtin b) (.ref p) .none (.ref C)) => decide (b = "staticmethod.__get__") && (decide (p = spAt K c m) && decide (C = He.ga K c))
  | _ => false) && ((match PySem.W.recIn K (spAt K c m) "staticmethod" with
  | some (.ref g :: _) => decide (g = sAt K c m)
  | _ => false) && PySem.W.handedIn (.ref (sAt K c m)))))
theorem staB_ok {K : PySem.W.Frag} {c m : Str} (h : staB K c m = true) (kp : PySem.W.keepIn K (.ref (sAt K c m)) = true) : ClX.CRead K (He.ga K c) (.type "type") ∧ SMet K (He.ga K c) (.type "type") m (spAt K c m) (sAt K c m) := by
  obtain ⟨h1, h⟩ := He.ba h
  obtain ⟨h2, h⟩ := He.ba h
  obtain ⟨h3, h⟩ := He.ba h
  obtain ⟨h4, h5⟩ := He.ba h
  refine ⟨⟨h1, He.eqO_ok h2⟩, ⟨?_, ?_, h5, kp⟩⟩
  · cases r : PySem.W.findCls K (.ref (He.ga K c)) (.type "type") m with
    | none =>
      rw [r] at h3
      cases h3
    | some f =>
      rw [r] at h3
      cases f with
      | val v => cases h3
      | get g a o t =>
        cases g with
        | builtin b =>
          cases a with
          | ref p =>
            cases o with
            | none =>
              cases t with
              | ref C =>
                have z : (decide (b = "staticmethod.__get__") && (decide (p = spAt K c m) && decide (C = He.ga K c))) = true := h3
                obtain ⟨z1, z⟩ := He.ba z
                obtain ⟨z2, z3⟩ := He.ba z
                rw [of_decide_eq_true z1, of_decide_eq_true z2, of_decide_eq_true z3]
              | _ => cases h3
            | _ => cases h3
          | _ => cases h3
        | _ => cases h3
  · cases r : PySem.W.recIn K (spAt K c m) "staticmethod" with
    | none =>
      rw [r] at h4
      cases h4
    | some vs =>
      rw [r] at h4
      cases vs with
      | nil => cases h4
      | cons v vs =>
        cases v with
        | ref g =>
          have z : g = sAt K c m := of_decide_eq_true h4
          exact ⟨vs, by rw [z]⟩
        | _ => cases h4
/-! ### o.m(k = v): one keyword behind self -/
section
variable {K : PySem.W.Frag} {x qual : Str} {st : Stmt} {f : Addr} {fd : FuncData} {p : Str}
theorem kw_mt (F : Fun K x qual st f fd) (h : ∀ (kV doc pm : Value) (an : Option Addr) (cdv ct y z : Value), bindArgs (PySem.W.fnOf x qual (defArgs st) (defBody st) (defScope st) .none kV doc pm an cdv ct) ⟨[y], [(p, z)]⟩ = pure [(Str.ofString "self", y), (p, z)]) : KBn K fd ["self", p] 1 [p] (fun us ws => us ++ ws) (fun vs zs => vs ++ zs) := by
  obtain ⟨oc, od, kV, doc, pm, an, cdv, ct, osl, rfl, lk, hcd⟩ := F.ex
  refine ⟨fun s us ws _ h1 h2 => ?_, fun r rz => r.append rz⟩
  match us, ws, h1, h2 with
  | [y], [z], _, _ => exact .of_eq (h kV doc pm an cdv ct y z)
end
/-! ### the Hook -/
def obsA (ck : PySem.W.Frag → Bool) (fn : List He.DefD) (gs : List AtD) (K : PySem.W.Frag) : AlC := (ck K && fn.all fun d => d.ok K, (fn.map fun d => He.fnW K d.at_, gs.map fun g => g.fw K))
def valA (fn : List He.DefD) (gs : List AtD) : AlC := (true, (fn.map He.DefD.val, gs.map AtD.val))
def SaysA (ck : PySem.W.Frag → Bool) (fn : List He.DefD) (gs : List AtD) (K : PySem.W.Frag) : Prop := obsA ck fn gs K = valA fn gs
/-- what is looked at: all that the module's names reach, and the statics -/
def asS (g : Addr → Option Obj) (n : Nat) : List Addr := cStatics :: He.asD g n
def obsAG (n : Nat) (ck : PySem.W.Frag → Bool) (fn : List He.DefD) (gs : List AtD) (g : Addr → Option Obj) : AlC := obsA ck fn gs (He.frG g (asS g n))
def hookA (n : Nat) (ck : PySem.W.Frag → Bool) (fn : List He.DefD) (gs : List AtD) : PySem.W.Hook where
  α := AlC
  obs := fun s => obsAG n ck fn gs s.heap.get?
  val := fun _ => valA fn gs
  says := fun _ h => ∃ K : PySem.W.Frag, K.In h ∧ SaysA ck fn gs K
  of := fun _ _ e => ⟨_, He.frG_in, e⟩
  keeps := fun _ _ _ ⟨K, hK, c⟩ k => ⟨K, PySem.W.Frag.In.keeps hK k, c⟩
theorem obsAG_eq {n : Nat} {ck : PySem.W.Frag → Bool} {fn : List He.DefD} {gs : List AtD} {g : Addr → Option Obj} {s : Shared} (h : ∀ a, g a = s.heap.get? a) : obsAG n ck fn gs g = (hookA n ck fn gs).obs s := by
  have e : g = s.heap.get? := funext h
  rw [e] <;> rfl
section
variable {ck : PySem.W.Frag → Bool} {fn : List He.DefD} {gs : List AtD} {K : PySem.W.Frag}
theorem SaysA.k (c : SaysA ck fn gs K) : SaysK ck fn K := by
  have h1 := congrArg (fun z : AlC => z.1) c
  have h2 := congrArg (fun z : AlC => z.2.1) c
  exact Prod.ext h1 h2
theorem SaysA.get (c : SaysA ck fn gs K) (i : Nat) {g : AtD} (h : gs[i]? = some g) : g.fw K = g.val := by
  have h2 : (gs.map fun g => g.fw K) = gs.map AtD.val := congrArg (fun z : AlC => z.2.2) c
  have e2 : (gs.map fun g => g.fw K)[i]? = (gs.map AtD.val)[i]? := by rw [h2]
  rw [List.getElem?_map, List.getElem?_map, h] at e2
  exact Option.some.inj e2
end
section
variable (r : PySem.W.OpenRow) (q : Program) (M n : Nat) (loose : List Str) (w : World)
def RKS (c : PySem.W.Frag → Bool) : Prop := RA r M w Bool (fun s => c (He.frG (HandSHeadRun.getT s) (asS (HandSHeadRun.getT s) n))) true
def RFS (fn : List He.DefD) : Prop := RA r M w _ (fun s => fn.map fun d => He.fnW (He.frG (HandSHeadRun.getT s) (asS (HandSHeadRun.getT s) n)) d.at_) (fn.map He.DefD.val)
def RGA (gs : List AtD) : Prop := RA r M w _ (fun s => gs.map fun g => g.fw (He.frG (HandSHeadRun.getT s) (asS (HandSHeadRun.getT s) n))) (gs.map AtD.val)
variable {r q M n loose w}
theorem RKS.and {a b : PySem.W.Frag → Bool} (h1 : RKS r M n w a) (h2 : RKS r M n w b) : RKS r M n w (fun K => a K && b K) := fun os => map_and (h1 os) (h2 os)
theorem RKS.same {a b : PySem.W.Frag → Bool} (e : ∀ K, a K = b K) (h : RKS r M n w b) : RKS r M n w a := fun os => map_same (fun x => e _) (h os)
theorem runEqA_mk {ck : PySem.W.Frag → Bool} {fn : List He.DefD} {gs : List AtD} (h1 : RLook r M w) (h2 : RSeen r q M loose w) (h3 : RKS r M n w ck) (h4 : RKS r M n w fun K => fn.all fun d => d.ok K) (h5 : RFS r M n w fn) (h6 : RGA r M n w gs) :
    HandSHeadRun.RunEq r q (hookA n ck fn gs) (fun s => obsAG n ck fn gs (HandSHeadRun.getT s)) M loose w := fun os => map_two (h1 os) (map_two (h2 os) (map_two (map_and (h3 os) (h4 os)) (map_two (h5 os) (h6 os))))
end
end RT
set_option Elab.async false
set_option linter.all false
set_option maxRecDepth 100000
set_option maxHeartbeats 4000000
namespace RT
open PySem PySem.Spec PyProof.Rows L2
local macro_rules | `(tactic| walk_at "w0") => `(tactic| dsimp only [L2.start, cxOf, Cx.nox, Cx.wish, List.map, List.length_cons, List.length_nil, List.replicate_succ, List.replicate_zero, List.cons_append, List.nil_append, Nat.reduceAdd, Nat.reduceSub, List.set_cons_zero, List.set_cons_succ])
local macro_rules | `(tactic| walk_at "w1") => `(tactic| first
  | with_reducible refine w_seq ?_
  | with_reducible refine w_asg ?_
  | with_reducible refine w_var rfl ?_
  | with_reducible refine w_c ?_
  | with_reducible refine w_op ?_
  | with_reducible refine w_cons ?_
  | with_reducible refine w_nil ?_
  | with_reducible refine w_gname ?_
  | with_reducible refine w_cb ?_
  | with_reducible refine w_I0 ?_
  | with_reducible refine w_bl ?_
  | ((with_reducible refine' w_ixL ?s0 ?s1 ?q); (case s0 => assumption); (case s1 => rfl))
  | ((with_reducible refine' w_ixT ?s0 ?s1 ?q); (case s0 => assumption); (case s1 => rfl))
  | with_reducible refine w_gsub ?_
  | with_reducible refine w_ifS ?_
  | with_reducible refine w_test ?_
  | with_reducible refine w_call ?_
  | with_reducible refine w_ret ?_
  | with_reducible refine w_int1 ?_
  | with_reducible refine w_int ?_
  | with_reducible refine w_next ?_
  | with_reducible refine w_drop ?_
  | ((with_reducible refine' w_mod ?s0 ?q); (case s0 => omega))
  | ((with_reducible refine' w_div ?s0 ?q); (case s0 => omega))
  | ((with_reducible refine' w_mul ?s0 ?q); (case s0 => omega))
  | ((with_reducible refine' w_pow ?s0 ?q); (case s0 => decide))
  | with_reducible refine w_B ?_
  | with_reducible refine w_and ?_
  | with_reducible refine w_or ?_
  | with_reducible refine w_not ?_
  | with_reducible refine w_T ?_
  | with_reducible refine w_F ?_
  | with_reducible refine w_nT ?_
  | with_reducible refine w_nF ?_
  | with_reducible refine w_un ?_
  | with_reducible refine w_U ?_
  | with_reducible refine w_if ?_
  | with_reducible refine w_lst ?_
  | with_reducible refine w_tup ?_
  | with_reducible refine w_sl ?_
  | with_reducible refine w_part ?_
  | with_reducible refine w_nopart ?_
  | with_reducible refine w_eqI ?_
  | with_reducible refine w_neI ?_
  | with_reducible refine w_eqS ?_
  | with_reducible refine w_neS ?_
  | with_reducible refine w_abs ?_
  | with_reducible refine w_max2 ?_
  | with_reducible refine w_min2 ?_
  | ((with_reducible refine' w_lenL ?s0 ?q); (case s0 => assumption))
  | ((with_reducible refine' w_lenH ?s0 ?q); (case s0 => assumption))
  | ((with_reducible refine' w_lenT ?s0 ?q); (case s0 => assumption))
  | ((with_reducible refine' w_lenS ?s0 ?q); (case s0 => first | assumption | omega | decide +kernel))
  | with_reducible refine w_inC ?_
  | with_reducible refine w_ninC ?_
  | with_reducible refine w_m1 ?_
  | with_reducible refine w_m0 ?_
  | with_reducible refine w_isstr ?_
  | with_reducible refine w_andV ?_
  | with_reducible refine w_orV ?_
  | with_reducible refine w_notV ?_
  | with_reducible refine w_chain ?_
  | with_reducible refine w_retN ?_
  | with_reducible refine w_break ?_
  | with_reducible refine w_cont ?_
  | with_reducible refine w_yes ?_
  | with_reducible refine w_for ?_
  | with_reducible refine w_lc ?_
  | with_reducible refine w_iList ?_
  | with_reducible refine w_iTup ?_
  | with_reducible refine w_iStr ?_
  | with_reducible refine w_iR1 ?_
  | with_reducible refine w_iR2 ?_
  | ((with_reducible refine' w_onL ?s0 ?q); (case s0 => assumption))
  | ((with_reducible refine' w_onQ ?s0 ?q); (case s0 => assumption))
  | ((with_reducible refine' w_onT ?s0 ?q); (case s0 => assumption))
  | ((with_reducible refine' w_onU ?s0 ?q); (case s0 => assumption))
  | with_reducible refine w_onS ?_
  | ((with_reducible refine' w_onR1 ?s0 ?q); (case s0 => omega))
  | ((with_reducible refine' w_onR2 ?s0 ?q); (case s0 => omega))
  | with_reducible refine w_revL ?_
  | ((with_reducible refine' w_all ?s0 ?q); (case s0 => assumption))
  | ((with_reducible refine' w_any ?s0 ?q); (case s0 => assumption))
  | with_reducible refine w_bm ?_
  | with_reducible refine w_bm0 ?_
  | ((with_reducible refine' w_islst ?s0 ?q); (case s0 => assumption))
  | with_reducible refine w_kw ?_
  | ((with_reducible refine' w_isi ?s0 ?s1 ?q); (case s0 => assumption); (case s1 => assumption))
  | ((with_reducible refine' w_addS ?s0 ?q); (case s0 => first | omega | decide +kernel))
  | with_reducible refine w_dnew ?_
  | with_reducible refine w_pnil ?_
  | with_reducible refine w_pcons ?_
  | ((with_reducible refine' w_slS ?s0 ?q); (case s0 => first | assumption | omega))
  | ((with_reducible refine' w_inLS ?s0 ?q); (case s0 => assumption))
  | ((with_reducible refine' w_ninLS ?s0 ?q); (case s0 => assumption))
  | ((with_reducible refine' w_inTS ?s0 ?q); (case s0 => assumption))
  | with_reducible refine w_par ?_
  | with_reducible refine w_parEnd ?_
  | with_reducible refine w_fld ?_
  | with_reducible refine w_e1 ?_
  | with_reducible refine w_e2 ?_
  | with_reducible refine w_par3 ?_
  | with_reducible refine w_parEnd3 ?_
  | ((with_reducible refine' w_upper ?s0 ?q); (case s0 => first | assumption | omega | decide +kernel))
  | with_reducible refine w_fldT ?_
  | with_reducible refine w_setT ?_
  | with_reducible refine w_fs ?_
  | with_reducible refine w_jsC ?_
  | with_reducible refine w_js0 ?_
  | with_reducible refine w_fmtT ?_
  | with_reducible refine w_dinT ?_
  | with_reducible refine w_dninT ?_
  | with_reducible refine w_dputT ?_
  | with_reducible refine w_dgetT ?_
  | with_reducible refine w_dget2T ?_
  | with_reducible refine w_setdT ?_
  | with_reducible refine w_mkK ?_
  | with_reducible refine w_mkR ?_
  | with_reducible refine w_dcT ?_
  | ((with_reducible refine' w_ninTS ?s0 ?q); (case s0 => assumption))
  | with_reducible refine w_strS ?_
  | with_reducible refine w_star ?_
  | with_reducible refine w_iE ?_
  | with_reducible refine w_metK ?_
  | with_reducible refine w_met ?_
  | with_reducible refine w_stat ?_
  | dsimp only [wipe, List.set_cons_zero, List.set_cons_succ])
local macro_rules | `(tactic| walk_at "w") => `(tactic| repeat walk_at "w1")
def topS (i : Nat) : Stmt := PySem.Challenge.pw_raggedtotals_k05_whole_parts_of_shapes.main.body.getD i (.Pass ⟨0, 0, 0, 0⟩)
def k__LETTERS : Str := Str.ofString "abcdefghijklmnopqrstuvwxyz"
def k__SIGNS : Str := Str.ofString "abcdefghijklmnopqrstuvwxyz0123456789"
structure Txt (K : PySem.W.Frag) (mg : Str → Option Value) : Prop where
  z_abs : mg "abs" = none
  z_all : mg "all" = none
  z_any : mg "any" = none
  z_enumerate : mg "enumerate" = none
  z_int : mg "int" = none
  z_isinstance : mg "isinstance" = none
  z_len : mg "len" = none
  z_max : mg "max" = none
  z_min : mg "min" = none
  z_range : mg "range" = none
  z_repr : mg "repr" = none
  z_sorted : mg "sorted" = none
  z_str : mg "str" = none
  z_tuple : mg "tuple" = none
  g__LETTERS : ∃ u, mg "_LETTERS" = some u ∧ RelV (.str k__LETTERS) u
  g__SIGNS : ∃ u, mg "_SIGNS" = some u ∧ RelV (.str k__SIGNS) u
  g__LONGEST : ∃ u, mg "_LONGEST" = some u ∧ RelV (.int 8) u
/-- a bag of draws stands at a -/
def Bag (H : Hp) (a : Addr) : Prop := ∃ g s t : Int, 0 ≤ s ∧ s < 2147483629 ∧ H a = some (.lst [.int g, .int s, .int t])
def spDraw : Sp := fun vs H Q _ => ∃ (a : Addr) (n : Int), vs = [.ref a, .int n] ∧ 0 < n ∧ n < 1000000 ∧ Bag H a ∧ ∀ (d : Int) (J : Hp), 0 ≤ d → d < n → Ext a H J → Bag J a → Q (.int d) J
/-- the script's ints -/
def spCell (K : PySem.W.Frag) : Sp := fun vs H Q _ => ∃ (a : Addr) (n : Int) (ns : List Int), vs = [.ref a, .int n] ∧ 0 ≤ n ∧ n < 1000000 ∧ SqL K H a (ns.map V.int) ∧ ∀ (d : Int) (J : Hp), Same H J → Q (.int d) J
def spBag : Sp := fun vs H Q _ => ∃ (n : Int), vs = [.int n] ∧ ∀ (a : Addr) (J : Hp), H a = none → Same H J → Bag J a → Q (.ref a) J
abbrev s__law_draw : Stmt := topS 25
theorem sc__law_draw : FnScope ["bag", "many", "digit", "seed", "shift"] ["bag", "many"] (defScope s__law_draw) := ⟨rfl, rfl, rfl, by decide +kernel, rfl, by decide +kernel, by decide +kernel⟩
abbrev s__law_cell : Stmt := topS 23
theorem sc__law_cell : FnScope ["script", "k", "number", "cell"] ["script", "k"] (defScope s__law_cell) := ⟨rfl, rfl, rfl, by decide +kernel, rfl, by decide +kernel, by decide +kernel⟩
abbrev s__law_bag : Stmt := topS 24
theorem sc__law_bag : FnScope ["cell", "great"] ["cell"] (defScope s__law_bag) := ⟨rfl, rfl, rfl, by decide +kernel, rfl, by decide +kernel, by decide +kernel⟩
section
variable {P : Program} {w : World} {K : PySem.W.Frag} {mg : Str → Option Value} {base : Heap}
theorem ok__law_draw {f : Addr} {fd : FuncData} (F : Fun K "_law_draw" "_law_draw" s__law_draw f fd) (T : Txt K mg) : FnOk P w K mg base CX0 1 f fd ["bag", "many"] spDraw := by
  refine F.ok sc__law_draw (fun vs H Q E h => ?_) (fun cdv A outer s H vs Q E hr h => ?_)
  · obtain ⟨a, n, rfl, _⟩ := h
    rfl
  · obtain ⟨a, n, rfl, n0, n1, ⟨g, s0, t, h0, h1, ha⟩, q⟩ := h
    refine ⟨_, (pss_cons (ps_asg (pe_op op_add (pe_ix (k_ixL (K := K)) (pv 0) pe_int (fun _ _ => rfl)) pe_int) (pg_sub (pv 0) pe_int set_list))
  (pss_cons (ps_if (pt_cmpR op_gt (pe_ix (k_ixL (K := K)) (pv 0) pe_int (fun _ _ => rfl)) pe_int (nomark _))
    (pss_cons (ps_set (i := 2) sc__law_draw.nd rfl (by first | exact Or.inl rfl | exact Or.inr rfl) (pe_op op_mod (pe_callTy c_int (by rfl) T.z_int (by decide +kernel) (pa_cons (pe_ix (k_ixL (K := K)) (pv 0) pe_int (fun _ _ => rfl)) pa_nil)) (pv 1)))
  (pss_cons (ps_asg (pe_op op_fdiv (pe_ix (k_ixL (K := K)) (pv 0) pe_int (fun _ _ => rfl)) (pv 1)) (pg_sub (pv 0) pe_int set_list))
  (pss_one (ps_ret (pv 2)))))
    pss_nil)
  (pss_cons (ps_set (i := 3) sc__law_draw.nd rfl (by first | exact Or.inl rfl | exact Or.inr rfl) (pe_ix (k_ixL (K := K)) (pv 0) pe_int (fun _ _ => rfl)))
  (pss_cons (ps_set (i := 4) sc__law_draw.nd rfl (by first | exact Or.inl rfl | exact Or.inr rfl) (pe_op op_add pe_int (pe_op op_mul pe_int (pe_ix (k_ixL (K := K)) (pv 0) pe_int (fun _ _ => rfl)))))
  (pss_cons (ps_asg (pe_op op_mod (pe_callTy c_int (by rfl) T.z_int (by decide +kernel) (pa_cons (pe_op op_add (pe_op op_add (pe_op op_mul (pv 3) (pe_op op_add (pv 3) (pv 4))) (pe_op op_mul pe_int (pe_ix (k_ixL (K := K)) (pv 0) pe_int (fun _ _ => rfl)))) pe_int) pa_nil)) pe_int) (pg_sub (pv 0) pe_int set_list))
  (pss_one (ps_ret (pe_op op_mod (pe_callTy c_int (by rfl) T.z_int (by decide +kernel) (pa_cons (pe_op op_fdiv (pe_ix (k_ixL (K := K)) (pv 0) pe_int (fun _ _ => rfl)) pe_int) pa_nil)) (pv 1))))))))), ?_⟩
    walk_at "w0"
    walk_at "w"
    refine w_setL ha (by rfl) fun J1 e1 ha1 => ?_
    replace ha1 : J1 a = some (.lst [.int g, .int s0, .int (t + 1)]) := ha1
    walk_at "w"
    refine w_dec (fun _ => ?_) (fun _ => ?_)
    · walk_at "w"
      refine w_setL ha1 (by rfl) fun J2 e2 ha2 => ?_
      walk_at "w"
      exact q _ J2 (Int.emod_nonneg _ (by omega)) (Int.emod_lt_of_pos _ n0) (e1.trans e2) ⟨_, s0, _, h0, h1, ha2⟩
    · walk_at "w"
      refine w_setL ha1 (by rfl) fun J2 e2 ha2 => ?_
      walk_at "w"
      exact q _ J2 (Int.emod_nonneg _ (by omega)) (Int.emod_lt_of_pos _ n0) (e1.trans e2) ⟨_, _, _, Int.emod_nonneg _ (by decide), Int.emod_lt_of_pos _ (by decide), ha2⟩
theorem w_draw {H : Hp} {Q : VK} {E : XK} {a : Addr} {n : Int} (h0 : 0 < n) (h1 : n < 1000000) (hb : Bag H a) (q : ∀ (d : Int) (J : Hp), 0 ≤ d → d < n → Ext a H J → Bag J a → Q (.int d) J) : spDraw [.ref a, .int n] H Q E := ⟨a, n, rfl, h0, h1, hb, q⟩
theorem Bag.keep {H J : Hp} {a b : Addr} (h : Bag H a) (e : Ext b H J) (ne : a ≠ b) : Bag J a := by
  obtain ⟨g, s, t, h0, h1, h2⟩ := h
  exact ⟨g, s, t, h0, h1, e a _ ne h2⟩
theorem Bag.same {H J : Hp} {a : Addr} (h : Bag H a) (e : Same H J) : Bag J a := by
  obtain ⟨g, s, t, h0, h1, h2⟩ := h
  exact ⟨g, s, t, h0, h1, e a _ h2⟩
theorem Bag.ne {H : Hp} {a b : Addr} (h : Bag H a) (n : H b = none) : b ≠ a := by
  obtain ⟨g, s, t, h0, h1, h2⟩ := h
  exact fun e => by
    rw [e, h2] at n
    cases n
theorem ok__law_bag {f : Addr} {fd : FuncData} (F : Fun K "_law_bag" "_law_bag" s__law_bag f fd) (T : Txt K mg) : FnOk P w K mg base CX0 1 f fd ["cell"] spBag := by
  refine F.ok sc__law_bag (fun vs H Q E h => ?_) (fun cdv A outer s H vs Q E hr h => ?_)
  · obtain ⟨n, rfl, _⟩ := h
    rfl
  · obtain ⟨n, rfl, q⟩ := h
    refine ⟨_, (pss_cons (ps_set (i := 1) sc__law_bag.nd rfl (by first | exact Or.inl rfl | exact Or.inr rfl) (pe_ifExp (PW.pt (pw_or (pt_cmpR op_lt (pv 0) pe_int (nomark _)) (pw_or1 (pt_cmpR op_ge (pv 0) (pe_op op_pow pe_int pe_int) (nomark _))))) (pe_callB c_abs (by rfl) T.z_abs (by decide +kernel) (pa_cons (pv 0) pa_nil)) pe_int))
  (pss_one (ps_ret (pe_lst (pa_cons (pv 1) (pa_cons (pe_op op_mod (pe_callTy c_int (by rfl) T.z_int (by decide +kernel) (pa_cons (pv 0) pa_nil)) pe_int) (pa_cons pe_int pa_nil))))))), ?_⟩
    walk_at "w0"
    walk_at "w"
    have fin : ∀ z : Int, ∀ (a : Addr) (J : Hp), H a = none → Same H J → J a = some (.lst [.int z, .int (n % 2147483629), .int 0]) → Q (.ref a) J := fun z a J h1 h2 h3 =>
      q a J h1 h2 ⟨_, _, _, Int.emod_nonneg _ (by decide), Int.emod_lt_of_pos _ (by decide), h3⟩
    refine w_dec (fun _ => ?_) (fun _ => ?_)
    · walk_at "w"
      exact w_newL rfl (fin _)
    · walk_at "w"
      refine w_dec (fun _ => ?_) (fun _ => ?_)
      · walk_at "w"
        exact w_newL rfl (fin _)
      · walk_at "w"
        exact w_newL rfl (fin _)
theorem ok__law_cell {f : Addr} {fd : FuncData} (F : Fun K "_law_cell" "_law_cell" s__law_cell f fd) (T : Txt K mg) : FnOk P w K mg base CX0 1 f fd ["script", "k"] (spCell K) := by
  refine F.ok sc__law_cell (fun vs H Q E h => ?_) (fun cdv A outer s H vs Q E hr h => ?_)
  · obtain ⟨a, n, ns, rfl, _⟩ := h
    rfl
  · obtain ⟨a, n, ns, rfl, n0, n1, hs, q⟩ := h
    refine ⟨_, (pss_cons (ps_if (pt_cmpR op_lt (pv 1) (pe_callB (k_lenQ (K := K)) (by rfl) T.z_len (by decide +kernel) (pa_cons (pv 0) pa_nil)) (nomark _))
    (pss_one (ps_ret (pe_callTy c_int (by rfl) T.z_int (by decide +kernel) (pa_cons (pe_ix (k_ixL (K := K)) (pv 0) (pv 1) (fun _ _ => rfl)) pa_nil))))
    pss_nil)
  (pss_cons (ps_set (i := 2) sc__law_cell.nd rfl (by first | exact Or.inl rfl | exact Or.inr rfl) (pe_op op_add pe_int (pe_op op_mul (pe_op op_mul pe_int (pv 1)) (pv 1))))
  (pss_cons (ps_for PassesOwn.never rfl (k_iL (K := K) (pe_slice (k_slL (K := K)) (pv 0) po_none (po_some pe_int))) (pg_name (i := 3) sc__law_cell.nd rfl (by first | exact Or.inl rfl | exact Or.inr rfl))
    (pss_one (ps_set (i := 2) sc__law_cell.nd rfl (by first | exact Or.inl rfl | exact Or.inr rfl) (pe_op op_mod (pe_callTy c_int (by rfl) T.z_int (by decide +kernel) (pa_cons (pe_op op_add (pe_op op_add (pe_op op_mul (pv 2) pe_int) (pe_op op_mul (pe_op op_mod (pe_callTy c_int (by rfl) T.z_int (by decide +kernel) (pa_cons (pv 3) pa_nil)) pe_int) (pe_op op_add (pv 1) pe_int))) pe_int) pa_nil)) pe_int))))
  (pss_one (ps_ret (pv 2)))))), ?_⟩
    walk_at "w0"
    walk_at "w"
    refine w_dec (fun hl => ?_) (fun _ => ?_)
    · walk_at "w"
      obtain ⟨v, e, hv⟩ := at_in (xs := ns.map V.int) n0 hl
      obtain ⟨z, _, rfl⟩ := List.mem_map.mp hv
      refine w_ixQ hs e ?_
      walk_at "w"
      exact q z H (Same.refl H)
    · walk_at "w"
      refine w_slL hs fun p L _ s1 hp => ?_
      walk_at "w"
      refine w_loop walk_list (fun _ σ M => (∃ (z : Int) (o : Option V), 0 ≤ z ∧ z < 2147483629000 * 2147483629000 ∧ σ = [some (.ref a), some (.int n), some (.int z), o]) ∧ Same L M) ⟨⟨_, none, ?_, ?_, rfl⟩, Same.refl _⟩ (fun _ _ M _ h => h.2.seq (SqL.of hp)) (fun i x σ M N hi h hy => ?_) (fun σ M h => ?_)
      · have : 0 ≤ n * n := Int.mul_nonneg n0 n0
        have : 0 ≤ 7919 * n * n := by
          rw [Int.mul_assoc]
          omega
        omega
      · have : n * n ≤ 1000000 * 1000000 := Int.mul_le_mul (by omega) (by omega) n0 (by omega)
        have : 7919 * n * n = 7919 * (n * n) := Int.mul_assoc _ _ _
        omega
      · obtain ⟨⟨z, o, z0, z1, rfl⟩, h2⟩ := h
        obtain ⟨rfl, hx⟩ := hy
        obtain ⟨v, rfl⟩ : ∃ v, x = V.int v := by
          have : x ∈ ns.map V.int := List.mem_of_mem_drop (List.mem_of_mem_take (List.mem_of_getElem? hx))
          obtain ⟨v, _, e⟩ := List.mem_map.mp this
          exact ⟨v, e.symm⟩
        walk_at "w"
        exact ⟨⟨_, _, Int.emod_nonneg _ (by decide), Int.lt_of_lt_of_le (Int.emod_lt_of_pos _ (by decide)) (by decide), rfl⟩, h2⟩
      · obtain ⟨⟨z, o, z0, z1, rfl⟩, h2⟩ := h
        walk_at "w"
        exact q z M (s1.trans h2)
end

end RT
set_option Elab.async false
set_option linter.all false
set_option maxRecDepth 100000
set_option maxHeartbeats 4000000
namespace RT
open PySem PySem.Spec PyProof.Rows L2
local macro_rules | `(tactic| walk_at "w0") => `(tactic| dsimp only [L2.start, cxOf, Cx.nox, Cx.wish, List.map, List.length_cons, List.length_nil, List.replicate_succ, List.replicate_zero, List.cons_append, List.nil_append, Nat.reduceAdd, Nat.reduceSub, List.set_cons_zero, List.set_cons_succ])
local macro_rules | `(tactic| walk_at "w1") => `(tactic| first
  | with_reducible refine w_seq ?_
  | with_reducible refine w_asg ?_
  | with_reducible refine w_var rfl ?_
  | with_reducible refine w_c ?_
  | with_reducible refine w_op ?_
  | with_reducible refine w_cons ?_
  | with_reducible refine w_nil ?_
  | with_reducible refine w_gname ?_
  | with_reducible refine w_cb ?_
  | with_reducible refine w_I0 ?_
  | with_reducible refine w_bl ?_
  | ((with_reducible refine' w_ixL ?s0 ?s1 ?q); (case s0 => assumption); (case s1 => rfl))
  | ((with_reducible refine' w_ixT ?s0 ?s1 ?q); (case s0 => assumption); (case s1 => rfl))
  | with_reducible refine w_gsub ?_
  | with_reducible refine w_ifS ?_
  | with_reducible refine w_test ?_
  | with_reducible refine w_call ?_
  | with_reducible refine w_ret ?_
  | with_reducible refine w_int1 ?_
  | with_reducible refine w_int ?_
  | with_reducible refine w_next ?_
  | with_reducible refine w_drop ?_
  | ((with_reducible refine' w_mod ?s0 ?q); (case s0 => omega))
  | ((with_reducible refine' w_div ?s0 ?q); (case s0 => omega))
  | ((with_reducible refine' w_mul ?s0 ?q); (case s0 => omega))
  | ((with_reducible refine' w_pow ?s0 ?q); (case s0 => decide))
  | with_reducible refine w_B ?_
  | with_reducible refine w_and ?_
  | with_reducible refine w_or ?_
  | with_reducible refine w_not ?_
  | with_reducible refine w_T ?_
  | with_reducible refine w_F ?_
  | with_reducible refine w_nT ?_
  | with_reducible refine w_nF ?_
  | with_reducible refine w_un ?_
  | with_reducible refine w_U ?_
  | with_reducible refine w_if ?_
  | with_reducible refine w_lst ?_
  | with_reducible refine w_tup ?_
  | with_reducible refine w_sl ?_
  | with_reducible refine w_part ?_
  | with_reducible refine w_nopart ?_
  | with_reducible refine w_eqI ?_
  | with_reducible refine w_neI ?_
  | with_reducible refine w_eqS ?_
  | with_reducible refine w_neS ?_
  | with_reducible refine w_abs ?_
  | with_reducible refine w_max2 ?_
  | with_reducible refine w_min2 ?_
  | ((with_reducible refine' w_lenL ?s0 ?q); (case s0 => assumption))
  | ((with_reducible refine' w_lenH ?s0 ?q); (case s0 => assumption))
  | ((with_reducible refine' w_lenT ?s0 ?q); (case s0 => assumption))
  | ((with_reducible refine' w_lenS ?s0 ?q); (case s0 => first | assumption | omega | decide +kernel))
  | with_reducible refine w_inC ?_
  | with_reducible refine w_ninC ?_
  | with_reducible refine w_m1 ?_
  | with_reducible refine w_m0 ?_
  | with_reducible refine w_isstr ?_
  | with_reducible refine w_andV ?_
  | with_reducible refine w_orV ?_
  | with_reducible refine w_notV ?_
  | with_reducible refine w_chain ?_
  | with_reducible refine w_retN ?_
  | with_reducible refine w_break ?_
  | with_reducible refine w_cont ?_
  | with_reducible refine w_yes ?_
  | with_reducible refine w_for ?_
  | with_reducible refine w_lc ?_
  | with_reducible refine w_iList ?_
  | with_reducible refine w_iTup ?_
  | with_reducible refine w_iStr ?_
  | with_reducible refine w_iR1 ?_
  | with_reducible refine w_iR2 ?_
  | ((with_reducible refine' w_onL ?s0 ?q); (case s0 => assumption))
  | ((with_reducible refine' w_onQ ?s0 ?q); (case s0 => assumption))
  | ((with_reducible refine' w_onT ?s0 ?q); (case s0 => assumption))
  | ((with_reducible refine' w_onU ?s0 ?q); (case s0 => assumption))
  | with_reducible refine w_onS ?_
  | ((with_reducible refine' w_onR1 ?s0 ?q); (case s0 => omega))
  | ((with_reducible refine' w_onR2 ?s0 ?q); (case s0 => omega))
  | with_reducible refine w_revL ?_
  | ((with_reducible refine' w_all ?s0 ?q); (case s0 => assumption))
  | ((with_reducible refine' w_any ?s0 ?q); (case s0 => assumption))
  | with_reducible refine w_bm ?_
  | with_reducible refine w_bm0 ?_
  | ((with_reducible refine' w_islst ?s0 ?q); (case s0 => assumption))
  | with_reducible refine w_kw ?_
  | ((with_reducible refine' w_isi ?s0 ?s1 ?q); (case s0 => assumption); (case s1 => assumption))
  | ((with_reducible refine' w_addS ?s0 ?q); (case s0 => first | omega | decide +kernel))
  | with_reducible refine w_dnew ?_
  | with_reducible refine w_pnil ?_
  | with_reducible refine w_pcons ?_
  | ((with_reducible refine' w_slS ?s0 ?q); (case s0 => first | assumption | omega))
  | ((with_reducible refine' w_inLS ?s0 ?q); (case s0 => assumption))
  | ((with_reducible refine' w_ninLS ?s0 ?q); (case s0 => assumption))
  | ((with_reducible refine' w_inTS ?s0 ?q); (case s0 => assumption))
  | with_reducible refine w_par ?_
  | with_reducible refine w_parEnd ?_
  | with_reducible refine w_fld ?_
  | with_reducible refine w_e1 ?_
  | with_reducible refine w_e2 ?_
  | with_reducible refine w_par3 ?_
  | with_reducible refine w_parEnd3 ?_
  | ((with_reducible refine' w_upper ?s0 ?q); (case s0 => first | assumption | omega | decide +kernel))
  | with_reducible refine w_fldT ?_
  | with_reducible refine w_setT ?_
  | with_reducible refine w_fs ?_
  | with_reducible refine w_jsC ?_
  | with_reducible refine w_js0 ?_
  | with_reducible refine w_fmtT ?_
  | with_reducible refine w_dinT ?_
  | with_reducible refine w_dninT ?_
  | with_reducible refine w_dputT ?_
  | with_reducible refine w_dgetT ?_
  | with_reducible refine w_dget2T ?_
  | with_reducible refine w_setdT ?_
  | with_reducible refine w_mkK ?_
  | with_reducible refine w_mkR ?_
  | with_reducible refine w_dcT ?_
  | ((with_reducible refine' w_ninTS ?s0 ?q); (case s0 => assumption))
  | with_reducible refine w_strS ?_
  | with_reducible refine w_star ?_
  | with_reducible refine w_iE ?_
  | with_reducible refine w_metK ?_
  | with_reducible refine w_met ?_
  | with_reducible refine w_stat ?_
  | dsimp only [wipe, List.set_cons_zero, List.set_cons_succ])
local macro_rules | `(tactic| walk_at "w") => `(tactic| repeat walk_at "w1")
/-- a thing as the law makes it -/
def Thing (H : Hp) (v : V) : Prop := (∃ z, v = .str z ∧ z.length ≤ 1000) ∨ ((v = .non ∨ (∃ b, v = .bl b) ∨ ∃ i, v = .int i) ∨ ∃ b, v = .ref b ∧ ((∃ xs, H b = some (.lst xs)) ∨ (∃ xs, H b = some (.tup xs)) ∨ ∃ kvs, H b = some (.dK kvs)))
theorem Thing.keep {H J : Hp} {v : V} {a : Addr} (h : Thing H v) (e : Ext a H J) (la : ∃ ys, J a = some (.lst ys)) (lh : ∃ ys, H a = some (.lst ys)) : Thing J v := by
  rcases h with h | h | ⟨b, rfl, h⟩
  · exact .inl h
  · exact .inr (.inl h)
  · refine .inr (.inr ⟨b, rfl, ?_⟩)
    by_cases z : b = a
    · subst z
      exact .inl la
    · rcases h with ⟨xs, h⟩ | ⟨xs, h⟩ | ⟨xs, h⟩
      · exact .inl ⟨xs, e b _ z h⟩
      · exact .inr (.inl ⟨xs, e b _ z h⟩)
      · exact .inr (.inr ⟨xs, e b _ z h⟩)
theorem Thing.same {H J : Hp} {v : V} (h : Thing H v) (e : Same H J) : Thing J v := by
  rcases h with h | h | ⟨b, rfl, h⟩
  · exact .inl h
  · exact .inr (.inl h)
  · refine .inr (.inr ⟨b, rfl, ?_⟩)
    rcases h with ⟨xs, h⟩ | ⟨xs, h⟩ | ⟨xs, h⟩
    · exact .inl ⟨xs, e b _ h⟩
    · exact .inr (.inl ⟨xs, e b _ h⟩)
    · exact .inr (.inr ⟨xs, e b _ h⟩)
theorem Bag.lst {H : Hp} {a : Addr} (h : Bag H a) : ∃ ys, H a = some (.lst ys) := by
  obtain ⟨g, s, t, _, _, h⟩ := h
  exact ⟨_, h⟩

end RT
set_option Elab.async false
set_option linter.all false
set_option maxRecDepth 100000
set_option maxHeartbeats 4000000
namespace RT
open PySem PySem.Spec PyProof.Rows L2
local macro_rules | `(tactic| walk_at "w0") => `(tactic| dsimp only [L2.start, cxOf, Cx.nox, Cx.wish, List.map, List.length_cons, List.length_nil, List.replicate_succ, List.replicate_zero, List.cons_append, List.nil_append, Nat.reduceAdd, Nat.reduceSub, List.set_cons_zero, List.set_cons_succ])
local macro_rules | `(tactic| walk_at "w1") => `(tactic| first
  | with_reducible refine w_seq ?_
  | with_reducible refine w_asg ?_
  | with_reducible refine w_var rfl ?_
  | with_reducible refine w_c ?_
  | with_reducible refine w_op ?_
  | with_reducible refine w_cons ?_
  | with_reducible refine w_nil ?_
  | with_reducible refine w_gname ?_
  | with_reducible refine w_cb ?_
  | with_reducible refine w_I0 ?_
  | with_reducible refine w_bl ?_
  | ((with_reducible refine' w_ixL ?s0 ?s1 ?q); (case s0 => assumption); (case s1 => rfl))
  | ((with_reducible refine' w_ixT ?s0 ?s1 ?q); (case s0 => assumption); (case s1 => rfl))
  | with_reducible refine w_gsub ?_
  | with_reducible refine w_ifS ?_
  | with_reducible refine w_test ?_
  | with_reducible refine w_call ?_
  | with_reducible refine w_ret ?_
  | with_reducible refine w_int1 ?_
  | with_reducible refine w_int ?_
  | with_reducible refine w_next ?_
  | with_reducible refine w_drop ?_
  | ((with_reducible refine' w_mod ?s0 ?q); (case s0 => omega))
  | ((with_reducible refine' w_div ?s0 ?q); (case s0 => omega))
  | ((with_reducible refine' w_mul ?s0 ?q); (case s0 => omega))
  | ((with_reducible refine' w_pow ?s0 ?q); (case s0 => decide))
  | with_reducible refine w_B ?_
  | with_reducible refine w_and ?_
  | with_reducible refine w_or ?_
  | with_reducible refine w_not ?_
  | with_reducible refine w_T ?_
  | with_reducible refine w_F ?_
  | with_reducible refine w_nT ?_
  | with_reducible refine w_nF ?_
  | with_reducible refine w_un ?_
  | with_reducible refine w_U ?_
  | with_reducible refine w_if ?_
  | with_reducible refine w_lst ?_
  | with_reducible refine w_tup ?_
  | with_reducible refine w_sl ?_
  | with_reducible refine w_part ?_
  | with_reducible refine w_nopart ?_
  | with_reducible refine w_eqI ?_
  | with_reducible refine w_neI ?_
  | with_reducible refine w_eqS ?_
  | with_reducible refine w_neS ?_
  | with_reducible refine w_abs ?_
  | with_reducible refine w_max2 ?_
  | with_reducible refine w_min2 ?_
  | ((with_reducible refine' w_lenL ?s0 ?q); (case s0 => assumption))
  | ((with_reducible refine' w_lenH ?s0 ?q); (case s0 => assumption))
  | ((with_reducible refine' w_lenT ?s0 ?q); (case s0 => assumption))
  | ((with_reducible refine' w_lenS ?s0 ?q); (case s0 => first | assumption | omega | decide +kernel))
  | with_reducible refine w_inC ?_
  | with_reducible refine w_ninC ?_
  | with_reducible refine w_m1 ?_
  | with_reducible refine w_m0 ?_
  | with_reducible refine w_isstr ?_
  | with_reducible refine w_andV ?_
  | with_reducible refine w_orV ?_
  | with_reducible refine w_notV ?_
  | with_reducible refine w_chain ?_
  | with_reducible refine w_retN ?_
  | with_reducible refine w_break ?_
  | with_reducible refine w_cont ?_
  | with_reducible refine w_yes ?_
  | with_reducible refine w_for ?_
  | with_reducible refine w_lc ?_
  | with_reducible refine w_iList ?_
  | with_reducible refine w_iTup ?_
  | with_reducible refine w_iStr ?_
  | with_reducible refine w_iR1 ?_
  | with_reducible refine w_iR2 ?_
  | ((with_reducible refine' w_onL ?s0 ?q); (case s0 => assumption))
  | ((with_reducible refine' w_onQ ?s0 ?q); (case s0 => assumption))
  | ((with_reducible refine' w_onT ?s0 ?q); (case s0 => assumption))
  | ((with_reducible refine' w_onU ?s0 ?q); (case s0 => assumption))
  | with_reducible refine w_onS ?_
  | ((with_reducible refine' w_onR1 ?s0 ?q); (case s0 => omega))
  | ((with_reducible refine' w_onR2 ?s0 ?q); (case s0 => omega))
  | with_reducible refine w_revL ?_
  | ((with_reducible refine' w_all ?s0 ?q); (case s0 => assumption))
  | ((with_reducible refine' w_any ?s0 ?q); (case s0 => assumption))
  | with_reducible refine w_bm ?_
  | with_reducible refine w_bm0 ?_
  | ((with_reducible refine' w_islst ?s0 ?q); (case s0 => assumption))
  | with_reducible refine w_kw ?_
  | ((with_reducible refine' w_isi ?s0 ?s1 ?q); (case s0 => assumption); (case s1 => assumption))
  | ((with_reducible refine' w_addS ?s0 ?q); (case s0 => first | omega | decide +kernel))
  | with_reducible refine w_dnew ?_
  | with_reducible refine w_pnil ?_
  | with_reducible refine w_pcons ?_
  | ((with_reducible refine' w_slS ?s0 ?q); (case s0 => first | assumption | omega))
  | ((with_reducible refine' w_inLS ?s0 ?q); (case s0 => assumption))
  | ((with_reducible refine' w_ninLS ?s0 ?q); (case s0 => assumption))
  | ((with_reducible refine' w_inTS ?s0 ?q); (case s0 => assumption))
  | with_reducible refine w_par ?_
  | with_reducible refine w_parEnd ?_
  | with_reducible refine w_fld ?_
  | with_reducible refine w_e1 ?_
  | with_reducible refine w_e2 ?_
  | with_reducible refine w_par3 ?_
  | with_reducible refine w_parEnd3 ?_
  | ((with_reducible refine' w_upper ?s0 ?q); (case s0 => first | assumption | omega | decide +kernel))
  | with_reducible refine w_fldT ?_
  | with_reducible refine w_setT ?_
  | with_reducible refine w_fs ?_
  | with_reducible refine w_jsC ?_
  | with_reducible refine w_js0 ?_
  | with_reducible refine w_fmtT ?_
  | with_reducible refine w_dinT ?_
  | with_reducible refine w_dninT ?_
  | with_reducible refine w_dputT ?_
  | with_reducible refine w_dgetT ?_
  | with_reducible refine w_dget2T ?_
  | with_reducible refine w_setdT ?_
  | with_reducible refine w_mkK ?_
  | with_reducible refine w_mkR ?_
  | with_reducible refine w_dcT ?_
  | ((with_reducible refine' w_ninTS ?s0 ?q); (case s0 => assumption))
  | with_reducible refine w_strS ?_
  | with_reducible refine w_star ?_
  | with_reducible refine w_iE ?_
  | with_reducible refine w_metK ?_
  | with_reducible refine w_met ?_
  | with_reducible refine w_stat ?_
  | dsimp only [wipe, List.set_cons_zero, List.set_cons_succ])
local macro_rules | `(tactic| walk_at "w") => `(tactic| repeat walk_at "w1")
/-! ### names -/
def nameS (x : Str) : Bool := decide (1 ≤ x.length ∧ x.length ≤ 8) && (decide (x.cps.toList.getD 0 0 ∈ k__LETTERS.cps.toList) && x.cps.toList.all fun c => decide (c ∈ k__SIGNS.cps.toList))
def nameV : V → Bool
  | .str x => nameS x
  | _ => false
/-- what may be asked: a text that is not too long, or another thing of a known kind -/
def Askable (K : PySem.W.Frag) (H : Hp) (v : V) : Prop := (∃ x, v = .str x ∧ x.length ≤ 1000000) ∨ (nameV v = false ∧ ∃ t, TyX K H v t ∧ PySem.W.kitOne K t (.type "str") = some false)
def spName (K : PySem.W.Frag) : Sp := fun vs H Q _ => ∃ v, vs = [v] ∧ Askable K H v ∧ ∀ J, Same H J → Q (.bl (nameV v)) J
theorem ask_thing {K : PySem.W.Frag} {H : Hp} {v : V} (h : Thing H v) : Askable K H v := by
  rcases h with ⟨z, rfl, hz⟩ | h | ⟨b, rfl, h⟩
  · exact .inl ⟨z, rfl, by omega⟩
  · rcases h with rfl | ⟨b, rfl⟩ | ⟨i, rfl⟩
    · exact .inr ⟨rfl, _, .base .non, kit_ty (by decide +kernel)⟩
    · exact .inr ⟨rfl, _, .base (.bl b), kit_ty (by decide +kernel)⟩
    · exact .inr ⟨rfl, _, .base (.int i), kit_ty (by decide +kernel)⟩
  · rcases h with ⟨xs, h⟩ | ⟨xs, h⟩ | ⟨xs, h⟩
    · exact .inr ⟨rfl, _, .base (.lst h), kit_ty (by decide +kernel)⟩
    · exact .inr ⟨rfl, _, .base (.tup h), kit_ty (by decide +kernel)⟩
    · exact .inr ⟨rfl, _, .base (.dK h), kit_ty (by decide +kernel)⟩
/-- what the signs of a text say, sign by sign -/
def signBits (x z : Str) : List Bool := x.cps.toList.map fun c => decide (c ∈ z.cps.toList)
theorem bits_all (x : Str) : (signBits x k__SIGNS).all id = x.cps.toList.all fun c => decide (c ∈ k__SIGNS.cps.toList) := by
  unfold signBits
  rw [List.all_map]
  rfl
theorem bits_next {x z : Str} {i c : Nat} (h : x.cps[i]? = some c) : ((x.cps.toList.take i).map fun c => V.bl (decide (c ∈ z.cps.toList))) ++ [V.bl (decide (c ∈ z.cps.toList))] = (x.cps.toList.take (i + 1)).map fun c => V.bl (decide (c ∈ z.cps.toList)) := by
  rw [List.take_add_one, Array.getElem?_toList, h, List.map_append]
  rfl
theorem bits_end (x z : Str) : ((x.cps.toList.take x.cps.size).map fun c => V.bl (decide (c ∈ z.cps.toList))) = (signBits x z).map V.bl := by
  rw [List.take_of_length_le (by rw [Array.length_toList]; exact Nat.le_refl _), signBits, List.map_map]
  rfl
theorem first_at {x : Str} (h : 1 ≤ x.length) : atI x.cps.toList 0 = some (x.cps.toList.getD 0 0) := by
  have h2 : 0 < x.cps.toList.length := by
    rw [str_len] at h
    exact h
  refine (atI_nat (j := 0) (v := x.cps.toList.getD 0 0) ?_ : atI x.cps.toList ((0 : Nat) : Int) = _)
  rw [List.getD_eq_getElem?_getD, List.getElem?_eq_getElem h2]
  rfl
theorem nameS_of {x : Str} (h : 1 ≤ x.length ∧ x.length ≤ 8) : nameS x = (decide (x.cps.toList.getD 0 0 ∈ k__LETTERS.cps.toList) && (signBits x k__SIGNS).all id) := by
  unfold nameS
  rw [decide_eq_true h, bits_all]
  rfl
theorem nameS_not {x : Str} (h : ¬ (1 ≤ x.length ∧ x.length ≤ 8)) : nameS x = false := by
  unfold nameS
  rw [decide_eq_false h]
  rfl
abbrev s_is_name : Stmt := topS 10
theorem sc_is_name : FnScope ["value", "sign"] ["value"] (defScope s_is_name) := ⟨rfl, rfl, rfl, by decide +kernel, rfl, by decide +kernel, by decide +kernel⟩
section
variable {P : Program} {w : World} {K : PySem.W.Frag} {mg : Str → Option Value} {base : Heap}
theorem ok_is_name {f : Addr} {fd : FuncData} (F : Fun K "is_name" "is_name" s_is_name f fd) (T : Txt K mg) : FnOk P w K mg base CX0 1 f fd ["value"] (spName K) := by
  refine F.ok sc_is_name (fun vs H Q E h => ?_) (fun cdv A outer s H vs Q E hr h => ?_)
  · obtain ⟨v, rfl, _⟩ := h
    rfl
  · obtain ⟨v, rfl, hv, q⟩ := h
    refine ⟨_, (pss_cons (ps_if (PW.pt (pw_or (pt_not (pt_val (pe_callB (k_isi (K := K)) (by rfl) T.z_isinstance (by decide +kernel) (pa_cons (pv 0) (pa_cons (pe_bltn (v := .ty "str") (u := .type "str") (by rfl) T.z_str (by decide +kernel) rfl) pa_nil))))) (pw_or (pt_cmpR op_lt (pe_callB c_lenS (by rfl) T.z_len (by decide +kernel) (pa_cons (pv 0) pa_nil)) pe_int (nomark _)) (pw_or1 (pt_cmpR op_gt (pe_callB c_lenS (by rfl) T.z_len (by decide +kernel) (pa_cons (pv 0) pa_nil)) (pe_gc rfl T.g__LONGEST) (nomark _))))))
    (pss_one (ps_ret pe_bl))
    pss_nil)
  (pss_one (ps_ret (pe_and (pe_cmpR o_inC (pe_ix ix_str (pv 0) pe_int (fun _ _ => rfl)) (pe_gc rfl T.g__LETTERS) rfl) (pe_one (pe_callB (k_all (K := K) rfl) (by rfl) T.z_all (by decide +kernel) (pa_cons (pe_lc (own := [("sign", 1)]) (g := (gName 1)) (tt := tYes) rfl sc_is_name.nd (pi_str (pv 0)) (blkOk_by (own := [("sign", 1)]) (N := ["value", "sign"]) (sc := defScope s_is_name) (by decide +kernel)) (fun _ _ _ _ _ => (pg_name (i := 1) sc_is_name.nd rfl (Or.inl rfl))) (fun _ _ _ _ _ => pts_nil) (fun _ _ _ _ _ => (pe_cmpR o_inC (pv 1) (pe_gc rfl T.g__SIGNS) rfl))) pa_nil))))))), ?_⟩
    walk_at "w0"
    rcases hv with ⟨x, rfl, hx⟩ | ⟨nv, t, ty, kt⟩
    · walk_at "w"
      refine w_isi (.base (.str x)) (kit_ty (b := "str") (r := true) (by decide +kernel)) ?_
      walk_at "w"
      refine w_dec (fun h0 => ?_) (fun h0 => ?_)
      · walk_at "w"
        have e : nameV (.str x) = false := nameS_not (by omega)
        have q1 := q H (Same.refl H)
        rw [e] at q1
        exact q1
      · walk_at "w"
        refine w_dec (fun h1 => ?_) (fun h1 => ?_)
        · walk_at "w"
          have e : nameV (.str x) = false := nameS_not (by omega)
          have q1 := q H (Same.refl H)
          rw [e] at q1
          exact q1
        · walk_at "w"
          have e : nameV (.str x) = _ := nameS_of (x := x) (by omega)
          rw [e] at q
          refine w_ixS hx (first_at (by omega)) ?_
          walk_at "w"
          refine w_bool (fun h2 => ?_) (fun h2 => ?_)
          · rw [show decide (x.cps.toList.getD 0 0 ∈ k__LETTERS.cps.toList) = true from h2] at q
            walk_at "w"
            intro D nD
            refine w_comp walk_str (fun i acc L => acc = (x.cps.toList.take i).map (fun c => V.bl (decide (c ∈ k__SIGNS.cps.toList))) ∧ Same H L) nD (fun L s1 _ => ⟨rfl, s1⟩) (fun _ _ _ _ => trivial) ?_ ?_
            · rintro i acc y L M hi hl ⟨rfl, s1⟩ hD ⟨rfl, c, hc, rfl⟩
              walk_at "w"
              refine ⟨rfl, ?_⟩
              walk_at "w"
              exact w_put hD hl (by have : x.cps.size = x.length := rfl; omega) fun Z e4 hZ => ⟨bits_next hc, Same.ofExt s1 nD e4⟩
            · rintro acc L hl hD ⟨rfl, s1⟩
              rw [bits_end] at hD
              walk_at "w"
              exact q L s1
          · rw [show decide (x.cps.toList.getD 0 0 ∈ k__LETTERS.cps.toList) = false from h2] at q
            walk_at "w"
            exact q H (Same.refl H)
    · walk_at "w"
      have q1 := q H (Same.refl H)
      rw [nv] at q1
      exact q1
end

end RT
set_option Elab.async false
set_option linter.all false
set_option maxRecDepth 100000
set_option maxHeartbeats 4000000
namespace RT
open PySem PySem.Spec PyProof.Rows L2
local macro_rules | `(tactic| walk_at "w0") => `(tactic| dsimp only [L2.start, cxOf, Cx.nox, Cx.wish, List.map, List.length_cons, List.length_nil, List.replicate_succ, List.replicate_zero, List.cons_append, List.nil_append, Nat.reduceAdd, Nat.reduceSub, List.set_cons_zero, List.set_cons_succ])
local macro_rules | `(tactic| walk_at "w1") => `(tactic| first
  | with_reducible refine w_seq ?_
  | with_reducible refine w_asg ?_
  | with_reducible refine w_var rfl ?_
  | with_reducible refine w_c ?_
  | with_reducible refine w_op ?_
  | with_reducible refine w_cons ?_
  | with_reducible refine w_nil ?_
  | with_reducible refine w_gname ?_
  | with_reducible refine w_cb ?_
  | with_reducible refine w_I0 ?_
  | with_reducible refine w_bl ?_
  | ((with_reducible refine' w_ixL ?s0 ?s1 ?q); (case s0 => assumption); (case s1 => rfl))
  | ((with_reducible refine' w_ixT ?s0 ?s1 ?q); (case s0 => assumption); (case s1 => rfl))
  | with_reducible refine w_gsub ?_
  | with_reducible refine w_ifS ?_
  | with_reducible refine w_test ?_
  | with_reducible refine w_call ?_
  | with_reducible refine w_ret ?_
  | with_reducible refine w_int1 ?_
  | with_reducible refine w_int ?_
  | with_reducible refine w_next ?_
  | with_reducible refine w_drop ?_
  | ((with_reducible refine' w_mod ?s0 ?q); (case s0 => omega))
  | ((with_reducible refine' w_div ?s0 ?q); (case s0 => omega))
  | ((with_reducible refine' w_mul ?s0 ?q); (case s0 => omega))
  | ((with_reducible refine' w_pow ?s0 ?q); (case s0 => decide))
  | with_reducible refine w_B ?_
  | with_reducible refine w_and ?_
  | with_reducible refine w_or ?_
  | with_reducible refine w_not ?_
  | with_reducible refine w_T ?_
  | with_reducible refine w_F ?_
  | with_reducible refine w_nT ?_
  | with_reducible refine w_nF ?_
  | with_reducible refine w_un ?_
  | with_reducible refine w_U ?_
  | with_reducible refine w_if ?_
  | with_reducible refine w_lst ?_
  | with_reducible refine w_tup ?_
  | with_reducible refine w_sl ?_
  | with_reducible refine w_part ?_
  | with_reducible refine w_nopart ?_
  | with_reducible refine w_eqI ?_
  | with_reducible refine w_neI ?_
  | with_reducible refine w_eqS ?_
  | with_reducible refine w_neS ?_
  | with_reducible refine w_abs ?_
  | with_reducible refine w_max2 ?_
  | with_reducible refine w_min2 ?_
  | ((with_reducible refine' w_lenL ?s0 ?q); (case s0 => assumption))
  | ((with_reducible refine' w_lenH ?s0 ?q); (case s0 => assumption))
  | ((with_reducible refine' w_lenT ?s0 ?q); (case s0 => assumption))
  | ((with_reducible refine' w_lenS ?s0 ?q); (case s0 => first | assumption | omega | decide +kernel))
  | with_reducible refine w_inC ?_
  | with_reducible refine w_ninC ?_
  | with_reducible refine w_m1 ?_
  | with_reducible refine w_m0 ?_
  | with_reducible refine w_isstr ?_
  | with_reducible refine w_andV ?_
  | with_reducible refine w_orV ?_
  | with_reducible refine w_notV ?_
  | with_reducible refine w_chain ?_
  | with_reducible refine w_retN ?_
  | with_reducible refine w_break ?_
  | with_reducible refine w_cont ?_
  | with_reducible refine w_yes ?_
  | with_reducible refine w_for ?_
  | with_reducible refine w_lc ?_
  | with_reducible refine w_iList ?_
  | with_reducible refine w_iTup ?_
  | with_reducible refine w_iStr ?_
  | with_reducible refine w_iR1 ?_
  | with_reducible refine w_iR2 ?_
  | ((with_reducible refine' w_onL ?s0 ?q); (case s0 => assumption))
  | ((with_reducible refine' w_onQ ?s0 ?q); (case s0 => assumption))
  | ((with_reducible refine' w_onT ?s0 ?q); (case s0 => assumption))
  | ((with_reducible refine' w_onU ?s0 ?q); (case s0 => assumption))
  | with_reducible refine w_onS ?_
  | ((with_reducible refine' w_onR1 ?s0 ?q); (case s0 => omega))
  | ((with_reducible refine' w_onR2 ?s0 ?q); (case s0 => omega))
  | with_reducible refine w_revL ?_
  | ((with_reducible refine' w_all ?s0 ?q); (case s0 => assumption))
  | ((with_reducible refine' w_any ?s0 ?q); (case s0 => assumption))
  | with_reducible refine w_bm ?_
  | with_reducible refine w_bm0 ?_
  | ((with_reducible refine' w_islst ?s0 ?q); (case s0 => assumption))
  | with_reducible refine w_kw ?_
  | ((with_reducible refine' w_isi ?s0 ?s1 ?q); (case s0 => assumption); (case s1 => assumption))
  | ((with_reducible refine' w_addS ?s0 ?q); (case s0 => first | omega | decide +kernel))
  | with_reducible refine w_dnew ?_
  | with_reducible refine w_pnil ?_
  | with_reducible refine w_pcons ?_
  | ((with_reducible refine' w_slS ?s0 ?q); (case s0 => first | assumption | omega))
  | ((with_reducible refine' w_inLS ?s0 ?q); (case s0 => assumption))
  | ((with_reducible refine' w_ninLS ?s0 ?q); (case s0 => assumption))
  | ((with_reducible refine' w_inTS ?s0 ?q); (case s0 => assumption))
  | with_reducible refine w_par ?_
  | with_reducible refine w_parEnd ?_
  | with_reducible refine w_fld ?_
  | with_reducible refine w_e1 ?_
  | with_reducible refine w_e2 ?_
  | with_reducible refine w_par3 ?_
  | with_reducible refine w_parEnd3 ?_
  | ((with_reducible refine' w_upper ?s0 ?q); (case s0 => first | assumption | omega | decide +kernel))
  | with_reducible refine w_fldT ?_
  | with_reducible refine w_setT ?_
  | with_reducible refine w_fs ?_
  | with_reducible refine w_jsC ?_
  | with_reducible refine w_js0 ?_
  | with_reducible refine w_fmtT ?_
  | with_reducible refine w_dinT ?_
  | with_reducible refine w_dninT ?_
  | with_reducible refine w_dputT ?_
  | with_reducible refine w_dgetT ?_
  | with_reducible refine w_dget2T ?_
  | with_reducible refine w_setdT ?_
  | with_reducible refine w_mkK ?_
  | with_reducible refine w_mkR ?_
  | with_reducible refine w_dcT ?_
  | ((with_reducible refine' w_ninTS ?s0 ?q); (case s0 => assumption))
  | with_reducible refine w_strS ?_
  | with_reducible refine w_star ?_
  | with_reducible refine w_iE ?_
  | with_reducible refine w_metK ?_
  | with_reducible refine w_met ?_
  | with_reducible refine w_stat ?_
  | dsimp only [wipe, List.set_cons_zero, List.set_cons_succ])
local macro_rules | `(tactic| walk_at "w") => `(tactic| repeat walk_at "w1")
/-! ### drawn names -/
theorem name_of {z : Str} {c : Nat} {cs : List Nat} (e : z.cps.toList = c :: cs) (h1 : c ∈ k__LETTERS.cps.toList) (h2 : ∀ x ∈ c :: cs, x ∈ k__SIGNS.cps.toList) (hl : cs.length ≤ 7) : nameS z = true := by
  have hz : z.length = cs.length + 1 := by rw [str_len, e, List.length_cons]
  rw [nameS_of (by omega), e, bits_all, e]
  rw [show (c :: cs).getD 0 0 = c from rfl, decide_eq_true h1, Bool.true_and, List.all_eq_true]
  exact fun x hx => decide_eq_true (h2 x hx)
theorem name_is {z : Str} (h : nameS z = true) : ∃ c cs, z.cps.toList = c :: cs ∧ c ∈ k__LETTERS.cps.toList ∧ (∀ x ∈ c :: cs, x ∈ k__SIGNS.cps.toList) ∧ cs.length ≤ 7 := by
  by_cases hl : 1 ≤ z.length ∧ z.length ≤ 8
  · rw [nameS_of hl, bits_all, Bool.and_eq_true] at h
    cases e : z.cps.toList with
    | nil =>
      rw [str_len, e] at hl
      exact absurd hl.1 (by decide)
    | cons c cs =>
      rw [e] at h
      refine ⟨c, cs, rfl, of_decide_eq_true h.1, fun x hx => of_decide_eq_true (List.all_eq_true.mp h.2 x hx), ?_⟩
      rw [str_len, e, List.length_cons] at hl
      omega
  · rw [nameS_not hl] at h
    cases h
theorem low_sig : ∀ c ∈ k__LETTERS.cps.toList, c ∈ k__SIGNS.cps.toList := by
  have e : k__LETTERS.cps.toList.all (fun c => decide (c ∈ k__SIGNS.cps.toList)) = true := by decide +kernel
  exact fun c hc => of_decide_eq_true (List.all_eq_true.mp e c hc)
theorem name_len {z : Str} (h : nameS z = true) : 1 ≤ z.length ∧ z.length ≤ 8 := by
  obtain ⟨c, cs, e, _, _, hl⟩ := name_is h
  rw [str_len, e, List.length_cons]
  omega
theorem pick_ok {H : Hp} {p : Addr} {xs : List V} {d n : Int} (_ : H p = some (.lst xs)) (ok : xs.all nameV = true) (d0 : 0 ≤ d) (d1 : d < n) (e : ((xs.length : Nat) : Int) = n) : ∃ z, atI xs d = some (.str z) ∧ nameS z = true := by
  obtain ⟨v, hv, hm⟩ := at_in (xs := xs) d0 (by omega)
  have h := List.all_eq_true.mp ok v hm
  cases v with
  | str z => exact ⟨z, hv, h⟩
  | _ => cases h
def spName1 : Sp := fun vs H Q _ => ∃ a : Addr, vs = [.ref a] ∧ Bag H a ∧ ∀ (z : Str) (J : Hp), nameS z = true → Ext a H J → Bag J a → Q (.str z) J
def spNames : Sp := fun vs H Q _ => ∃ (a : Addr) (n : Nat), vs = [.ref a, .int (n : Int)] ∧ n ≤ 10 ∧ Bag H a ∧ ∀ (p : Addr) (zs : List Str) (J : Hp), H p = none → zs.length = n → zs.Nodup → (∀ z ∈ zs, nameS z = true) → J p = some (.lst (zs.map V.str)) → Ext a H J → Bag J a → Q (.ref p) J
abbrev s__law_name : Stmt := topS 26
theorem sc__law_name : FnScope ["bag", "words", "way", "small", "more", "k"] ["bag"] (defScope s__law_name) := ⟨rfl, rfl, rfl, by decide +kernel, rfl, by decide +kernel, by decide +kernel⟩
abbrev s__law_names : Stmt := topS 27
theorem sc__law_names : FnScope ["bag", "many", "found", "k", "name", "menu", "j", "each"] ["bag", "many"] (defScope s__law_names) := ⟨rfl, rfl, rfl, by decide +kernel, rfl, by decide +kernel, by decide +kernel⟩
/-- the wards' texts: first six signs and a digit -/
def cand (z : Str) (j : Nat) : Str := cutS z none (some 6) ++ Str.ofString (toString ((j : Nat) : Int))
theorem cut6 (z : Str) : (cutS z none (some 6)).cps.toList = z.cps.toList.take 6 := by
  rw [C8.cutS_slice]
  have e := SX.slice_to (a := z.cps.toList) (i := 6) (by decide)
  rw [SX.S_tl] at e
  rw [e]
  rfl
theorem cut7 (z : Str) : (cutS z none (some 7)).cps.toList = z.cps.toList.take 7 := by
  rw [C8.cutS_slice]
  have e := SX.slice_to (a := z.cps.toList) (i := 7) (by decide)
  rw [SX.S_tl] at e
  rw [e]
  rfl
theorem cand_list {z : Str} {j : Nat} (h : j < 10) : (cand z j).cps.toList = z.cps.toList.take 6 ++ [48 + j] := by
  unfold cand
  rw [show (cutS z none (some 6) ++ Str.ofString (toString ((j : Nat) : Int))).cps.toList = (cutS z none (some 6)).cps.toList ++ (Str.ofString (toString ((j : Nat) : Int))).cps.toList from TL.tl_append _ _, cut6, show (Str.ofString (toString ((j : Nat) : Int))).cps.toList = TL.numL j from TL.tl_num j, TL.numL_lt h]
theorem digit_sig {j : Nat} (h : j < 10) : 48 + j ∈ k__SIGNS.cps.toList := by
  have e : (List.range 10).all (fun j => decide (48 + j ∈ k__SIGNS.cps.toList)) = true := by decide +kernel
  exact of_decide_eq_true (List.all_eq_true.mp e j (List.mem_range.mpr h))
theorem cand_name {z : Str} {j : Nat} (hz : nameS z = true) (h : j < 10) : nameS (cand z j) = true := by
  obtain ⟨c, cs, e, h1, h2, hl⟩ := name_is hz
  have e2 : (cand z j).cps.toList = c :: (cs.take 5 ++ [48 + j]) := by rw [cand_list h, e]; rfl
  refine name_of e2 h1 (fun x hx => ?_) (by rw [List.length_append, List.length_take]; show min 5 cs.length + 1 ≤ 7; omega)
  rcases List.mem_cons.mp hx with rfl | hx
  · exact h2 _ (List.mem_cons_self ..)
  · rcases List.mem_append.mp hx with hx | hx
    · exact h2 _ (List.mem_cons_of_mem _ (List.mem_of_mem_take hx))
    · rw [List.mem_singleton.mp hx]
      exact digit_sig h
theorem cand_inj {z : Str} {i j : Nat} (hi : i < 10) (hj : j < 10) (e : cand z i = cand z j) : i = j := by
  have h : (cand z i).cps.toList = (cand z j).cps.toList := by rw [e]
  rw [cand_list hi, cand_list hj] at h
  have := List.append_cancel_left h
  have := (List.cons.inj this).1
  omega
theorem cands_nodup (z : Str) : ∀ n : Nat, n ≤ 10 → ((List.range n).map (cand z)).Nodup := by
  intro n hn
  refine List.pairwise_map.mpr (List.Pairwise.imp_of_mem (fun {a b} ha hb ne e => ne ?_) (List.nodup_range (n := n)))
  rw [List.mem_range] at ha hb
  exact cand_inj (by omega) (by omega) e
/-- the menu has a text that is not among fewer ones -/
theorem menu_new {z : Str} {n : Nat} {zs : List Str} (hn : n ≤ 10) (h : zs.length < n) : ∃ y, y ∈ (z :: (List.range n).map (cand z)).filter (fun y => !decide (y ∈ zs)) := by
  by_cases all : ∀ y ∈ (List.range n).map (cand z), y ∈ zs
  · have := length_le_of_nodup_of_subset _ _ (cands_nodup z n hn) all
    rw [List.length_map, List.length_range] at this
    omega
  · obtain ⟨y, hy⟩ := Classical.not_forall.mp all
    obtain ⟨h1, h2⟩ := Classical.not_imp.mp hy
    exact ⟨y, List.mem_filter.mpr ⟨List.mem_cons_of_mem _ h1, by rw [decide_eq_false h2]; rfl⟩⟩
section
variable {P : Program} {w : World} {K : PySem.W.Frag} {mg : Str → Option Value} {base : Heap}
theorem ok__law_name {f : Addr} {fd : FuncData} (F : Fun K "_law_name" "_law_name" s__law_name f fd) (T : Txt K mg) (c__law_draw : Cal P w K mg base 1 "_law_draw" spDraw) : FnOk P w K mg base CX0 2 f fd ["bag"] spName1 := by
  refine F.ok sc__law_name (fun vs H Q E h => ?_) (fun cdv A outer s H vs Q E hr h => ?_)
  · obtain ⟨a, rfl, _⟩ := h
    rfl
  · obtain ⟨a, rfl, hb, q⟩ := h
    refine ⟨_, (pss_cons (ps_set (i := 1) sc__law_name.nd rfl (by first | exact Or.inl rfl | exact Or.inr rfl) (pe_lst (pa_cons pe_str (pa_cons pe_str (pa_cons pe_str (pa_cons pe_str (pa_cons pe_str (pa_cons pe_str (pa_cons pe_str (pa_cons pe_str (pa_cons pe_str pa_nil)))))))))))
  (pss_cons (ps_set (i := 1) sc__law_name.nd rfl (by first | exact Or.inl rfl | exact Or.inr rfl) (pe_op op_cat (pv 1) (pe_lst (pa_cons pe_str (pa_cons pe_str (pa_cons pe_str (pa_cons pe_str (pa_cons pe_str (pa_cons pe_str (pa_cons pe_str (pa_cons pe_str (pa_cons pe_str pa_nil))))))))))))
  (pss_cons (ps_set (i := 2) sc__law_name.nd rfl (by first | exact Or.inl rfl | exact Or.inr rfl) (pe_c c__law_draw hr (by decide) (by rfl) (pa_cons (pv 0) (pa_cons pe_int pa_nil))))
  (pss_cons (ps_if (pt_cmpR op_eq (pv 2) pe_int (nomark _))
    (pss_one (ps_ret (pe_ix (k_ixL (K := K)) (pv 1) (pe_c c__law_draw hr (by decide) (by rfl) (pa_cons (pv 0) (pa_cons pe_int pa_nil))) (fun _ _ => rfl))))
    pss_nil)
  (pss_cons (ps_set (i := 3) sc__law_name.nd rfl (by first | exact Or.inl rfl | exact Or.inr rfl) pe_str)
  (pss_cons (ps_setLc (i := 4) (own := [("k", 5)]) (g := (gName 5)) (tt := tYes) rfl sc__law_name.nd rfl rfl (sw_true rfl rfl rfl (by decide +kernel)) (pi_range1 rfl T.z_range (pa_cons (pe_ix (k_ixL (K := K)) (pe_lst (pa_cons pe_int (pa_cons pe_int (pa_cons pe_int (pa_cons pe_int (pa_cons pe_int (pa_cons pe_int pa_nil))))))) (pv 2) (fun _ _ => rfl)) pa_nil)) (blkOk_by (own := [("k", 5)]) (N := ["bag", "words", "way", "small", "more", "k"]) (sc := defScope s__law_name) (by decide +kernel)) (fun _ _ _ _ _ => (pg_name (i := 5) sc__law_name.nd rfl (Or.inl rfl))) (fun _ _ _ _ _ => pts_nil) (fun _ _ _ _ _ => (pe_ix ix_str (pe_op o_addS (pv 3) pe_str) (pe_c c__law_draw hr (by decide) (by rfl) (pa_cons (pv 0) (pa_cons pe_int pa_nil))) (fun _ _ => rfl))))
  (pss_one (ps_ret (pe_op o_addS (pe_ix ix_str (pv 3) (pe_c c__law_draw hr (by decide) (by rfl) (pa_cons (pv 0) (pa_cons pe_int pa_nil))) (fun _ _ => rfl)) (k_join (K := K) pe_str (pv 4))))))))))), ?_⟩
    walk_at "w0"
    walk_at "w"
    refine w_newL rfl fun p1 L1 n1 s1 h1 => ?_
    walk_at "w"
    refine w_newL rfl fun p2 L2 n2 s2 h2 => ?_
    refine w_cat (s2 _ _ h1) h2 (Nat.le_of_ble_eq_true rfl) fun p L n3 s3 hp => ?_
    walk_at "w"
    have sL : Same H L := (s1.trans s2).trans s3
    refine w_draw (by decide) (by decide) (hb.same sL) fun d J d0 d1 e1 b1 => ?_
    have hJ : J p = some _ := e1 p _ (((hb.same s1).same s2).ne n3) hp
    walk_at "w"
    refine w_dec (fun _ => ?_) (fun _ => ?_)
    · walk_at "w"
      refine w_draw (by decide) (by decide) b1 fun d2 J2 d20 d21 e2 b2 => ?_
      have hJ2 : J2 p = some _ := e2 p _ (((hb.same s1).same s2).ne n3) hJ
      obtain ⟨z, hv, hz⟩ := pick_ok hJ2 (by decide +kernel) d20 d21 rfl
      refine w_ixL hJ2 hv ?_
      exact q z J2 hz (((Ext.same sL).trans e1).trans e2) b2
    · walk_at "w"
      refine w_newL rfl fun p4 L4 n4 s4 h4 => ?_
      walk_at "w"
      have eL : Ext a H L4 := ((Ext.same sL).trans e1).trans (.same s4)
      have b4 := b1.same s4
      obtain ⟨v, hv, hm⟩ := at_in (xs := [V.int 0, V.int 0, V.int 1, V.int 1, V.int 3, V.int 7]) d0 d1
      obtain ⟨n, rfl, n0, n7⟩ : ∃ n : Int, v = .int n ∧ 0 ≤ n ∧ n ≤ 7 := by
        simp only [List.mem_cons, List.not_mem_nil, or_false] at hm
        rcases hm with rfl | rfl | rfl | rfl | rfl | rfl <;> exact ⟨_, rfl, by decide, by decide⟩
      refine w_ixL h4 hv ?_
      walk_at "w"
      intro D nD
      refine w_comp walk_range (fun i acc L => Ext a L4 L ∧ Bag L a ∧ ∃ cs : List Nat, acc = cs.map (fun c => V.str ⟨#[c]⟩) ∧ ∀ c ∈ cs, c ∈ k__SIGNS.cps.toList) nD (fun L s1 _ => ⟨.same s1, b4.same s1, [], rfl, fun _ h => nomatch h⟩) (fun _ _ _ _ => trivial) ?_ ?_
      · rintro i acc x L M hi hl ⟨e2, b2, cs, rfl, hcs⟩ hD ⟨rfl, rfl⟩
        walk_at "w"
        refine ⟨rfl, ?_⟩
        walk_at "w"
        refine w_draw (by decide) (by decide) b2 fun d2 U d0 d1 e3 b3 => ?_
        obtain ⟨c, hc, hcm⟩ := sign_at (z := Str.ofString "abcdefghijklmnopqrstuvwxyz" ++ Str.ofString "0123456789") d0 (lt_len d1 (by decide +kernel))
        refine w_ixS (by decide +kernel) hc ?_
        have nDa : D ≠ a := b4.ne nD
        refine w_put (e3 D _ nDa hD) hl (by omega) fun Z e4 hZ => ⟨(e2.trans e3).put nD e4, b3.keep e4 nDa.symm, cs ++ [c], by rw [List.map_append]; rfl, fun x hx => ?_⟩
        rcases List.mem_append.mp hx with hx | hx
        · exact hcs x hx
        · rw [List.mem_singleton.mp hx]
          rw [show Str.ofString "abcdefghijklmnopqrstuvwxyz" ++ Str.ofString "0123456789" = k__SIGNS by decide +kernel] at hcm
          exact hcm
      · rintro acc L hl hD ⟨e2, b2, cs, rfl, hcs⟩
        walk_at "w"
        refine w_draw (by decide) (by decide) b2 fun d2 U d0 d1 e3 b3 => ?_
        obtain ⟨c, hc, hcm⟩ := sign_at (z := k__LETTERS) d0 (lt_len d1 (by decide +kernel))
        refine w_ixS (by decide +kernel) hc ?_
        walk_at "w"
        rw [List.length_map] at hl
        refine w_joinC (e3 D _ (b4.ne nD) hD) (by omega) fun z hzl hz => ?_
        refine w_addS (by rw [hz]; show 1 + _ ≤ _; omega) ?_
        refine q _ _ (name_of (c := c) (cs := cs) ?_ hcm (fun x hx => ?_) (by omega)) ((eL.trans e2).trans e3) b3
        · rw [show (({ cps := #[c] } : Str) ++ z).cps.toList = (({ cps := #[c] } : Str)).cps.toList ++ z.cps.toList from TL.tl_append _ _, hzl]
          rfl
        · rcases List.mem_cons.mp hx with rfl | hx
          · exact low_sig _ hcm
          · exact hcs x hx
theorem ok__law_names {f : Addr} {fd : FuncData} (F : Fun K "_law_names" "_law_names" s__law_names f fd) (T : Txt K mg) (c__law_draw : Cal P w K mg base 1 "_law_draw" spDraw) (c__law_name : Cal P w K mg base 2 "_law_name" spName1) : FnOk P w K mg base CX0 3 f fd ["bag", "many"] spNames := by
  refine F.ok sc__law_names (fun vs H Q E h => ?_) (fun cdv A outer s H vs Q E hr h => ?_)
  · obtain ⟨a, n, rfl, _⟩ := h
    rfl
  · obtain ⟨a, n, rfl, n10, hb, q⟩ := h
    refine ⟨_, (pss_cons (ps_set (i := 2) sc__law_names.nd rfl (by first | exact Or.inl rfl | exact Or.inr rfl) (pe_lst pa_nil))
  (pss_cons (ps_for PassesOwn.never rfl (pi_range1 rfl T.z_range (pa_cons (pv 1) pa_nil)) (pg_name (i := 3) sc__law_names.nd rfl (by first | exact Or.inl rfl | exact Or.inr rfl))
    (pss_cons (ps_set (i := 4) sc__law_names.nd rfl (by first | exact Or.inl rfl | exact Or.inr rfl) (pe_c c__law_name hr (by decide) (by rfl) (pa_cons (pv 0) pa_nil)))
  (C8.pss_cut (ps_if (PW.pt (pw_and (pt_cmpR (k_neT (α := List Str) (K := K) hr (by decide)) (pv 2) (pe_lst pa_nil) (nomark _)) (pw_and1 (pt_cmpR op_eq (pe_c c__law_draw hr (by decide) (by rfl) (pa_cons (pv 0) (pa_cons pe_int pa_nil))) pe_int (nomark _)))))
    (pss_one (ps_set (i := 4) sc__law_names.nd rfl (by first | exact Or.inl rfl | exact Or.inr rfl) (pe_op o_addS (pe_slice sl_str (pe_ix (k_ixL (K := K)) (pv 2) (pe_c c__law_draw hr (by decide) (by rfl) (pa_cons (pv 0) (pa_cons (pe_callB (k_lenQ (K := K)) (by rfl) T.z_len (by decide +kernel) (pa_cons (pv 2) pa_nil)) pa_nil))) (fun _ _ => rfl)) po_none (po_some pe_int)) (pe_ix ix_str pe_str (pe_c c__law_draw hr (by decide) (by rfl) (pa_cons (pv 0) (pa_cons pe_int pa_nil))) (fun _ _ => rfl)))))
    pss_nil)
  (pss_cons (ps_set (i := 5) sc__law_names.nd rfl (by first | exact Or.inl rfl | exact Or.inr rfl) (pe_op op_cat (pe_lst (pa_cons (pv 4) pa_nil)) (pe_lc (own := [("j", 6)]) (g := (gName 6)) (tt := tYes) rfl sc__law_names.nd (pi_range1 rfl T.z_range (pa_cons (pv 1) pa_nil)) (blkOk_by (own := [("j", 6)]) (N := ["bag", "many", "found", "k", "name", "menu", "j", "each"]) (sc := defScope s__law_names) (by decide +kernel)) (fun _ _ _ _ _ => (pg_name (i := 6) sc__law_names.nd rfl (Or.inl rfl))) (fun _ _ _ _ _ => pts_nil) (fun _ _ _ _ _ => (pe_op o_addS (pe_slice sl_str (pv 4) po_none (po_some pe_int)) (pe_callTy c_strI (by rfl) T.z_str (by decide +kernel) (pa_cons (pv 6) pa_nil)))))))
  (pss_one (ps_expr (k_bm (K := K) (pe_bm PySem.F.plainAttrs_list PySem.F.slot_list_append PySem.F.type_list_append mt_append (pv 2) (pa_cons (pe_ix (k_ixL (K := K)) (pe_lc (own := [("each", 7)]) (g := (gName 7)) rfl sc__law_names.nd (k_iL (K := K) (pv 5)) (blkOk_by (own := [("each", 7)]) (N := ["bag", "many", "found", "k", "name", "menu", "j", "each"]) (sc := defScope s__law_names) (by decide +kernel)) (fun _ _ _ _ _ => (pg_name (i := 7) sc__law_names.nd rfl (Or.inl rfl))) (fun _ _ _ _ _ => (pts_one (pt_cmpR (k_nin (K := K)) (pv 7) (pv 2) rfl))) (fun _ _ _ _ _ => (pv 7))) pe_int (fun _ _ => rfl)) pa_nil)))))))))
  (pss_one (ps_ret (pv 2))))), ?_⟩
    walk_at "w0"
    walk_at "w"
    refine w_newL rfl fun p L0 np s1 h1 => ?_
    walk_at "w"
    have npa : p ≠ a := hb.ne np
    refine w_loop walk_range (fun i σ M => ∃ zs o3 o4 o5 o6 o7, σ = [some (.ref a), some (.int n), some (.ref p), o3, o4, o5, o6, o7] ∧ M p = some (.lst (zs.map V.str)) ∧ zs.length = i ∧ zs.Nodup ∧ (∀ z ∈ zs, nameS z = true) ∧ Bag M a ∧ Ext a H M) ⟨[], _, _, _, _, _, rfl, h1, rfl, List.nodup_nil, fun _ h => (nomatch h), hb.same s1, .same s1⟩ (fun _ _ _ _ _ => trivial) ?_ ?_
    · rintro i x σ M0 M hi ⟨zs, o3, o4, o5, o6, o7, rfl, hp, hlz, nd, ok, hb, e0⟩ ⟨rfl, rfl⟩
      have hin : i < n := by omega
      walk_at "w"
      refine ⟨a, rfl, hb, fun z J hz e1 b1 => ?_⟩
      have hp1 : J p = some _ := e1 p _ npa hp
      have e01 := e0.trans e1
      walk_at "w"
      -- the name, perhaps bent: what holds behind the if
      refine w_cut (fun σ M => ∃ z, σ = [some (.ref a), some (.int n), some (.ref p), some (.int (0 + i)), some (.str z), o5, o6, o7] ∧ nameS z = true ∧ M p = some (.lst (zs.map V.str)) ∧ Bag M a ∧ Ext a H M) ?_ ?_
      · walk_at "w"
        refine w_newL rfl fun p5 L5 n5 s5 h5 => ?_
        have e05 := e01.trans (.same s5)
        refine w_neT (a := zs) (b := []) (tv_lst (s5 _ _ hp1) (tva_strs zs)) (tv_lst h5 .nil) ?_
        walk_at "w"
        have hp5 := s5 _ _ hp1
        refine w_dec (fun hne => ?_) (fun _ => ?_)
        · walk_at "w"
          refine w_draw (by decide) (by decide) (b1.same s5) fun d J2 d0 d1 e2 b2 => ?_
          have hp2 : J2 p = some _ := e2 p _ npa hp5
          walk_at "w"
          refine w_dec (fun _ => ?_) (fun _ => ?_)
          · walk_at "w"
            have hpos : 0 < zs.length := List.length_pos_iff.mpr hne
            refine w_draw (by rw [List.length_map]; omega) (by rw [List.length_map]; omega) b2 fun d3 J3 d30 d31 e3 b3 => ?_
            have hp3 : J3 p = some _ := e3 p _ npa hp2
            obtain ⟨y, hy, okY, _⟩ := pick_str ok d30 d31 (by rw [List.length_map])
            have := name_len okY
            refine w_ixL hp3 hy ?_
            walk_at "w"
            refine w_draw (by decide) (by decide) b3 fun d4 J4 d40 d41 e4 b4 => ?_
            obtain ⟨c, hc, hcm⟩ := sign_at (z := Str.ofString "0123456789z") d40 (lt_len d41 (by decide +kernel))
            refine w_ixS (by decide +kernel) hc ?_
            have hcut := len_cut y none (some 7)
            refine w_addS (by show _ + 1 ≤ _; omega) ?_
            walk_at "w"
            refine ⟨_, rfl, ?_, e4 p _ npa hp3, b4, ((e05.trans e2).trans e3).trans e4⟩
            obtain ⟨c0, cs, ey, h1, h2, hl7⟩ := name_is okY
            have el : (cutS y none (some 7) ++ ({ cps := #[c] } : Str)).cps.toList = c0 :: (cs.take 6 ++ [c]) := by
              rw [show (cutS y none (some 7) ++ ({ cps := #[c] } : Str)).cps.toList = (cutS y none (some 7)).cps.toList ++ ({ cps := #[c] } : Str).cps.toList from TL.tl_append _ _, cut7, ey]
              rfl
            refine name_of el h1 (fun x hx => ?_) (by rw [List.length_append, List.length_take]; show min 6 cs.length + 1 ≤ 7; omega)
            rcases List.mem_cons.mp hx with rfl | hx
            · exact h2 _ (List.mem_cons_self ..)
            · rcases List.mem_append.mp hx with hx | hx
              · exact h2 _ (List.mem_cons_of_mem _ (List.mem_of_mem_take hx))
              · rw [List.mem_singleton.mp hx]
                have e : (Str.ofString "0123456789z").cps.toList.all (fun c => decide (c ∈ k__SIGNS.cps.toList)) = true := by decide +kernel
                exact of_decide_eq_true (List.all_eq_true.mp e c hcm)
          · walk_at "w"
            exact ⟨z, rfl, hz, hp2, b2, e05.trans e2⟩
        · walk_at "w"
          exact ⟨z, rfl, hz, hp5, b1.same s5, e05⟩
      · rintro σ M ⟨z, rfl, hz, hp, hb, e0⟩
        have hzl := name_len hz
        walk_at "w"
        refine w_newL rfl fun p5 L5 n5 s5 h5 => ?_
        walk_at "w"
        intro D nD
        have hb5 := hb.same s5
        refine w_comp walk_range (fun i acc L => acc = ((List.range i).map (cand z)).map V.str ∧ Same L5 L) nD (fun L s1 _ => ⟨rfl, s1⟩) (fun _ _ _ _ => trivial) ?_ ?_
        · rintro j acc x L M hj hl ⟨rfl, s1⟩ hD ⟨rfl, rfl⟩
          walk_at "w"
          refine ⟨rfl, ?_⟩
          walk_at "w"
          refine w_strI (small_log (by omega)) ?_
          rw [show ((0 : Int) + (j : Nat)) = ((j : Nat) : Int) by omega]
          have hc : (cand z j).length ≤ 7 := by
            rw [str_len, cand_list (by omega), List.length_append, List.length_take]
            show min 6 _ + 1 ≤ 7
            omega
          have hc2 := len_add (cutS z none (some 6)) (Str.ofString (toString ((j : Nat) : Int)))
          refine w_addS (by unfold cand at hc; omega) ?_
          refine w_put hD hl (by omega) fun Z e4 hZ => ⟨?_, Same.ofExt s1 nD e4⟩
          rw [List.range_succ, List.map_append, List.map_append]
          rfl
        · rintro acc L hl hD ⟨rfl, s1⟩
          walk_at "w"
          rw [List.length_map, List.length_map, List.length_range] at hl
          refine w_cat (s1 _ _ h5) hD (by rw [List.length_map, List.length_map, List.length_range]; show 1 + _ ≤ _; omega) fun p6 L6 n6 s6 h6 => ?_
          have h6' : L6 p6 = some (.lst ((z :: (List.range n).map (cand z)).map V.str)) := h6
          have s56 := (s5.trans s1).trans s6
          have hp6 : L6 p = some _ := s56 _ _ hp
          walk_at "w"
          intro D2 nD2
          refine w_comp walk_list (fun i acc L => acc = (((z :: (List.range n).map (cand z)).take i).filter (fun y => !decide (y ∈ zs))).map V.str ∧ Same L6 L) nD2 (fun L s1 _ => ⟨rfl, s1⟩) (fun _ _ _ h => h.2.seq (SqL.of h6')) ?_ ?_
          · rintro j acc x L M hj hl2 ⟨rfl, s7⟩ hD2 ⟨rfl, hx⟩
            rw [List.getElem?_map] at hx
            obtain ⟨y, hy, rfl⟩ := Option.map_eq_some_iff.mp hx
            have hp7 : M p = some _ := s7 _ _ hp6
            walk_at "w"
            refine ⟨rfl, ?_⟩
            walk_at "w"
            have tk : (z :: (List.range n).map (cand z)).take (j + 1) = (z :: (List.range n).map (cand z)).take j ++ [y] := by
              rw [List.take_add_one, hy]
              rfl
            rw [List.length_map, List.length_cons, List.length_map, List.length_range] at hj
            refine w_ndec (fun hn => ?_) (fun hn => ?_)
            · walk_at "w"
              refine w_put hD2 hl2 (by omega) fun Z e4 hZ => ⟨?_, Same.ofExt s7 nD2 e4⟩
              rw [tk, List.filter_append, List.map_append]
              simp only [List.filter_cons, decide_eq_false hn, List.filter_nil]
              rfl
            · refine w_skip hD2 hl2 ⟨?_, s7⟩
              rw [tk, List.filter_append]
              simp only [List.filter_cons, decide_eq_true hn, List.filter_nil]
              simp
          · rintro acc L hl2 hD2 ⟨rfl, s7⟩
            rw [List.length_map, List.take_length] at hD2
            obtain ⟨y, hy⟩ := menu_new (z := z) n10 (show zs.length < n by omega)
            obtain ⟨y, r, hf⟩ : ∃ y r, (z :: (List.range n).map (cand z)).filter (fun y => !decide (y ∈ zs)) = y :: r := by
              cases h : (z :: (List.range n).map (cand z)).filter (fun y => !decide (y ∈ zs)) with
              | nil =>
                rw [h] at hy
                cases hy
              | cons y r => exact ⟨y, r, rfl⟩
            rw [hf] at hD2
            have hm : y ∈ (z :: (List.range n).map (cand z)).filter (fun y => !decide (y ∈ zs)) := by
              rw [hf]
              exact List.mem_cons_self ..
            obtain ⟨hm1, hm2⟩ := List.mem_filter.mp hm
            have hnew : y ∉ zs := by
              intro hin
              rw [decide_eq_true hin] at hm2
              cases hm2
            have okY : nameS y = true := by
              rcases List.mem_cons.mp hm1 with rfl | hm1
              · exact hz
              · obtain ⟨j, hj, rfl⟩ := List.mem_map.mp hm1
                exact cand_name hz (by rw [List.mem_range] at hj; omega)
            have hp7 : L p = some _ := s7 _ _ hp6
            walk_at "w"
            refine w_ixL hD2 (show atI ((y :: r).map V.str) ((0 : Nat) : Int) = some (.str y) from atI_nat rfl) ?_
            walk_at "w"
            refine w_append hp7 (by rw [List.length_map]; omega) fun J e8 h8 => ?_
            walk_at "w"
            refine ⟨zs ++ [y], _, _, _, _, _, rfl, ?_, by rw [List.length_append, hlz]; rfl, ?_, fun u hu => ?_, (((hb.same s56).same s7).keep e8 npa.symm), ?_⟩
            · rw [h8, List.map_append]
              rfl
            · rw [List.nodup_append]
              exact ⟨nd, List.pairwise_singleton .., fun a ha b hb e => hnew (by rw [← List.mem_singleton.mp hb, ← e]; exact ha)⟩
            · rcases List.mem_append.mp hu with hu | hu
              · exact ok u hu
              · rw [List.mem_singleton.mp hu]
                exact okY
            · exact ((e0.trans (.same s56)).trans (.same s7)).put np e8
    · rintro σ M ⟨zs, o3, o4, o5, o6, o7, rfl, hp, hl, nd, ok, hb, e0⟩
      walk_at "w"
      exact q p zs M np (by omega) nd ok hp e0 hb
end

end RT
set_option Elab.async false
set_option linter.all false
set_option maxRecDepth 100000
set_option maxHeartbeats 4000000
namespace RT
open PySem PySem.Spec PyProof.Rows L2
local macro_rules | `(tactic| walk_at "w0") => `(tactic| dsimp only [L2.start, cxOf, Cx.nox, Cx.wish, List.map, List.length_cons, List.length_nil, List.replicate_succ, List.replicate_zero, List.cons_append, List.nil_append, Nat.reduceAdd, Nat.reduceSub, List.set_cons_zero, List.set_cons_succ])
local macro_rules | `(tactic| walk_at "w1") => `(tactic| first
  | with_reducible refine w_seq ?_
  | with_reducible refine w_asg ?_
  | with_reducible refine w_var rfl ?_
  | with_reducible refine w_c ?_
  | with_reducible refine w_op ?_
  | with_reducible refine w_cons ?_
  | with_reducible refine w_nil ?_
  | with_reducible refine w_gname ?_
  | with_reducible refine w_cb ?_
  | with_reducible refine w_I0 ?_
  | with_reducible refine w_bl ?_
  | ((with_reducible refine' w_ixL ?s0 ?s1 ?q); (case s0 => assumption); (case s1 => rfl))
  | ((with_reducible refine' w_ixT ?s0 ?s1 ?q); (case s0 => assumption); (case s1 => rfl))
  | with_reducible refine w_gsub ?_
  | with_reducible refine w_ifS ?_
  | with_reducible refine w_test ?_
  | with_reducible refine w_call ?_
  | with_reducible refine w_ret ?_
  | with_reducible refine w_int1 ?_
  | with_reducible refine w_int ?_
  | with_reducible refine w_next ?_
  | with_reducible refine w_drop ?_
  | ((with_reducible refine' w_mod ?s0 ?q); (case s0 => omega))
  | ((with_reducible refine' w_div ?s0 ?q); (case s0 => omega))
  | ((with_reducible refine' w_mul ?s0 ?q); (case s0 => omega))
  | ((with_reducible refine' w_pow ?s0 ?q); (case s0 => decide))
  | with_reducible refine w_B ?_
  | with_reducible refine w_and ?_
  | with_reducible refine w_or ?_
  | with_reducible refine w_not ?_
  | with_reducible refine w_T ?_
  | with_reducible refine w_F ?_
  | with_reducible refine w_nT ?_
  | with_reducible refine w_nF ?_
  | with_reducible refine w_un ?_
  | with_reducible refine w_U ?_
  | with_reducible refine w_if ?_
  | with_reducible refine w_lst ?_
  | with_reducible refine w_tup ?_
  | with_reducible refine w_sl ?_
  | with_reducible refine w_part ?_
  | with_reducible refine w_nopart ?_
  | with_reducible refine w_eqI ?_
  | with_reducible refine w_neI ?_
  | with_reducible refine w_eqS ?_
  | with_reducible refine w_neS ?_
  | with_reducible refine w_abs ?_
  | with_reducible refine w_max2 ?_
  | with_reducible refine w_min2 ?_
  | ((with_reducible refine' w_lenL ?s0 ?q); (case s0 => assumption))
  | ((with_reducible refine' w_lenH ?s0 ?q); (case s0 => assumption))
  | ((with_reducible refine' w_lenT ?s0 ?q); (case s0 => assumption))
  | ((with_reducible refine' w_lenS ?s0 ?q); (case s0 => first | assumption | omega | decide +kernel))
  | with_reducible refine w_inC ?_
  | with_reducible refine w_ninC ?_
  | with_reducible refine w_m1 ?_
  | with_reducible refine w_m0 ?_
  | with_reducible refine w_isstr ?_
  | with_reducible refine w_andV ?_
  | with_reducible refine w_orV ?_
  | with_reducible refine w_notV ?_
  | with_reducible refine w_chain ?_
  | with_reducible refine w_retN ?_
  | with_reducible refine w_break ?_
  | with_reducible refine w_cont ?_
  | with_reducible refine w_yes ?_
  | with_reducible refine w_for ?_
  | with_reducible refine w_lc ?_
  | with_reducible refine w_iList ?_
  | with_reducible refine w_iTup ?_
  | with_reducible refine w_iStr ?_
  | with_reducible refine w_iR1 ?_
  | with_reducible refine w_iR2 ?_
  | ((with_reducible refine' w_onL ?s0 ?q); (case s0 => assumption))
  | ((with_reducible refine' w_onQ ?s0 ?q); (case s0 => assumption))
  | ((with_reducible refine' w_onT ?s0 ?q); (case s0 => assumption))
  | ((with_reducible refine' w_onU ?s0 ?q); (case s0 => assumption))
  | with_reducible refine w_onS ?_
  | ((with_reducible refine' w_onR1 ?s0 ?q); (case s0 => omega))
  | ((with_reducible refine' w_onR2 ?s0 ?q); (case s0 => omega))
  | with_reducible refine w_revL ?_
  | ((with_reducible refine' w_all ?s0 ?q); (case s0 => assumption))
  | ((with_reducible refine' w_any ?s0 ?q); (case s0 => assumption))
  | with_reducible refine w_bm ?_
  | with_reducible refine w_bm0 ?_
  | ((with_reducible refine' w_islst ?s0 ?q); (case s0 => assumption))
  | with_reducible refine w_kw ?_
  | ((with_reducible refine' w_isi ?s0 ?s1 ?q); (case s0 => assumption); (case s1 => assumption))
  | ((with_reducible refine' w_addS ?s0 ?q); (case s0 => first | omega | decide +kernel))
  | with_reducible refine w_dnew ?_
  | with_reducible refine w_pnil ?_
  | with_reducible refine w_pcons ?_
  | ((with_reducible refine' w_slS ?s0 ?q); (case s0 => first | assumption | omega))
  | ((with_reducible refine' w_inLS ?s0 ?q); (case s0 => assumption))
  | ((with_reducible refine' w_ninLS ?s0 ?q); (case s0 => assumption))
  | ((with_reducible refine' w_inTS ?s0 ?q); (case s0 => assumption))
  | with_reducible refine w_par ?_
  | with_reducible refine w_parEnd ?_
  | with_reducible refine w_fld ?_
  | with_reducible refine w_e1 ?_
  | with_reducible refine w_e2 ?_
  | with_reducible refine w_par3 ?_
  | with_reducible refine w_parEnd3 ?_
  | ((with_reducible refine' w_upper ?s0 ?q); (case s0 => first | assumption | omega | decide +kernel))
  | with_reducible refine w_fldT ?_
  | with_reducible refine w_setT ?_
  | with_reducible refine w_fs ?_
  | with_reducible refine w_jsC ?_
  | with_reducible refine w_js0 ?_
  | with_reducible refine w_fmtT ?_
  | with_reducible refine w_dinT ?_
  | with_reducible refine w_dninT ?_
  | with_reducible refine w_dputT ?_
  | with_reducible refine w_dgetT ?_
  | with_reducible refine w_dget2T ?_
  | with_reducible refine w_setdT ?_
  | with_reducible refine w_mkK ?_
  | with_reducible refine w_mkR ?_
  | with_reducible refine w_dcT ?_
  | ((with_reducible refine' w_ninTS ?s0 ?q); (case s0 => assumption))
  | with_reducible refine w_strS ?_
  | with_reducible refine w_star ?_
  | with_reducible refine w_iE ?_
  | with_reducible refine w_metK ?_
  | with_reducible refine w_met ?_
  | with_reducible refine w_stat ?_
  | dsimp only [wipe, List.set_cons_zero, List.set_cons_succ])
local macro_rules | `(tactic| walk_at "w") => `(tactic| repeat walk_at "w1")
/-! ### good names and links -/
def goodL (l : PP) : Prop := nameS l.1 = true ∧ nameS l.2 = true ∧ l.1 ≠ l.2
structure GoodLs (ls : List PP) : Prop where
  each : ∀ l ∈ ls, goodL l
  nd : ls.Nodup
  few : ls.length ≤ 60
def spCheckName : Sp := fun vs H Q _ => ∃ z, vs = [.str z] ∧ nameS z = true ∧ ∀ J, Same H J → Q .non J
def spGoodLink : Sp := fun vs H Q _ => ∃ v l, vs = [v] ∧ PairAt H v l ∧ goodL l ∧ ∀ J, Same H J → Q (.bl true) J
def spBadLink : Sp := fun vs H Q _ => ∃ a ws ls, vs = [.ref a] ∧ H a = some (.tup ws) ∧ PairsAt H ws ls ∧ GoodLs ls ∧ ∀ J, Same H J → Q .non J
def keyP (l : PP) : List Key := [.inr l.1, .inr l.2]
theorem keyP_inj {l m : PP} (h : keyP l = keyP m) : l = m := by
  simp only [keyP, List.cons.injEq, Sum.inr.injEq, and_true] at h
  exact Prod.ext h.1 h.2
abbrev s_check_name : Stmt := topS 12
theorem sc_check_name : FnScope ["value"] ["value"] (defScope s_check_name) := ⟨rfl, rfl, rfl, by decide +kernel, rfl, by decide +kernel, by decide +kernel⟩
abbrev s_is_link : Stmt := topS 11
theorem sc_is_link : FnScope ["value"] ["value"] (defScope s_is_link) := ⟨rfl, rfl, rfl, by decide +kernel, rfl, by decide +kernel, by decide +kernel⟩
abbrev s_bad_link : Stmt := topS 14
theorem sc_bad_link : FnScope ["links", "seen", "index", "link"] ["links"] (defScope s_bad_link) := ⟨rfl, rfl, rfl, by decide +kernel, rfl, by decide +kernel, by decide +kernel⟩
section
variable {P : Program} {w : World} {K : PySem.W.Frag} {mg : Str → Option Value} {base : Heap}
theorem ok_check_name {f : Addr} {fd : FuncData} (F : Fun K "check_name" "check_name" s_check_name f fd) (T : Txt K mg) (c_is_name : Cal P w K mg base 1 "is_name" (spName K)) : FnOk P w K mg base CX0 2 f fd ["value"] spCheckName := by
  refine F.ok sc_check_name (fun vs H Q E h => ?_) (fun cdv A outer s H vs Q E hr h => ?_)
  · obtain ⟨z, rfl, _⟩ := h
    rfl
  · obtain ⟨z, rfl, hz, q⟩ := h
    refine ⟨_, (pss_one (ps_if (pt_not (pt_val (pe_c c_is_name hr (by decide) (by rfl) (pa_cons (pv 0) pa_nil))))
    (pss_one ps_dead)
    pss_nil)), ?_⟩
    walk_at "w0"
    walk_at "w"
    have lz := name_len hz
    refine ⟨.str z, rfl, .inl ⟨z, rfl, by omega⟩, fun J s1 => ?_⟩
    rw [show nameV (.str z) = true from hz]
    walk_at "w"
    exact q J s1
theorem ok_is_link {f : Addr} {fd : FuncData} (F : Fun K "is_link" "is_link" s_is_link f fd) (T : Txt K mg) (c_is_name : Cal P w K mg base 1 "is_name" (spName K)) : FnOk P w K mg base CX0 2 f fd ["value"] spGoodLink := by
  refine F.ok sc_is_link (fun vs H Q E h => ?_) (fun cdv A outer s H vs Q E hr h => ?_)
  · obtain ⟨v, l, rfl, _⟩ := h
    rfl
  · obtain ⟨v, l, rfl, ⟨p, rfl, hp⟩, ⟨g1, g2, g3⟩, q⟩ := h
    refine ⟨_, (pss_cons (ps_if (PW.pt (pw_or (pt_not (pt_val (pe_callB (k_isi (K := K)) (by rfl) T.z_isinstance (by decide +kernel) (pa_cons (pv 0) (pa_cons (pe_bltn (v := .ty "tuple") (u := .type "tuple") (by rfl) T.z_tuple (by decide +kernel) rfl) pa_nil))))) (pw_or1 (pt_cmpR op_ne (pe_callB (k_lenQ (K := K)) (by rfl) T.z_len (by decide +kernel) (pa_cons (pv 0) pa_nil)) pe_int (nomark _)))))
    (pss_one (ps_ret pe_bl))
    pss_nil)
  (pss_one (ps_ret (pe_and (pe_c c_is_name hr (by decide) (by rfl) (pa_cons (pe_ix (k_ixT (K := K)) (pv 0) pe_int (fun _ _ => rfl)) pa_nil)) (pe_and (pe_c c_is_name hr (by decide) (by rfl) (pa_cons (pe_ix (k_ixT (K := K)) (pv 0) pe_int (fun _ _ => rfl)) pa_nil)) (pe_one (pe_cmpR op_ne (pe_ix (k_ixT (K := K)) (pv 0) pe_int (fun _ _ => rfl)) (pe_ix (k_ixT (K := K)) (pv 0) pe_int (fun _ _ => rfl)) (nomark _)))))))), ?_⟩
    walk_at "w0"
    walk_at "w"
    refine w_isi (.base (.tup hp)) (kit_ty (b := "tuple") (r := true) (by decide +kernel)) ?_
    walk_at "w"
    have l1 := name_len g1
    have l2 := name_len g2
    refine w_ndec (fun n => absurd rfl n) (fun _ => ?_)
    walk_at "w"
    refine ⟨_, rfl, .inl ⟨l.1, rfl, by omega⟩, fun J s1 => ?_⟩
    rw [show nameV (.str l.1) = true from g1]
    walk_at "w"
    refine w_ixT (s1 _ _ hp) rfl ?_
    walk_at "w"
    refine ⟨_, rfl, .inl ⟨l.2, rfl, by omega⟩, fun J2 s2 => ?_⟩
    rw [show nameV (.str l.2) = true from g2]
    walk_at "w"
    refine w_ixT ((s1.trans s2) _ _ hp) rfl ?_
    walk_at "w"
    refine w_ixT ((s1.trans s2) _ _ hp) rfl ?_
    walk_at "w"
    have q1 := q J2 (s1.trans s2)
    rw [decide_eq_false g3]
    exact q1
theorem ok_bad_link {f : Addr} {fd : FuncData} (F : Fun K "bad_link" "bad_link" s_bad_link f fd) (T : Txt K mg) (c_is_link : Cal P w K mg base 2 "is_link" spGoodLink) : FnOk P w K mg base CX0 3 f fd ["links"] spBadLink := by
  refine F.ok sc_bad_link (fun vs H Q E h => ?_) (fun cdv A outer s H vs Q E hr h => ?_)
  · obtain ⟨a, ws, ls, rfl, _⟩ := h
    rfl
  · obtain ⟨a, ws, ls, rfl, ha, hw, G, q⟩ := h
    refine ⟨_, (pss_cons (ps_set (i := 1) sc_bad_link.nd rfl (by first | exact Or.inl rfl | exact Or.inr rfl) pe_dnewT)
  (pss_cons (ps_for PassesOwn.never rfl (pi_enumU (by rfl) T.z_enumerate (pa_cons (pv 0) pa_nil)) (k_tupG (K := K) (pg_tup (n := 2) (by rfl) (pgs_cons (pg_name (i := 2) sc_bad_link.nd rfl (Or.inl rfl)) (pgs_cons (pg_name (i := 3) sc_bad_link.nd rfl (Or.inl rfl)) pgs_nil))))
    (pss_cons (ps_if (PW.pt (pw_or (pt_not (pt_val (pe_c c_is_link hr (by decide) (by rfl) (pa_cons (pv 3) pa_nil)))) (pw_or1 (pt_cmp (pc_din (hu_of hr) (pv 3) (pv 1))))))
    (pss_one (ps_ret (pv 2)))
    pss_nil)
  (pss_one (ps_dput (hu_of hr) (pv 1) (pv 3) pe_bl rfl))))
  (pss_one (ps_ret pe_non)))), ?_⟩
    walk_at "w0"
    walk_at "w"
    refine w_dnewT fun d L nd s1 hd => ?_
    walk_at "w"
    refine w_iEnumU ?_
    walk_at "w"
    refine w_onEnumU (SqT.of (s1 _ _ ha)) ?_
    refine w_loop walk_itu (fun i σ M => (∃ o1 o2, σ = [some (.ref a), some (.ref d), o1, o2]) ∧ Same H M ∧ ∃ kvs : List (List Key × V), M d = some (.dT kvs) ∧ kvs.map (·.1) = (ls.take i).map keyP) ⟨⟨_, _, rfl⟩, s1, [], hd, rfl⟩ (fun i σ M _ h => SqT.of (h.2.1 _ _ ha)) ?_ ?_
    · rintro i x σ M N hi ⟨⟨o1, o2, rfl⟩, s2, kvs, hk, ek⟩ hy
      obtain ⟨p, u, v, rfl, hp, s3, e3, e4⟩ := pair_same hy
      cases e3
      obtain ⟨l, el, b, rfl, hb⟩ := hw.at e4
      have sN := s2.trans s3
      refine w_gT2 hp ?_
      walk_at "w"
      refine ⟨_, l, rfl, ⟨b, rfl, sN _ _ hb⟩, G.each l (List.mem_of_getElem? el), fun J s4 => ?_⟩
      walk_at "w"
      have sJ := sN.trans s4
      refine w_dinT2 (k := keyP l) ((s3.trans s4) _ _ hk) (sJ _ _ hb) fun c hc => ?_
      have nc : c = false := by
        refine Bool.eq_false_iff.mpr fun z => ?_
        have m := hc.mp z
        rw [ek] at m
        obtain ⟨m', hm, e⟩ := List.mem_map.mp m
        rw [keyP_inj e] at hm
        obtain ⟨j, hj, ej⟩ := List.getElem_of_mem hm
        have hj2 : j < i := by
          rw [List.length_take] at hj
          omega
        have h1 : ls[j]? = some l := by
          rw [← ej, List.getElem_take]
          exact List.getElem?_eq_getElem _
        have := (List.getElem?_inj (List.getElem?_eq_some_iff.mp h1).1 G.nd).mp (h1.trans el.symm)
        omega
      rw [nc]
      walk_at "w"
      have len : kvs.length ≤ 60 := by
        have z := congrArg List.length ek
        rw [List.length_map, List.length_map, List.length_take] at z
        have := G.few
        omega
      refine w_dputT2 (k := keyP l) ((s3.trans s4) _ _ hk) (sJ _ _ hb) (by omega) fun J2 e5 hk2 => ?_
      walk_at "w"
      have nk : keyP l ∉ kvs.map (·.1) := fun m => by
        rw [nc] at hc
        exact absurd (hc.mpr m) Bool.false_ne_true
      rw [putK_new nk] at hk2
      refine ⟨⟨_, _, rfl⟩, Same.ofExt sJ nd e5, _, hk2, ?_⟩
      rw [List.map_append, ek, List.take_add_one, el]
      simp
    · rintro σ M ⟨⟨o1, o2, rfl⟩, s2, _⟩
      walk_at "w"
      exact q M s2
end

end RT
set_option Elab.async false
set_option linter.all false
set_option maxRecDepth 100000
set_option maxHeartbeats 4000000
namespace RT
open PySem PySem.Spec PyProof.Rows L2
local macro_rules | `(tactic| walk_at "w0") => `(tactic| dsimp only [L2.start, cxOf, Cx.nox, Cx.wish, List.map, List.length_cons, List.length_nil, List.replicate_succ, List.replicate_zero, List.cons_append, List.nil_append, Nat.reduceAdd, Nat.reduceSub, List.set_cons_zero, List.set_cons_succ])
local macro_rules | `(tactic| walk_at "w1") => `(tactic| first
  | with_reducible refine w_seq ?_
  | with_reducible refine w_asg ?_
  | with_reducible refine w_var rfl ?_
  | with_reducible refine w_c ?_
  | with_reducible refine w_op ?_
  | with_reducible refine w_cons ?_
  | with_reducible refine w_nil ?_
  | with_reducible refine w_gname ?_
  | with_reducible refine w_cb ?_
  | with_reducible refine w_I0 ?_
  | with_reducible refine w_bl ?_
  | ((with_reducible refine' w_ixL ?s0 ?s1 ?q); (case s0 => assumption); (case s1 => rfl))
  | ((with_reducible refine' w_ixT ?s0 ?s1 ?q); (case s0 => assumption); (case s1 => rfl))
  | with_reducible refine w_gsub ?_
  | with_reducible refine w_ifS ?_
  | with_reducible refine w_test ?_
  | with_reducible refine w_call ?_
  | with_reducible refine w_ret ?_
  | with_reducible refine w_int1 ?_
  | with_reducible refine w_int ?_
  | with_reducible refine w_next ?_
  | with_reducible refine w_drop ?_
  | ((with_reducible refine' w_mod ?s0 ?q); (case s0 => omega))
  | ((with_reducible refine' w_div ?s0 ?q); (case s0 => omega))
  | ((with_reducible refine' w_mul ?s0 ?q); (case s0 => omega))
  | ((with_reducible refine' w_pow ?s0 ?q); (case s0 => decide))
  | with_reducible refine w_B ?_
  | with_reducible refine w_and ?_
  | with_reducible refine w_or ?_
  | with_reducible refine w_not ?_
  | with_reducible refine w_T ?_
  | with_reducible refine w_F ?_
  | with_reducible refine w_nT ?_
  | with_reducible refine w_nF ?_
  | with_reducible refine w_un ?_
  | with_reducible refine w_U ?_
  | with_reducible refine w_if ?_
  | with_reducible refine w_lst ?_
  | with_reducible refine w_tup ?_
  | with_reducible refine w_sl ?_
  | with_reducible refine w_part ?_
  | with_reducible refine w_nopart ?_
  | with_reducible refine w_eqI ?_
  | with_reducible refine w_neI ?_
  | with_reducible refine w_eqS ?_
  | with_reducible refine w_neS ?_
  | with_reducible refine w_abs ?_
  | with_reducible refine w_max2 ?_
  | with_reducible refine w_min2 ?_
  | ((with_reducible refine' w_lenL ?s0 ?q); (case s0 => assumption))
  | ((with_reducible refine' w_lenH ?s0 ?q); (case s0 => assumption))
  | ((with_reducible refine' w_lenT ?s0 ?q); (case s0 => assumption))
  | ((with_reducible refine' w_lenS ?s0 ?q); (case s0 => first | assumption | omega | decide +kernel))
  | with_reducible refine w_inC ?_
  | with_reducible refine w_ninC ?_
  | with_reducible refine w_m1 ?_
  | with_reducible refine w_m0 ?_
  | with_reducible refine w_isstr ?_
  | with_reducible refine w_andV ?_
  | with_reducible refine w_orV ?_
  | with_reducible refine w_notV ?_
  | with_reducible refine w_chain ?_
  | with_reducible refine w_retN ?_
  | with_reducible refine w_break ?_
  | with_reducible refine w_cont ?_
  | with_reducible refine w_yes ?_
  | with_reducible refine w_for ?_
  | with_reducible refine w_lc ?_
  | with_reducible refine w_iList ?_
  | with_reducible refine w_iTup ?_
  | with_reducible refine w_iStr ?_
  | with_reducible refine w_iR1 ?_
  | with_reducible refine w_iR2 ?_
  | ((with_reducible refine' w_onL ?s0 ?q); (case s0 => assumption))
  | ((with_reducible refine' w_onQ ?s0 ?q); (case s0 => assumption))
  | ((with_reducible refine' w_onT ?s0 ?q); (case s0 => assumption))
  | ((with_reducible refine' w_onU ?s0 ?q); (case s0 => assumption))
  | with_reducible refine w_onS ?_
  | ((with_reducible refine' w_onR1 ?s0 ?q); (case s0 => omega))
  | ((with_reducible refine' w_onR2 ?s0 ?q); (case s0 => omega))
  | with_reducible refine w_revL ?_
  | ((with_reducible refine' w_all ?s0 ?q); (case s0 => assumption))
  | ((with_reducible refine' w_any ?s0 ?q); (case s0 => assumption))
  | with_reducible refine w_bm ?_
  | with_reducible refine w_bm0 ?_
  | ((with_reducible refine' w_islst ?s0 ?q); (case s0 => assumption))
  | with_reducible refine w_kw ?_
  | ((with_reducible refine' w_isi ?s0 ?s1 ?q); (case s0 => assumption); (case s1 => assumption))
  | ((with_reducible refine' w_addS ?s0 ?q); (case s0 => first | omega | decide +kernel))
  | with_reducible refine w_dnew ?_
  | with_reducible refine w_pnil ?_
  | with_reducible refine w_pcons ?_
  | ((with_reducible refine' w_slS ?s0 ?q); (case s0 => first | assumption | omega))
  | ((with_reducible refine' w_inLS ?s0 ?q); (case s0 => assumption))
  | ((with_reducible refine' w_ninLS ?s0 ?q); (case s0 => assumption))
  | ((with_reducible refine' w_inTS ?s0 ?q); (case s0 => assumption))
  | with_reducible refine w_par ?_
  | with_reducible refine w_parEnd ?_
  | with_reducible refine w_fld ?_
  | with_reducible refine w_e1 ?_
  | with_reducible refine w_e2 ?_
  | with_reducible refine w_par3 ?_
  | with_reducible refine w_parEnd3 ?_
  | ((with_reducible refine' w_upper ?s0 ?q); (case s0 => first | assumption | omega | decide +kernel))
  | with_reducible refine w_fldT ?_
  | with_reducible refine w_setT ?_
  | with_reducible refine w_fs ?_
  | with_reducible refine w_jsC ?_
  | with_reducible refine w_js0 ?_
  | with_reducible refine w_fmtT ?_
  | with_reducible refine w_dinT ?_
  | with_reducible refine w_dninT ?_
  | with_reducible refine w_dputT ?_
  | with_reducible refine w_dgetT ?_
  | with_reducible refine w_dget2T ?_
  | with_reducible refine w_setdT ?_
  | with_reducible refine w_mkK ?_
  | with_reducible refine w_mkR ?_
  | with_reducible refine w_dcT ?_
  | ((with_reducible refine' w_ninTS ?s0 ?q); (case s0 => assumption))
  | with_reducible refine w_strS ?_
  | with_reducible refine w_star ?_
  | with_reducible refine w_iE ?_
  | with_reducible refine w_metK ?_
  | with_reducible refine w_met ?_
  | with_reducible refine w_stat ?_
  | dsimp only [wipe, List.set_cons_zero, List.set_cons_succ])
local macro_rules | `(tactic| walk_at "w") => `(tactic| repeat walk_at "w1")
/-! ### what is reached -/
inductive Rch (ls : List PP) (x : Str) : Str → Prop where
  | refl : Rch ls x x
  | step {y z : Str} (h : Rch ls x y) (m : (y, z) ∈ ls) : Rch ls x z
/-- the lists of uppers, by their lower -/
structure UpOk (M : Hp) (kvs : List (Key × V)) (ls : List PP) : Prop where
  vals : ∀ k v, (k, v) ∈ kvs → ∃ x q ys, k = Sum.inr x ∧ v = V.ref q ∧ M q = some (.lst ((ys : List Str).map V.str)) ∧ ys.length ≤ ls.length ∧ ∀ z, z ∈ ys ↔ (x, z) ∈ ls
  all : ∀ x z, (x, z) ∈ ls → (Sum.inr x : Key) ∈ kvs.map (·.1)
  keys : ∀ k v v', (k, v) ∈ kvs → (k, v') ∈ kvs → v = v'
  refs : ∀ k k' v, (k, v) ∈ kvs → (k', v) ∈ kvs → k = k'
theorem UpOk.mono {M N : Hp} {kvs : List (Key × V)} {ls : List PP} (h : UpOk M kvs ls) (s : ∀ k q o, (k, V.ref q) ∈ kvs → M q = some o → N q = some o) : UpOk N kvs ls := by
  refine ⟨fun k v m => ?_, h.all, h.keys, h.refs⟩
  obtain ⟨x, q, ys, e1, e2, e3, e4⟩ := h.vals k v m
  exact ⟨x, q, ys, e1, e2, s k q _ (by rw [← e2]; exact m) e3, e4⟩
theorem UpOk.same {M N : Hp} {kvs : List (Key × V)} {ls : List PP} (h : UpOk M kvs ls) (s : Same M N) : UpOk N kvs ls := h.mono fun _ q o _ e => s q o e
/-- one more upper of a lower that is there -/
theorem UpOk.more {M N : Hp} {kvs : List (Key × V)} {ls : List PP} {x y : Str} {q : Addr} {ys : List Str} (h : UpOk M kvs ls) (m : (Sum.inr x, V.ref q) ∈ kvs) (e : Ext q M N) (hq : M q = some (.lst (ys.map V.str))) (hn : N q = some (.lst ((ys ++ [y]).map V.str))) : UpOk N kvs (ls ++ [(x, y)]) := by
  refine ⟨fun k v mk => ?_, fun a z mz => ?_, h.keys, h.refs⟩
  · obtain ⟨x', q', ys', rfl, rfl, e3, e4, e5⟩ := h.vals k v mk
    by_cases z : q' = q
    · subst z
      have ek := h.refs _ _ _ mk m
      cases ek
      rw [hq] at e3
      have ey : ys.map V.str = ys'.map V.str := HO.lst.inj (Option.some.inj e3)
      have ey2 : ys = ys' := by
        have inj : ∀ a b : List Str, a.map V.str = b.map V.str → a = b := fun a b h => List.map_inj_right (fun _ _ e => V.str.inj e) |>.mp h
        exact inj _ _ ey
      subst ey2
      refine ⟨_, q', ys ++ [y], rfl, rfl, hn, by rw [List.length_append, List.length_append]; exact Nat.add_le_add e4 (Nat.le_refl _), fun w => ?_⟩
      rw [List.mem_append, List.mem_append, e5]
      simp
    · refine ⟨x', q', ys', rfl, rfl, e q' _ z e3, by rw [List.length_append]; omega, fun w => ?_⟩
      rw [List.mem_append, e5]
      refine ⟨.inl, fun c => c.elim id fun c => ?_⟩
      have c2 := List.mem_singleton.mp c
      have ex : x' = x := congrArg Prod.fst c2
      subst ex
      exact absurd (V.ref.inj (h.keys _ _ _ mk m)) z
  · rcases List.mem_append.mp mz with c | c
    · exact h.all a z c
    · have c2 := List.mem_singleton.mp c
      have ex : a = x := congrArg Prod.fst c2
      subst ex
      exact List.mem_map.mpr ⟨_, m, rfl⟩
/-- a new lower -/
theorem UpOk.new {M : Hp} {kvs : List (Key × V)} {ls : List PP} {x y : Str} {p : Addr} (h : UpOk M kvs ls) (nk : (Sum.inr x : Key) ∉ kvs.map (·.1)) (np : ∀ k, (k, V.ref p) ∉ kvs) (hp : M p = some (.lst ([y].map V.str))) : UpOk M (kvs ++ [(Sum.inr x, V.ref p)]) (ls ++ [(x, y)]) := by
  have no : ∀ z, (x, z) ∉ ls := fun z m => nk (h.all x z m)
  refine ⟨fun k v mk => ?_, fun a z mz => ?_, fun k v v' m1 m2 => ?_, fun k k' v m1 m2 => ?_⟩
  · rcases List.mem_append.mp mk with c | c
    · obtain ⟨x', q', ys', rfl, rfl, e3, e4, e5⟩ := h.vals k v c
      refine ⟨x', q', ys', rfl, rfl, e3, by rw [List.length_append]; omega, fun w => ?_⟩
      rw [List.mem_append, e5]
      refine ⟨.inl, fun d => d.elim id fun d => ?_⟩
      have d2 := List.mem_singleton.mp d
      have ex : x' = x := congrArg Prod.fst d2
      subst ex
      exact absurd (List.mem_map.mpr ⟨_, c, rfl⟩) nk
    · have c2 := List.mem_singleton.mp c
      cases c2
      refine ⟨x, p, [y], rfl, rfl, hp, by rw [List.length_append]; show 1 ≤ _ + 1; omega, fun w => ?_⟩
      rw [List.mem_append]
      refine ⟨fun d => .inr ?_, fun d => d.elim (fun d => absurd d (no w)) fun d => ?_⟩
      · rw [List.mem_singleton.mp d]
        exact List.mem_singleton.mpr rfl
      · have d2 := List.mem_singleton.mp d
        exact List.mem_singleton.mpr (congrArg Prod.snd d2)
  · rw [List.map_append, List.mem_append]
    rcases List.mem_append.mp mz with c | c
    · exact .inl (h.all a z c)
    · have c2 := List.mem_singleton.mp c
      have ex : a = x := congrArg Prod.fst c2
      subst ex
      exact .inr (List.mem_singleton.mpr rfl)
  · rcases List.mem_append.mp m1 with c | c <;> rcases List.mem_append.mp m2 with d | d
    · exact h.keys _ _ _ c d
    · cases List.mem_singleton.mp d
      exact absurd (List.mem_map.mpr ⟨_, c, rfl⟩) nk
    · cases List.mem_singleton.mp c
      exact absurd (List.mem_map.mpr ⟨_, d, rfl⟩) nk
    · cases List.mem_singleton.mp c
      cases List.mem_singleton.mp d
      rfl
  · rcases List.mem_append.mp m1 with c | c <;> rcases List.mem_append.mp m2 with d | d
    · exact h.refs _ _ _ c d
    · cases List.mem_singleton.mp d
      exact absurd c (np _)
    · cases List.mem_singleton.mp c
      exact absurd d (np _)
    · cases List.mem_singleton.mp c
      cases List.mem_singleton.mp d
      rfl
/-- the walk's state -/
structure RS (H M : Hp) (ls : List PP) (level : Str) (u fd wt : Addr) (kvs : List (Key × V)) (F W : List Str) (x : Option Str) : Prop where
  up : UpOk M kvs ls
  hu : M u = some (.dK kvs)
  hf : ∃ fkv : List (Key × V), M fd = some (.dK fkv) ∧ fkv.map (·.1) = F.map Sum.inr
  hw : M wt = some (.lst (W.map V.str))
  same : Same H M
  nf : H fd = none
  nw : H wt = none
  ne : u ≠ fd
  far : ∀ k, (k, V.ref wt) ∉ kvs
  nd : F.Nodup
  rch : ∀ y ∈ F, Rch ls level y
  sub : ∀ y ∈ W, y ∈ F
  top : level ∈ F
  closed : ∀ y ∈ F, y ∉ W → some y ≠ x → ∀ z, (y, z) ∈ ls → z ∈ F
  wl : W.length ≤ F.length
theorem rch_in {ls : List PP} {x y : Str} (h : Rch ls x y) : y ∈ x :: ls.map (·.2) := by
  cases h with
  | refl => exact List.mem_cons_self
  | step _ m => exact List.mem_cons_of_mem _ (List.mem_map.mpr ⟨_, m, rfl⟩)
theorem RS.few {H M : Hp} {ls : List PP} {level : Str} {u fd wt : Addr} {kvs : List (Key × V)} {F W : List Str} {x : Option Str} (h : RS H M ls level u fd wt kvs F W x) : F.length ≤ ls.length + 1 := by
  have := length_le_of_nodup_of_subset F (level :: ls.map (·.2)) h.nd fun y hy => rch_in (h.rch y hy)
  rw [List.length_cons, List.length_map] at this
  exact this
theorem RS.done {H M : Hp} {ls : List PP} {level : Str} {u fd wt : Addr} {kvs : List (Key × V)} {F : List Str} (h : RS H M ls level u fd wt kvs F [] none) : ∀ y, y ∈ F ↔ Rch ls level y := fun y => ⟨h.rch y, fun r => by
  induction r with
  | refl => exact h.top
  | step _ m ih => exact h.closed _ ih (by simp) (by simp) _ m⟩
def spReached : Sp := fun vs H Q _ => ∃ level a ws ls, vs = [.str level, .ref a] ∧ H a = some (.tup ws) ∧ PairsAt H ws ls ∧ ls.length ≤ 60 ∧
  ∀ p J lv, H p = none → Same H J → J p = some (.tup ((lv : List Str).map V.str)) → lv.Nodup → lv = srtS lv → (∀ y, y ∈ lv ↔ Rch ls level y) → Q (.ref p) J
abbrev s_reached : Stmt := topS 15
theorem sc_reached : FnScope ["level", "links", "uppers", "lower", "upper", "found", "waiting"] ["level", "links"] (defScope s_reached) := ⟨rfl, rfl, rfl, by decide +kernel, rfl, by decide +kernel, by decide +kernel⟩
section
variable {P : Program} {w : World} {K : PySem.W.Frag} {mg : Str → Option Value} {base : Heap}
theorem ok_reached {f : Addr} {fd : FuncData} (F : Fun K "reached" "reached" s_reached f fd) (T : Txt K mg) : FnOk P w K mg base CX0 1 f fd ["level", "links"] spReached := by
  refine F.ok sc_reached (fun vs H Q E h => ?_) (fun cdv A outer s H vs Q E hr h => ?_)
  · obtain ⟨level, a, ws, ls, rfl, _⟩ := h
    rfl
  · obtain ⟨level, a, ws, ls, rfl, ha, hw, few, q⟩ := h
    refine ⟨_, (pss_cons (ps_set (i := 2) sc_reached.nd rfl (by first | exact Or.inl rfl | exact Or.inr rfl) pe_dnewK)
  (pss_cons (ps_for PassesOwn.never rfl (k_iT (K := K) (pv 1)) (k_tupG (K := K) (pg_tup (n := 2) (by rfl) (pgs_cons (pg_name (i := 3) sc_reached.nd rfl (Or.inl rfl)) (pgs_cons (pg_name (i := 4) sc_reached.nd rfl (Or.inl rfl)) pgs_nil))))
    (pss_one (ps_expr (k_bm (K := K) (pe_bm PySem.F.plainAttrs_list PySem.F.slot_list_append PySem.F.type_list_append mt_append (pe_dsetd (pv 2) (pv 3) (pe_lst pa_nil) ⟨by rfl, by rfl, by rfl, by rfl⟩) (pa_cons (pv 4) pa_nil))))))
  (pss_cons (ps_set (i := 5) sc_reached.nd rfl (by first | exact Or.inl rfl | exact Or.inr rfl) (pe_disp (pps_cons (pv 0) pe_bl pps_nil) (by rfl) (by rfl) (fun z => by cases z) (by decide)))
  (pss_cons (ps_set (i := 6) sc_reached.nd rfl (by first | exact Or.inl rfl | exact Or.inr rfl) (pe_lst (pa_cons (pv 0) pa_nil)))
  (pss_cons (ps_while PassesOwn.never (pt_truth (pv 6) (by intro _; rfl))
    (pss_cons (ps_set (i := 3) sc_reached.nd rfl (by first | exact Or.inl rfl | exact Or.inr rfl) (k_bm0 (K := K) (pe_bm0 PySem.F.plainAttrs_list PySem.F.slot_list_pop PySem.F.type_list_pop mt_pop (pv 6))))
  (pss_one (ps_for PassesOwn.never rfl (k_iL (K := K) (pe_dget2 (hu_of hr) (pv 2) (pv 3) (pe_lst pa_nil) ⟨by rfl, by rfl, by rfl, by rfl⟩)) (pg_name (i := 4) sc_reached.nd rfl (by first | exact Or.inl rfl | exact Or.inr rfl))
    (pss_one (ps_if (pt_cmp (pc_dnotin (hu_of hr) (pv 4) (pv 5)))
    (pss_cons (ps_dput (hu_of hr) (pv 5) (pv 4) pe_bl rfl)
  (pss_one (ps_expr (k_bm (K := K) (pe_bm PySem.F.plainAttrs_list PySem.F.slot_list_append PySem.F.type_list_append mt_append (pv 6) (pa_cons (pv 4) pa_nil))))))
    pss_nil))))))
  (pss_one (ps_ret (pe_callTy (k_tuple (K := K)) (by rfl) T.z_tuple (by decide +kernel) (pa_cons (pe_callB (cr_srtD rfl) (by rfl) T.z_sorted (by decide +kernel) (pa_cons (pv 5) pa_nil)) pa_nil))))))))), ?_⟩
    walk_at "w0"
    walk_at "w"
    refine w_newD fun u L0 nu s0 hu0 => ?_
    walk_at "w"
    refine w_onT (s0 _ _ ha) ?_
    refine w_loop walk_tup (fun i σ M => (∃ o1 o2, σ = [some (.str level), some (.ref a), some (.ref u), o1, o2, none, none]) ∧ Same H M ∧ ∃ kvs : List (Key × V), M u = some (.dK kvs) ∧ kvs.length ≤ i ∧ UpOk M kvs (ls.take i) ∧ ∀ k q, (k, V.ref q) ∈ kvs → H q = none) ⟨⟨_, _, rfl⟩, s0, [], hu0, Nat.le_refl _, ⟨by simp, by simp, by simp, by simp⟩, by simp⟩ (fun i σ M _ h => SqT.of (h.2.1 _ _ ha)) ?_ ?_
    · rintro i x σ M N hi ⟨⟨o1, o2, rfl⟩, s1, kvs, hk, lk, U, new⟩ ⟨rfl, hx⟩
      obtain ⟨⟨lo, hi2⟩, el, b, rfl, hb⟩ := hw.at hx
      refine w_gT2 (s1 _ _ hb) ?_
      walk_at "w"
      refine w_isD hk ?_
      walk_at "w"
      refine w_newL rfl fun p L1 np s2 hp => ?_
      have npH : H p = none := Same.free s1 np
      have U1 := U.same s2
      have ni : i < 60 := by
        have := hw.len
        omega
      refine w_setd (s2 _ _ hk) (by omega) (fun v ev => ?_) fun ev L2 e2 hk2 => ?_
      · have mv := valV_some ev
        obtain ⟨x', q', ys, ex, rfl, hq, lq, mq⟩ := U1.vals _ _ mv
        refine ⟨.inl ⟨rfl, _, SqL.of hq⟩, ?_⟩
        walk_at "w"
        refine w_append hq (by rw [List.length_map]; rw [List.length_take] at lq; omega) fun L3 e3 hq3 => ?_
        have ex2 : lo = x' := Sum.inr.inj ex
        subst ex2
        refine ⟨⟨_, _, rfl⟩, Same.ofExt (s1.trans s2) (new _ _ mv) e3, kvs, e3 u _ (ne_of (s2 _ _ hk) hq (by intro z; cases z)) (s2 _ _ hk), by omega, ?_, new⟩
        rw [List.take_add_one, el]
        exact U1.more mv e3 hq (by rw [hq3, List.map_append]; rfl)
      · have npu : p ≠ u := ne_of hp (s2 _ _ hk) (by intro z; cases z)
        have hp2 := e2 p _ npu hp
        refine ⟨.inl ⟨rfl, _, SqL.of hp2⟩, ?_⟩
        walk_at "w"
        refine w_append hp2 (by decide) fun L3 e3 hp3 => ?_
        have npk : ∀ k, (k, V.ref p) ∉ kvs := fun k m => by
          obtain ⟨x', q', ys, _, eq, hq, _⟩ := U.vals _ _ m
          cases eq
          rw [np] at hq
          cases hq
        have nk : (Sum.inr lo : Key) ∉ kvs.map (·.1) := fun m => by
          obtain ⟨z, hz, ee⟩ := List.mem_map.mp m
          exact valV_none.mp ev z hz ee
        refine ⟨⟨_, _, rfl⟩, Same.ofExt (Same.ofExt (s1.trans s2) nu e2) npH e3, _, e3 u _ (Ne.symm npu) hk2, by rw [List.length_append]; show kvs.length + 1 ≤ i + 1; omega, ?_, fun k q' m => ?_⟩
        · rw [List.take_add_one, el]
          refine UpOk.new (U1.mono fun k q' o m e => ?_) nk npk hp3
          obtain ⟨x', q2, ys, _, eq, hq, _⟩ := U1.vals _ _ m
          cases eq
          have h1 : q' ≠ p := fun z => npk k (z ▸ m)
          exact e3 q' _ h1 (e2 q' _ (ne_of hq (s2 _ _ hk) (by intro z; cases z)) e)
        · rcases List.mem_append.mp m with c | c
          · exact new k q' c
          · cases List.mem_singleton.mp c
            exact npH
    · rintro σ M ⟨⟨o1, o2, rfl⟩, s1, kvs, hk, lk, U, new⟩
      have ew : ls.take ws.length = ls := List.take_of_length_le (by rw [hw.len]; exact Nat.le_refl _)
      rw [ew] at U
      walk_at "w"
      refine w_disp fun fd2 L1 nf s2 hf => ?_
      walk_at "w"
      refine w_dEnd [(Sum.inr level, .bl true)] hf rfl (Nat.le_of_ble_eq_true rfl) fun L2 e2 hf2 => ?_
      replace hf2 : L2 fd2 = some (.dK [(Sum.inr level, .bl true)]) := hf2
      walk_at "w"
      refine w_newL rfl fun wt L3 nw s3 hw3 => ?_
      walk_at "w"
      have nfH : H fd2 = none := Same.free s1 nf
      have s12 : Same M L2 := Same.ofExt s2 nf e2
      have s123 : Same M L3 := s12.trans s3
      have nwM : M wt = none := Same.free s12 nw
      have ufd : u ≠ fd2 := fun z => by
        rw [← z, hk] at nf
        cases nf
      have R0 : RS H L3 ls level u fd2 wt kvs [level] [level] none := by
        refine ⟨U.same s123, s123 _ _ hk, ⟨_, s3 _ _ hf2, rfl⟩, hw3, s1.trans s123, nfH, Same.free s1 nwM, ufd, fun k m => ?_, by simp, fun y hy => ?_, fun y hy => hy, List.mem_singleton.mpr rfl, fun y hy n => absurd hy n, Nat.le_refl _⟩
        · obtain ⟨x', q', ys, _, eq, hq, _⟩ := U.vals _ _ m
          cases eq
          rw [nwM] at hq
          cases hq
        · rw [List.mem_singleton.mp hy]
          exact .refl
      refine w_whileT (fun σ N => (∃ o1 o2, σ = [some (.str level), some (.ref a), some (.ref u), o1, o2, some (.ref fd2), some (.ref wt)]) ∧ ∃ F W, RS H N ls level u fd2 wt kvs F W none)
        (fun _ N n => ∃ F W, RS H N ls level u fd2 wt kvs F W none ∧ n + 2 * F.length = 2 * (ls.length + 1) + W.length)
        ⟨⟨_, _, rfl⟩, [level], [level], R0⟩ ⟨2 * (ls.length + 1) + 1 - 2, [level], [level], R0, by show _ + 2 * 1 = _ + 1; omega⟩ ?_
      rintro σ N n ⟨⟨o1, o2, rfl⟩, _⟩ ⟨F, W, R, hn⟩
      walk_at "w"
      refine w_truL (SqL.of R.hw) ?_
      obtain ⟨fkv, hf3, ef⟩ := R.hf
      rcases List.eq_nil_or_concat W with rfl | ⟨W1, b, rfl⟩
      · refine w_nT ?_
        walk_at "w"
        have fewF := R.few
        refine w_srtD hf3 ef (by omega) fun p J np s4 hp => ?_
        walk_at "w"
        refine ⟨p, _, rfl, .inl ⟨SqL.of hp, w_new fun p2 J2 n2 s5 hp2 => ?_⟩⟩
        have mem : ∀ y, y ∈ srtS F ↔ Rch ls level y := fun y => ((srtS_perm F).mem_iff).trans (R.done y)
        exact q p2 J2 (srtS F) (Same.free (R.same.trans s4) n2) ((R.same.trans s4).trans s5) hp2 ((srtS_perm F).nodup_iff.mpr R.nd) (srtS_eq (srtS_perm F)).symm mem
      · have hwN : N wt = some (.lst (W1.map V.str ++ [.str b])) := by
          rw [R.hw, List.concat_eq_append, List.map_append]
          rfl
        have ne1 : (!(List.map V.str (W1.concat b)).isEmpty) = true := by
          rw [List.concat_eq_append, List.map_append]
          simp
        rw [ne1]
        refine iteT (w_wstep ?_)
        walk_at "w"
        have hu1 := R.hu
        refine w_pop hwN fun N2 e2' hw2 => ?_
        have huN2 : N2 u = some (.dK kvs) := e2' u _ (ne_of hu1 hwN (by intro z; cases z)) hu1
        walk_at "w"
        refine w_isD huN2 ?_
        walk_at "w"
        refine w_newL rfl fun z N3 nz s3' hz => ?_
        refine w_dget2 (s3' _ _ huN2) ?_
        have U2 : UpOk N2 kvs ls := R.up.mono fun k q' o m e => e2' q' o (fun z => R.far k (z ▸ m)) e
        have hfN2 : N2 fd2 = some (.dK fkv) := e2' fd2 _ (ne_of hf3 hwN (by intro z; cases z)) hf3
        obtain ⟨q', ys, ev, hq', my, nqw⟩ : ∃ q' ys, (valV kvs (Sum.inr b)).getD (.ref z) = V.ref q' ∧ N3 q' = some (.lst ((ys : List Str).map V.str)) ∧ (∀ y, y ∈ ys ↔ (b, y) ∈ ls) ∧ q' ≠ wt := by
          cases c : valV kvs (Sum.inr b) with
          | none =>
            refine ⟨z, [], rfl, hz, fun y => ⟨fun h => by simp at h, fun h => ?_⟩, ne_of_none hw2 nz |>.symm⟩
            obtain ⟨p, hp, e⟩ := List.mem_map.mp (R.up.all b y h)
            exact absurd e (valV_none.mp c p hp)
          | some v =>
            have m := valV_some c
            obtain ⟨x', q', ys, ex, rfl, hq, _, my⟩ := U2.vals _ _ m
            cases ex
            exact ⟨q', ys, rfl, s3' _ _ hq, my, fun z => R.far _ (z ▸ m)⟩
        rw [ev]
        refine w_onL hq' ?_
        have R1 : RS H N3 ls level u fd2 wt kvs F W1 (some b) := by
          have sN : Same H N2 := Same.ofExt R.same R.nw e2'
          refine ⟨U2.same s3', s3' _ _ huN2, ⟨fkv, s3' _ _ hfN2, ef⟩, s3' _ _ hw2, sN.trans s3', nfH, R.nw, ufd, R.far, R.nd, R.rch, fun y hy => R.sub y (by rw [List.concat_eq_append]; exact List.mem_append_left _ hy), R.top, fun y hy ny nb => ?_, ?_⟩
          rotate_left
          · have := R.wl
            rw [List.concat_eq_append, List.length_append] at this
            omega
          refine R.closed y hy (fun m => ?_) (by simp)
          rw [List.concat_eq_append] at m
          rcases List.mem_append.mp m with c | c
          · exact ny c
          · exact nb (by rw [List.mem_singleton.mp c])
        have bF : b ∈ F := R.sub b (by rw [List.concat_eq_append]; exact List.mem_append_right _ List.mem_cons_self)
        rw [List.concat_eq_append, List.length_append] at hn
        refine w_loop walk_list (fun j σ M => (∃ o2, σ = [some (.str level), some (.ref a), some (.ref u), some (.str b), o2, some (.ref fd2), some (.ref wt)]) ∧ ∃ F2 W2, RS H M ls level u fd2 wt kvs F2 W2 (some b) ∧ (∀ y ∈ ys.take j, y ∈ F2) ∧ M q' = some (.lst (ys.map V.str)) ∧ F2.length + W1.length = F.length + W2.length ∧ F.length ≤ F2.length ∧ b ∈ F2)
          ⟨⟨_, rfl⟩, F, W1, R1, by simp, hq', rfl, Nat.le_refl _, bF⟩ (fun j σ M _ h => by obtain ⟨_, _, _, _, _, h, _⟩ := h; exact SqL.of h) ?_ ?_
        · rintro j x σ M M' hj ⟨⟨o2, rfl⟩, F2, W2, R2, my2, hqM, c1, c2, bF2⟩ ⟨rfl, hx⟩
          obtain ⟨y, ey, rfl⟩ : ∃ y, ys[j]? = some y ∧ x = V.str y := by
            rw [List.getElem?_map] at hx
            obtain ⟨y, hy, e⟩ := Option.map_eq_some_iff.mp hx
            exact ⟨y, hy, e.symm⟩
          obtain ⟨fk2, hf4, ef2⟩ := R2.hf
          walk_at "w"
          refine w_dnin hf4 fun c hc => ?_
          rw [ef2] at hc
          have hc2 : c = true ↔ y ∈ F2 := hc.trans ⟨fun m => by
            obtain ⟨y', m', e⟩ := List.mem_map.mp m
            rw [← Sum.inr.inj e]
            exact m', fun m => List.mem_map.mpr ⟨y, m, rfl⟩⟩
          have take1 : ∀ F3 : List Str, (∀ z ∈ ys.take j, z ∈ F3) → y ∈ F3 → ∀ z ∈ ys.take (j + 1), z ∈ F3 := fun F3 h1 h2 z hz => by
            rw [List.take_add_one, ey] at hz
            rcases List.mem_append.mp hz with d | d
            · exact h1 z d
            · have : z = y := by simpa using d
              rw [this]
              exact h2
          cases c with
          | true =>
            walk_at "w"
            exact ⟨⟨_, rfl⟩, F2, W2, R2, take1 F2 my2 (hc2.mp rfl), hqM, c1, c2, bF2⟩
          | false =>
            have nin : y ∉ F2 := fun m => Bool.false_ne_true (hc2.mpr m)
            have fewF2 := R2.few
            have lfk : fk2.length ≤ 1000000 := by
              have := congrArg List.length ef2
              rw [List.length_map, List.length_map] at this
              omega
            walk_at "w"
            refine w_dput hf4 lfk fun M3 e3 hf5 => ?_
            have nk : (Sum.inr y : Key) ∉ fk2.map (·.1) := fun m => by
              rw [ef2] at m
              obtain ⟨y', m', e⟩ := List.mem_map.mp m
              rw [Sum.inr.inj e] at m'
              exact nin m'
            rw [putK_new nk] at hf5
            have hw4 : M3 wt = some (.lst (W2.map V.str)) := e3 wt _ (ne_of R2.hw hf4 (by intro z; cases z)) R2.hw
            walk_at "w"
            refine w_append hw4 (by rw [List.length_map]; have := R2.wl; omega) fun M4 e4 hw5 => ?_
            have far4 : ∀ k q2 o, (k, V.ref q2) ∈ kvs → M' q2 = some o → M4 q2 = some o := fun k q2 o m e => by
              obtain ⟨_, _, _, _, eq, hl, _⟩ := R2.up.vals _ _ m
              cases eq
              exact e4 q2 o (fun z => R2.far k (z ▸ m)) (e3 q2 o (ne_of hl hf4 (by intro z; cases z)) e)
            have hqM4 : M4 q' = some (.lst (ys.map V.str)) := e4 q' _ nqw (e3 q' _ (ne_of hqM hf4 (by intro z; cases z)) hqM)
            refine ⟨⟨_, rfl⟩, F2 ++ [y], W2 ++ [y], ⟨R2.up.mono far4, ?_, ⟨fk2 ++ [(Sum.inr y, .bl true)], ?_, ?_⟩, ?_, Same.ofExt (Same.ofExt R2.same R2.nf e3) R2.nw e4, R2.nf, R2.nw, R2.ne, R2.far, ?_, ?_, ?_, ?_, ?_, ?_⟩, take1 _ (fun z hz => List.mem_append_left _ (my2 z hz)) (List.mem_append_right _ List.mem_cons_self), hqM4, ?_, ?_, List.mem_append_left _ bF2⟩
            · exact e4 u _ (ne_of (e3 u _ R2.ne R2.hu) hw4 (by intro z; cases z)) (e3 u _ R2.ne R2.hu)
            · exact e4 fd2 _ (ne_of hf5 hw4 (by intro z; cases z)) hf5
            · rw [List.map_append, ef2, List.map_append]
              rfl
            · rw [hw5, List.map_append]
              rfl
            · refine List.nodup_append.mpr ⟨R2.nd, List.nodup_cons.mpr ⟨by simp, List.nodup_nil⟩, fun p hp p' hp' e => nin ?_⟩
              rw [← List.mem_singleton.mp hp', ← e]
              exact hp
            · intro p hp
              rcases List.mem_append.mp hp with d | d
              · exact R2.rch p d
              · rw [List.mem_singleton.mp d]
                exact .step (R2.rch b bF2) ((my y).mp (List.mem_of_getElem? ey))
            · intro p hp
              rcases List.mem_append.mp hp with d | d
              · exact List.mem_append_left _ (R2.sub p d)
              · exact List.mem_append_right _ d
            · exact List.mem_append_left _ R2.top
            · intro p hp np nb t ht
              rcases List.mem_append.mp hp with d | d
              · exact List.mem_append_left _ (R2.closed p d (fun m => np (List.mem_append_left _ m)) nb t ht)
              · exact absurd (List.mem_append_right _ d) np
            · have := R2.wl
              rw [List.length_append, List.length_append]
              show W2.length + 1 ≤ F2.length + 1
              omega
            · rw [List.length_append, List.length_append]
              show F2.length + 1 + W1.length = F.length + (W2.length + 1)
              omega
            · rw [List.length_append]
              omega
        · rintro σ M ⟨⟨o2, rfl⟩, F2, W2, R2, my2, hqM, c1, c2, bF2⟩
          have R3 : RS H M ls level u fd2 wt kvs F2 W2 none := by
            refine ⟨R2.up, R2.hu, R2.hf, R2.hw, R2.same, R2.nf, R2.nw, R2.ne, R2.far, R2.nd, R2.rch, R2.sub, R2.top, fun y hy ny _ t ht => ?_, R2.wl⟩
            by_cases e : y = b
            · subst e
              have := my2 t
              rw [List.length_map, List.take_length] at this
              exact this ((my t).mpr ht)
            · exact R2.closed y hy ny (fun z => e (Option.some.inj z)) t ht
          have f2 := R3.few
          have one : [b].length = 1 := rfl
          exact ⟨2 * (ls.length + 1) + W2.length - 2 * F2.length, by omega, ⟨⟨_, _, rfl⟩, F2, W2, R3⟩, F2, W2, R3, by omega⟩
end

end RT
set_option Elab.async false
set_option linter.all false
set_option maxRecDepth 100000
set_option maxHeartbeats 4000000
namespace RT
open PySem PySem.Spec PyProof.Rows L2
local macro_rules | `(tactic| walk_at "w0") => `(tactic| dsimp only [L2.start, cxOf, Cx.nox, Cx.wish, List.map, List.length_cons, List.length_nil, List.replicate_succ, List.replicate_zero, List.cons_append, List.nil_append, Nat.reduceAdd, Nat.reduceSub, List.set_cons_zero, List.set_cons_succ])
local macro_rules | `(tactic| walk_at "w1") => `(tactic| first
  | with_reducible refine w_seq ?_
  | with_reducible refine w_asg ?_
  | with_reducible refine w_var rfl ?_
  | with_reducible refine w_c ?_
  | with_reducible refine w_op ?_
  | with_reducible refine w_cons ?_
  | with_reducible refine w_nil ?_
  | with_reducible refine w_gname ?_
  | with_reducible refine w_cb ?_
  | with_reducible refine w_I0 ?_
  | with_reducible refine w_bl ?_
  | ((with_reducible refine' w_ixL ?s0 ?s1 ?q); (case s0 => assumption); (case s1 => rfl))
  | ((with_reducible refine' w_ixT ?s0 ?s1 ?q); (case s0 => assumption); (case s1 => rfl))
  | with_reducible refine w_gsub ?_
  | with_reducible refine w_ifS ?_
  | with_reducible refine w_test ?_
  | with_reducible refine w_call ?_
  | with_reducible refine w_ret ?_
  | with_reducible refine w_int1 ?_
  | with_reducible refine w_int ?_
  | with_reducible refine w_next ?_
  | with_reducible refine w_drop ?_
  | ((with_reducible refine' w_mod ?s0 ?q); (case s0 => omega))
  | ((with_reducible refine' w_div ?s0 ?q); (case s0 => omega))
  | ((with_reducible refine' w_mul ?s0 ?q); (case s0 => omega))
  | ((with_reducible refine' w_pow ?s0 ?q); (case s0 => decide))
  | with_reducible refine w_B ?_
  | with_reducible refine w_and ?_
  | with_reducible refine w_or ?_
  | with_reducible refine w_not ?_
  | with_reducible refine w_T ?_
  | with_reducible refine w_F ?_
  | with_reducible refine w_nT ?_
  | with_reducible refine w_nF ?_
  | with_reducible refine w_un ?_
  | with_reducible refine w_U ?_
  | with_reducible refine w_if ?_
  | with_reducible refine w_lst ?_
  | with_reducible refine w_tup ?_
  | with_reducible refine w_sl ?_
  | with_reducible refine w_part ?_
  | with_reducible refine w_nopart ?_
  | with_reducible refine w_eqI ?_
  | with_reducible refine w_neI ?_
  | with_reducible refine w_eqS ?_
  | with_reducible refine w_neS ?_
  | with_reducible refine w_abs ?_
  | with_reducible refine w_max2 ?_
  | with_reducible refine w_min2 ?_
  | ((with_reducible refine' w_lenL ?s0 ?q); (case s0 => assumption))
  | ((with_reducible refine' w_lenH ?s0 ?q); (case s0 => assumption))
  | ((with_reducible refine' w_lenT ?s0 ?q); (case s0 => assumption))
  | ((with_reducible refine' w_lenS ?s0 ?q); (case s0 => first | assumption | omega | decide +kernel))
  | with_reducible refine w_inC ?_
  | with_reducible refine w_ninC ?_
  | with_reducible refine w_m1 ?_
  | with_reducible refine w_m0 ?_
  | with_reducible refine w_isstr ?_
  | with_reducible refine w_andV ?_
  | with_reducible refine w_orV ?_
  | with_reducible refine w_notV ?_
  | with_reducible refine w_chain ?_
  | with_reducible refine w_retN ?_
  | with_reducible refine w_break ?_
  | with_reducible refine w_cont ?_
  | with_reducible refine w_yes ?_
  | with_reducible refine w_for ?_
  | with_reducible refine w_lc ?_
  | with_reducible refine w_iList ?_
  | with_reducible refine w_iTup ?_
  | with_reducible refine w_iStr ?_
  | with_reducible refine w_iR1 ?_
  | with_reducible refine w_iR2 ?_
  | ((with_reducible refine' w_onL ?s0 ?q); (case s0 => assumption))
  | ((with_reducible refine' w_onQ ?s0 ?q); (case s0 => assumption))
  | ((with_reducible refine' w_onT ?s0 ?q); (case s0 => assumption))
  | ((with_reducible refine' w_onU ?s0 ?q); (case s0 => assumption))
  | with_reducible refine w_onS ?_
  | ((with_reducible refine' w_onR1 ?s0 ?q); (case s0 => omega))
  | ((with_reducible refine' w_onR2 ?s0 ?q); (case s0 => omega))
  | with_reducible refine w_revL ?_
  | ((with_reducible refine' w_all ?s0 ?q); (case s0 => assumption))
  | ((with_reducible refine' w_any ?s0 ?q); (case s0 => assumption))
  | with_reducible refine w_bm ?_
  | with_reducible refine w_bm0 ?_
  | ((with_reducible refine' w_islst ?s0 ?q); (case s0 => assumption))
  | with_reducible refine w_kw ?_
  | ((with_reducible refine' w_isi ?s0 ?s1 ?q); (case s0 => assumption); (case s1 => assumption))
  | ((with_reducible refine' w_addS ?s0 ?q); (case s0 => first | omega | decide +kernel))
  | with_reducible refine w_dnew ?_
  | with_reducible refine w_pnil ?_
  | with_reducible refine w_pcons ?_
  | ((with_reducible refine' w_slS ?s0 ?q); (case s0 => first | assumption | omega))
  | ((with_reducible refine' w_inLS ?s0 ?q); (case s0 => assumption))
  | ((with_reducible refine' w_ninLS ?s0 ?q); (case s0 => assumption))
  | ((with_reducible refine' w_inTS ?s0 ?q); (case s0 => assumption))
  | with_reducible refine w_par ?_
  | with_reducible refine w_parEnd ?_
  | with_reducible refine w_fld ?_
  | with_reducible refine w_e1 ?_
  | with_reducible refine w_e2 ?_
  | with_reducible refine w_par3 ?_
  | with_reducible refine w_parEnd3 ?_
  | ((with_reducible refine' w_upper ?s0 ?q); (case s0 => first | assumption | omega | decide +kernel))
  | with_reducible refine w_fldT ?_
  | with_reducible refine w_setT ?_
  | with_reducible refine w_fs ?_
  | with_reducible refine w_jsC ?_
  | with_reducible refine w_js0 ?_
  | with_reducible refine w_fmtT ?_
  | with_reducible refine w_dinT ?_
  | with_reducible refine w_dninT ?_
  | with_reducible refine w_dputT ?_
  | with_reducible refine w_dgetT ?_
  | with_reducible refine w_dget2T ?_
  | with_reducible refine w_setdT ?_
  | with_reducible refine w_mkK ?_
  | with_reducible refine w_mkR ?_
  | with_reducible refine w_dcT ?_
  | ((with_reducible refine' w_ninTS ?s0 ?q); (case s0 => assumption))
  | with_reducible refine w_strS ?_
  | with_reducible refine w_star ?_
  | with_reducible refine w_iE ?_
  | with_reducible refine w_metK ?_
  | with_reducible refine w_met ?_
  | with_reducible refine w_stat ?_
  | dsimp only [wipe, List.set_cons_zero, List.set_cons_succ])
local macro_rules | `(tactic| walk_at "w") => `(tactic| repeat walk_at "w1")
/-! ### no circle, the levels -/
def Ranked (ls : List PP) : Prop := ∃ rk : Str → Nat, ∀ l ∈ ls, rk l.1 < rk l.2
theorem greatest {ls : List PP} (rk : Str → Nat) (ne : ls ≠ []) : ∃ l ∈ ls, ∀ m ∈ ls, rk m.2 ≤ rk l.2 := by
  induction ls with
  | nil => exact absurd rfl ne
  | cons a t ih =>
    by_cases e : t = []
    · subst e
      exact ⟨a, List.mem_cons_self, fun m hm => by rw [List.mem_singleton.mp hm]; exact Nat.le_refl _⟩
    · obtain ⟨l, hl, h⟩ := ih e
      by_cases c : rk a.2 ≤ rk l.2
      · exact ⟨l, List.mem_cons_of_mem _ hl, fun m hm => (List.mem_cons.mp hm).elim (fun z => z ▸ c) (h m)⟩
      · exact ⟨a, List.mem_cons_self, fun m hm => (List.mem_cons.mp hm).elim (fun z => z ▸ Nat.le_refl _) fun z => Nat.le_trans (h m z) (by omega)⟩
/-- what stays is shorter -/
theorem kept_less {ls : List PP} (r : Ranked ls) (ne : ls ≠ []) : (ls.filter fun l => decide (l.2 ∈ ls.map (·.1))).length < ls.length := by
  obtain ⟨rk, h⟩ := r
  obtain ⟨l, hl, g⟩ := greatest rk ne
  refine List.length_filter_lt_length_iff_exists.mpr ⟨l, hl, fun c => ?_⟩
  obtain ⟨m, hm, e⟩ := List.mem_map.mp (of_decide_eq_true c)
  have h1 := h m hm
  have h2 := g m hm
  rw [e] at h1
  omega
def spNoCircle : Sp := fun vs H Q _ => ∃ a ws ls, vs = [.ref a] ∧ H a = some (.tup ws) ∧ PairsAt H ws ls ∧ Ranked ls ∧ ls.length ≤ 60 ∧ ∀ J, Same H J → Q (.bl false) J
abbrev s_has_circle : Stmt := topS 16
theorem sc_has_circle : FnScope ["links", "left", "lowers", "link", "kept"] ["links"] (defScope s_has_circle) := ⟨rfl, rfl, rfl, by decide +kernel, rfl, by decide +kernel, by decide +kernel⟩
abbrev s_levels_from : Stmt := topS 17
theorem sc_levels_from : FnScope ["level", "links", "index", "levels", "link"] ["level", "links"] (defScope s_levels_from) := ⟨rfl, rfl, rfl, by decide +kernel, rfl, by decide +kernel, by decide +kernel⟩
section
variable {P : Program} {w : World} {K : PySem.W.Frag} {mg : Str → Option Value} {base : Heap}
theorem ok_has_circle {f : Addr} {fd : FuncData} (F : Fun K "has_circle" "has_circle" s_has_circle f fd) (T : Txt K mg) : FnOk P w K mg base CX0 1 f fd ["links"] spNoCircle := by
  refine F.ok sc_has_circle (fun vs H Q E h => ?_) (fun cdv A outer s H vs Q E hr h => ?_)
  · obtain ⟨a, ws, ls, rfl, _⟩ := h
    rfl
  · obtain ⟨a, ws, ls, rfl, ha, hw, rk, few, q⟩ := h
    refine ⟨_, (pss_cons (ps_set (i := 1) sc_has_circle.nd rfl (by first | exact Or.inl rfl | exact Or.inr rfl) (pv 0))
  (pss_cons (ps_while PassesOwn.never (pt_truth (pv 1) (by intro _; rfl))
    (pss_cons (ps_set (i := 2) sc_has_circle.nd rfl (by first | exact Or.inl rfl | exact Or.inr rfl) (pe_dc (own := [("link", 3)]) (g := (gName 3)) (tt := tYes) rfl sc_has_circle.nd (k_iE (K := K) (pv 1)) (blkOk_by (own := [("link", 3)]) (N := ["links", "left", "lowers", "link", "kept"]) (sc := defScope s_has_circle) (by decide +kernel)) (fun _ _ _ _ _ => (pg_name (i := 3) sc_has_circle.nd rfl (Or.inl rfl))) (fun _ _ _ _ _ => pts_nil) (fun _ _ _ _ _ => (pe_ix (k_ixT (K := K)) (pv 3) pe_int (fun _ _ => rfl))) (fun _ _ _ _ _ => pe_bl)))
  (pss_cons (ps_setLc (i := 4) (own := [("link", 3)]) (g := (gName 3)) rfl sc_has_circle.nd rfl rfl (sw_true rfl rfl rfl (by decide +kernel)) (k_iE (K := K) (pv 1)) (blkOk_by (own := [("link", 3)]) (N := ["links", "left", "lowers", "link", "kept"]) (sc := defScope s_has_circle) (by decide +kernel)) (fun _ _ _ _ _ => (pg_name (i := 3) sc_has_circle.nd rfl (Or.inl rfl))) (fun _ _ _ _ _ => (pts_one (pt_cmp (pc_din (hu_of hr) (pe_ix (k_ixT (K := K)) (pv 3) pe_int (fun _ _ => rfl)) (pv 2))))) (fun _ _ _ _ _ => (pv 3)))
  (pss_cons (ps_if (pt_cmpR op_eq (pe_callB (k_lenQ (K := K)) (by rfl) T.z_len (by decide +kernel) (pa_cons (pv 4) pa_nil)) (pe_callB (k_lenQ (K := K)) (by rfl) T.z_len (by decide +kernel) (pa_cons (pv 1) pa_nil)) (nomark _))
    (pss_one (ps_ret pe_bl))
    pss_nil)
  (pss_one (ps_set (i := 1) sc_has_circle.nd rfl (by first | exact Or.inl rfl | exact Or.inr rfl) (pv 4)))))))
  (pss_one (ps_ret pe_bl)))), ?_⟩
    walk_at "w0"
    walk_at "w"
    refine w_whileT (fun _ _ => True)
      (fun σ N n => ∃ b o1 o2 o3 us ms, σ = [some (.ref a), some (.ref b), o1, o2, o3] ∧ SqE K N b us ∧ PairsAt N us ms ∧ Ranked ms ∧ ms.length ≤ 60 ∧ Same H N ∧ ms.length = n)
      True.intro ⟨ls.length, a, _, _, _, ws, ls, rfl, .inr (SqT.of ha), hw, rk, few, Same.refl _, rfl⟩ ?_
    rintro σ N n _ ⟨b, o1, o2, o3, us, ms, rfl, hb, hp, rk2, few2, s1, ln⟩
    walk_at "w"
    have lu := hp.len
    refine w_truE hb ?_
    by_cases ne : ms = []
    · subst ne
      have : us = [] := List.length_eq_zero_iff.mp lu
      subst this
      refine iteF ?_
      walk_at "w"
      exact q N s1
    · have ne1 : (!us.isEmpty) = true := by
        cases us with
        | nil => exact absurd (List.length_eq_zero_iff.mp lu.symm) ne
        | cons _ _ => rfl
      rw [ne1]
      refine iteT (w_wstep ?_)
      walk_at "w"
      refine w_onE hb fun J G hG hGs wk => ?_
      intro D nD
      refine w_dc wk (fun i kvs L => G L ∧ Same N L ∧ ∀ x : Str, (Sum.inr x : Key) ∈ kvs.map (·.1) ↔ x ∈ (ms.take i).map (·.1)) nD (fun L s e => ⟨hGs _ _ s hG, s, fun x => by simp⟩) (fun i kvs L h => h.1) ?_ ?_
      · rintro i kvs x L M hi lk ⟨g1, g2, g3⟩ hD ⟨rfl, hx⟩
        obtain ⟨l, el, p, rfl, hp2⟩ := hp.at hx
        walk_at "w"
        refine ⟨rfl, ?_⟩
        walk_at "w"
        refine w_ixT (g2 _ _ hp2) rfl ?_
        walk_at "w"
        refine w_dcPut hD lk (by omega) fun Z e6 hZ => ⟨?_, ?_, fun y => ?_⟩
        · exact hGs _ _ (Same.ofExt g2 nD e6) hG
        · exact Same.ofExt g2 nD e6
        · rw [putK_keys, g3, List.take_add_one, el]
          simp
      · rintro kvs L lk hD ⟨g1, g2, g3⟩
        walk_at "w"
        have ew : ms.take us.length = ms := List.take_of_length_le (by rw [lu]; exact Nat.le_refl _)
        rw [ew] at g3
        refine w_onE (hb.same g2) fun J2 G2 hG2 hGs2 wk2 => ?_
        intro D2 nD2
        refine w_comp wk2 (fun i acc M => G2 M ∧ Same L M ∧ PairsAt M acc ((ms.take i).filter fun l => decide (l.2 ∈ ms.map (·.1)))) nD2 (fun M s e => ⟨hGs2 _ _ s hG2, s, by simpa using .nil⟩) (fun i acc M h => h.1) ?_ ?_
        · rintro i acc x M M' hi la ⟨m1, m2, m3⟩ hA ⟨rfl, hx⟩
          obtain ⟨l, el, p, rfl, hp2⟩ := hp.at hx
          walk_at "w"
          refine ⟨rfl, ?_⟩
          walk_at "w"
          refine w_ixT ((g2.trans m2) _ _ hp2) rfl ?_
          walk_at "w"
          refine w_din (m2 _ _ hD) fun c hc => ?_
          rw [g3] at hc
          have step : (ms.take (i + 1)).filter (fun l => decide (l.2 ∈ ms.map (·.1))) = (ms.take i).filter (fun l => decide (l.2 ∈ ms.map (·.1))) ++ (if c = true then [l] else []) := by
            rw [List.take_add_one, el, List.filter_append]
            congr 1
            cases c with
            | true =>
              have := hc.mp rfl
              simp [this]
            | false =>
              have : ¬ l.2 ∈ ms.map (·.1) := fun z => Bool.false_ne_true (hc.mpr z)
              simp [this]
          refine ⟨c, rfl, ?_⟩
          cases c with
          | true =>
            refine iteT ?_
            walk_at "w"
            refine w_put hA la (by omega) fun Z e6 hZ => ?_
            have sZ : Same L Z := Same.ofExt m2 nD2 e6
            refine ⟨hGs2 _ _ sZ hG2, sZ, ?_⟩
            rw [step]
            exact (m3.ext hA e6).app (PairsAt.one ⟨p, rfl, sZ _ _ (g2 _ _ hp2)⟩)
          | false =>
            refine iteF (w_skip hA la ?_)
            rw [step]
            exact ⟨m1, m2, by simpa using m3⟩
        · rintro acc M la hA ⟨m1, m2, m3⟩
          rw [ew] at m3
          walk_at "w"
          refine w_lenE (hb.same (g2.trans m2)) ?_
          walk_at "w"
          have la2 := m3.len
          have less := kept_less rk2 ne
          refine w_no' (by omega) ?_
          walk_at "w"
          refine ⟨_, by rw [← ln]; exact less, True.intro, D2, _, _, _, acc, _, rfl, .inl (SqL.of hA), m3, ?_, by omega, (s1.trans g2).trans m2, rfl⟩
          obtain ⟨rk3, h3⟩ := rk2
          exact ⟨rk3, fun l hl => h3 l (List.mem_filter.mp hl).1⟩
end
def spLevels : Sp := fun vs H Q _ => ∃ level a ws ls, vs = [.str level, .ref a] ∧ H a = some (.tup ws) ∧ PairsAt H ws ls ∧ GoodLs ls ∧ Ranked ls ∧ (∀ l ∈ ls, Rch ls level l.1) ∧
  ∀ p J lv, H p = none → Same H J → J p = some (.tup ((lv : List Str).map V.str)) → lv.Nodup → lv = srtS lv → (∀ y, y ∈ lv ↔ Rch ls level y) → Q (.ref p) J
section
variable {P : Program} {w : World} {K : PySem.W.Frag} {mg : Str → Option Value} {base : Heap}
theorem ok_levels_from {f : Addr} {fd : FuncData} (F : Fun K "levels_from" "levels_from" s_levels_from f fd) (T : Txt K mg) (c_bad_link : Cal P w K mg base 3 "bad_link" spBadLink) (c_reached : Cal P w K mg base 1 "reached" spReached) (c_has_circle : Cal P w K mg base 1 "has_circle" spNoCircle) : FnOk P w K mg base CX0 4 f fd ["level", "links"] spLevels := by
  refine F.ok sc_levels_from (fun vs H Q E h => ?_) (fun cdv A outer s H vs Q E hr h => ?_)
  · obtain ⟨level, a, ws, ls, rfl, _⟩ := h
    rfl
  · obtain ⟨level, a, ws, ls, rfl, ha, hw, G, rk, top, q⟩ := h
    refine ⟨_, (pss_cons (ps_set (i := 2) sc_levels_from.nd rfl (by first | exact Or.inl rfl | exact Or.inr rfl) (pe_c c_bad_link hr (by decide) (by rfl) (pa_cons (pv 1) pa_nil)))
  (pss_cons (ps_if (pt_cmpR op_notN (pv 2) pe_non (nomark _))
    (pss_one ps_dead)
    pss_nil)
  (pss_cons (ps_set (i := 3) sc_levels_from.nd rfl (by first | exact Or.inl rfl | exact Or.inr rfl) (pe_c c_reached hr (by decide) (by rfl) (pa_cons (pv 0) (pa_cons (pv 1) pa_nil))))
  (pss_cons (ps_if (PW.pt (pw_or (pt_val (pe_c c_has_circle hr (by decide) (by rfl) (pa_cons (pv 1) pa_nil))) (pw_or1 (pt_val (pe_callB (k_any (K := K) rfl) (by rfl) T.z_any (by decide +kernel) (pa_cons (pe_lc (own := [("link", 4)]) (g := (gName 4)) (tt := tYes) rfl sc_levels_from.nd (k_iT (K := K) (pv 1)) (blkOk_by (own := [("link", 4)]) (N := ["level", "links", "index", "levels", "link"]) (sc := defScope s_levels_from) (by decide +kernel)) (fun _ _ _ _ _ => (pg_name (i := 4) sc_levels_from.nd rfl (Or.inl rfl))) (fun _ _ _ _ _ => pts_nil) (fun _ _ _ _ _ => (pe_cmpR (k_nin (K := K)) (pe_ix (k_ixT (K := K)) (pv 4) pe_int (fun _ _ => rfl)) (pv 3) rfl))) pa_nil))))))
    (pss_one ps_dead)
    pss_nil)
  (pss_one (ps_ret (pv 3))))))), ?_⟩
    walk_at "w0"
    walk_at "w"
    refine ⟨a, ws, ls, rfl, ha, hw, G, fun J s1 => ?_⟩
    walk_at "w"
    refine ⟨rfl, false, rfl, ?_⟩
    refine iteF ?_
    walk_at "w"
    refine ⟨level, a, ws, ls, rfl, s1 _ _ ha, hw.same s1, G.few, fun p J2 lv np s2 hp nd srt mem => ?_⟩
    walk_at "w"
    refine ⟨a, ws, ls, rfl, (s1.trans s2) _ _ ha, hw.same (s1.trans s2), rk, G.few, fun J3 s3 => ?_⟩
    walk_at "w"
    have s13 := (s1.trans s2).trans s3
    refine w_onT (s13 _ _ ha) ?_
    intro D nD
    refine w_comp walk_tup (fun i acc M => Same J3 M ∧ acc = (List.replicate i false).map V.bl) nD (fun M s e => ⟨s, rfl⟩) (fun i acc M h => SqT.of (h.1 _ _ (s13 _ _ ha))) ?_ ?_
    · rintro i acc x M M' hi la ⟨m1, m2⟩ hA ⟨rfl, hx⟩
      obtain ⟨l, el, b, rfl, hb⟩ := (hw.same s13).at hx
      walk_at "w"
      refine ⟨rfl, ?_⟩
      walk_at "w"
      refine w_ixT (m1 _ _ hb) rfl ?_
      walk_at "w"
      refine w_ninTS (m1 _ _ (s3 _ _ hp)) ?_
      rw [decide_eq_true ((mem _).mpr (top l (List.mem_of_getElem? el)))]
      refine w_put hA la (by have := hw.len; have := G.few; omega) fun Z e6 hZ => ⟨Same.ofExt m1 nD e6, ?_⟩
      rw [List.replicate_succ', List.map_append, m2]
      rfl
    · rintro acc M la hA ⟨m1, m2⟩
      walk_at "w"
      subst m2
      refine ⟨D, _, rfl, SqL.of hA, false, ?_, iteF ?_⟩
      · rw [List.any_eq_false.mpr fun x hx => by rw [List.eq_of_mem_replicate hx]; exact Bool.false_ne_true]
      walk_at "w"
      exact q p M lv (Same.free s1 np) (s13.trans m1) (m1 _ _ (s3 _ _ hp)) nd srt mem
end

end RT
set_option Elab.async false
set_option linter.all false
set_option maxRecDepth 100000
set_option maxHeartbeats 4000000
namespace RT
open PySem PySem.Spec PyProof.Rows L2
local macro_rules | `(tactic| walk_at "w0") => `(tactic| dsimp only [L2.start, cxOf, Cx.nox, Cx.wish, List.map, List.length_cons, List.length_nil, List.replicate_succ, List.replicate_zero, List.cons_append, List.nil_append, Nat.reduceAdd, Nat.reduceSub, List.set_cons_zero, List.set_cons_succ])
local macro_rules | `(tactic| walk_at "w1") => `(tactic| first
  | with_reducible refine w_seq ?_
  | with_reducible refine w_asg ?_
  | with_reducible refine w_var rfl ?_
  | with_reducible refine w_c ?_
  | with_reducible refine w_op ?_
  | with_reducible refine w_cons ?_
  | with_reducible refine w_nil ?_
  | with_reducible refine w_gname ?_
  | with_reducible refine w_cb ?_
  | with_reducible refine w_I0 ?_
  | with_reducible refine w_bl ?_
  | ((with_reducible refine' w_ixL ?s0 ?s1 ?q); (case s0 => assumption); (case s1 => rfl))
  | ((with_reducible refine' w_ixT ?s0 ?s1 ?q); (case s0 => assumption); (case s1 => rfl))
  | with_reducible refine w_gsub ?_
  | with_reducible refine w_ifS ?_
  | with_reducible refine w_test ?_
  | with_reducible refine w_call ?_
  | with_reducible refine w_ret ?_
  | with_reducible refine w_int1 ?_
  | with_reducible refine w_int ?_
  | with_reducible refine w_next ?_
  | with_reducible refine w_drop ?_
  | ((with_reducible refine' w_mod ?s0 ?q); (case s0 => omega))
  | ((with_reducible refine' w_div ?s0 ?q); (case s0 => omega))
  | ((with_reducible refine' w_mul ?s0 ?q); (case s0 => omega))
  | ((with_reducible refine' w_pow ?s0 ?q); (case s0 => decide))
  | with_reducible refine w_B ?_
  | with_reducible refine w_and ?_
  | with_reducible refine w_or ?_
  | with_reducible refine w_not ?_
  | with_reducible refine w_T ?_
  | with_reducible refine w_F ?_
  | with_reducible refine w_nT ?_
  | with_reducible refine w_nF ?_
  | with_reducible refine w_un ?_
  | with_reducible refine w_U ?_
  | with_reducible refine w_if ?_
  | with_reducible refine w_lst ?_
  | with_reducible refine w_tup ?_
  | with_reducible refine w_sl ?_
  | with_reducible refine w_part ?_
  | with_reducible refine w_nopart ?_
  | with_reducible refine w_eqI ?_
  | with_reducible refine w_neI ?_
  | with_reducible refine w_eqS ?_
  | with_reducible refine w_neS ?_
  | with_reducible refine w_abs ?_
  | with_reducible refine w_max2 ?_
  | with_reducible refine w_min2 ?_
  | ((with_reducible refine' w_lenL ?s0 ?q); (case s0 => assumption))
  | ((with_reducible refine' w_lenH ?s0 ?q); (case s0 => assumption))
  | ((with_reducible refine' w_lenT ?s0 ?q); (case s0 => assumption))
  | ((with_reducible refine' w_lenS ?s0 ?q); (case s0 => first | assumption | omega | decide +kernel))
  | with_reducible refine w_inC ?_
  | with_reducible refine w_ninC ?_
  | with_reducible refine w_m1 ?_
  | with_reducible refine w_m0 ?_
  | with_reducible refine w_isstr ?_
  | with_reducible refine w_andV ?_
  | with_reducible refine w_orV ?_
  | with_reducible refine w_notV ?_
  | with_reducible refine w_chain ?_
  | with_reducible refine w_retN ?_
  | with_reducible refine w_break ?_
  | with_reducible refine w_cont ?_
  | with_reducible refine w_yes ?_
  | with_reducible refine w_for ?_
  | with_reducible refine w_lc ?_
  | with_reducible refine w_iList ?_
  | with_reducible refine w_iTup ?_
  | with_reducible refine w_iStr ?_
  | with_reducible refine w_iR1 ?_
  | with_reducible refine w_iR2 ?_
  | ((with_reducible refine' w_onL ?s0 ?q); (case s0 => assumption))
  | ((with_reducible refine' w_onQ ?s0 ?q); (case s0 => assumption))
  | ((with_reducible refine' w_onT ?s0 ?q); (case s0 => assumption))
  | ((with_reducible refine' w_onU ?s0 ?q); (case s0 => assumption))
  | with_reducible refine w_onS ?_
  | ((with_reducible refine' w_onR1 ?s0 ?q); (case s0 => omega))
  | ((with_reducible refine' w_onR2 ?s0 ?q); (case s0 => omega))
  | with_reducible refine w_revL ?_
  | ((with_reducible refine' w_all ?s0 ?q); (case s0 => assumption))
  | ((with_reducible refine' w_any ?s0 ?q); (case s0 => assumption))
  | with_reducible refine w_bm ?_
  | with_reducible refine w_bm0 ?_
  | ((with_reducible refine' w_islst ?s0 ?q); (case s0 => assumption))
  | with_reducible refine w_kw ?_
  | ((with_reducible refine' w_isi ?s0 ?s1 ?q); (case s0 => assumption); (case s1 => assumption))
  | ((with_reducible refine' w_addS ?s0 ?q); (case s0 => first | omega | decide +kernel))
  | with_reducible refine w_dnew ?_
  | with_reducible refine w_pnil ?_
  | with_reducible refine w_pcons ?_
  | ((with_reducible refine' w_slS ?s0 ?q); (case s0 => first | assumption | omega))
  | ((with_reducible refine' w_inLS ?s0 ?q); (case s0 => assumption))
  | ((with_reducible refine' w_ninLS ?s0 ?q); (case s0 => assumption))
  | ((with_reducible refine' w_inTS ?s0 ?q); (case s0 => assumption))
  | with_reducible refine w_par ?_
  | with_reducible refine w_parEnd ?_
  | with_reducible refine w_fld ?_
  | with_reducible refine w_e1 ?_
  | with_reducible refine w_e2 ?_
  | with_reducible refine w_par3 ?_
  | with_reducible refine w_parEnd3 ?_
  | ((with_reducible refine' w_upper ?s0 ?q); (case s0 => first | assumption | omega | decide +kernel))
  | with_reducible refine w_fldT ?_
  | with_reducible refine w_setT ?_
  | with_reducible refine w_fs ?_
  | with_reducible refine w_jsC ?_
  | with_reducible refine w_js0 ?_
  | with_reducible refine w_fmtT ?_
  | with_reducible refine w_dinT ?_
  | with_reducible refine w_dninT ?_
  | with_reducible refine w_dputT ?_
  | with_reducible refine w_dgetT ?_
  | with_reducible refine w_dget2T ?_
  | with_reducible refine w_setdT ?_
  | with_reducible refine w_mkK ?_
  | with_reducible refine w_mkR ?_
  | with_reducible refine w_dcT ?_
  | ((with_reducible refine' w_ninTS ?s0 ?q); (case s0 => assumption))
  | with_reducible refine w_strS ?_
  | with_reducible refine w_star ?_
  | with_reducible refine w_iE ?_
  | with_reducible refine w_metK ?_
  | with_reducible refine w_met ?_
  | with_reducible refine w_stat ?_
  | dsimp only [wipe, List.set_cons_zero, List.set_cons_succ])
local macro_rules | `(tactic| walk_at "w") => `(tactic| repeat walk_at "w1")
/-! ### marks -/
structure GoodMs (lv : List Str) (ms : List PP) : Prop where
  each : ∀ m ∈ ms, m.1 ∈ lv ∧ nameS m.2 = true
  nd : (ms.map (·.1)).Nodup
  few : ms.length ≤ 60
def spGoodMark : Sp := fun vs H Q _ => ∃ la lv v m, vs = [.ref la, v] ∧ H la = some (.tup ((lv : List Str).map V.str)) ∧ PairAt H v m ∧ m.1 ∈ lv ∧ nameS m.2 = true ∧ ∀ J, Same H J → Q (.bl true) J
def spCheckMarks (K : PySem.W.Frag) : Sp := fun vs H Q _ => ∃ la lv a us ms, vs = [.ref la, .ref a] ∧ H la = some (.tup ((lv : List Str).map V.str)) ∧ SqT K H a us ∧ PairsAt H us ms ∧ GoodMs lv ms ∧ ∀ J, Same H J → Q .non J
abbrev s_is_mark : Stmt := topS 19
theorem sc_is_mark : FnScope ["levels", "value"] ["levels", "value"] (defScope s_is_mark) := ⟨rfl, rfl, rfl, by decide +kernel, rfl, by decide +kernel, by decide +kernel⟩
abbrev s_check_marks : Stmt := topS 20
theorem sc_check_marks : FnScope ["levels", "marks", "seen", "index", "pair"] ["levels", "marks"] (defScope s_check_marks) := ⟨rfl, rfl, rfl, by decide +kernel, rfl, by decide +kernel, by decide +kernel⟩
section
variable {P : Program} {w : World} {K : PySem.W.Frag} {mg : Str → Option Value} {base : Heap}
theorem ok_is_mark {f : Addr} {fd : FuncData} (F : Fun K "is_mark" "is_mark" s_is_mark f fd) (T : Txt K mg) (c_is_name : Cal P w K mg base 1 "is_name" (spName K)) : FnOk P w K mg base CX0 2 f fd ["levels", "value"] spGoodMark := by
  refine F.ok sc_is_mark (fun vs H Q E h => ?_) (fun cdv A outer s H vs Q E hr h => ?_)
  · obtain ⟨la, lv, v, m, rfl, _⟩ := h
    rfl
  · obtain ⟨la, lv, v, m, rfl, hl, ⟨p, rfl, hp⟩, g1, g2, q⟩ := h
    refine ⟨_, (pss_one (ps_ret (pe_and (pe_callB (k_isi (K := K)) (by rfl) T.z_isinstance (by decide +kernel) (pa_cons (pv 1) (pa_cons (pe_bltn (v := .ty "tuple") (u := .type "tuple") (by rfl) T.z_tuple (by decide +kernel) rfl) pa_nil))) (pe_and (pe_cmpR op_eq (pe_callB (k_lenQ (K := K)) (by rfl) T.z_len (by decide +kernel) (pa_cons (pv 1) pa_nil)) pe_int (nomark _)) (pe_and (pe_cmpR (k_in (K := K)) (pe_ix (k_ixT (K := K)) (pv 1) pe_int (fun _ _ => rfl)) (pv 0) rfl) (pe_one (pe_c c_is_name hr (by decide) (by rfl) (pa_cons (pe_ix (k_ixT (K := K)) (pv 1) pe_int (fun _ _ => rfl)) pa_nil)))))))), ?_⟩
    walk_at "w0"
    walk_at "w"
    refine w_isi (.base (.tup hp)) (kit_ty (b := "tuple") (r := true) (by decide +kernel)) ?_
    walk_at "w"
    refine w_dec (fun _ => ?_) (fun n => (n rfl).elim)
    walk_at "w"
    rw [decide_eq_true g1]
    refine iteT ?_
    walk_at "w"
    have l2 := name_len g2
    refine ⟨_, rfl, .inl ⟨m.2, rfl, by omega⟩, fun J s1 => ?_⟩
    rw [show nameV (.str m.2) = true from g2]
    exact q J s1
theorem tyT {H : Hp} {a : Addr} {xs : List V} (h : SqT K H a xs) : TyX K H (.ref a) (.type "tuple") := by
  rcases h with (h | ⟨o, h⟩) | ⟨o, its, n, h1, h2, _⟩
  · exact .base (.tup h)
  · exact .fTuple h
  · exact .kTuple h1 h2
theorem ok_check_marks {f : Addr} {fd : FuncData} (F : Fun K "check_marks" "check_marks" s_check_marks f fd) (T : Txt K mg) (c_is_mark : Cal P w K mg base 2 "is_mark" spGoodMark) : FnOk P w K mg base CX0 3 f fd ["levels", "marks"] (spCheckMarks K) := by
  refine F.ok sc_check_marks (fun vs H Q E h => ?_) (fun cdv A outer s H vs Q E hr h => ?_)
  · obtain ⟨la, lv, a, us, ms, rfl, _⟩ := h
    rfl
  · obtain ⟨la, lv, a, us, ms, rfl, hl, ha, hp, G, q⟩ := h
    refine ⟨_, (pss_cons (ps_if (pt_not (pt_val (pe_callB (k_isi (K := K)) (by rfl) T.z_isinstance (by decide +kernel) (pa_cons (pv 1) (pa_cons (pe_bltn (v := .ty "tuple") (u := .type "tuple") (by rfl) T.z_tuple (by decide +kernel) rfl) pa_nil)))))
    (pss_one ps_dead)
    pss_nil)
  (pss_cons (ps_set (i := 2) sc_check_marks.nd rfl (by first | exact Or.inl rfl | exact Or.inr rfl) pe_dnewK)
  (pss_one (ps_for PassesOwn.never rfl (pi_enumU (by rfl) T.z_enumerate (pa_cons (pv 1) pa_nil)) (k_tupG (K := K) (pg_tup (n := 2) (by rfl) (pgs_cons (pg_name (i := 3) sc_check_marks.nd rfl (Or.inl rfl)) (pgs_cons (pg_name (i := 4) sc_check_marks.nd rfl (Or.inl rfl)) pgs_nil))))
    (pss_cons (ps_if (PW.pt (pw_or (pt_not (pt_val (pe_c c_is_mark hr (by decide) (by rfl) (pa_cons (pv 0) (pa_cons (pv 4) pa_nil))))) (pw_or1 (pt_cmp (pc_din (hu_of hr) (pe_ix (k_ixT (K := K)) (pv 4) pe_int (fun _ _ => rfl)) (pv 2))))))
    (pss_one ps_dead)
    pss_nil)
  (pss_one (ps_dput (hu_of hr) (pv 2) (pe_ix (k_ixT (K := K)) (pv 4) pe_int (fun _ _ => rfl)) pe_bl rfl))))))), ?_⟩
    walk_at "w0"
    walk_at "w"
    refine w_isi (tyT ha) (kit_ty (b := "tuple") (r := true) (by decide +kernel)) ?_
    walk_at "w"
    refine w_newD fun d L0 nd s0 hd => ?_
    walk_at "w"
    refine w_iEnumU ?_
    walk_at "w"
    refine w_onEnumU (Same.sqT s0 ha) ?_
    refine w_loop walk_itu (fun i σ M => (∃ o1 o2, σ = [some (.ref la), some (.ref a), some (.ref d), o1, o2]) ∧ Same H M ∧ ∃ kvs : List (Key × V), M d = some (.dK kvs) ∧ kvs.map (·.1) = (ms.take i).map (Sum.inr ·.1)) ⟨⟨_, _, rfl⟩, s0, [], hd, rfl⟩ (fun i σ M _ h => Same.sqT h.2.1 ha) ?_ ?_
    · rintro i x σ M N hi ⟨⟨o1, o2, rfl⟩, s2, kvs, hk, ek⟩ hy
      obtain ⟨p, u, v, rfl, hp1, s3, e3, e4⟩ := pair_same hy
      cases e3
      obtain ⟨l, el, b, rfl, hb⟩ := hp.at e4
      have sN := s2.trans s3
      refine w_gT2 hp1 ?_
      walk_at "w"
      have gl := G.each l (List.mem_of_getElem? el)
      refine ⟨la, lv, _, l, rfl, sN _ _ hl, ⟨b, rfl, sN _ _ hb⟩, gl.1, gl.2, fun J s4 => ?_⟩
      have sJ := sN.trans s4
      walk_at "w"
      refine w_ixT (sJ _ _ hb) rfl ?_
      walk_at "w"
      have hkJ := (s3.trans s4) _ _ hk
      refine w_din hkJ fun c hc => ?_
      have nin : (Sum.inr l.1 : Key) ∉ kvs.map (·.1) := fun m => by
        rw [ek] at m
        obtain ⟨m', hm, e⟩ := List.mem_map.mp m
        obtain ⟨j, hj, ej⟩ := List.getElem_of_mem hm
        have hj2 : j < i := by
          rw [List.length_take] at hj
          omega
        have h1 : ms[j]? = some m' := by
          rw [← ej, List.getElem_take]
          exact List.getElem?_eq_getElem _
        have h2 : (ms.map (·.1))[j]? = some l.1 := by
          rw [List.getElem?_map, h1]
          exact congrArg some (Sum.inr.inj e)
        have h3 : (ms.map (·.1))[i]? = some l.1 := by
          rw [List.getElem?_map, el]
          rfl
        have := (List.getElem?_inj (List.getElem?_eq_some_iff.mp h2).1 G.nd).mp (h2.trans h3.symm)
        omega
      have nc : c = false := Bool.eq_false_iff.mpr fun z => nin (hc.mp z)
      rw [nc]
      walk_at "w"
      refine w_ixT (sJ _ _ hb) rfl ?_
      have len : kvs.length ≤ 60 := by
        have z := congrArg List.length ek
        rw [List.length_map, List.length_map, List.length_take] at z
        have := G.few
        omega
      refine w_dput hkJ (by omega) fun J2 e5 hk2 => ?_
      walk_at "w"
      rw [putK_new nin] at hk2
      refine ⟨⟨_, _, rfl⟩, Same.ofExt sJ nd e5, _, hk2, ?_⟩
      rw [List.map_append, ek, List.take_add_one, el]
      simp
    · rintro σ M ⟨⟨o1, o2, rfl⟩, s2, _⟩
      walk_at "w"
      exact q M s2
end

end RT
set_option Elab.async false
set_option linter.all false
set_option maxRecDepth 100000
set_option maxHeartbeats 4000000
namespace RT
open PySem PySem.Spec PyProof.Rows L2
local macro_rules | `(tactic| walk_at "w0") => `(tactic| dsimp only [L2.start, cxOf, Cx.nox, Cx.wish, List.map, List.length_cons, List.length_nil, List.replicate_succ, List.replicate_zero, List.cons_append, List.nil_append, Nat.reduceAdd, Nat.reduceSub, List.set_cons_zero, List.set_cons_succ])
local macro_rules | `(tactic| walk_at "w1") => `(tactic| first
  | with_reducible refine w_seq ?_
  | with_reducible refine w_asg ?_
  | with_reducible refine w_var rfl ?_
  | with_reducible refine w_c ?_
  | with_reducible refine w_op ?_
  | with_reducible refine w_cons ?_
  | with_reducible refine w_nil ?_
  | with_reducible refine w_gname ?_
  | with_reducible refine w_cb ?_
  | with_reducible refine w_I0 ?_
  | with_reducible refine w_bl ?_
  | ((with_reducible refine' w_ixL ?s0 ?s1 ?q); (case s0 => assumption); (case s1 => rfl))
  | ((with_reducible refine' w_ixT ?s0 ?s1 ?q); (case s0 => assumption); (case s1 => rfl))
  | with_reducible refine w_gsub ?_
  | with_reducible refine w_ifS ?_
  | with_reducible refine w_test ?_
  | with_reducible refine w_call ?_
  | with_reducible refine w_ret ?_
  | with_reducible refine w_int1 ?_
  | with_reducible refine w_int ?_
  | with_reducible refine w_next ?_
  | with_reducible refine w_drop ?_
  | ((with_reducible refine' w_mod ?s0 ?q); (case s0 => omega))
  | ((with_reducible refine' w_div ?s0 ?q); (case s0 => omega))
  | ((with_reducible refine' w_mul ?s0 ?q); (case s0 => omega))
  | ((with_reducible refine' w_pow ?s0 ?q); (case s0 => decide))
  | with_reducible refine w_B ?_
  | with_reducible refine w_and ?_
  | with_reducible refine w_or ?_
  | with_reducible refine w_not ?_
  | with_reducible refine w_T ?_
  | with_reducible refine w_F ?_
  | with_reducible refine w_nT ?_
  | with_reducible refine w_nF ?_
  | with_reducible refine w_un ?_
  | with_reducible refine w_U ?_
  | with_reducible refine w_if ?_
  | with_reducible refine w_lst ?_
  | with_reducible refine w_tup ?_
  | with_reducible refine w_sl ?_
  | with_reducible refine w_part ?_
  | with_reducible refine w_nopart ?_
  | with_reducible refine w_eqI ?_
  | with_reducible refine w_neI ?_
  | with_reducible refine w_eqS ?_
  | with_reducible refine w_neS ?_
  | with_reducible refine w_abs ?_
  | with_reducible refine w_max2 ?_
  | with_reducible refine w_min2 ?_
  | ((with_reducible refine' w_lenL ?s0 ?q); (case s0 => assumption))
  | ((with_reducible refine' w_lenH ?s0 ?q); (case s0 => assumption))
  | ((with_reducible refine' w_lenT ?s0 ?q); (case s0 => assumption))
  | ((with_reducible refine' w_lenS ?s0 ?q); (case s0 => first | assumption | omega | decide +kernel))
  | with_reducible refine w_inC ?_
  | with_reducible refine w_ninC ?_
  | with_reducible refine w_m1 ?_
  | with_reducible refine w_m0 ?_
  | with_reducible refine w_isstr ?_
  | with_reducible refine w_andV ?_
  | with_reducible refine w_orV ?_
  | with_reducible refine w_notV ?_
  | with_reducible refine w_chain ?_
  | with_reducible refine w_retN ?_
  | with_reducible refine w_break ?_
  | with_reducible refine w_cont ?_
  | with_reducible refine w_yes ?_
  | with_reducible refine w_for ?_
  | with_reducible refine w_lc ?_
  | with_reducible refine w_iList ?_
  | with_reducible refine w_iTup ?_
  | with_reducible refine w_iStr ?_
  | with_reducible refine w_iR1 ?_
  | with_reducible refine w_iR2 ?_
  | ((with_reducible refine' w_onL ?s0 ?q); (case s0 => assumption))
  | ((with_reducible refine' w_onQ ?s0 ?q); (case s0 => assumption))
  | ((with_reducible refine' w_onT ?s0 ?q); (case s0 => assumption))
  | ((with_reducible refine' w_onU ?s0 ?q); (case s0 => assumption))
  | with_reducible refine w_onS ?_
  | ((with_reducible refine' w_onR1 ?s0 ?q); (case s0 => omega))
  | ((with_reducible refine' w_onR2 ?s0 ?q); (case s0 => omega))
  | with_reducible refine w_revL ?_
  | ((with_reducible refine' w_all ?s0 ?q); (case s0 => assumption))
  | ((with_reducible refine' w_any ?s0 ?q); (case s0 => assumption))
  | with_reducible refine w_bm ?_
  | with_reducible refine w_bm0 ?_
  | ((with_reducible refine' w_islst ?s0 ?q); (case s0 => assumption))
  | with_reducible refine w_kw ?_
  | ((with_reducible refine' w_isi ?s0 ?s1 ?q); (case s0 => assumption); (case s1 => assumption))
  | ((with_reducible refine' w_addS ?s0 ?q); (case s0 => first | omega | decide +kernel))
  | with_reducible refine w_dnew ?_
  | with_reducible refine w_pnil ?_
  | with_reducible refine w_pcons ?_
  | ((with_reducible refine' w_slS ?s0 ?q); (case s0 => first | assumption | omega))
  | ((with_reducible refine' w_inLS ?s0 ?q); (case s0 => assumption))
  | ((with_reducible refine' w_ninLS ?s0 ?q); (case s0 => assumption))
  | ((with_reducible refine' w_inTS ?s0 ?q); (case s0 => assumption))
  | with_reducible refine w_par ?_
  | with_reducible refine w_parEnd ?_
  | with_reducible refine w_fld ?_
  | with_reducible refine w_e1 ?_
  | with_reducible refine w_e2 ?_
  | with_reducible refine w_par3 ?_
  | with_reducible refine w_parEnd3 ?_
  | ((with_reducible refine' w_upper ?s0 ?q); (case s0 => first | assumption | omega | decide +kernel))
  | with_reducible refine w_fldT ?_
  | with_reducible refine w_setT ?_
  | with_reducible refine w_fs ?_
  | with_reducible refine w_jsC ?_
  | with_reducible refine w_js0 ?_
  | with_reducible refine w_fmtT ?_
  | with_reducible refine w_dinT ?_
  | with_reducible refine w_dninT ?_
  | with_reducible refine w_dputT ?_
  | with_reducible refine w_dgetT ?_
  | with_reducible refine w_dget2T ?_
  | with_reducible refine w_setdT ?_
  | with_reducible refine w_mkK ?_
  | with_reducible refine w_mkR ?_
  | with_reducible refine w_dcT ?_
  | ((with_reducible refine' w_ninTS ?s0 ?q); (case s0 => assumption))
  | with_reducible refine w_strS ?_
  | with_reducible refine w_star ?_
  | with_reducible refine w_iE ?_
  | with_reducible refine w_metK ?_
  | with_reducible refine w_met ?_
  | with_reducible refine w_stat ?_
  | dsimp only [wipe, List.set_cons_zero, List.set_cons_succ])
local macro_rules | `(tactic| walk_at "w") => `(tactic| repeat walk_at "w1")
/-! ### the class Shape -/
structure OSh (K : PySem.W.Frag) (C : Addr) : Prop where
  c : OwnC K C
  f__level : NoAttr K C "_level"
  f__levels : NoAttr K C "_levels"
  f__links : NoAttr K C "_links"
  f__marks : NoAttr K C "_marks"
  f__text : NoAttr K C "_text"
  b0 : PySem.W.findIn K (.ref C) "__bool__" = some none
  l0 : PySem.W.findIn K (.ref C) "__len__" = some none
def linkS (l : PP) : Str := Str.empty ++ l.1 ++ Str.ofString ">" ++ l.2
def markS (l : PP) : Str := Str.empty ++ l.1 ++ Str.ofString "=" ++ l.2
def partsS (level : Str) (ls ms : List PP) : List Str := level :: ((srtP ls).map linkS ++ (srtP ms).map markS)
def textS (level : Str) (ls ms : List PP) : Str := Txt.join (Str.ofString " ") (partsS level ls ms)
/-- a shape stands at x -/
structure ShO (C : Addr) (J : Hp) (x : Addr) (level : Str) (ls ms : List PP) : Prop where
  ex : ∃ dx pl pk pm, ∃ lv : List Str, ∃ wl wm : List V, J x = some (.ins C dx [("_level", .str level), ("_levels", .ref pl), ("_links", .ref pk), ("_marks", .ref pm), ("_text", .str (textS level ls ms))]) ∧
    J pl = some (.tup (lv.map V.str)) ∧ lv.Nodup ∧ lv = srtS lv ∧ (∀ y, y ∈ lv ↔ Rch ls level y) ∧ J pk = some (.tup wl) ∧ PairsAt J wl (srtP ls) ∧ J pm = some (.tup wm) ∧ PairsAt J wm (srtP ms)
structure GoodSh (level : Str) (ls ms : List PP) : Prop where
  lev : nameS level = true
  links : GoodLs ls
  rank : Ranked ls
  top : ∀ l ∈ ls, Rch ls level l.1
  marks : ∀ m ∈ ms, Rch ls level m.1 ∧ nameS m.2 = true
  nd : (ms.map (·.1)).Nodup
  few : ms.length ≤ 60
theorem rch_name {level : Str} {ls ms : List PP} {y : Str} (G : GoodSh level ls ms) (h : Rch ls level y) : nameS y = true := by
  cases h with
  | refl => exact G.lev
  | step _ m => exact (G.links.each _ m).2.1
def spInit (K : PySem.W.Frag) (C : Addr) : Sp := fun vs H Q _ => ∃ x dx level ma la us ws ms ls, vs = [.ref x, .str level, .ref ma, .ref la] ∧ H x = some (.ins C dx []) ∧ SqT K H ma us ∧ PairsAt H us ms ∧ H la = some (.tup ws) ∧ PairsAt H ws ls ∧ GoodSh level ls ms ∧
  ∀ J, Ext x H J → ShO C J x level ls ms → Q .non J
abbrev s_Shape___init__ : Stmt := inClass (topS 21) 0
theorem sc_Shape___init__ : FnScope ["self", "level", "marks", "links", "levels", "words", "lower", "upper", "signs", "place", "mark"] ["self", "level", "marks", "links"] (defScope s_Shape___init__) := ⟨rfl, rfl, rfl, by decide +kernel, rfl, by decide +kernel, by decide +kernel⟩
theorem PairsAt.extO {H J : Hp} {a : Addr} {o : HO} {vs : List V} {ls : List PP} (h : PairsAt H vs ls) (ha : H a = some o) (no : ∀ ys, o ≠ .tup ys) (e : Ext a H J) : PairsAt J vs ls := h.mono fun v l x => by
  obtain ⟨p, rfl, hp⟩ := x
  refine ⟨p, rfl, e _ _ (fun z => ?_) hp⟩
  subst z
  rw [ha] at hp
  exact no _ (Option.some.inj hp)
theorem sqT_extO {K : PySem.W.Frag} {H J : Hp} {a b : Addr} {C dx : Addr} {fs : List (Str × V)} {xs : List V} (h : SqT K H b xs) (ha : H a = some (.ins C dx fs)) (e : Ext a H J) : SqT K J b xs := by
  rcases h with (h | ⟨o, h⟩) | h
  · exact .inl (.inl (e _ _ (fun z => by subst z; rw [ha] at h; cases h) h))
  · exact .inl (.inr ⟨o, e _ _ (fun z => by subst z; rw [ha] at h; cases h) h⟩)
  · exact .inr h
theorem app_len (a b : Str) : (a ++ b).length = a.length + b.length := Array.size_append
theorem w_newLn {H : Hp} {Q : VK} {xs : List V} (h : xs.length ≤ 1000000) (q : ∀ p L, H p = none → Same H L → L p = some (.lst xs) → Q (.ref p) L) : aL xs H Q := ⟨Nat.le_of_lt (smallM h), w_new q⟩
theorem sum_few {c : Nat} : ∀ ys : List Str, (∀ y ∈ ys, y.length ≤ c) → (ys.map fun y => y.length).sum ≤ ys.length * c
  | [], _ => Nat.zero_le _
  | y :: ys, h => by
    have h1 := h y List.mem_cons_self
    have h2 := sum_few ys fun z hz => h z (List.mem_cons_of_mem _ hz)
    rw [List.map_cons, List.sum_cons, List.length_cons, Nat.add_mul]
    omega
theorem w_tupL {K : PySem.W.Frag} {H : Hp} {Q : VK} {p : Addr} {ys : List V} (h : SqL K H p ys) (q : ∀ l L, H l = none → Same H L → L l = some (.tup ys) → Q (.ref l) L) : qTuple K [.ref p] H Q := ⟨p, ys, rfl, .inl ⟨h, w_new q⟩⟩
theorem putF_new {f : Str} {v : V} : ∀ {fs : List (Str × V)}, f ∉ fs.map (·.1) → putF f v fs = fs ++ [(f, v)]
  | [], _ => rfl
  | (g, x) :: r, h => by
    show (if g = f then (g, v) :: r else (g, x) :: putF f v r) = _
    rw [if_neg fun e => h (List.mem_cons.mpr (.inl e.symm)), putF_new fun m => h (List.mem_cons_of_mem _ m)]
    rfl
section
variable {P : Program} {w : World} {K : PySem.W.Frag} {mg : Str → Option Value} {base : Heap}
theorem init_body {C : Addr} (O_Shape : OSh K C) (T : Txt K mg) (c_check_name : Cal P w K mg base 2 "check_name" spCheckName) (c_levels_from : Cal P w K mg base 4 "levels_from" spLevels) (c_check_marks : Cal P w K mg base 3 "check_marks" (spCheckMarks K)) (f : Addr) (cdv : Value) (A : Around) (outer : List Env) (s : Shared) (H : Hp) (vs : List V) (Q : VK) (E : XK)
    (hr : Room 4 (A.deeper (envOfC "Shape.__init__" (defScope s_Shape___init__) s.heap.objs.size f cdv))) (h : spInit K C vs H Q E) :
    ∃ t, PSs (cxOf CX0 P w K mg base ["self", "level", "marks", "links", "levels", "words", "lower", "upper", "signs", "place", "mark"] "Shape.__init__" (defScope s_Shape___init__) f cdv A outer s H E) (defBody s_Shape___init__) t ∧ t { nx := fun _ H' => Q .non H', rt := Q } (start ["self", "level", "marks", "links", "levels", "words", "lower", "upper", "signs", "place", "mark"] vs) H := by
  obtain ⟨x, dx, level, ma, la, us, ws, ms, ls, rfl, hx, hma, hms, hla, hls, G, q⟩ := h
  refine ⟨_, (pss_cons (ps_expr (pe_c c_check_name hr (by decide) (by rfl) (pa_cons (pv 1) pa_nil)))
  (pss_cons (ps_set (i := 4) sc_Shape___init__.nd rfl (by first | exact Or.inl rfl | exact Or.inr rfl) (pe_c c_levels_from hr (by decide) (by rfl) (pa_cons (pv 1) (pa_cons (pv 3) pa_nil))))
  (pss_cons (ps_expr (pe_c c_check_marks hr (by decide) (by rfl) (pa_cons (pv 4) (pa_cons (pv 2) pa_nil))))
  (pss_cons (ps_fldC O_Shape.c O_Shape.f__level (pv 0) (pv 1))
  (pss_cons (ps_fldC O_Shape.c O_Shape.f__levels (pv 0) (pv 4))
  (pss_cons (ps_fldC O_Shape.c O_Shape.f__links (pv 0) (pe_callTy (k_tuple (K := K)) (by rfl) T.z_tuple (by decide +kernel) (pa_cons (pe_callB (k_srtP (K := K) hr) (by rfl) T.z_sorted (by decide +kernel) (pa_cons (pv 3) pa_nil)) pa_nil)))
  (pss_cons (ps_fldC O_Shape.c O_Shape.f__marks (pv 0) (pe_callTy (k_tuple (K := K)) (by rfl) T.z_tuple (by decide +kernel) (pa_cons (pe_callB (k_srtP (K := K) hr) (by rfl) T.z_sorted (by decide +kernel) (pa_cons (pv 2) pa_nil)) pa_nil)))
  (pss_cons (ps_setLc (i := 5) (own := [("lower", 6), ("upper", 7)]) (g := _) (tt := tYes) rfl sc_Shape___init__.nd rfl rfl (sw_true rfl rfl rfl (by decide +kernel)) (k_iT (K := K) (pe_fldC O_Shape.c O_Shape.f__links (pv 0))) (blkOk_by (own := [("lower", 6), ("upper", 7)]) (N := ["self", "level", "marks", "links", "levels", "words", "lower", "upper", "signs", "place", "mark"]) (sc := defScope s_Shape___init__) (by decide +kernel)) (fun _ _ _ _ _ => (k_tupG (K := K) (pg_tup (n := 2) (by rfl) (pgs_cons (pg_name (i := 6) sc_Shape___init__.nd rfl (Or.inl rfl)) (pgs_cons (pg_name (i := 7) sc_Shape___init__.nd rfl (Or.inl rfl)) pgs_nil))))) (fun _ _ _ _ _ => pts_nil) (fun _ _ _ _ _ => (pe_fs (PJ.cons (pe_fmt (pv 6)) (PJ.cons pe_str (PJ.cons (pe_fmt (pv 7)) PJ.nil))))))
  (pss_cons (ps_setLc (i := 8) (own := [("place", 9), ("mark", 10)]) (g := _) (tt := tYes) rfl sc_Shape___init__.nd rfl rfl (sw_true rfl rfl rfl (by decide +kernel)) (k_iT (K := K) (pe_fldC O_Shape.c O_Shape.f__marks (pv 0))) (blkOk_by (own := [("place", 9), ("mark", 10)]) (N := ["self", "level", "marks", "links", "levels", "words", "lower", "upper", "signs", "place", "mark"]) (sc := defScope s_Shape___init__) (by decide +kernel)) (fun _ _ _ _ _ => (k_tupG (K := K) (pg_tup (n := 2) (by rfl) (pgs_cons (pg_name (i := 9) sc_Shape___init__.nd rfl (Or.inl rfl)) (pgs_cons (pg_name (i := 10) sc_Shape___init__.nd rfl (Or.inl rfl)) pgs_nil))))) (fun _ _ _ _ _ => pts_nil) (fun _ _ _ _ _ => (pe_fs (PJ.cons (pe_fmt (pv 9)) (PJ.cons pe_str (PJ.cons (pe_fmt (pv 10)) PJ.nil))))))
  (pss_one (ps_fldC O_Shape.c O_Shape.f__text (pv 0) (k_join (K := K) pe_str (pe_lst (pa_cons (pv 1) (k_star (K := K) (StX.pa_star (pv 5) (k_star (K := K) (StX.pa_star (pv 8) pa_nil)))))))))))))))))), ?_⟩
  walk_at "w0"
  walk_at "w"
  refine ⟨level, rfl, G.lev, fun J0 s0 => ?_⟩
  walk_at "w"
  refine ⟨level, la, ws, ls, rfl, s0 _ _ hla, hls.same s0, G.links, G.rank, G.top, fun pl J1 lv npl s1 hpl nd srt mem => ?_⟩
  walk_at "w"
  have s01 := s0.trans s1
  refine ⟨pl, lv, ma, us, ms, rfl, hpl, Same.sqT s01 hma, hms.same s01, ⟨fun m hm => ⟨(mem _).mpr (G.marks m hm).1, (G.marks m hm).2⟩, G.nd, G.few⟩, fun J2 s2 => ?_⟩
  walk_at "w"
  have s02 := s01.trans s2
  have hx2 := s02 _ _ hx
  refine w_setC hx2 (by decide) fun J3 e3 h3 => ?_
  walk_at "w"
  have hpl3 := e3 pl _ (ne_of (s2 _ _ hpl) hx2 (by intro z; cases z)) (s2 _ _ hpl)
  have hls3 := (hls.same s02).extO hx2 (by intro ys z; cases z) e3
  have hla3 := e3 la _ (ne_of (s02 _ _ hla) hx2 (by intro z; cases z)) (s02 _ _ hla)
  have hms3 := (hms.same s02).extO hx2 (by intro ys z; cases z) e3
  have hma3 := sqT_extO (Same.sqT s02 hma) hx2 e3
  have x3 : Ext x H J3 := fun b o n e => e3 b o n (s02 b o e)
  replace h3 : J3 x = some (.ins C dx [("_level", .str level)]) := h3
  refine w_setC h3 (by simp) fun J4 e4 h4 => ?_
  walk_at "w"
  rw [putF_new (by show ("_levels" : Str) ∉ [("_level" : Str)]; decide +kernel)] at h4
  have hpl4 := e4 pl _ (ne_of hpl3 h3 (by intro z; cases z)) hpl3
  have hls4 := hls3.extO h3 (by intro ys z; cases z) e4
  have hla4 := e4 la _ (ne_of hla3 h3 (by intro z; cases z)) hla3
  have hms4 := hms3.extO h3 (by intro ys z; cases z) e4
  have hma4 := sqT_extO hma3 h3 e4
  have x4 : Ext x H J4 := fun b o n e => e4 b o n (x3 b o n e)
  refine w_srtP (.inr (SqT.of hla4)) hls4 (by have := G.links.few; omega) fun wl q5 J5 n5 s5 h5 t5 => ?_
  walk_at "w"
  refine w_tupL (SqL.of h5) fun pk J6 n6 s6 hpk => ?_
  walk_at "w"
  have s46 := s5.trans s6
  have h46 := s46 _ _ h4
  refine w_setC h46 (by simp) fun J7 e7 h7 => ?_
  walk_at "w"
  rw [putF_new (by show ("_links" : Str) ∉ [("_level" : Str), "_levels"]; decide +kernel)] at h7
  have hpl7 := e7 pl _ (ne_of (s46 _ _ hpl4) h46 (by intro z; cases z)) (s46 _ _ hpl4)
  have hpk7 := e7 pk _ (ne_of hpk h46 (by intro z; cases z)) hpk
  have twl7 := (t5.same s6).extO h46 (by intro ys z; cases z) e7
  have hms7 := (hms4.same s46).extO h46 (by intro ys z; cases z) e7
  have hma7 := sqT_extO (Same.sqT s46 hma4) h46 e7
  have x7 : Ext x H J7 := fun b o n e => e7 b o n (s46 b o (x4 b o n e))
  refine w_srtP (.inr hma7) hms7 (by have := G.few; omega) fun wm q8 J8 n8 s8 h8 t8 => ?_
  walk_at "w"
  refine w_tupL (SqL.of h8) fun pm J9 n9 s9 hpm => ?_
  walk_at "w"
  have s79 := s8.trans s9
  have h79 := s79 _ _ h7
  refine w_setC h79 (by simp) fun J10 e10 h10 => ?_
  walk_at "w"
  rw [putF_new (by show ("_marks" : Str) ∉ [("_level" : Str), "_levels", "_links"]; decide +kernel)] at h10
  have hpl10 := e10 pl _ (ne_of (s79 _ _ hpl7) h79 (by intro z; cases z)) (s79 _ _ hpl7)
  have hpk10 := e10 pk _ (ne_of (s79 _ _ hpk7) h79 (by intro z; cases z)) (s79 _ _ hpk7)
  have twl10 := (twl7.same s79).extO h79 (by intro ys z; cases z) e10
  have hpm10 := e10 pm _ (ne_of hpm h79 (by intro z; cases z)) hpm
  have twm10 := (t8.same s9).extO h79 (by intro ys z; cases z) e10
  have x10 : Ext x H J10 := fun b o n e => e10 b o n (s79 b o (x7 b o n e))
  refine w_fldC h10 (by rfl) ?_
  walk_at "w"
  intro D nD
  have nm : ∀ l ∈ srtP ls, l.1.length ≤ 8 ∧ l.2.length ≤ 8 := fun l hl => by
    have g := G.links.each l ((srtP_perm ls).mem_iff.mp hl)
    exact ⟨(name_len g.1).2, (name_len g.2.1).2⟩
  have lwl : wl.length ≤ 60 := by rw [twl10.len, (srtP_perm ls).length_eq]; exact G.links.few
  have lwm : wm.length ≤ 60 := by rw [twm10.len, (srtP_perm ms).length_eq]; exact G.few
  refine w_comp walk_tup (fun i acc M => Same J10 M ∧ acc = ((srtP ls).take i).map fun l => V.str (linkS l)) nD (fun M s e => ⟨s, rfl⟩) (fun i acc M h => SqT.of (h.1 _ _ hpk10)) ?_ ?_
  · rintro i acc y M M' hi la ⟨m1, m2⟩ hA ⟨rfl, hy⟩
    obtain ⟨l, el, p, rfl, hp⟩ := twl10.at hy
    have nl := nm l (List.mem_of_getElem? el)
    refine w_gT2 (m1 _ _ hp) ?_
    walk_at "w"
    refine ⟨rfl, ?_⟩
    walk_at "w"
    refine w_fmt (by omega) ?_
    refine w_jsA (by rw [app_len]; show 0 + _ ≤ _; omega) ?_
    walk_at "w"
    refine w_jsA (by rw [app_len, app_len]; show 0 + _ + 1 ≤ _; omega) ?_
    walk_at "w"
    refine w_fmt (by omega) ?_
    refine w_jsA (by rw [app_len, app_len, app_len]; show 0 + _ + 1 + _ ≤ _; omega) ?_
    walk_at "w"
    refine w_put hA la (by omega) fun Z e6 hZ => ⟨Same.ofExt m1 nD e6, ?_⟩
    rw [List.take_add_one, el, m2]
    simp [linkS]
  rintro acc M lacc hA ⟨m1, m2⟩
  walk_at "w"
  have hpmM := m1 _ _ hpm10
  refine w_fldC (m1 _ _ h10) (by rfl) ?_
  walk_at "w"
  intro D2 nD2
  have nmm : ∀ l ∈ srtP ms, l.1.length ≤ 8 ∧ l.2.length ≤ 8 := fun l hl => by
    have g := G.marks l ((srtP_perm ms).mem_iff.mp hl)
    exact ⟨(name_len (rch_name G g.1)).2, (name_len g.2).2⟩
  refine w_comp walk_tup (fun i acc N => Same M N ∧ acc = ((srtP ms).take i).map fun l => V.str (markS l)) nD2 (fun N s e => ⟨s, rfl⟩) (fun i acc N h => SqT.of (h.1 _ _ hpmM)) ?_ ?_
  · rintro i acc y N N' hi la ⟨k1, k2⟩ hA2 ⟨rfl, hy⟩
    obtain ⟨l, el, p, rfl, hp⟩ := (twm10.same m1).at hy
    have nl := nmm l (List.mem_of_getElem? el)
    refine w_gT2 (k1 _ _ hp) ?_
    walk_at "w"
    refine ⟨rfl, ?_⟩
    walk_at "w"
    refine w_fmt (by omega) ?_
    refine w_jsA (by rw [app_len]; show 0 + _ ≤ _; omega) ?_
    walk_at "w"
    refine w_jsA (by rw [app_len, app_len]; show 0 + _ + 1 ≤ _; omega) ?_
    walk_at "w"
    refine w_fmt (by omega) ?_
    refine w_jsA (by rw [app_len, app_len, app_len]; show 0 + _ + 1 + _ ≤ _; omega) ?_
    walk_at "w"
    refine w_put hA2 la (by omega) fun Z e6 hZ => ⟨Same.ofExt k1 nD2 e6, ?_⟩
    rw [List.take_add_one, el, k2]
    simp [markS]
  rintro acc2 N lacc2 hA2 ⟨k1, k2⟩
  walk_at "w"
  refine w_onStarL (SqL.of (k1 _ _ hA)) ?_
  walk_at "w"
  refine w_onStarL (SqL.of hA2) ?_
  walk_at "w"
  have ewl : (srtP ls).take wl.length = srtP ls := List.take_of_length_le (by rw [twl10.len]; exact Nat.le_refl _)
  have ewm : (srtP ms).take wm.length = srtP ms := List.take_of_length_le (by rw [twm10.len]; exact Nat.le_refl _)
  rw [ewl] at m2
  rw [ewm] at k2
  have eall : V.str level :: (acc ++ (acc2 ++ [])) = (partsS level ls ms).map V.str := by
    rw [m2, k2, partsS, List.map_cons, List.map_append, List.map_map, List.map_map, List.append_nil]
    rfl
  rw [eall]
  have lp : (partsS level ls ms).length ≤ 121 := by
    rw [partsS, List.length_cons, List.length_append, List.length_map, List.length_map, ← twl10.len, ← twm10.len]
    omega
  have sp : ∀ y ∈ partsS level ls ms, y.length ≤ 17 := fun y hy => by
    rcases List.mem_cons.mp hy with rfl | hy
    · have := (name_len G.lev).2
      omega
    · rcases List.mem_append.mp hy with hy | hy
      · obtain ⟨l, hl, rfl⟩ := List.mem_map.mp hy
        have := nm l hl
        rw [linkS, app_len, app_len, app_len]
        show 0 + _ + 1 + _ ≤ _
        omega
      · obtain ⟨l, hl, rfl⟩ := List.mem_map.mp hy
        have := nmm l hl
        rw [markS, app_len, app_len, app_len]
        show 0 + _ + 1 + _ ≤ _
        omega
  have sum := sum_few _ sp
  refine w_newLn (by rw [List.length_map]; omega) fun p N2 np s12 hp => ?_
  refine w_join (SqL.of hp) (by show _ + _ * 1 ≤ _; omega) ?_
  walk_at "w"
  have sN : Same J10 N2 := (m1.trans k1).trans s12
  refine w_setC (sN _ _ h10) (by simp) fun J e11 h11 => ?_
  rw [putF_new (by show ("_text" : Str) ∉ [("_level" : Str), "_levels", "_links", "_marks"]; decide +kernel)] at h11
  have hxN := sN _ _ h10
  refine q J (fun b o n e => e11 b o n (sN b o (x10 b o n e))) ⟨dx, pl, pk, pm, lv, wl, wm, h11, ?_, nd, srt, mem, ?_, (twl10.same sN).extO hxN (by intro ys z; cases z) e11, ?_, (twm10.same sN).extO hxN (by intro ys z; cases z) e11⟩
  · exact e11 pl _ (ne_of (sN _ _ hpl10) hxN (by intro z; cases z)) (sN _ _ hpl10)
  · exact e11 pk _ (ne_of (sN _ _ hpk10) hxN (by intro z; cases z)) (sN _ _ hpk10)
  · exact e11 pm _ (ne_of (sN _ _ hpm10) hxN (by intro z; cases z)) (sN _ _ hpm10)
end

end RT
set_option Elab.async false
set_option linter.all false
set_option maxRecDepth 100000
set_option maxHeartbeats 4000000
namespace RT
open PySem PySem.Spec PyProof.Rows L2
local macro_rules | `(tactic| walk_at "w0") => `(tactic| dsimp only [L2.start, cxOf, Cx.nox, Cx.wish, List.map, List.length_cons, List.length_nil, List.replicate_succ, List.replicate_zero, List.cons_append, List.nil_append, Nat.reduceAdd, Nat.reduceSub, List.set_cons_zero, List.set_cons_succ])
local macro_rules | `(tactic| walk_at "w1") => `(tactic| first
  | with_reducible refine w_seq ?_
  | with_reducible refine w_asg ?_
  | with_reducible refine w_var rfl ?_
  | with_reducible refine w_c ?_
  | with_reducible refine w_op ?_
  | with_reducible refine w_cons ?_
  | with_reducible refine w_nil ?_
  | with_reducible refine w_gname ?_
  | with_reducible refine w_cb ?_
  | with_reducible refine w_I0 ?_
  | with_reducible refine w_bl ?_
  | ((with_reducible refine' w_ixL ?s0 ?s1 ?q); (case s0 => assumption); (case s1 => rfl))
  | ((with_reducible refine' w_ixT ?s0 ?s1 ?q); (case s0 => assumption); (case s1 => rfl))
  | with_reducible refine w_gsub ?_
  | with_reducible refine w_ifS ?_
  | with_reducible refine w_test ?_
  | with_reducible refine w_call ?_
  | with_reducible refine w_ret ?_
  | with_reducible refine w_int1 ?_
  | with_reducible refine w_int ?_
  | with_reducible refine w_next ?_
  | with_reducible refine w_drop ?_
  | ((with_reducible refine' w_mod ?s0 ?q); (case s0 => omega))
  | ((with_reducible refine' w_div ?s0 ?q); (case s0 => omega))
  | ((with_reducible refine' w_mul ?s0 ?q); (case s0 => omega))
  | ((with_reducible refine' w_pow ?s0 ?q); (case s0 => decide))
  | with_reducible refine w_B ?_
  | with_reducible refine w_and ?_
  | with_reducible refine w_or ?_
  | with_reducible refine w_not ?_
  | with_reducible refine w_T ?_
  | with_reducible refine w_F ?_
  | with_reducible refine w_nT ?_
  | with_reducible refine w_nF ?_
  | with_reducible refine w_un ?_
  | with_reducible refine w_U ?_
  | with_reducible refine w_if ?_
  | with_reducible refine w_lst ?_
  | with_reducible refine w_tup ?_
  | with_reducible refine w_sl ?_
  | with_reducible refine w_part ?_
  | with_reducible refine w_nopart ?_
  | with_reducible refine w_eqI ?_
  | with_reducible refine w_neI ?_
  | with_reducible refine w_eqS ?_
  | with_reducible refine w_neS ?_
  | with_reducible refine w_abs ?_
  | with_reducible refine w_max2 ?_
  | with_reducible refine w_min2 ?_
  | ((with_reducible refine' w_lenL ?s0 ?q); (case s0 => assumption))
  | ((with_reducible refine' w_lenH ?s0 ?q); (case s0 => assumption))
  | ((with_reducible refine' w_lenT ?s0 ?q); (case s0 => assumption))
  | ((with_reducible refine' w_lenS ?s0 ?q); (case s0 => first | assumption | omega | decide +kernel))
  | with_reducible refine w_inC ?_
  | with_reducible refine w_ninC ?_
  | with_reducible refine w_m1 ?_
  | with_reducible refine w_m0 ?_
  | with_reducible refine w_isstr ?_
  | with_reducible refine w_andV ?_
  | with_reducible refine w_orV ?_
  | with_reducible refine w_notV ?_
  | with_reducible refine w_chain ?_
  | with_reducible refine w_retN ?_
  | with_reducible refine w_break ?_
  | with_reducible refine w_cont ?_
  | with_reducible refine w_yes ?_
  | with_reducible refine w_for ?_
  | with_reducible refine w_lc ?_
  | with_reducible refine w_iList ?_
  | with_reducible refine w_iTup ?_
  | with_reducible refine w_iStr ?_
  | with_reducible refine w_iR1 ?_
  | with_reducible refine w_iR2 ?_
  | ((with_reducible refine' w_onL ?s0 ?q); (case s0 => assumption))
  | ((with_reducible refine' w_onQ ?s0 ?q); (case s0 => assumption))
  | ((with_reducible refine' w_onT ?s0 ?q); (case s0 => assumption))
  | ((with_reducible refine' w_onU ?s0 ?q); (case s0 => assumption))
  | with_reducible refine w_onS ?_
  | ((with_reducible refine' w_onR1 ?s0 ?q); (case s0 => omega))
  | ((with_reducible refine' w_onR2 ?s0 ?q); (case s0 => omega))
  | with_reducible refine w_revL ?_
  | ((with_reducible refine' w_all ?s0 ?q); (case s0 => assumption))
  | ((with_reducible refine' w_any ?s0 ?q); (case s0 => assumption))
  | with_reducible refine w_bm ?_
  | with_reducible refine w_bm0 ?_
  | ((with_reducible refine' w_islst ?s0 ?q); (case s0 => assumption))
  | with_reducible refine w_kw ?_
  | ((with_reducible refine' w_isi ?s0 ?s1 ?q); (case s0 => assumption); (case s1 => assumption))
  | ((with_reducible refine' w_addS ?s0 ?q); (case s0 => first | omega | decide +kernel))
  | with_reducible refine w_dnew ?_
  | with_reducible refine w_pnil ?_
  | with_reducible refine w_pcons ?_
  | ((with_reducible refine' w_slS ?s0 ?q); (case s0 => first | assumption | omega))
  | ((with_reducible refine' w_inLS ?s0 ?q); (case s0 => assumption))
  | ((with_reducible refine' w_ninLS ?s0 ?q); (case s0 => assumption))
  | ((with_reducible refine' w_inTS ?s0 ?q); (case s0 => assumption))
  | with_reducible refine w_par ?_
  | with_reducible refine w_parEnd ?_
  | with_reducible refine w_fld ?_
  | with_reducible refine w_e1 ?_
  | with_reducible refine w_e2 ?_
  | with_reducible refine w_par3 ?_
  | with_reducible refine w_parEnd3 ?_
  | ((with_reducible refine' w_upper ?s0 ?q); (case s0 => first | assumption | omega | decide +kernel))
  | with_reducible refine w_fldT ?_
  | with_reducible refine w_setT ?_
  | with_reducible refine w_fs ?_
  | with_reducible refine w_jsC ?_
  | with_reducible refine w_js0 ?_
  | with_reducible refine w_fmtT ?_
  | with_reducible refine w_dinT ?_
  | with_reducible refine w_dninT ?_
  | with_reducible refine w_dputT ?_
  | with_reducible refine w_dgetT ?_
  | with_reducible refine w_dget2T ?_
  | with_reducible refine w_setdT ?_
  | with_reducible refine w_mkK ?_
  | with_reducible refine w_mkR ?_
  | with_reducible refine w_dcT ?_
  | ((with_reducible refine' w_ninTS ?s0 ?q); (case s0 => assumption))
  | with_reducible refine w_strS ?_
  | with_reducible refine w_star ?_
  | with_reducible refine w_iE ?_
  | with_reducible refine w_metK ?_
  | with_reducible refine w_met ?_
  | with_reducible refine w_stat ?_
  | dsimp only [wipe, List.set_cons_zero, List.set_cons_succ])
local macro_rules | `(tactic| walk_at "w") => `(tactic| repeat walk_at "w1")
/-! ### shapes made -/
abbrev a_Shape_init : Arguments := defArgs s_Shape___init__
structure IniSh (K : PySem.W.Frag) (mg : Str → Option Value) (C f md : Addr) (fd : FuncData) : Prop where
  F : FunD K "__init__" "Shape.__init__" (defArgs s_Shape___init__) (defBody s_Shape___init__) (defScope s_Shape___init__) [] [("marks", V.ref md)] f fd
  made : Mk K C f
  tup0 : ∀ H, SqT K H md []
  here : mg "Shape" = some (.ref C)
def KwTo {α : Type} (D : Addr) (x : Str) (m : Value) (t r : Sem α) : Prop := ∃ (β γ : Type) (k1 : Option Value → Sem β) (k2 : β → Sem γ) (k3 : γ → Sem α) (a : β), t = ((nsGet D x >>= k1) >>= k2) >>= k3 ∧ k1 (some m) = pure a ∧ (k2 a >>= k3) = r
theorem KwTo.wp {α : Type} {K : PySem.W.Frag} {M : Model} {A : Around} {D : Addr} {x : Str} {m : Value} {t r : Sem α} {Q : α → Shared → Prop} {Ex : Value → Shared → Prop} {s : Shared} (h : KwTo D x m t r) (X : K.In s.heap) (e : PySem.W.nsIn K D x = some (some m)) (q : wpAny M A r Q Ex s) : wpAny M A t Q Ex s := by
  obtain ⟨β, γ, k1, k2, k3, a, rfl, e2, rfl⟩ := h
  exact wp_kwd X e e2 q
theorem vals_rv : ∀ {vs : List V} {us : List Value}, Vals vs us → Vals vs.reverse us.reverse
  | _, _, .nil => .nil
  | _, _, .cons h r => by
    rw [List.reverse_cons, List.reverse_cons]
    exact (vals_rv r).append (.cons h .nil)
abbrev q_Shape : List Str := ["self", "level", "marks"]
section
variable {K : PySem.W.Frag} {dV kV doc pm cdv ct : Value} {an : Option Addr} {D md : Addr}
theorem sb_marks : StB K (PySem.W.fnOf "__init__" "Shape.__init__" (defArgs s_Shape___init__) (defBody s_Shape___init__) (defScope s_Shape___init__) .none kV doc pm an cdv ct) q_Shape "links" 2 (fun _ => True) ["marks"] (fun us ws => us ++ ws) (fun vs zs => vs ++ zs) := by
  refine ⟨fun us rest ws h1 _ h2 M A' Q Ex s X h => ?_, fun r rz => r.append rz, fun us ws h1 h2 => by rw [List.length_append, h1, h2]; rfl⟩
  match us, ws, h1, h2 with
  | [a, b], [m], _, _ => cases rest with
    | nil => exact h
    | cons c cs => exact h
theorem sb_none (e : PySem.W.nsIn K D "marks" = some (some (.ref md))) : StB K (PySem.W.fnOf "__init__" "Shape.__init__" (defArgs s_Shape___init__) (defBody s_Shape___init__) (defScope s_Shape___init__) .none (.ref D) doc pm an cdv ct) q_Shape "links" 2 (fun _ => True) [] (fun us _ => us ++ [.ref md]) (fun vs _ => vs ++ [.ref md]) := by
  refine ⟨fun us rest ws h1 _ h2 M A' Q Ex s X h => ?_, fun r _ => r.append (.cons rfl .nil), fun us ws h1 h2 => by rw [List.length_append, h1]; rfl⟩
  match us, ws, h1, h2 with
  | [a, b], [], _, _ => cases rest with
    | nil => exact KwTo.wp (m := .ref md) ⟨_, _, _, _, _, _, rfl, rfl, rfl⟩ X e h
    | cons c cs => exact KwTo.wp (m := .ref md) ⟨_, _, _, _, _, _, rfl, rfl, rfl⟩ X e h
theorem sb_level (e : PySem.W.nsIn K D "marks" = some (some (.ref md))) : StB K (PySem.W.fnOf "__init__" "Shape.__init__" (defArgs s_Shape___init__) (defBody s_Shape___init__) (defScope s_Shape___init__) .none (.ref D) doc pm an cdv ct) q_Shape "links" 1 (fun n => n = 0) ["level"] (fun us ws => us ++ (ws ++ [.ref md])) (fun vs zs => vs ++ (zs ++ [.ref md])) := by
  refine ⟨fun us rest ws h1 h0 h2 M A' Q Ex s X h => ?_, fun r rz => r.append (rz.append (.cons rfl .nil)), fun us ws h1 h2 => by rw [List.length_append, List.length_append, h1, h2]; rfl⟩
  match us, ws, rest, h1, h2, h0 with
  | [a], [m], [], _, _, _ => exact KwTo.wp (m := .ref md) ⟨_, _, _, _, _, _, rfl, rfl, rfl⟩ X e h
theorem sb_marks_level : StB K (PySem.W.fnOf "__init__" "Shape.__init__" (defArgs s_Shape___init__) (defBody s_Shape___init__) (defScope s_Shape___init__) .none kV doc pm an cdv ct) q_Shape "links" 1 (fun n => n = 0) ["marks", "level"] (fun us ws => us ++ ws.reverse) (fun vs zs => vs ++ zs.reverse) := by
  refine ⟨fun us rest ws h1 h0 h2 M A' Q Ex s X h => ?_, fun r rz => r.append (vals_rv rz), fun us ws h1 h2 => by rw [List.length_append, List.length_reverse, h1, h2]; rfl⟩
  match us, ws, rest, h1, h2, h0 with
  | [a], [m, l], [], _, _, _ => exact h
end
theorem vals_ref {v : V} {u : Value} {a : Addr} (h : RelV v u) (e : v = .ref a) : u = .ref a := by
  subst e
  exact h
section
variable {P : Program} {w : World} {K : PySem.W.Frag} {mg : Str → Option Value} {base : Heap} {C f md : Addr} {fd : FuncData}
theorem mk_of {np : Nat} {rs : Nat → Prop} {ks : List Str} {g : List Value → List Value → List Value} {gV : List V → List V → List V} (O_Shape : OSh K C) (I : IniSh K mg C f md fd) (T : Txt K mg) (c_check_name : Cal P w K mg base 2 "check_name" spCheckName) (c_levels_from : Cal P w K mg base 4 "levels_from" spLevels) (c_check_marks : Cal P w K mg base 3 "check_marks" (spCheckMarks K))
    (B : ∀ (D : Addr) (doc pm : Value) (an : Option Addr) (cdv ct : Value), PySem.W.nsIn K D "marks" = some (some (.ref md)) → StB K (PySem.W.fnOf "__init__" "Shape.__init__" (defArgs s_Shape___init__) (defBody s_Shape___init__) (defScope s_Shape___init__) .none (.ref D) doc pm an cdv ct) q_Shape "links" np rs ks g gV) :
    CalK P w K mg base 5 "Shape" C ks (spStar np rs gV (spInit K C)) := by
  obtain ⟨oc, od, dV, kV, doc, pm, an, cdv, ct, osl, e, lk, hcd, hD, hK⟩ := I.F.ex
  subst e
  have hd : dV = .none := by
    rcases hD with ⟨_, e⟩ | ⟨n, _⟩
    · exact e
    · exact absurd rfl n
  subst hd
  rcases hK with e | ⟨D, rfl, hq⟩
  · cases e
  · obtain ⟨u, e1, e2⟩ := hq _ (List.mem_singleton.mpr rfl)
    have eu := vals_ref e2 rfl
    subst eu
    exact ⟨f, I.made, fn_starK lk hcd sc_Shape___init__ StX.cxUp_none (B D doc pm an cdv ct e1) fun A outer s H vs Q E hr h => init_body O_Shape T c_check_name c_levels_from c_check_marks f cdv A outer s H vs Q E hr h, I.here⟩
end
/-! ### what a call of the class comes to -/
section
variable {K : PySem.W.Frag} {C md : Addr} {H : Hp} {Q : VK} {level : Str} {ls ms : List PP} {rest us : List V} {ma : Addr}
theorem init_at {x dx p : Addr} (hx : H x = none) (hdx : H dx = none) (ne : dx ≠ x) (hp : (upd (upd H dx (.own x)) x (.ins C dx [])) p = none) (hr : PairsAt H rest ls) (hm : SqT K H ma us) (hu : PairsAt H us ms) (G : GoodSh level ls ms) (q : ∀ x J, H x = none → Same H J → ShO C J x level ls ms → Q (.ref x) J) :
    spInit K C [.ref x, .str level, .ref ma, .ref p] (upd (upd (upd H dx (.own x)) x (.ins C dx [])) p (.tup rest)) (fun v H3 => v = .non ∧ Q (.ref x) H3) E0 := by
  have npx : x ≠ p := fun e => by
    rw [← e, upd_same] at hp
    cases hp
  have npd : dx ≠ p := fun e => by
    rw [← e, upd_ne ne, upd_same] at hp
    cases hp
  have s : Same H (upd (upd (upd H dx (.own x)) x (.ins C dx [])) p (.tup rest)) := ((same_new hdx).trans (same_new (by rw [upd_ne ne.symm]; exact hx))).trans (same_new hp)
  refine ⟨x, dx, level, ma, p, us, rest, ms, ls, rfl, ?_, Same.sqT s hm, hu.same s, upd_same, hr.same s, G, fun J e h => ⟨rfl, q x J hx (fun b o eb => ?_) h⟩⟩
  · rw [upd_ne npx, upd_same]
  · exact e b o (fun z => by rw [z, hx] at eb; cases eb) (s b o eb)
end

end RT
set_option Elab.async false
set_option linter.all false
set_option maxRecDepth 100000
set_option maxHeartbeats 4000000
namespace RT
open PySem PySem.Spec PyProof.Rows L2
local macro_rules | `(tactic| walk_at "w0") => `(tactic| dsimp only [L2.start, cxOf, Cx.nox, Cx.wish, List.map, List.length_cons, List.length_nil, List.replicate_succ, List.replicate_zero, List.cons_append, List.nil_append, Nat.reduceAdd, Nat.reduceSub, List.set_cons_zero, List.set_cons_succ])
local macro_rules | `(tactic| walk_at "w1") => `(tactic| first
  | with_reducible refine w_seq ?_
  | with_reducible refine w_asg ?_
  | with_reducible refine w_var rfl ?_
  | with_reducible refine w_c ?_
  | with_reducible refine w_op ?_
  | with_reducible refine w_cons ?_
  | with_reducible refine w_nil ?_
  | with_reducible refine w_gname ?_
  | with_reducible refine w_cb ?_
  | with_reducible refine w_I0 ?_
  | with_reducible refine w_bl ?_
  | ((with_reducible refine' w_ixL ?s0 ?s1 ?q); (case s0 => assumption); (case s1 => rfl))
  | ((with_reducible refine' w_ixT ?s0 ?s1 ?q); (case s0 => assumption); (case s1 => rfl))
  | with_reducible refine w_gsub ?_
  | with_reducible refine w_ifS ?_
  | with_reducible refine w_test ?_
  | with_reducible refine w_call ?_
  | with_reducible refine w_ret ?_
  | with_reducible refine w_int1 ?_
  | with_reducible refine w_int ?_
  | with_reducible refine w_next ?_
  | with_reducible refine w_drop ?_
  | ((with_reducible refine' w_mod ?s0 ?q); (case s0 => omega))
  | ((with_reducible refine' w_div ?s0 ?q); (case s0 => omega))
  | ((with_reducible refine' w_mul ?s0 ?q); (case s0 => omega))
  | ((with_reducible refine' w_pow ?s0 ?q); (case s0 => decide))
  | with_reducible refine w_B ?_
  | with_reducible refine w_and ?_
  | with_reducible refine w_or ?_
  | with_reducible refine w_not ?_
  | with_reducible refine w_T ?_
  | with_reducible refine w_F ?_
  | with_reducible refine w_nT ?_
  | with_reducible refine w_nF ?_
  | with_reducible refine w_un ?_
  | with_reducible refine w_U ?_
  | with_reducible refine w_if ?_
  | with_reducible refine w_lst ?_
  | with_reducible refine w_tup ?_
  | with_reducible refine w_sl ?_
  | with_reducible refine w_part ?_
  | with_reducible refine w_nopart ?_
  | with_reducible refine w_eqI ?_
  | with_reducible refine w_neI ?_
  | with_reducible refine w_eqS ?_
  | with_reducible refine w_neS ?_
  | with_reducible refine w_abs ?_
  | with_reducible refine w_max2 ?_
  | with_reducible refine w_min2 ?_
  | ((with_reducible refine' w_lenL ?s0 ?q); (case s0 => assumption))
  | ((with_reducible refine' w_lenH ?s0 ?q); (case s0 => assumption))
  | ((with_reducible refine' w_lenT ?s0 ?q); (case s0 => assumption))
  | ((with_reducible refine' w_lenS ?s0 ?q); (case s0 => first | assumption | omega | decide +kernel))
  | with_reducible refine w_inC ?_
  | with_reducible refine w_ninC ?_
  | with_reducible refine w_m1 ?_
  | with_reducible refine w_m0 ?_
  | with_reducible refine w_isstr ?_
  | with_reducible refine w_andV ?_
  | with_reducible refine w_orV ?_
  | with_reducible refine w_notV ?_
  | with_reducible refine w_chain ?_
  | with_reducible refine w_retN ?_
  | with_reducible refine w_break ?_
  | with_reducible refine w_cont ?_
  | with_reducible refine w_yes ?_
  | with_reducible refine w_for ?_
  | with_reducible refine w_lc ?_
  | with_reducible refine w_iList ?_
  | with_reducible refine w_iTup ?_
  | with_reducible refine w_iStr ?_
  | with_reducible refine w_iR1 ?_
  | with_reducible refine w_iR2 ?_
  | ((with_reducible refine' w_onL ?s0 ?q); (case s0 => assumption))
  | ((with_reducible refine' w_onQ ?s0 ?q); (case s0 => assumption))
  | ((with_reducible refine' w_onT ?s0 ?q); (case s0 => assumption))
  | ((with_reducible refine' w_onU ?s0 ?q); (case s0 => assumption))
  | with_reducible refine w_onS ?_
  | ((with_reducible refine' w_onR1 ?s0 ?q); (case s0 => omega))
  | ((with_reducible refine' w_onR2 ?s0 ?q); (case s0 => omega))
  | with_reducible refine w_revL ?_
  | ((with_reducible refine' w_all ?s0 ?q); (case s0 => assumption))
  | ((with_reducible refine' w_any ?s0 ?q); (case s0 => assumption))
  | with_reducible refine w_bm ?_
  | with_reducible refine w_bm0 ?_
  | ((with_reducible refine' w_islst ?s0 ?q); (case s0 => assumption))
  | with_reducible refine w_kw ?_
  | ((with_reducible refine' w_isi ?s0 ?s1 ?q); (case s0 => assumption); (case s1 => assumption))
  | ((with_reducible refine' w_addS ?s0 ?q); (case s0 => first | omega | decide +kernel))
  | with_reducible refine w_dnew ?_
  | with_reducible refine w_pnil ?_
  | with_reducible refine w_pcons ?_
  | ((with_reducible refine' w_slS ?s0 ?q); (case s0 => first | assumption | omega))
  | ((with_reducible refine' w_inLS ?s0 ?q); (case s0 => assumption))
  | ((with_reducible refine' w_ninLS ?s0 ?q); (case s0 => assumption))
  | ((with_reducible refine' w_inTS ?s0 ?q); (case s0 => assumption))
  | with_reducible refine w_par ?_
  | with_reducible refine w_parEnd ?_
  | with_reducible refine w_fld ?_
  | with_reducible refine w_e1 ?_
  | with_reducible refine w_e2 ?_
  | with_reducible refine w_par3 ?_
  | with_reducible refine w_parEnd3 ?_
  | ((with_reducible refine' w_upper ?s0 ?q); (case s0 => first | assumption | omega | decide +kernel))
  | with_reducible refine w_fldT ?_
  | with_reducible refine w_setT ?_
  | with_reducible refine w_fs ?_
  | with_reducible refine w_jsC ?_
  | with_reducible refine w_js0 ?_
  | with_reducible refine w_fmtT ?_
  | with_reducible refine w_dinT ?_
  | with_reducible refine w_dninT ?_
  | with_reducible refine w_dputT ?_
  | with_reducible refine w_dgetT ?_
  | with_reducible refine w_dget2T ?_
  | with_reducible refine w_setdT ?_
  | with_reducible refine w_mkK ?_
  | with_reducible refine w_mkR ?_
  | with_reducible refine w_dcT ?_
  | ((with_reducible refine' w_ninTS ?s0 ?q); (case s0 => assumption))
  | with_reducible refine w_strS ?_
  | with_reducible refine w_star ?_
  | with_reducible refine w_iE ?_
  | with_reducible refine w_metK ?_
  | with_reducible refine w_met ?_
  | with_reducible refine w_stat ?_
  | dsimp only [wipe, List.set_cons_zero, List.set_cons_succ])
local macro_rules | `(tactic| walk_at "w") => `(tactic| repeat walk_at "w1")
/-! ### a shape's text says its links and marks -/
theorem cut_inj {c : Nat} : ∀ {p q X Y : List Nat}, c ∉ p → c ∉ q → p ++ c :: X = q ++ c :: Y → p = q ∧ X = Y
  | [], [], _, _, _, _, e => ⟨rfl, (List.cons.inj e).2⟩
  | [], b :: q, _, _, _, h2, e => absurd (List.mem_cons.mpr (.inl (List.cons.inj e).1)) h2
  | a :: p, [], _, _, h1, _, e => absurd (List.mem_cons.mpr (.inl (List.cons.inj e).1.symm)) h1
  | a :: p, b :: q, _, _, h1, h2, e => by
    obtain ⟨e1, e2⟩ := List.cons.inj e
    obtain ⟨e3, e4⟩ := cut_inj (fun m => h1 (List.mem_cons_of_mem _ m)) (fun m => h2 (List.mem_cons_of_mem _ m)) e2
    exact ⟨by rw [e1, e3], e4⟩
theorem joinL_inj {c : Nat} : ∀ {xs ys : List (List Nat)}, (∀ x ∈ xs, c ∉ x) → (∀ y ∈ ys, c ∉ y) → xs ≠ [] → ys ≠ [] → TL.joinL [c] xs = TL.joinL [c] ys → xs = ys
  | [], _, _, _, n, _, _ => absurd rfl n
  | _, [], _, _, _, n, _ => absurd rfl n
  | [p], [q], _, _, _, _, e => by rw [show p = q from e]
  | [p], q :: q2 :: r, h1, _, _, _, e => by
    have e2 : p = q ++ ([c] ++ TL.joinL [c] (q2 :: r)) := e
    exact absurd (by rw [e2]; simp) (h1 p List.mem_cons_self)
  | p :: p2 :: r, [q], _, h2, _, _, e => by
    have e2 : p ++ ([c] ++ TL.joinL [c] (p2 :: r)) = q := e
    exact absurd (by rw [← e2]; simp) (h2 q List.mem_cons_self)
  | p :: p2 :: r, q :: q2 :: s, h1, h2, _, _, e => by
    have e2 : p ++ c :: TL.joinL [c] (p2 :: r) = q ++ c :: TL.joinL [c] (q2 :: s) := e
    obtain ⟨e3, e4⟩ := cut_inj (h1 p List.mem_cons_self) (h2 q List.mem_cons_self) e2
    rw [e3, joinL_inj (fun x m => h1 x (List.mem_cons_of_mem _ m)) (fun y m => h2 y (List.mem_cons_of_mem _ m)) (List.cons_ne_nil _ _) (List.cons_ne_nil _ _) e4]
theorem map_inj_mem {α β : Type} {f : α → β} : ∀ {xs ys : List α}, (∀ x ∈ xs, ∀ y ∈ ys, f x = f y → x = y) → xs.map f = ys.map f → xs = ys
  | [], [], _, _ => rfl
  | [], _ :: _, _, e => by cases e
  | _ :: _, [], _, e => by cases e
  | x :: xs, y :: ys, h, e => by
    obtain ⟨e1, e2⟩ := List.cons.inj e
    rw [h x List.mem_cons_self y List.mem_cons_self e1, map_inj_mem (fun a ha b hb => h a (List.mem_cons_of_mem _ ha) b (List.mem_cons_of_mem _ hb)) e2]
theorem two_inj {α : Type} {P : α → Bool} {A B A' B' : List α} (h1 : ∀ x ∈ A, P x = true) (h2 : ∀ x ∈ B, P x = false) (h3 : ∀ x ∈ A', P x = true) (h4 : ∀ x ∈ B', P x = false) (e : A ++ B = A' ++ B') : A = A' ∧ B = B' := by
  have f : ∀ {A B : List α}, (∀ x ∈ A, P x = true) → (∀ x ∈ B, P x = false) → (A ++ B).filter P = A := fun {A B} a b => by
    rw [List.filter_append, List.filter_eq_self.mpr a, List.filter_eq_nil_iff.mpr fun x hx => by rw [b x hx]; exact Bool.false_ne_true, List.append_nil]
  have eA : A = A' := by rw [← f h1 h2, e, f h3 h4]
  subst eA
  exact ⟨rfl, List.append_cancel_left e⟩
theorem tl_app (a b : Str) : TL.tl (a ++ b) = TL.tl a ++ TL.tl b := Array.toList_append
theorem name_no {z : Str} (h : nameS z = true) {c : Nat} (n : c ∉ k__SIGNS.cps.toList) : c ∉ TL.tl z := fun m => by
  obtain ⟨c0, cs, e, _, h2, _⟩ := name_is h
  have m2 : c ∈ z.cps.toList := m
  rw [e] at m2
  exact n (h2 c m2)
theorem no32 : (32 : Nat) ∉ k__SIGNS.cps.toList := by decide +kernel
theorem no61 : (61 : Nat) ∉ k__SIGNS.cps.toList := by decide +kernel
theorem no62 : (62 : Nat) ∉ k__SIGNS.cps.toList := by decide +kernel
theorem tl_link (l : PP) : TL.tl (linkS l) = TL.tl l.1 ++ 62 :: TL.tl l.2 := by
  rw [linkS, tl_app, tl_app, tl_app, show TL.tl Str.empty = [] from rfl, show TL.tl (Str.ofString ">") = [62] from by decide +kernel]
  simp
theorem tl_mark (l : PP) : TL.tl (markS l) = TL.tl l.1 ++ 61 :: TL.tl l.2 := by
  rw [markS, tl_app, tl_app, tl_app, show TL.tl Str.empty = [] from rfl, show TL.tl (Str.ofString "=") = [61] from by decide +kernel]
  simp
theorem tl_ext {a b : Str} (e : TL.tl a = TL.tl b) : a = b := TL.ext_tl e
theorem tl_text (level : Str) (ls ms : List PP) : TL.tl (textS level ls ms) = TL.joinL [32] ((partsS level ls ms).map TL.tl) := by
  rw [textS, TL.join_eq, TL.tl_join, show TL.tl (Str.ofString " ") = [32] from by decide +kernel]
theorem joinL_len {c : Nat} : ∀ xs : List (List Nat), (TL.joinL [c] xs).length ≤ (xs.map (·.length)).sum + xs.length
  | [] => Nat.le_refl _
  | [p] => by simp [TL.joinL]
  | p :: q :: r => by
    have ih := joinL_len (c := c) (q :: r)
    show (p ++ ([c] ++ TL.joinL [c] (q :: r))).length ≤ _
    rw [List.length_append, List.length_append, List.map_cons, List.sum_cons, List.length_cons (a := p)]
    show _ + (1 + _) ≤ _
    omega
section
variable {level level' : Str} {ls ms ls' ms' : List PP}
theorem GoodSh.l (G : GoodSh level ls ms) {l : PP} (h : l ∈ srtP ls) : nameS l.1 = true ∧ nameS l.2 = true := by
  have g := G.links.each l ((srtP_perm ls).mem_iff.mp h)
  exact ⟨g.1, g.2.1⟩
theorem GoodSh.m (G : GoodSh level ls ms) {l : PP} (h : l ∈ srtP ms) : nameS l.1 = true ∧ nameS l.2 = true := by
  have g := G.marks l ((srtP_perm ms).mem_iff.mp h)
  exact ⟨rch_name G g.1, g.2⟩
theorem GoodSh.parts (G : GoodSh level ls ms) : ∀ x ∈ (partsS level ls ms).map TL.tl, (32 : Nat) ∉ x := by
  intro x hx
  obtain ⟨y, hy, rfl⟩ := List.mem_map.mp hx
  rcases List.mem_cons.mp hy with rfl | hy
  · exact name_no G.lev no32
  · rcases List.mem_append.mp hy with hy | hy
    · obtain ⟨l, hl, rfl⟩ := List.mem_map.mp hy
      have n := G.l hl
      rw [tl_link]
      simp [name_no n.1 no32, name_no n.2 no32]
    · obtain ⟨l, hl, rfl⟩ := List.mem_map.mp hy
      have n := G.m hl
      rw [tl_mark]
      simp [name_no n.1 no32, name_no n.2 no32]
theorem text_inj (G : GoodSh level ls ms) (G' : GoodSh level' ls' ms') (e : textS level ls ms = textS level' ls' ms') : srtP ls = srtP ls' ∧ srtP ms = srtP ms' := by
  have e1 := congrArg TL.tl e
  rw [tl_text, tl_text] at e1
  have e2 := joinL_inj G.parts G'.parts (by simp [partsS]) (by simp [partsS]) e1
  rw [partsS, partsS, List.map_cons, List.map_cons, List.map_append, List.map_append, List.map_map, List.map_map, List.map_map, List.map_map] at e2
  have e3 := (List.cons.inj e2).2
  have hl : ∀ {level : Str} {ls ms : List PP}, GoodSh level ls ms → ∀ x ∈ (srtP ls).map (TL.tl ∘ linkS), decide ((62 : Nat) ∈ x) = true := fun {level ls ms} G x hx => by
    obtain ⟨l, hl, rfl⟩ := List.mem_map.mp hx
    show decide ((62 : Nat) ∈ TL.tl (linkS l)) = true
    rw [tl_link]
    simp
  have hm : ∀ {level : Str} {ls ms : List PP}, GoodSh level ls ms → ∀ x ∈ (srtP ms).map (TL.tl ∘ markS), decide ((62 : Nat) ∈ x) = false := fun {level ls ms} G x hx => by
    obtain ⟨l, hl, rfl⟩ := List.mem_map.mp hx
    show decide ((62 : Nat) ∈ TL.tl (markS l)) = false
    have n := G.m hl
    rw [tl_mark]
    simp [name_no n.1 no62, name_no n.2 no62]
  obtain ⟨e4, e5⟩ := two_inj (P := fun x => decide ((62 : Nat) ∈ x)) (hl G) (hm G) (hl G') (hm G') e3
  refine ⟨map_inj_mem (fun x hx y hy e => ?_) e4, map_inj_mem (fun x hx y hy e => ?_) e5⟩
  · have e : TL.tl (linkS x) = TL.tl (linkS y) := e
    rw [tl_link, tl_link] at e
    obtain ⟨a, b⟩ := cut_inj (name_no (G.l hx).1 no62) (name_no (G'.l hy).1 no62) e
    exact Prod.ext (tl_ext a) (tl_ext b)
  · have e : TL.tl (markS x) = TL.tl (markS y) := e
    rw [tl_mark, tl_mark] at e
    obtain ⟨a, b⟩ := cut_inj (name_no (G.m hx).1 no61) (name_no (G'.m hy).1 no61) e
    exact Prod.ext (tl_ext a) (tl_ext b)
/-- its parts are few and short -/
theorem GoodSh.few' (G : GoodSh level ls ms) : (partsS level ls ms).length ≤ 121 ∧ ∀ y ∈ partsS level ls ms, y.length ≤ 17 := by
  refine ⟨?_, fun y hy => ?_⟩
  · have h1 := (srtP_perm ls).length_eq
    have h2 := (srtP_perm ms).length_eq
    have h3 := G.links.few
    have h4 := G.few
    rw [partsS, List.length_cons, List.length_append, List.length_map, List.length_map]
    omega
  · rcases List.mem_cons.mp hy with rfl | hy
    · have := (name_len G.lev).2
      omega
    · rcases List.mem_append.mp hy with hy | hy
      · obtain ⟨l, hl, rfl⟩ := List.mem_map.mp hy
        have h1 := (name_len (G.l hl).1).2
        have h2 := (name_len (G.l hl).2).2
        rw [linkS, app_len, app_len, app_len]
        show 0 + _ + 1 + _ ≤ _
        omega
      · obtain ⟨l, hl, rfl⟩ := List.mem_map.mp hy
        have h1 := (name_len (G.m hl).1).2
        have h2 := (name_len (G.m hl).2).2
        rw [markS, app_len, app_len, app_len]
        show 0 + _ + 1 + _ ≤ _
        omega
theorem GoodSh.text (G : GoodSh level ls ms) : (textS level ls ms).length ≤ 3000 := by
  obtain ⟨h1, h2⟩ := G.few'
  have h3 := sum_few _ h2
  have h4 := joinL_len (c := 32) ((partsS level ls ms).map TL.tl)
  rw [← tl_text, List.map_map, List.length_map] at h4
  have h5 : (List.map ((fun x : List Nat => x.length) ∘ TL.tl) (partsS level ls ms)) = (partsS level ls ms).map fun y => y.length := List.map_congr_left fun y _ => rfl
  rw [h5] at h4
  have h6 : (textS level ls ms).length = (TL.tl (textS level ls ms)).length := rfl
  omega
end

end RT
set_option Elab.async false
set_option linter.all false
set_option maxRecDepth 100000
set_option maxHeartbeats 4000000
namespace RT
open PySem PySem.Spec PyProof.Rows L2
local macro_rules | `(tactic| walk_at "w0") => `(tactic| dsimp only [L2.start, cxOf, Cx.nox, Cx.wish, List.map, List.length_cons, List.length_nil, List.replicate_succ, List.replicate_zero, List.cons_append, List.nil_append, Nat.reduceAdd, Nat.reduceSub, List.set_cons_zero, List.set_cons_succ])
local macro_rules | `(tactic| walk_at "w1") => `(tactic| first
  | with_reducible refine w_seq ?_
  | with_reducible refine w_asg ?_
  | with_reducible refine w_var rfl ?_
  | with_reducible refine w_c ?_
  | with_reducible refine w_op ?_
  | with_reducible refine w_cons ?_
  | with_reducible refine w_nil ?_
  | with_reducible refine w_gname ?_
  | with_reducible refine w_cb ?_
  | with_reducible refine w_I0 ?_
  | with_reducible refine w_bl ?_
  | ((with_reducible refine' w_ixL ?s0 ?s1 ?q); (case s0 => assumption); (case s1 => rfl))
  | ((with_reducible refine' w_ixT ?s0 ?s1 ?q); (case s0 => assumption); (case s1 => rfl))
  | with_reducible refine w_gsub ?_
  | with_reducible refine w_ifS ?_
  | with_reducible refine w_test ?_
  | with_reducible refine w_call ?_
  | with_reducible refine w_ret ?_
  | with_reducible refine w_int1 ?_
  | with_reducible refine w_int ?_
  | with_reducible refine w_next ?_
  | with_reducible refine w_drop ?_
  | ((with_reducible refine' w_mod ?s0 ?q); (case s0 => omega))
  | ((with_reducible refine' w_div ?s0 ?q); (case s0 => omega))
  | ((with_reducible refine' w_mul ?s0 ?q); (case s0 => omega))
  | ((with_reducible refine' w_pow ?s0 ?q); (case s0 => decide))
  | with_reducible refine w_B ?_
  | with_reducible refine w_and ?_
  | with_reducible refine w_or ?_
  | with_reducible refine w_not ?_
  | with_reducible refine w_T ?_
  | with_reducible refine w_F ?_
  | with_reducible refine w_nT ?_
  | with_reducible refine w_nF ?_
  | with_reducible refine w_un ?_
  | with_reducible refine w_U ?_
  | with_reducible refine w_if ?_
  | with_reducible refine w_lst ?_
  | with_reducible refine w_tup ?_
  | with_reducible refine w_sl ?_
  | with_reducible refine w_part ?_
  | with_reducible refine w_nopart ?_
  | with_reducible refine w_eqI ?_
  | with_reducible refine w_neI ?_
  | with_reducible refine w_eqS ?_
  | with_reducible refine w_neS ?_
  | with_reducible refine w_abs ?_
  | with_reducible refine w_max2 ?_
  | with_reducible refine w_min2 ?_
  | ((with_reducible refine' w_lenL ?s0 ?q); (case s0 => assumption))
  | ((with_reducible refine' w_lenH ?s0 ?q); (case s0 => assumption))
  | ((with_reducible refine' w_lenT ?s0 ?q); (case s0 => assumption))
  | ((with_reducible refine' w_lenS ?s0 ?q); (case s0 => first | assumption | omega | decide +kernel))
  | with_reducible refine w_inC ?_
  | with_reducible refine w_ninC ?_
  | with_reducible refine w_m1 ?_
  | with_reducible refine w_m0 ?_
  | with_reducible refine w_isstr ?_
  | with_reducible refine w_andV ?_
  | with_reducible refine w_orV ?_
  | with_reducible refine w_notV ?_
  | with_reducible refine w_chain ?_
  | with_reducible refine w_retN ?_
  | with_reducible refine w_break ?_
  | with_reducible refine w_cont ?_
  | with_reducible refine w_yes ?_
  | with_reducible refine w_for ?_
  | with_reducible refine w_lc ?_
  | with_reducible refine w_iList ?_
  | with_reducible refine w_iTup ?_
  | with_reducible refine w_iStr ?_
  | with_reducible refine w_iR1 ?_
  | with_reducible refine w_iR2 ?_
  | ((with_reducible refine' w_onL ?s0 ?q); (case s0 => assumption))
  | ((with_reducible refine' w_onQ ?s0 ?q); (case s0 => assumption))
  | ((with_reducible refine' w_onT ?s0 ?q); (case s0 => assumption))
  | ((with_reducible refine' w_onU ?s0 ?q); (case s0 => assumption))
  | with_reducible refine w_onS ?_
  | ((with_reducible refine' w_onR1 ?s0 ?q); (case s0 => omega))
  | ((with_reducible refine' w_onR2 ?s0 ?q); (case s0 => omega))
  | with_reducible refine w_revL ?_
  | ((with_reducible refine' w_all ?s0 ?q); (case s0 => assumption))
  | ((with_reducible refine' w_any ?s0 ?q); (case s0 => assumption))
  | with_reducible refine w_bm ?_
  | with_reducible refine w_bm0 ?_
  | ((with_reducible refine' w_islst ?s0 ?q); (case s0 => assumption))
  | with_reducible refine w_kw ?_
  | ((with_reducible refine' w_isi ?s0 ?s1 ?q); (case s0 => assumption); (case s1 => assumption))
  | ((with_reducible refine' w_addS ?s0 ?q); (case s0 => first | omega | decide +kernel))
  | with_reducible refine w_dnew ?_
  | with_reducible refine w_pnil ?_
  | with_reducible refine w_pcons ?_
  | ((with_reducible refine' w_slS ?s0 ?q); (case s0 => first | assumption | omega))
  | ((with_reducible refine' w_inLS ?s0 ?q); (case s0 => assumption))
  | ((with_reducible refine' w_ninLS ?s0 ?q); (case s0 => assumption))
  | ((with_reducible refine' w_inTS ?s0 ?q); (case s0 => assumption))
  | with_reducible refine w_par ?_
  | with_reducible refine w_parEnd ?_
  | with_reducible refine w_fld ?_
  | with_reducible refine w_e1 ?_
  | with_reducible refine w_e2 ?_
  | with_reducible refine w_par3 ?_
  | with_reducible refine w_parEnd3 ?_
  | ((with_reducible refine' w_upper ?s0 ?q); (case s0 => first | assumption | omega | decide +kernel))
  | with_reducible refine w_fldT ?_
  | with_reducible refine w_setT ?_
  | with_reducible refine w_fs ?_
  | with_reducible refine w_jsC ?_
  | with_reducible refine w_js0 ?_
  | with_reducible refine w_fmtT ?_
  | with_reducible refine w_dinT ?_
  | with_reducible refine w_dninT ?_
  | with_reducible refine w_dputT ?_
  | with_reducible refine w_dgetT ?_
  | with_reducible refine w_dget2T ?_
  | with_reducible refine w_setdT ?_
  | with_reducible refine w_mkK ?_
  | with_reducible refine w_mkR ?_
  | with_reducible refine w_dcT ?_
  | ((with_reducible refine' w_ninTS ?s0 ?q); (case s0 => assumption))
  | with_reducible refine w_strS ?_
  | with_reducible refine w_star ?_
  | with_reducible refine w_iE ?_
  | with_reducible refine w_metK ?_
  | with_reducible refine w_met ?_
  | with_reducible refine w_stat ?_
  | dsimp only [wipe, List.set_cons_zero, List.set_cons_succ])
local macro_rules | `(tactic| walk_at "w") => `(tactic| repeat walk_at "w1")
/-! ### its methods -/
structure ShK (K : PySem.W.Frag) (mg : Str → Option Value) (C : Addr) : Prop where
  h : mg "Shape" = some (.ref C)
  kS : PySem.W.kitOne K (.type "str") (.ref C) = some false
  kT : PySem.W.kitOne K (.type "tuple") (.ref C) = some false
  kI : PySem.W.kitOne K (.type "int") (.ref C) = some false
  nO : PySem.W.notFirst K C (.ref C) = true
  nS : PySem.W.notFirst K C (.type "str") = true
  nT : PySem.W.notFirst K C (.type "tuple") = true
  nI : PySem.W.notFirst K C (.type "int") = true
def spShStr (C : Addr) : Sp := fun vs H Q _ => ∃ x level ls ms, vs = [.ref x] ∧ ShO C H x level ls ms ∧ GoodSh level ls ms ∧ Q (.str (textS level ls ms)) H
def reprT (t : Str) : Str := Str.empty ++ Str.ofString "Shape(" ++ t ++ Str.ofString ")"
def spShRepr (C : Addr) : Sp := fun vs H Q _ => ∃ x level ls ms, vs = [.ref x] ∧ ShO C H x level ls ms ∧ GoodSh level ls ms ∧ Q (.str (reprT (textS level ls ms))) H
def spShEq (K : PySem.W.Frag) (C : Addr) : Sp := fun vs H Q _ => ∃ x level ls ms y, vs = [.ref x, y] ∧ ShO C H x level ls ms ∧
  ((∃ x' level' ls' ms', y = .ref x' ∧ ShO C H x' level' ls' ms' ∧ Q (.bl (decide (textS level ls ms = textS level' ls' ms'))) H) ∨ ∃ t, TyX K H y t ∧ PySem.W.kitOne K t (.ref C) = some false ∧ Q (.bl false) H)
abbrev s_Shape___eq__ : Stmt := inClass (topS 21) 9
theorem sc_Shape___eq__ : FnScope ["self", "other"] ["self", "other"] (defScope s_Shape___eq__) := ⟨rfl, rfl, rfl, by decide +kernel, rfl, by decide +kernel, by decide +kernel⟩
abbrev s_Shape___str__ : Stmt := inClass (topS 21) 10
theorem sc_Shape___str__ : FnScope ["self"] ["self"] (defScope s_Shape___str__) := ⟨rfl, rfl, rfl, by decide +kernel, rfl, by decide +kernel, by decide +kernel⟩
abbrev s_Shape___repr__ : Stmt := inClass (topS 21) 11
theorem sc_Shape___repr__ : FnScope ["self"] ["self"] (defScope s_Shape___repr__) := ⟨rfl, rfl, rfl, by decide +kernel, rfl, by decide +kernel, by decide +kernel⟩
section
variable {P : Program} {w : World} {K : PySem.W.Frag} {mg : Str → Option Value} {base : Heap} {C : Addr}
theorem m_str {f : Addr} {fd : FuncData} (F : Fun K "__str__" "Shape.__str__" s_Shape___str__ f fd) (O_Shape : OSh K C) (T : Txt K mg) : FnOk P w K mg base CX0 1 f fd ["self"] (spShStr C) := by
  refine F.ok sc_Shape___str__ (fun vs H Q E h => ?_) (fun cdv A outer s H vs Q E hr h => ?_)
  · obtain ⟨x, level, ls, ms, rfl, _⟩ := h
    rfl
  · obtain ⟨x, level, ls, ms, rfl, ⟨dx, pl, pk, pm, lv, wl, wm, hx, _⟩, G, q⟩ := h
    refine ⟨_, (pss_one (ps_ret (pe_callTy (c_strS) (by rfl) T.z_str (by decide +kernel) (pa_cons (pe_fldC O_Shape.c O_Shape.f__text (pv 0)) pa_nil)))), ?_⟩
    walk_at "w0"
    walk_at "w"
    refine w_fldC hx (by rfl) ?_
    walk_at "w"
    exact q
theorem m_repr {f : Addr} {fd : FuncData} (F : Fun K "__repr__" "Shape.__repr__" s_Shape___repr__ f fd) (O_Shape : OSh K C) (T : Txt K mg) : FnOk P w K mg base CX0 1 f fd ["self"] (spShRepr C) := by
  refine F.ok sc_Shape___repr__ (fun vs H Q E h => ?_) (fun cdv A outer s H vs Q E hr h => ?_)
  · obtain ⟨x, level, ls, ms, rfl, _⟩ := h
    rfl
  · obtain ⟨x, level, ls, ms, rfl, ⟨dx, pl, pk, pm, lv, wl, wm, hx, _⟩, G, q⟩ := h
    refine ⟨_, (pss_one (ps_ret (pe_fs (PJ.cons pe_str (PJ.cons (pe_fmt (pe_fldC O_Shape.c O_Shape.f__text (pv 0))) (PJ.cons pe_str PJ.nil)))))), ?_⟩
    walk_at "w0"
    walk_at "w"
    have tl := G.text
    refine w_jsA (by rw [app_len]; show 0 + 6 ≤ _; omega) ?_
    walk_at "w"
    refine w_fldC hx (by rfl) ?_
    refine w_fmt (by omega) ?_
    refine w_jsA (by rw [app_len, app_len]; show 0 + 6 + _ ≤ _; omega) ?_
    walk_at "w"
    refine w_jsA (by rw [app_len, app_len, app_len]; show 0 + 6 + _ + 1 ≤ _; omega) ?_
    exact q
theorem m_eq {f : Addr} {fd : FuncData} (F : Fun K "__eq__" "Shape.__eq__" s_Shape___eq__ f fd) (O_Shape : OSh K C) (h_Shape : mg "Shape" = some (.ref C)) (T : Txt K mg) : FnOk P w K mg base CX0 1 f fd ["self", "other"] (spShEq K C) := by
  refine F.ok sc_Shape___eq__ (fun vs H Q E h => ?_) (fun cdv A outer s H vs Q E hr h => ?_)
  · obtain ⟨x, level, ls, ms, y, rfl, _⟩ := h
    rfl
  · obtain ⟨x, level, ls, ms, y, rfl, ⟨dx, pl, pk, pm, lv, wl, wm, hx, _⟩, h⟩ := h
    refine ⟨_, (pss_one (ps_ret (pe_and (pe_callB (k_isi (K := K)) (by rfl) T.z_isinstance (by decide +kernel) (pa_cons (pv 1) (pa_cons (pe_own h_Shape (by rfl)) pa_nil))) (pe_one (pe_cmpR op_eq (pe_fldC O_Shape.c O_Shape.f__text (pv 0)) (pe_fldC O_Shape.c O_Shape.f__text (pv 1)) (nomark _)))))), ?_⟩
    walk_at "w0"
    walk_at "w"
    have I := O_Shape.c.ins
    rcases h with ⟨x', level', ls', ms', rfl, ⟨dx', pl', pk', pm', lv', wl', wm', hx', _⟩, q⟩ | ⟨t, ty, e, q⟩
    · refine ⟨_, _, _, _, true, rfl, .own C, .base (.ins hx' I.cl I.ha I.hn I.htk I.hm), I.me, true, rfl, iteT ?_⟩
      walk_at "w"
      refine w_fldC hx (by rfl) ?_
      walk_at "w"
      refine w_fldC hx' (by rfl) ?_
      walk_at "w"
      exact q
    · refine ⟨_, _, _, _, false, rfl, .own C, ty, e, false, rfl, iteF ?_⟩
      exact q
end

end RT
set_option Elab.async false
set_option linter.all false
set_option maxRecDepth 100000
set_option maxHeartbeats 4000000
namespace RT
open PySem PySem.Spec PyProof.Rows L2
local macro_rules | `(tactic| walk_at "w0") => `(tactic| dsimp only [L2.start, cxOf, Cx.nox, Cx.wish, List.map, List.length_cons, List.length_nil, List.replicate_succ, List.replicate_zero, List.cons_append, List.nil_append, Nat.reduceAdd, Nat.reduceSub, List.set_cons_zero, List.set_cons_succ])
local macro_rules | `(tactic| walk_at "w1") => `(tactic| first
  | with_reducible refine w_seq ?_
  | with_reducible refine w_asg ?_
  | with_reducible refine w_var rfl ?_
  | with_reducible refine w_c ?_
  | with_reducible refine w_op ?_
  | with_reducible refine w_cons ?_
  | with_reducible refine w_nil ?_
  | with_reducible refine w_gname ?_
  | with_reducible refine w_cb ?_
  | with_reducible refine w_I0 ?_
  | with_reducible refine w_bl ?_
  | ((with_reducible refine' w_ixL ?s0 ?s1 ?q); (case s0 => assumption); (case s1 => rfl))
  | ((with_reducible refine' w_ixT ?s0 ?s1 ?q); (case s0 => assumption); (case s1 => rfl))
  | with_reducible refine w_gsub ?_
  | with_reducible refine w_ifS ?_
  | with_reducible refine w_test ?_
  | with_reducible refine w_call ?_
  | with_reducible refine w_ret ?_
  | with_reducible refine w_int1 ?_
  | with_reducible refine w_int ?_
  | with_reducible refine w_next ?_
  | with_reducible refine w_drop ?_
  | ((with_reducible refine' w_mod ?s0 ?q); (case s0 => omega))
  | ((with_reducible refine' w_div ?s0 ?q); (case s0 => omega))
  | ((with_reducible refine' w_mul ?s0 ?q); (case s0 => omega))
  | ((with_reducible refine' w_pow ?s0 ?q); (case s0 => decide))
  | with_reducible refine w_B ?_
  | with_reducible refine w_and ?_
  | with_reducible refine w_or ?_
  | with_reducible refine w_not ?_
  | with_reducible refine w_T ?_
  | with_reducible refine w_F ?_
  | with_reducible refine w_nT ?_
  | with_reducible refine w_nF ?_
  | with_reducible refine w_un ?_
  | with_reducible refine w_U ?_
  | with_reducible refine w_if ?_
  | with_reducible refine w_lst ?_
  | with_reducible refine w_tup ?_
  | with_reducible refine w_sl ?_
  | with_reducible refine w_part ?_
  | with_reducible refine w_nopart ?_
  | with_reducible refine w_eqI ?_
  | with_reducible refine w_neI ?_
  | with_reducible refine w_eqS ?_
  | with_reducible refine w_neS ?_
  | with_reducible refine w_abs ?_
  | with_reducible refine w_max2 ?_
  | with_reducible refine w_min2 ?_
  | ((with_reducible refine' w_lenL ?s0 ?q); (case s0 => assumption))
  | ((with_reducible refine' w_lenH ?s0 ?q); (case s0 => assumption))
  | ((with_reducible refine' w_lenT ?s0 ?q); (case s0 => assumption))
  | ((with_reducible refine' w_lenS ?s0 ?q); (case s0 => first | assumption | omega | decide +kernel))
  | with_reducible refine w_inC ?_
  | with_reducible refine w_ninC ?_
  | with_reducible refine w_m1 ?_
  | with_reducible refine w_m0 ?_
  | with_reducible refine w_isstr ?_
  | with_reducible refine w_andV ?_
  | with_reducible refine w_orV ?_
  | with_reducible refine w_notV ?_
  | with_reducible refine w_chain ?_
  | with_reducible refine w_retN ?_
  | with_reducible refine w_break ?_
  | with_reducible refine w_cont ?_
  | with_reducible refine w_yes ?_
  | with_reducible refine w_for ?_
  | with_reducible refine w_lc ?_
  | with_reducible refine w_iList ?_
  | with_reducible refine w_iTup ?_
  | with_reducible refine w_iStr ?_
  | with_reducible refine w_iR1 ?_
  | with_reducible refine w_iR2 ?_
  | ((with_reducible refine' w_onL ?s0 ?q); (case s0 => assumption))
  | ((with_reducible refine' w_onQ ?s0 ?q); (case s0 => assumption))
  | ((with_reducible refine' w_onT ?s0 ?q); (case s0 => assumption))
  | ((with_reducible refine' w_onU ?s0 ?q); (case s0 => assumption))
  | with_reducible refine w_onS ?_
  | ((with_reducible refine' w_onR1 ?s0 ?q); (case s0 => omega))
  | ((with_reducible refine' w_onR2 ?s0 ?q); (case s0 => omega))
  | with_reducible refine w_revL ?_
  | ((with_reducible refine' w_all ?s0 ?q); (case s0 => assumption))
  | ((with_reducible refine' w_any ?s0 ?q); (case s0 => assumption))
  | with_reducible refine w_bm ?_
  | with_reducible refine w_bm0 ?_
  | ((with_reducible refine' w_islst ?s0 ?q); (case s0 => assumption))
  | with_reducible refine w_kw ?_
  | ((with_reducible refine' w_isi ?s0 ?s1 ?q); (case s0 => assumption); (case s1 => assumption))
  | ((with_reducible refine' w_addS ?s0 ?q); (case s0 => first | omega | decide +kernel))
  | with_reducible refine w_dnew ?_
  | with_reducible refine w_pnil ?_
  | with_reducible refine w_pcons ?_
  | ((with_reducible refine' w_slS ?s0 ?q); (case s0 => first | assumption | omega))
  | ((with_reducible refine' w_inLS ?s0 ?q); (case s0 => assumption))
  | ((with_reducible refine' w_ninLS ?s0 ?q); (case s0 => assumption))
  | ((with_reducible refine' w_inTS ?s0 ?q); (case s0 => assumption))
  | with_reducible refine w_par ?_
  | with_reducible refine w_parEnd ?_
  | with_reducible refine w_fld ?_
  | with_reducible refine w_e1 ?_
  | with_reducible refine w_e2 ?_
  | with_reducible refine w_par3 ?_
  | with_reducible refine w_parEnd3 ?_
  | ((with_reducible refine' w_upper ?s0 ?q); (case s0 => first | assumption | omega | decide +kernel))
  | with_reducible refine w_fldT ?_
  | with_reducible refine w_setT ?_
  | with_reducible refine w_fs ?_
  | with_reducible refine w_jsC ?_
  | with_reducible refine w_js0 ?_
  | with_reducible refine w_fmtT ?_
  | with_reducible refine w_dinT ?_
  | with_reducible refine w_dninT ?_
  | with_reducible refine w_dputT ?_
  | with_reducible refine w_dgetT ?_
  | with_reducible refine w_dget2T ?_
  | with_reducible refine w_setdT ?_
  | with_reducible refine w_mkK ?_
  | with_reducible refine w_mkR ?_
  | with_reducible refine w_dcT ?_
  | ((with_reducible refine' w_ninTS ?s0 ?q); (case s0 => assumption))
  | with_reducible refine w_strS ?_
  | with_reducible refine w_star ?_
  | with_reducible refine w_iE ?_
  | with_reducible refine w_metK ?_
  | with_reducible refine w_met ?_
  | with_reducible refine w_stat ?_
  | dsimp only [wipe, List.set_cons_zero, List.set_cons_succ])
local macro_rules | `(tactic| walk_at "w") => `(tactic| repeat walk_at "w1")
/-! ### all of the class -/
structure ShAll (P : Program) (w : World) (K : PySem.W.Frag) (mg : Str → Option Value) (base : Heap) (C md : Addr) : Prop where
  O : OSh K C
  S : ShK K mg C
  k0 : CalK P w K mg base 5 "Shape" C [] (spStar 2 (fun _ => True) (fun vs _ => vs ++ [.ref md]) (spInit K C))
  k1 : CalK P w K mg base 5 "Shape" C ["marks"] (spStar 2 (fun _ => True) (fun vs zs => vs ++ zs) (spInit K C))
  k2 : CalK P w K mg base 5 "Shape" C ["level"] (spStar 1 (fun n => n = 0) (fun vs zs => vs ++ (zs ++ [.ref md])) (spInit K C))
  k3 : CalK P w K mg base 5 "Shape" C ["marks", "level"] (spStar 1 (fun n => n = 0) (fun vs zs => vs ++ zs.reverse) (spInit K C))
  tup0 : ∀ H, SqT K H md []
  p1 : GetP P w K mg base C "level" "_level"
  p2 : GetP P w K mg base C "levels" "_levels"
  p3 : GetP P w K mg base C "links" "_links"
  p4 : GetP P w K mg base C "marks" "_marks"
  mS : CalM P w K mg base 1 C "__str__" ["self"] (spShStr C)
  mR : CalM P w K mg base 1 C "__repr__" ["self"] (spShRepr C)
  mE : CalM P w K mg base 1 C "__eq__" ["self", "other"] (spShEq K C)
section
variable {K : PySem.W.Frag} {C md : Addr} {H : Hp} {Q : VK} {level : Str} {ls ms : List PP} {rest us : List V} {ma : Addr}
theorem made1 (hr : PairsAt H rest ls) (hm : SqT K H ma us) (hu : PairsAt H us ms) (G : GoodSh level ls ms) (q : ∀ x J, H x = none → Same H J → ShO C J x level ls ms → Q (.ref x) J) :
    aMk C 1 (spStar 2 (fun _ => True) (fun vs zs => vs ++ zs) (spInit K C)) (V.str level :: rest) [.ref ma] H Q := by
  refine ⟨rfl, fun x dx hx hdx ne => ⟨[.ref x, .str level], rest, rfl, rfl, True.intro, ?_, fun p hp => init_at hx hdx ne hp hr hm hu G q⟩⟩
  have := hr.len
  have := G.links.few
  rw [sizeLine_eq]
  omega
theorem made0 (hr : PairsAt H rest ls) (hm : SqT K H md []) (G : GoodSh level ls []) (q : ∀ x J, H x = none → Same H J → ShO C J x level ls [] → Q (.ref x) J) :
    aMk0 C (spStar 2 (fun _ => True) (fun vs _ => vs ++ [.ref md]) (spInit K C)) (V.str level :: rest) H Q := by
  refine fun x dx hx hdx ne => ⟨[.ref x, .str level], rest, rfl, rfl, True.intro, ?_, fun p hp => init_at hx hdx ne hp hr hm .nil G q⟩
  have := hr.len
  have := G.links.few
  rw [sizeLine_eq]
  omega
theorem made2 (hm : SqT K H md []) (G : GoodSh level [] []) (q : ∀ x J, H x = none → Same H J → ShO C J x level [] [] → Q (.ref x) J) :
    aMk C 1 (spStar 1 (fun n => n = 0) (fun vs zs => vs ++ (zs ++ [.ref md])) (spInit K C)) [] [.str level] H Q :=
  ⟨rfl, fun x dx hx hdx ne => ⟨[.ref x], [], rfl, rfl, rfl, Nat.zero_le _, fun p hp => init_at hx hdx ne hp .nil hm .nil G q⟩⟩
theorem made3 (hm : SqT K H ma us) (hu : PairsAt H us ms) (G : GoodSh level [] ms) (q : ∀ x J, H x = none → Same H J → ShO C J x level [] ms → Q (.ref x) J) :
    aMk C 2 (spStar 1 (fun n => n = 0) (fun vs zs => vs ++ zs.reverse) (spInit K C)) [] [.ref ma, .str level] H Q :=
  ⟨rfl, fun x dx hx hdx ne => ⟨[.ref x], [], rfl, rfl, rfl, Nat.zero_le _, fun p hp => init_at hx hdx ne hp .nil hm hu G q⟩⟩
end
/-! ### what is reached, more of it -/
theorem Rch.mono {ls ms : List PP} {x y : Str} (h : Rch ls x y) (s : ∀ l ∈ ls, l ∈ ms) : Rch ms x y := by
  induction h with
  | refl => exact .refl
  | step _ m ih => exact .step ih (s _ m)
theorem Rch.perm {ls ms : List PP} {x y : Str} (p : ls.Perm ms) : Rch ls x y ↔ Rch ms x y := ⟨fun h => h.mono fun _ hl => p.mem_iff.mp hl, fun h => h.mono fun _ hl => p.mem_iff.mpr hl⟩
theorem ShO.same {C : Addr} {H J : Hp} {x : Addr} {level : Str} {ls ms : List PP} (h : ShO C H x level ls ms) (s : Same H J) : ShO C J x level ls ms := by
  obtain ⟨dx, pl, pk, pm, lv, wl, wm, h1, h2, h3, h4, h5, h6, h7, h8, h9⟩ := h.ex
  exact ⟨dx, pl, pk, pm, lv, wl, wm, s _ _ h1, s _ _ h2, h3, h4, h5, s _ _ h6, h7.same s, s _ _ h8, h9.same s⟩
theorem GoodSh.perm {level : Str} {ls ls' ms ms' : List PP} (G : GoodSh level ls ms) (p : ls'.Perm ls) (q : ms'.Perm ms) : GoodSh level ls' ms' := by
  obtain ⟨rk, hr⟩ := G.rank
  refine ⟨G.lev, ⟨fun l hl => G.links.each l (p.mem_iff.mp hl), p.nodup_iff.mpr G.links.nd, by rw [p.length_eq]; exact G.links.few⟩, ⟨rk, fun l hl => hr l (p.mem_iff.mp hl)⟩, fun l hl => (Rch.perm p).mpr (G.top l (p.mem_iff.mp hl)), fun m hm => ?_, ?_, by rw [q.length_eq]; exact G.few⟩
  · have g := G.marks m (q.mem_iff.mp hm)
    exact ⟨(Rch.perm p).mpr g.1, g.2⟩
  · exact (q.map _).nodup_iff.mpr G.nd
theorem text_perm {level : Str} {ls ls' ms ms' : List PP} (p : ls'.Perm ls) (q : ms'.Perm ms) : textS level ls' ms' = textS level ls ms := by
  unfold textS partsS
  rw [srtP_eq p, srtP_eq q]
theorem ShO.perm {C : Addr} {J : Hp} {x : Addr} {level : Str} {ls ls' ms ms' : List PP} (h : ShO C J x level ls' ms') (p : ls'.Perm ls) (q : ms'.Perm ms) : ShO C J x level ls ms := by
  obtain ⟨dx, pl, pk, pm, lv, wl, wm, h1, h2, h3, h4, h5, h6, h7, h8, h9⟩ := h.ex
  refine ⟨dx, pl, pk, pm, lv, wl, wm, ?_, h2, h3, h4, fun y => (h5 y).trans (Rch.perm p), h6, ?_, h8, ?_⟩
  · rw [h1, text_perm p q]
  · rw [← srtP_eq p]
    exact h7
  · rw [← srtP_eq q]
    exact h9

end RT
set_option Elab.async false
set_option linter.all false
set_option maxRecDepth 100000
set_option maxHeartbeats 4000000
namespace RT
open PySem PySem.Spec PyProof.Rows L2
local macro_rules | `(tactic| walk_at "w0") => `(tactic| dsimp only [L2.start, cxOf, Cx.nox, Cx.wish, List.map, List.length_cons, List.length_nil, List.replicate_succ, List.replicate_zero, List.cons_append, List.nil_append, Nat.reduceAdd, Nat.reduceSub, List.set_cons_zero, List.set_cons_succ])
local macro_rules | `(tactic| walk_at "w1") => `(tactic| first
  | with_reducible refine w_seq ?_
  | with_reducible refine w_asg ?_
  | with_reducible refine w_var rfl ?_
  | with_reducible refine w_c ?_
  | with_reducible refine w_op ?_
  | with_reducible refine w_cons ?_
  | with_reducible refine w_nil ?_
  | with_reducible refine w_gname ?_
  | with_reducible refine w_cb ?_
  | with_reducible refine w_I0 ?_
  | with_reducible refine w_bl ?_
  | ((with_reducible refine' w_ixL ?s0 ?s1 ?q); (case s0 => assumption); (case s1 => rfl))
  | ((with_reducible refine' w_ixT ?s0 ?s1 ?q); (case s0 => assumption); (case s1 => rfl))
  | with_reducible refine w_gsub ?_
  | with_reducible refine w_ifS ?_
  | with_reducible refine w_test ?_
  | with_reducible refine w_call ?_
  | with_reducible refine w_ret ?_
  | with_reducible refine w_int1 ?_
  | with_reducible refine w_int ?_
  | with_reducible refine w_next ?_
  | with_reducible refine w_drop ?_
  | ((with_reducible refine' w_mod ?s0 ?q); (case s0 => omega))
  | ((with_reducible refine' w_div ?s0 ?q); (case s0 => omega))
  | ((with_reducible refine' w_mul ?s0 ?q); (case s0 => omega))
  | ((with_reducible refine' w_pow ?s0 ?q); (case s0 => decide))
  | with_reducible refine w_B ?_
  | with_reducible refine w_and ?_
  | with_reducible refine w_or ?_
  | with_reducible refine w_not ?_
  | with_reducible refine w_T ?_
  | with_reducible refine w_F ?_
  | with_reducible refine w_nT ?_
  | with_reducible refine w_nF ?_
  | with_reducible refine w_un ?_
  | with_reducible refine w_U ?_
  | with_reducible refine w_if ?_
  | with_reducible refine w_lst ?_
  | with_reducible refine w_tup ?_
  | with_reducible refine w_sl ?_
  | with_reducible refine w_part ?_
  | with_reducible refine w_nopart ?_
  | with_reducible refine w_eqI ?_
  | with_reducible refine w_neI ?_
  | with_reducible refine w_eqS ?_
  | with_reducible refine w_neS ?_
  | with_reducible refine w_abs ?_
  | with_reducible refine w_max2 ?_
  | with_reducible refine w_min2 ?_
  | ((with_reducible refine' w_lenL ?s0 ?q); (case s0 => assumption))
  | ((with_reducible refine' w_lenH ?s0 ?q); (case s0 => assumption))
  | ((with_reducible refine' w_lenT ?s0 ?q); (case s0 => assumption))
  | ((with_reducible refine' w_lenS ?s0 ?q); (case s0 => first | assumption | omega | decide +kernel))
  | with_reducible refine w_inC ?_
  | with_reducible refine w_ninC ?_
  | with_reducible refine w_m1 ?_
  | with_reducible refine w_m0 ?_
  | with_reducible refine w_isstr ?_
  | with_reducible refine w_andV ?_
  | with_reducible refine w_orV ?_
  | with_reducible refine w_notV ?_
  | with_reducible refine w_chain ?_
  | with_reducible refine w_retN ?_
  | with_reducible refine w_break ?_
  | with_reducible refine w_cont ?_
  | with_reducible refine w_yes ?_
  | with_reducible refine w_for ?_
  | with_reducible refine w_lc ?_
  | with_reducible refine w_iList ?_
  | with_reducible refine w_iTup ?_
  | with_reducible refine w_iStr ?_
  | with_reducible refine w_iR1 ?_
  | with_reducible refine w_iR2 ?_
  | ((with_reducible refine' w_onL ?s0 ?q); (case s0 => assumption))
  | ((with_reducible refine' w_onQ ?s0 ?q); (case s0 => assumption))
  | ((with_reducible refine' w_onT ?s0 ?q); (case s0 => assumption))
  | ((with_reducible refine' w_onU ?s0 ?q); (case s0 => assumption))
  | with_reducible refine w_onS ?_
  | ((with_reducible refine' w_onR1 ?s0 ?q); (case s0 => omega))
  | ((with_reducible refine' w_onR2 ?s0 ?q); (case s0 => omega))
  | with_reducible refine w_revL ?_
  | ((with_reducible refine' w_all ?s0 ?q); (case s0 => assumption))
  | ((with_reducible refine' w_any ?s0 ?q); (case s0 => assumption))
  | with_reducible refine w_bm ?_
  | with_reducible refine w_bm0 ?_
  | ((with_reducible refine' w_islst ?s0 ?q); (case s0 => assumption))
  | with_reducible refine w_kw ?_
  | ((with_reducible refine' w_isi ?s0 ?s1 ?q); (case s0 => assumption); (case s1 => assumption))
  | ((with_reducible refine' w_addS ?s0 ?q); (case s0 => first | omega | decide +kernel))
  | with_reducible refine w_dnew ?_
  | with_reducible refine w_pnil ?_
  | with_reducible refine w_pcons ?_
  | ((with_reducible refine' w_slS ?s0 ?q); (case s0 => first | assumption | omega))
  | ((with_reducible refine' w_inLS ?s0 ?q); (case s0 => assumption))
  | ((with_reducible refine' w_ninLS ?s0 ?q); (case s0 => assumption))
  | ((with_reducible refine' w_inTS ?s0 ?q); (case s0 => assumption))
  | with_reducible refine w_par ?_
  | with_reducible refine w_parEnd ?_
  | with_reducible refine w_fld ?_
  | with_reducible refine w_e1 ?_
  | with_reducible refine w_e2 ?_
  | with_reducible refine w_par3 ?_
  | with_reducible refine w_parEnd3 ?_
  | ((with_reducible refine' w_upper ?s0 ?q); (case s0 => first | assumption | omega | decide +kernel))
  | with_reducible refine w_fldT ?_
  | with_reducible refine w_setT ?_
  | with_reducible refine w_fs ?_
  | with_reducible refine w_jsC ?_
  | with_reducible refine w_js0 ?_
  | with_reducible refine w_fmtT ?_
  | with_reducible refine w_dinT ?_
  | with_reducible refine w_dninT ?_
  | with_reducible refine w_dputT ?_
  | with_reducible refine w_dgetT ?_
  | with_reducible refine w_dget2T ?_
  | with_reducible refine w_setdT ?_
  | with_reducible refine w_mkK ?_
  | with_reducible refine w_mkR ?_
  | with_reducible refine w_dcT ?_
  | ((with_reducible refine' w_ninTS ?s0 ?q); (case s0 => assumption))
  | with_reducible refine w_strS ?_
  | with_reducible refine w_star ?_
  | with_reducible refine w_iE ?_
  | with_reducible refine w_metK ?_
  | with_reducible refine w_met ?_
  | with_reducible refine w_stat ?_
  | dsimp only [wipe, List.set_cons_zero, List.set_cons_succ])
local macro_rules | `(tactic| walk_at "w") => `(tactic| repeat walk_at "w1")
/-! ### parts -/
noncomputable def rB (ls : List PP) (y z : Str) : Bool := @decide (Rch ls y z) (Classical.propDecidable _)
theorem rB_iff {ls : List PP} {y z : Str} : rB ls y z = true ↔ Rch ls y z := by
  unfold rB
  exact @decide_eq_true_iff _ (Classical.propDecidable _)
noncomputable def partL (ls : List PP) (y : Str) (ms : List PP) : List PP := (srtP ms).filter fun l => rB ls y l.1
theorem partL_mem {ls ms : List PP} {y : Str} {l : PP} : l ∈ partL ls y ms ↔ l ∈ ms ∧ Rch ls y l.1 := by
  unfold partL
  rw [List.mem_filter, rB_iff, (srtP_perm ms).mem_iff]
theorem Rch.trans {ls : List PP} {x y z : Str} (h : Rch ls x y) (g : Rch ls y z) : Rch ls x z := by
  induction g with
  | refl => exact h
  | step _ m ih => exact .step ih m
/-- what is reached from y is reached by the part's links -/
theorem part_rch {ls : List PP} {y z : Str} : Rch (partL ls y ls) y z ↔ Rch ls y z := by
  refine ⟨fun h => h.mono fun l hl => (partL_mem.mp hl).1, fun h => ?_⟩
  induction h with
  | refl => exact .refl
  | step r m ih => exact .step ih (partL_mem.mpr ⟨m, r⟩)
theorem GoodSh.part {level y : Str} {ls ms : List PP} (G : GoodSh level ls ms) (h : Rch ls level y) : GoodSh y (partL ls y ls) (partL ls y ms) := by
  obtain ⟨rk, hr⟩ := G.rank
  have sub1 : (partL ls y ls).length ≤ ls.length := by
    have := List.length_filter_le (fun l => rB ls y l.1) (srtP ls)
    rw [(srtP_perm ls).length_eq] at this
    exact this
  have sub2 : (partL ls y ms).length ≤ ms.length := by
    have := List.length_filter_le (fun l => rB ls y l.1) (srtP ms)
    rw [(srtP_perm ms).length_eq] at this
    exact this
  refine ⟨rch_name G h, ⟨fun l hl => G.links.each l (partL_mem.mp hl).1, ((srtP_perm ls).nodup_iff.mpr G.links.nd).filter _, Nat.le_trans sub1 G.links.few⟩, ⟨rk, fun l hl => hr l (partL_mem.mp hl).1⟩, fun l hl => part_rch.mpr (partL_mem.mp hl).2, fun m hm => ?_, ?_, Nat.le_trans sub2 G.few⟩
  · have g := partL_mem.mp hm
    exact ⟨part_rch.mpr g.2, (G.marks m g.1).2⟩
  · have nd : ((srtP ms).map (·.1)).Nodup := ((srtP_perm ms).map _).nodup_iff.mpr G.nd
    exact nd.sublist ((List.filter_sublist).map _)
def spPart (K : PySem.W.Frag) (C : Addr) : Sp := fun vs H Q _ => ∃ x level ls ms v, vs = [.ref x, v] ∧ ShO C H x level ls ms ∧ GoodSh level ls ms ∧
  ((NoText K H v ∧ ∀ J, Same H J → Q .non J) ∨ ∃ y, v = .str y ∧ (¬ Rch ls level y → ∀ J, Same H J → Q .non J) ∧ (Rch ls level y → ∀ z J, H z = none → Same H J → ShO C J z y (partL ls y ls) (partL ls y ms) → Q (.ref z) J))
def spMark (K : PySem.W.Frag) (C : Addr) : Sp := fun vs H Q _ => ∃ x level ls ms v, vs = [.ref x, v] ∧ ShO C H x level ls ms ∧ GoodSh level ls ms ∧
  ((NoText K H v ∧ ∀ J, Same H J → Q .non J) ∨ ∃ y, v = .str y ∧ ∀ J r, Same H J → ((r = .non ∧ ∀ m ∈ ms, m.1 ≠ y) ∨ ∃ n, r = .str n ∧ (y, n) ∈ ms) → Q r J)
def spHas (K : PySem.W.Frag) (C : Addr) : Sp := fun vs H Q _ => ∃ x level ls ms v, vs = [.ref x, v] ∧ ShO C H x level ls ms ∧
  ((NoText K H v ∧ Q (.bl false) H) ∨ ∃ y, v = .str y ∧ ∀ b, (b = true ↔ Rch ls level y) → Q (.bl b) H)
abbrev s_Shape_part : Stmt := inClass (topS 21) 6
theorem sc_Shape_part : FnScope ["self", "level", "levels", "links", "link", "marks", "pair"] ["self", "level"] (defScope s_Shape_part) := ⟨rfl, rfl, rfl, by decide +kernel, rfl, by decide +kernel, by decide +kernel⟩
abbrev s_Shape_mark : Stmt := inClass (topS 21) 7
theorem sc_Shape_mark : FnScope ["self", "level", "place", "mark"] ["self", "level"] (defScope s_Shape_mark) := ⟨rfl, rfl, rfl, by decide +kernel, rfl, by decide +kernel, by decide +kernel⟩
abbrev s_Shape___contains__ : Stmt := inClass (topS 21) 8
theorem sc_Shape___contains__ : FnScope ["self", "value"] ["self", "value"] (defScope s_Shape___contains__) := ⟨rfl, rfl, rfl, by decide +kernel, rfl, by decide +kernel, by decide +kernel⟩
section
variable {P : Program} {w : World} {K : PySem.W.Frag} {mg : Str → Option Value} {base : Heap} {C : Addr}
theorem m_has {f : Addr} {fd : FuncData} (F : Fun K "__contains__" "Shape.__contains__" s_Shape___contains__ f fd) (O_Shape : OSh K C) (T : Txt K mg) : FnOk P w K mg base CX0 1 f fd ["self", "value"] (spHas K C) := by
  refine F.ok sc_Shape___contains__ (fun vs H Q E h => ?_) (fun cdv A outer s H vs Q E hr h => ?_)
  · obtain ⟨x, level, ls, ms, v, rfl, _⟩ := h
    rfl
  · obtain ⟨x, level, ls, ms, v, rfl, ⟨dx, pl, pk, pm, lv, wl, wm, hx, hpl, nd, srt, mem, _⟩, h⟩ := h
    refine ⟨_, (pss_one (ps_ret (pe_cmpR (k_inA (K := K) hr) (pv 1) (pe_fldC O_Shape.c O_Shape.f__levels (pv 0)) rfl))), ?_⟩
    walk_at "w0"
    walk_at "w"
    refine w_fldC hx (by rfl) ?_
    rcases h with ⟨n, q⟩ | ⟨y, rfl, q⟩
    · exact w_inA0 (SqT.of hpl) n q
    · exact w_inA (SqT.of hpl) (q _ (by rw [decide_eq_true_iff]; exact mem y))
theorem m_mark {f : Addr} {fd : FuncData} (F : Fun K "mark" "Shape.mark" s_Shape_mark f fd) (O_Shape : OSh K C) (T : Txt K mg) : FnOk P w K mg base CX0 1 f fd ["self", "level"] (spMark K C) := by
  refine F.ok sc_Shape_mark (fun vs H Q E h => ?_) (fun cdv A outer s H vs Q E hr h => ?_)
  · obtain ⟨x, level, ls, ms, v, rfl, _⟩ := h
    rfl
  · obtain ⟨x, level, ls, ms, v, rfl, ⟨dx, pl, pk, pm, lv, wl, wm, hx, hpl, nd, srt, mem, hpk, twl, hpm, twm⟩, G, h⟩ := h
    refine ⟨_, (pss_cons (ps_for PassesOwn.never rfl (k_iT (K := K) (pe_fldC O_Shape.c O_Shape.f__marks (pv 0))) (k_tupG (K := K) (pg_tup (n := 2) (by rfl) (pgs_cons (pg_name (i := 2) sc_Shape_mark.nd rfl (Or.inl rfl)) (pgs_cons (pg_name (i := 3) sc_Shape_mark.nd rfl (Or.inl rfl)) pgs_nil))))
    (pss_one (ps_if (pt_cmpR (k_eqA (K := K) hr) (pv 2) (pv 1) (nomark _))
    (pss_one (ps_ret (pv 3)))
    pss_nil)))
  (pss_one (ps_ret pe_non))), ?_⟩
    walk_at "w0"
    walk_at "w"
    refine w_fldC hx (by rfl) ?_
    walk_at "w"
    refine w_loop walk_tup (fun i σ M => (∃ o1 o2, σ = [some (.ref x), some v, o1, o2]) ∧ Same H M ∧ ∀ y, v = .str y → ∀ m ∈ (srtP ms).take i, m.1 ≠ y) ⟨⟨_, _, rfl⟩, Same.refl _, by simp⟩ (fun i σ M _ h => SqT.of (h.2.1 _ _ hpm)) ?_ ?_
    · rintro i u σ M N hi ⟨⟨o1, o2, rfl⟩, sM, no⟩ ⟨rfl, hu⟩
      obtain ⟨m, em, p, rfl, hp⟩ := twm.at hu
      refine w_gT2 (sM _ _ hp) ?_
      walk_at "w"
      have step : ∀ y, v = .str y → m.1 ≠ y → ∀ m' ∈ (srtP ms).take (i + 1), m'.1 ≠ y := fun y e n m' hm' => by
        rw [List.take_add_one, em] at hm'
        rcases List.mem_append.mp hm' with c | c
        · exact no y e m' c
        · have : m' = m := by simpa using c
          rw [this]
          exact n
      rcases h with ⟨n, q⟩ | ⟨y, rfl, q⟩
      · have n2 : NoText K N v := by
          rcases n with ⟨d, h1, h2⟩ | ⟨a, kvs, e, h1⟩
          · exact .inl ⟨d, dp_same sM _ _ h1, h2⟩
          · exact .inr ⟨a, kvs, e, sM _ _ h1⟩
        refine w_eqA0 n2 ?_
        walk_at "w"
        refine ⟨⟨_, _, rfl⟩, sM, fun y e => ?_⟩
        subst e
        rcases n with ⟨d, h1, _, ns, _⟩ | ⟨a, kvs, e, _⟩
        · cases h1
          exact absurd rfl (ns y)
        · cases e
      · refine w_eqA ?_
        walk_at "w"
        refine w_dec (fun e => ?_) fun n => ?_
        · walk_at "w"
          refine q N _ sM (.inr ⟨m.2, rfl, ?_⟩)
          have z := (srtP_perm ms).mem_iff.mp (List.mem_of_getElem? em)
          rw [← e]
          exact z
        · walk_at "w"
          exact ⟨⟨_, _, rfl⟩, sM, fun y' e => by cases e; exact step y rfl n⟩
    · rintro σ M ⟨⟨o1, o2, rfl⟩, sM, no⟩
      walk_at "w"
      have ew : (srtP ms).take wm.length = srtP ms := List.take_of_length_le (by rw [twm.len]; exact Nat.le_refl _)
      rw [ew] at no
      rcases h with ⟨n, q⟩ | ⟨y, rfl, q⟩
      · exact q M sM
      · exact q M _ sM (.inl ⟨rfl, fun m hm => no y rfl m ((srtP_perm ms).mem_iff.mpr hm)⟩)
end

end RT
set_option Elab.async false
set_option linter.all false
set_option maxRecDepth 100000
set_option maxHeartbeats 4000000
namespace RT
open PySem PySem.Spec PyProof.Rows L2
local macro_rules | `(tactic| walk_at "w0") => `(tactic| dsimp only [L2.start, cxOf, Cx.nox, Cx.wish, List.map, List.length_cons, List.length_nil, List.replicate_succ, List.replicate_zero, List.cons_append, List.nil_append, Nat.reduceAdd, Nat.reduceSub, List.set_cons_zero, List.set_cons_succ])
local macro_rules | `(tactic| walk_at "w1") => `(tactic| first
  | with_reducible refine w_seq ?_
  | with_reducible refine w_asg ?_
  | with_reducible refine w_var rfl ?_
  | with_reducible refine w_c ?_
  | with_reducible refine w_op ?_
  | with_reducible refine w_cons ?_
  | with_reducible refine w_nil ?_
  | with_reducible refine w_gname ?_
  | with_reducible refine w_cb ?_
  | with_reducible refine w_I0 ?_
  | with_reducible refine w_bl ?_
  | ((with_reducible refine' w_ixL ?s0 ?s1 ?q); (case s0 => assumption); (case s1 => rfl))
  | ((with_reducible refine' w_ixT ?s0 ?s1 ?q); (case s0 => assumption); (case s1 => rfl))
  | with_reducible refine w_gsub ?_
  | with_reducible refine w_ifS ?_
  | with_reducible refine w_test ?_
  | with_reducible refine w_call ?_
  | with_reducible refine w_ret ?_
  | with_reducible refine w_int1 ?_
  | with_reducible refine w_int ?_
  | with_reducible refine w_next ?_
  | with_reducible refine w_drop ?_
  | ((with_reducible refine' w_mod ?s0 ?q); (case s0 => omega))
  | ((with_reducible refine' w_div ?s0 ?q); (case s0 => omega))
  | ((with_reducible refine' w_mul ?s0 ?q); (case s0 => omega))
  | ((with_reducible refine' w_pow ?s0 ?q); (case s0 => decide))
  | with_reducible refine w_B ?_
  | with_reducible refine w_and ?_
  | with_reducible refine w_or ?_
  | with_reducible refine w_not ?_
  | with_reducible refine w_T ?_
  | with_reducible refine w_F ?_
  | with_reducible refine w_nT ?_
  | with_reducible refine w_nF ?_
  | with_reducible refine w_un ?_
  | with_reducible refine w_U ?_
  | with_reducible refine w_if ?_
  | with_reducible refine w_lst ?_
  | with_reducible refine w_tup ?_
  | with_reducible refine w_sl ?_
  | with_reducible refine w_part ?_
  | with_reducible refine w_nopart ?_
  | with_reducible refine w_eqI ?_
  | with_reducible refine w_neI ?_
  | with_reducible refine w_eqS ?_
  | with_reducible refine w_neS ?_
  | with_reducible refine w_abs ?_
  | with_reducible refine w_max2 ?_
  | with_reducible refine w_min2 ?_
  | ((with_reducible refine' w_lenL ?s0 ?q); (case s0 => assumption))
  | ((with_reducible refine' w_lenH ?s0 ?q); (case s0 => assumption))
  | ((with_reducible refine' w_lenT ?s0 ?q); (case s0 => assumption))
  | ((with_reducible refine' w_lenS ?s0 ?q); (case s0 => first | assumption | omega | decide +kernel))
  | with_reducible refine w_inC ?_
  | with_reducible refine w_ninC ?_
  | with_reducible refine w_m1 ?_
  | with_reducible refine w_m0 ?_
  | with_reducible refine w_isstr ?_
  | with_reducible refine w_andV ?_
  | with_reducible refine w_orV ?_
  | with_reducible refine w_notV ?_
  | with_reducible refine w_chain ?_
  | with_reducible refine w_retN ?_
  | with_reducible refine w_break ?_
  | with_reducible refine w_cont ?_
  | with_reducible refine w_yes ?_
  | with_reducible refine w_for ?_
  | with_reducible refine w_lc ?_
  | with_reducible refine w_iList ?_
  | with_reducible refine w_iTup ?_
  | with_reducible refine w_iStr ?_
  | with_reducible refine w_iR1 ?_
  | with_reducible refine w_iR2 ?_
  | ((with_reducible refine' w_onL ?s0 ?q); (case s0 => assumption))
  | ((with_reducible refine' w_onQ ?s0 ?q); (case s0 => assumption))
  | ((with_reducible refine' w_onT ?s0 ?q); (case s0 => assumption))
  | ((with_reducible refine' w_onU ?s0 ?q); (case s0 => assumption))
  | with_reducible refine w_onS ?_
  | ((with_reducible refine' w_onR1 ?s0 ?q); (case s0 => omega))
  | ((with_reducible refine' w_onR2 ?s0 ?q); (case s0 => omega))
  | with_reducible refine w_revL ?_
  | ((with_reducible refine' w_all ?s0 ?q); (case s0 => assumption))
  | ((with_reducible refine' w_any ?s0 ?q); (case s0 => assumption))
  | with_reducible refine w_bm ?_
  | with_reducible refine w_bm0 ?_
  | ((with_reducible refine' w_islst ?s0 ?q); (case s0 => assumption))
  | with_reducible refine w_kw ?_
  | ((with_reducible refine' w_isi ?s0 ?s1 ?q); (case s0 => assumption); (case s1 => assumption))
  | ((with_reducible refine' w_addS ?s0 ?q); (case s0 => first | omega | decide +kernel))
  | with_reducible refine w_dnew ?_
  | with_reducible refine w_pnil ?_
  | with_reducible refine w_pcons ?_
  | ((with_reducible refine' w_slS ?s0 ?q); (case s0 => first | assumption | omega))
  | ((with_reducible refine' w_inLS ?s0 ?q); (case s0 => assumption))
  | ((with_reducible refine' w_ninLS ?s0 ?q); (case s0 => assumption))
  | ((with_reducible refine' w_inTS ?s0 ?q); (case s0 => assumption))
  | with_reducible refine w_par ?_
  | with_reducible refine w_parEnd ?_
  | with_reducible refine w_fld ?_
  | with_reducible refine w_e1 ?_
  | with_reducible refine w_e2 ?_
  | with_reducible refine w_par3 ?_
  | with_reducible refine w_parEnd3 ?_
  | ((with_reducible refine' w_upper ?s0 ?q); (case s0 => first | assumption | omega | decide +kernel))
  | with_reducible refine w_fldT ?_
  | with_reducible refine w_setT ?_
  | with_reducible refine w_fs ?_
  | with_reducible refine w_jsC ?_
  | with_reducible refine w_js0 ?_
  | with_reducible refine w_fmtT ?_
  | with_reducible refine w_dinT ?_
  | with_reducible refine w_dninT ?_
  | with_reducible refine w_dputT ?_
  | with_reducible refine w_dgetT ?_
  | with_reducible refine w_dget2T ?_
  | with_reducible refine w_setdT ?_
  | with_reducible refine w_mkK ?_
  | with_reducible refine w_mkR ?_
  | with_reducible refine w_dcT ?_
  | ((with_reducible refine' w_ninTS ?s0 ?q); (case s0 => assumption))
  | with_reducible refine w_strS ?_
  | with_reducible refine w_star ?_
  | with_reducible refine w_iE ?_
  | with_reducible refine w_metK ?_
  | with_reducible refine w_met ?_
  | with_reducible refine w_stat ?_
  | dsimp only [wipe, List.set_cons_zero, List.set_cons_succ])
local macro_rules | `(tactic| walk_at "w") => `(tactic| repeat walk_at "w1")
section
variable {P : Program} {w : World} {K : PySem.W.Frag} {mg : Str → Option Value} {base : Heap} {C md : Addr}
theorem NoText.same {K : PySem.W.Frag} {H J : Hp} {v : V} (n : NoText K H v) (s : Same H J) : NoText K J v := by
  rcases n with ⟨d, h1, h2⟩ | ⟨a, kvs, e, h1⟩
  · exact .inl ⟨d, dp_same s _ _ h1, h2⟩
  · exact .inr ⟨a, kvs, e, s _ _ h1⟩
theorem filter_step {ls rs : List PP} {y : Str} {i : Nat} {l : PP} (el : rs[i]? = some l) : (rs.take (i + 1)).filter (fun l => rB ls y l.1) = (rs.take i).filter (fun l => rB ls y l.1) ++ (if rB ls y l.1 = true then [l] else []) := by
  rw [List.take_add_one, el, List.filter_append]
  congr 1
  cases h : rB ls y l.1 with
  | true => simp [h]
  | false => simp [h]
theorem m_part {f : Addr} {fd : FuncData} (F : Fun K "part" "Shape.part" s_Shape_part f fd) (O_Shape : OSh K C) (T : Txt K mg) (c_reached : Cal P w K mg base 1 "reached" spReached) (k_Shape_marks : CalK P w K mg base 5 "Shape" C ["marks"] (spStar 2 (fun _ => True) (fun vs zs => vs ++ zs) (spInit K C))) : FnOk P w K mg base CX0 7 f fd ["self", "level"] (spPart K C) := by
  refine F.ok sc_Shape_part (fun vs H Q E h => ?_) (fun cdv A outer s H vs Q E hr h => ?_)
  · obtain ⟨x, level, ls, ms, v, rfl, _⟩ := h
    rfl
  · obtain ⟨x, level, ls, ms, v, rfl, ⟨dx, pl, pk, pm, lv, wl, wm, hx, hpl, nd, srt, mem, hpk, twl, hpm, twm⟩, G, h⟩ := h
    refine ⟨_, (pss_cons (ps_if (pt_cmpR (k_ninA (K := K) hr) (pv 1) (pe_fldC O_Shape.c O_Shape.f__levels (pv 0)) rfl)
    (pss_one (ps_ret pe_non))
    pss_nil)
  (pss_cons (ps_set (i := 2) sc_Shape_part.nd rfl (by first | exact Or.inl rfl | exact Or.inr rfl) (pe_c c_reached hr (by decide) (by rfl) (pa_cons (pv 1) (pa_cons (pe_fldC O_Shape.c O_Shape.f__links (pv 0)) pa_nil))))
  (pss_cons (ps_setLc (i := 3) (own := [("link", 4)]) (g := (gName 4)) rfl sc_Shape_part.nd rfl rfl (sw_true rfl rfl rfl (by decide +kernel)) (k_iT (K := K) (pe_fldC O_Shape.c O_Shape.f__links (pv 0))) (blkOk_by (own := [("link", 4)]) (N := ["self", "level", "levels", "links", "link", "marks", "pair"]) (sc := defScope s_Shape_part) (by decide +kernel)) (fun _ _ _ _ _ => (pg_name (i := 4) sc_Shape_part.nd rfl (Or.inl rfl))) (fun _ _ _ _ _ => (pts_one (pt_cmpR (k_in (K := K)) (pe_ix (k_ixT (K := K)) (pv 4) pe_int (fun _ _ => rfl)) (pv 2) rfl))) (fun _ _ _ _ _ => (pv 4)))
  (pss_cons (ps_set (i := 5) sc_Shape_part.nd rfl (by first | exact Or.inl rfl | exact Or.inr rfl) (pe_callTy (k_tuple (K := K)) (by rfl) T.z_tuple (by decide +kernel) (pa_cons (pe_lc (own := [("pair", 6)]) (g := (gName 6)) rfl sc_Shape_part.nd (k_iT (K := K) (pe_fldC O_Shape.c O_Shape.f__marks (pv 0))) (blkOk_by (own := [("pair", 6)]) (N := ["self", "level", "levels", "links", "link", "marks", "pair"]) (sc := defScope s_Shape_part) (by decide +kernel)) (fun _ _ _ _ _ => (pg_name (i := 6) sc_Shape_part.nd rfl (Or.inl rfl))) (fun _ _ _ _ _ => (pts_one (pt_cmpR (k_in (K := K)) (pe_ix (k_ixT (K := K)) (pv 6) pe_int (fun _ _ => rfl)) (pv 2) rfl))) (fun _ _ _ _ _ => (pv 6))) pa_nil)))
  (pss_one (ps_ret (pe_mkKS k_Shape_marks hr (by decide) (by rfl) (pa_cons (pv 1) (k_star (K := K) (StX.pa_star (pv 3) pa_nil))) (pk_cons (pv 5) pk_nil)))))))), ?_⟩
    walk_at "w0"
    walk_at "w"
    refine w_fldC hx (by rfl) ?_
    rcases h with ⟨n, q⟩ | ⟨y, rfl, q0, q1⟩
    · refine w_ninA0 (SqT.of hpl) n ?_
      walk_at "w"
      exact q H (Same.refl _)
    · refine w_ninA (SqT.of hpl) ?_
      walk_at "w"
      refine w_ndec (fun nin => ?_) fun hin => ?_
      · walk_at "w"
        exact q0 (fun r => nin ((mem y).mpr r)) H (Same.refl _)
      have ry := (mem y).mp hin
      walk_at "w"
      refine w_fldC hx (by rfl) ?_
      walk_at "w"
      refine ⟨y, pk, wl, srtP ls, rfl, hpk, twl, by rw [(srtP_perm ls).length_eq]; exact G.links.few, fun pv J1 lv2 npv s1 hpv nd2 srt2 mem2 => ?_⟩
      have mem3 : ∀ z, z ∈ lv2 ↔ Rch ls y z := fun z => (mem2 z).trans (Rch.perm (srtP_perm ls))
      have hx1 := s1 _ _ hx
      walk_at "w"
      refine w_fldC hx1 (by rfl) ?_
      have hpk1 := s1 _ _ hpk
      walk_at "w"
      intro D nD
      have twl1 := twl.same s1
      have ll : wl.length ≤ 60 := by rw [twl.len, (srtP_perm ls).length_eq]; exact G.links.few
      have lm : wm.length ≤ 60 := by rw [twm.len, (srtP_perm ms).length_eq]; exact G.few
      refine w_comp walk_tup (fun i acc M => Same J1 M ∧ PairsAt M acc (((srtP ls).take i).filter fun l => rB ls y l.1)) nD (fun M s e => ⟨s, by simpa using .nil⟩) (fun i acc M h => SqT.of (h.1 _ _ hpk1)) ?_ ?_
      · rintro i acc u M M' hi la ⟨m1, m2⟩ hA ⟨rfl, hu⟩
        obtain ⟨l, el, p, rfl, hp⟩ := twl1.at hu
        walk_at "w"
        refine ⟨rfl, ?_⟩
        walk_at "w"
        refine w_ixT (m1 _ _ hp) rfl ?_
        walk_at "w"
        refine w_inTS (m1 _ _ hpv) ?_
        walk_at "w"
        have st := filter_step (ls := ls) (y := y) el
        refine w_dec (fun e => ?_) fun e => ?_
        · walk_at "w"
          rw [if_pos (rB_iff.mpr ((mem3 _).mp e))] at st
          refine w_put hA la (by omega) fun Z e6 hZ => ⟨Same.ofExt m1 nD e6, ?_⟩
          rw [st]
          exact (m2.ext hA e6).app (PairsAt.one ⟨p, rfl, e6 p _ (ne_of (m1 _ _ hp) hA (by intro z; cases z)) (m1 _ _ hp)⟩)
        · rw [if_neg fun z => e ((mem3 _).mpr (rB_iff.mp z)), List.append_nil] at st
          exact w_skip hA la ⟨m1, by rw [st]; exact m2⟩
      · rintro acc M lacc hA ⟨m1, m2⟩
        have ew : (srtP ls).take wl.length = srtP ls := List.take_of_length_le (by rw [twl.len]; exact Nat.le_refl _)
        rw [ew] at m2
        walk_at "w"
        refine w_fldC (m1 _ _ hx1) (by rfl) ?_
        have hpm1 := m1 _ _ (s1 _ _ hpm)
        have twm1 := twm.same (s1.trans m1)
        have hpv1 := m1 _ _ hpv
        walk_at "w"
        intro D2 nD2
        have m2L : PairsAt M acc (partL ls y ls) := m2
        clear m2
        have base1 := m1
        clear m1
        refine w_comp walk_tup (fun i acc N => Same M N ∧ PairsAt N acc (((srtP ms).take i).filter fun l => rB ls y l.1)) nD2 (fun N s e => ⟨s, by simpa using .nil⟩) (fun i acc N h => SqT.of (h.1 _ _ hpm1)) ?_ ?_
        · rintro i acc u N N' hi la ⟨m1, m2⟩ hA2 ⟨rfl, hu⟩
          obtain ⟨l, el, p, rfl, hp⟩ := twm1.at hu
          walk_at "w"
          refine ⟨rfl, ?_⟩
          walk_at "w"
          refine w_ixT (m1 _ _ hp) rfl ?_
          walk_at "w"
          refine w_inTS (m1 _ _ hpv1) ?_
          walk_at "w"
          have st := filter_step (ls := ls) (y := y) el
          refine w_dec (fun e => ?_) fun e => ?_
          · walk_at "w"
            rw [if_pos (rB_iff.mpr ((mem3 _).mp e))] at st
            refine w_put hA2 la (by omega) fun Z e6 hZ => ⟨Same.ofExt m1 nD2 e6, ?_⟩
            rw [st]
            exact (m2.ext hA2 e6).app (PairsAt.one ⟨p, rfl, e6 p _ (ne_of (m1 _ _ hp) hA2 (by intro z; cases z)) (m1 _ _ hp)⟩)
          · rw [if_neg fun z => e ((mem3 _).mpr (rB_iff.mp z)), List.append_nil] at st
            exact w_skip hA2 la ⟨m1, by rw [st]; exact m2⟩
        · rintro acc2 N lacc2 hA2 ⟨m1, m2⟩
          have ew2 : (srtP ms).take wm.length = srtP ms := List.take_of_length_le (by rw [twm.len]; exact Nat.le_refl _)
          rw [ew2] at m2
          walk_at "w"
          refine w_tupL (SqL.of hA2) fun pt J2 np s2 hpt => ?_
          walk_at "w"
          have sMJ := m1.trans s2
          refine w_onStarL (SqL.of (sMJ _ _ hA)) ?_
          walk_at "w"
          rw [List.append_nil]
          refine made1 (m2L.same sMJ) (SqT.of hpt) (m2.same s2) (G.part ry) fun z J nz sz shz => ?_
          have sH := (s1.trans base1).trans sMJ
          exact q1 ry z J (Same.free sH nz) (sH.trans sz) shz
end

end RT
set_option Elab.async false
set_option linter.all false
set_option maxRecDepth 100000
set_option maxHeartbeats 4000000
namespace RT
open PySem PySem.Spec PyProof.Rows L2
local macro_rules | `(tactic| walk_at "w0") => `(tactic| dsimp only [L2.start, cxOf, Cx.nox, Cx.wish, List.map, List.length_cons, List.length_nil, List.replicate_succ, List.replicate_zero, List.cons_append, List.nil_append, Nat.reduceAdd, Nat.reduceSub, List.set_cons_zero, List.set_cons_succ])
local macro_rules | `(tactic| walk_at "w1") => `(tactic| first
  | with_reducible refine w_seq ?_
  | with_reducible refine w_asg ?_
  | with_reducible refine w_var rfl ?_
  | with_reducible refine w_c ?_
  | with_reducible refine w_op ?_
  | with_reducible refine w_cons ?_
  | with_reducible refine w_nil ?_
  | with_reducible refine w_gname ?_
  | with_reducible refine w_cb ?_
  | with_reducible refine w_I0 ?_
  | with_reducible refine w_bl ?_
  | ((with_reducible refine' w_ixL ?s0 ?s1 ?q); (case s0 => assumption); (case s1 => rfl))
  | ((with_reducible refine' w_ixT ?s0 ?s1 ?q); (case s0 => assumption); (case s1 => rfl))
  | with_reducible refine w_gsub ?_
  | with_reducible refine w_ifS ?_
  | with_reducible refine w_test ?_
  | with_reducible refine w_call ?_
  | with_reducible refine w_ret ?_
  | with_reducible refine w_int1 ?_
  | with_reducible refine w_int ?_
  | with_reducible refine w_next ?_
  | with_reducible refine w_drop ?_
  | ((with_reducible refine' w_mod ?s0 ?q); (case s0 => omega))
  | ((with_reducible refine' w_div ?s0 ?q); (case s0 => omega))
  | ((with_reducible refine' w_mul ?s0 ?q); (case s0 => omega))
  | ((with_reducible refine' w_pow ?s0 ?q); (case s0 => decide))
  | with_reducible refine w_B ?_
  | with_reducible refine w_and ?_
  | with_reducible refine w_or ?_
  | with_reducible refine w_not ?_
  | with_reducible refine w_T ?_
  | with_reducible refine w_F ?_
  | with_reducible refine w_nT ?_
  | with_reducible refine w_nF ?_
  | with_reducible refine w_un ?_
  | with_reducible refine w_U ?_
  | with_reducible refine w_if ?_
  | with_reducible refine w_lst ?_
  | with_reducible refine w_tup ?_
  | with_reducible refine w_sl ?_
  | with_reducible refine w_part ?_
  | with_reducible refine w_nopart ?_
  | with_reducible refine w_eqI ?_
  | with_reducible refine w_neI ?_
  | with_reducible refine w_eqS ?_
  | with_reducible refine w_neS ?_
  | with_reducible refine w_abs ?_
  | with_reducible refine w_max2 ?_
  | with_reducible refine w_min2 ?_
  | ((with_reducible refine' w_lenL ?s0 ?q); (case s0 => assumption))
  | ((with_reducible refine' w_lenH ?s0 ?q); (case s0 => assumption))
  | ((with_reducible refine' w_lenT ?s0 ?q); (case s0 => assumption))
  | ((with_reducible refine' w_lenS ?s0 ?q); (case s0 => first | assumption | omega | decide +kernel))
  | with_reducible refine w_inC ?_
  | with_reducible refine w_ninC ?_
  | with_reducible refine w_m1 ?_
  | with_reducible refine w_m0 ?_
  | with_reducible refine w_isstr ?_
  | with_reducible refine w_andV ?_
  | with_reducible refine w_orV ?_
  | with_reducible refine w_notV ?_
  | with_reducible refine w_chain ?_
  | with_reducible refine w_retN ?_
  | with_reducible refine w_break ?_
  | with_reducible refine w_cont ?_
  | with_reducible refine w_yes ?_
  | with_reducible refine w_for ?_
  | with_reducible refine w_lc ?_
  | with_reducible refine w_iList ?_
  | with_reducible refine w_iTup ?_
  | with_reducible refine w_iStr ?_
  | with_reducible refine w_iR1 ?_
  | with_reducible refine w_iR2 ?_
  | ((with_reducible refine' w_onL ?s0 ?q); (case s0 => assumption))
  | ((with_reducible refine' w_onQ ?s0 ?q); (case s0 => assumption))
  | ((with_reducible refine' w_onT ?s0 ?q); (case s0 => assumption))
  | ((with_reducible refine' w_onU ?s0 ?q); (case s0 => assumption))
  | with_reducible refine w_onS ?_
  | ((with_reducible refine' w_onR1 ?s0 ?q); (case s0 => omega))
  | ((with_reducible refine' w_onR2 ?s0 ?q); (case s0 => omega))
  | with_reducible refine w_revL ?_
  | ((with_reducible refine' w_all ?s0 ?q); (case s0 => assumption))
  | ((with_reducible refine' w_any ?s0 ?q); (case s0 => assumption))
  | with_reducible refine w_bm ?_
  | with_reducible refine w_bm0 ?_
  | ((with_reducible refine' w_islst ?s0 ?q); (case s0 => assumption))
  | with_reducible refine w_kw ?_
  | ((with_reducible refine' w_isi ?s0 ?s1 ?q); (case s0 => assumption); (case s1 => assumption))
  | ((with_reducible refine' w_addS ?s0 ?q); (case s0 => first | omega | decide +kernel))
  | with_reducible refine w_dnew ?_
  | with_reducible refine w_pnil ?_
  | with_reducible refine w_pcons ?_
  | ((with_reducible refine' w_slS ?s0 ?q); (case s0 => first | assumption | omega))
  | ((with_reducible refine' w_inLS ?s0 ?q); (case s0 => assumption))
  | ((with_reducible refine' w_ninLS ?s0 ?q); (case s0 => assumption))
  | ((with_reducible refine' w_inTS ?s0 ?q); (case s0 => assumption))
  | with_reducible refine w_par ?_
  | with_reducible refine w_parEnd ?_
  | with_reducible refine w_fld ?_
  | with_reducible refine w_e1 ?_
  | with_reducible refine w_e2 ?_
  | with_reducible refine w_par3 ?_
  | with_reducible refine w_parEnd3 ?_
  | ((with_reducible refine' w_upper ?s0 ?q); (case s0 => first | assumption | omega | decide +kernel))
  | with_reducible refine w_fldT ?_
  | with_reducible refine w_setT ?_
  | with_reducible refine w_fs ?_
  | with_reducible refine w_jsC ?_
  | with_reducible refine w_js0 ?_
  | with_reducible refine w_fmtT ?_
  | with_reducible refine w_dinT ?_
  | with_reducible refine w_dninT ?_
  | with_reducible refine w_dputT ?_
  | with_reducible refine w_dgetT ?_
  | with_reducible refine w_dget2T ?_
  | with_reducible refine w_setdT ?_
  | with_reducible refine w_mkK ?_
  | with_reducible refine w_mkR ?_
  | with_reducible refine w_dcT ?_
  | ((with_reducible refine' w_ninTS ?s0 ?q); (case s0 => assumption))
  | with_reducible refine w_strS ?_
  | with_reducible refine w_star ?_
  | with_reducible refine w_iE ?_
  | with_reducible refine w_metK ?_
  | with_reducible refine w_met ?_
  | with_reducible refine w_stat ?_
  | dsimp only [wipe, List.set_cons_zero, List.set_cons_succ])
local macro_rules | `(tactic| walk_at "w") => `(tactic| repeat walk_at "w1")
/-! ### texts cut -/
theorem S_tl (z : Str) : SX.S (TL.tl z) = z := TL.ext_tl rfl
theorem split_of {c : Nat} {z : Str} {xs : List Str} (hc : c < 256) (e : TL.tl z = TL.joinL [c] (xs.map TL.tl)) (ne : xs ≠ []) (h : ∀ x ∈ xs, c ∉ TL.tl x) : Txt.split z (SX.S [c]) = xs := by
  have ez : z = SX.S (TL.joinL [c] (xs.map TL.tl)) := by rw [← e, S_tl]
  rw [ez, SX.split_S (by simp) (by simp [hc]), SX.spl_join (by simpa using ne) (fun p hp => by
    obtain ⟨x, hx, rfl⟩ := List.mem_map.mp hp
    exact h x hx), List.map_map]
  conv => rhs; rw [← List.map_id xs]
  exact List.map_congr_left fun x _ => S_tl x
def mSplit (x : V) (xs : List V) (H : Hp) (Q : VK) : Prop := ∃ a b, x = .str a ∧ xs = [.str b] ∧ (b.length == 0) = false ∧ a.length + 2 ≤ sizeLine ∧ rNewStrs (Txt.split a b) H Q
theorem p_split {X : Cx} {o e : Expr} {to te : TE} {apos pos : Pos} (ho : PE X o to) (he : PE X e te) (hs : starEach [e] X.env = [(false, eval e X.env)] := by rfl) (hbase : attributeBase o "split" X.env (eval o X.env) = eval o X.env := by rfl) (hline : (apos.endLine == pos.line) = true := by rfl) :
    PE X (.Call (.Attribute o "split" apos) [e] [] pos) (tM1 mSplit to te) := pe_split ho he hs hbase hline
theorem w_split {H : Hp} {Q : VK} {z b : Str} {xs : List Str} (hb : (b.length == 0) = false) (hz : z.length ≤ 1000000) (e : Txt.split z b = xs) (q : ∀ p J, H p = none → Same H J → J p = some (.lst (xs.map V.str)) → Q (.ref p) J) : mSplit (.str z) [.str b] H Q := by
  refine ⟨z, b, rfl, rfl, hb, by rw [sizeLine_eq]; omega, ?_⟩
  rw [e]
  exact w_new q
section
variable {level : Str} {ls ms : List PP}
theorem split_text (G : GoodSh level ls ms) : Txt.split (textS level ls ms) (Str.ofString " ") = partsS level ls ms := by
  rw [show Str.ofString " " = SX.S [32] by decide +kernel]
  exact split_of (by decide) (tl_text level ls ms) (by simp [partsS]) fun x hx => G.parts _ (List.mem_map.mpr ⟨x, hx, rfl⟩)
theorem split_link {l : PP} (h1 : nameS l.1 = true) (h2 : nameS l.2 = true) : Txt.split (linkS l) (Str.ofString ">") = [l.1, l.2] := by
  rw [show Str.ofString ">" = SX.S [62] by decide +kernel]
  refine split_of (by decide) (by rw [tl_link]; rfl) (by simp) fun x hx => ?_
  rcases List.mem_cons.mp hx with rfl | hx
  · exact name_no h1 no62
  · rw [List.mem_singleton.mp hx]
    exact name_no h2 no62
theorem split_mark {l : PP} (h1 : nameS l.1 = true) (h2 : nameS l.2 = true) : Txt.split (markS l) (Str.ofString "=") = [l.1, l.2] := by
  rw [show Str.ofString "=" = SX.S [61] by decide +kernel]
  refine split_of (by decide) (by rw [tl_mark]; rfl) (by simp) fun x hx => ?_
  rcases List.mem_cons.mp hx with rfl | hx
  · exact name_no h1 no61
  · rw [List.mem_singleton.mp hx]
    exact name_no h2 no61
end
theorem w_gStar1 {K : PySem.W.Frag} {H : Hp} {i j : Nat} {a : Addr} {u : V} {ws : List V} {σ : L2.St} {N : L2.St → Hp → Prop} (h : SqL K H a (u :: ws)) (hz : ws.length ≤ 1000)
    (q : ∀ D L, H D = none → Same H L → L D = some (.lst ws) → N ((σ.set i (some u)).set j (some (.ref D))) L) : gStar K 2 1 (gCons (gName i) (gCons (gName j) gNil)) (.ref a) σ H N := by
  refine ⟨false, a, _, rfl, h, by rw [List.length_cons]; omega, by rw [List.length_cons]; omega, fun D nD => ?_⟩
  have e1 : (u :: ws).length + 1 - 2 = ws.length := by rw [List.length_cons]; omega
  rw [e1, show (u :: ws).take 1 = [u] from rfl, show (u :: ws).drop 1 = ws from rfl, List.drop_length, List.take_length]
  exact ⟨_, _, rfl, _, _, rfl, rfl, q D _ nD (same_new nD) upd_same⟩
theorem w_inG {H : Hp} {Q : VK} {z : Str} (q : Q (.bl (decide ((62 : Nat) ∈ TL.tl z))) H) : oInC (.str (Str.ofString ">")) (.str z) H Q := by
  rw [show Str.ofString ">" = ⟨#[62]⟩ by decide +kernel]
  exact w_inC q
theorem w_ninG {H : Hp} {Q : VK} {z : Str} (q : Q (.bl (!decide ((62 : Nat) ∈ TL.tl z))) H) : oNinC (.str (Str.ofString ">")) (.str z) H Q := by
  rw [show Str.ofString ">" = ⟨#[62]⟩ by decide +kernel]
  exact w_ninC q
theorem link_gt (l : PP) : (62 : Nat) ∈ TL.tl (linkS l) := by
  rw [tl_link]
  simp
theorem mark_gt {l : PP} (h1 : nameS l.1 = true) (h2 : nameS l.2 = true) : (62 : Nat) ∉ TL.tl (markS l) := by
  rw [tl_mark]
  simp [name_no h1 no62, name_no h2 no62]
def wordsS (ls ms : List PP) : List Str := (srtP ls).map linkS ++ (srtP ms).map markS
theorem words_at {ls ms : List PP} {i : Nat} {z : Str} (e : (wordsS ls ms)[i]? = some z) : (∃ l, (srtP ls)[i]? = some l ∧ z = linkS l) ∨ ((srtP ls).length ≤ i ∧ ∃ m, (srtP ms)[i - (srtP ls).length]? = some m ∧ z = markS m) := by
  unfold wordsS at e
  rw [List.getElem?_append, List.length_map] at e
  split at e
  · rw [List.getElem?_map] at e
    obtain ⟨l, hl, e⟩ := Option.map_eq_some_iff.mp e
    exact .inl ⟨l, hl, e.symm⟩
  · rename_i h
    rw [List.getElem?_map] at e
    obtain ⟨m, hm, e⟩ := Option.map_eq_some_iff.mp e
    exact .inr ⟨by omega, m, hm, e.symm⟩
def spRead (C : Addr) : Sp := fun vs H Q _ => ∃ level ls ms, vs = [.str (textS level ls ms)] ∧ GoodSh level ls ms ∧ ∀ x J, H x = none → Same H J → ShO C J x level ls ms → Q (.ref x) J
abbrev s_Shape_read : Stmt := inClass (topS 21) 1
theorem sc_Shape_read : FnScope ["text", "level", "words", "links", "word", "marks", "shape"] ["text"] (defScope s_Shape_read) := ⟨rfl, rfl, rfl, by decide +kernel, rfl, by decide +kernel, by decide +kernel⟩
section
variable {P : Program} {w : World} {K : PySem.W.Frag} {mg : Str → Option Value} {base : Heap} {C md : Addr}
theorem m_read {f : Addr} {fd : FuncData} (F : Fun K "read" "Shape.read" s_Shape_read f fd) (O_Shape : OSh K C) (T : Txt K mg) (k_Shape_marks : CalK P w K mg base 5 "Shape" C ["marks"] (spStar 2 (fun _ => True) (fun vs zs => vs ++ zs) (spInit K C))) (m_Shape___str__ : CalM P w K mg base 1 C "__str__" ["self"] (spShStr C)) : FnOk P w K mg base CX0 7 f fd ["text"] (spRead C) := by
  refine F.ok sc_Shape_read (fun vs H Q E h => ?_) (fun cdv A outer s H vs Q E hr h => ?_)
  · obtain ⟨level, ls, ms, rfl, _⟩ := h
    rfl
  · obtain ⟨level, ls, ms, rfl, G, q⟩ := h
    refine ⟨_, (pss_cons (ps_if (pt_not (pt_val (pe_callB (k_isi (K := K)) (by rfl) T.z_isinstance (by decide +kernel) (pa_cons (pv 0) (pa_cons (pe_bltn (v := .ty "str") (u := .type "str") (by rfl) T.z_str (by decide +kernel) rfl) pa_nil)))))
    (pss_one ps_dead)
    pss_nil)
  (pss_cons (ps_asg (p_split (pv 0) pe_str) (k_starG (K := K) (pg_star (n := 2) (i := 1) (by rfl) (pgs_cons (pg_name (i := 1) sc_Shape_read.nd rfl (Or.inl rfl)) (pgs_star (pg_name (i := 2) sc_Shape_read.nd rfl (Or.inl rfl)) pgs_nil)))))
  (pss_cons (ps_setLc (i := 3) (own := [("word", 4)]) (g := (gName 4)) rfl sc_Shape_read.nd rfl rfl (sw_true rfl rfl rfl (by decide +kernel)) (k_iL (K := K) (pv 2)) (blkOk_by (own := [("word", 4)]) (N := ["text", "level", "words", "links", "word", "marks", "shape"]) (sc := defScope s_Shape_read) (by decide +kernel)) (fun _ _ _ _ _ => (pg_name (i := 4) sc_Shape_read.nd rfl (Or.inl rfl))) (fun _ _ _ _ _ => (pts_one (pt_cmpR o_inC pe_str (pv 4) rfl))) (fun _ _ _ _ _ => (pe_callTy (k_tuple (K := K)) (by rfl) T.z_tuple (by decide +kernel) (pa_cons (p_split (pv 4) pe_str) pa_nil))))
  (pss_cons (ps_set (i := 5) sc_Shape_read.nd rfl (by first | exact Or.inl rfl | exact Or.inr rfl) (pe_callTy (k_tuple (K := K)) (by rfl) T.z_tuple (by decide +kernel) (pa_cons (pe_lc (own := [("word", 4)]) (g := (gName 4)) rfl sc_Shape_read.nd (k_iL (K := K) (pv 2)) (blkOk_by (own := [("word", 4)]) (N := ["text", "level", "words", "links", "word", "marks", "shape"]) (sc := defScope s_Shape_read) (by decide +kernel)) (fun _ _ _ _ _ => (pg_name (i := 4) sc_Shape_read.nd rfl (Or.inl rfl))) (fun _ _ _ _ _ => (pts_one (pt_cmpR o_ninC pe_str (pv 4) rfl))) (fun _ _ _ _ _ => (pe_callTy (k_tuple (K := K)) (by rfl) T.z_tuple (by decide +kernel) (pa_cons (p_split (pv 4) pe_str) pa_nil)))) pa_nil)))
  (pss_cons (ps_try_thru0 (pss_one (ps_set (i := 6) sc_Shape_read.nd rfl (by first | exact Or.inl rfl | exact Or.inr rfl) (pe_mkKS k_Shape_marks hr (by decide) (by rfl) (pa_cons (pv 1) (k_star (K := K) (StX.pa_star (pv 3) pa_nil))) (pk_cons (pv 5) pk_nil)))))
  (pss_cons (ps_if (pt_cmpR op_ne (pe_callTy (cr_strO m_Shape___str__ hr (by decide)) (by rfl) T.z_str (by decide +kernel) (pa_cons (pv 6) pa_nil)) (pv 0) (nomark _))
    (pss_one ps_dead)
    pss_nil)
  (pss_one (ps_ret (pv 6))))))))), ?_⟩
    walk_at "w0"
    walk_at "w"
    refine w_isi (.base (.str _)) (kit_ty (b := "str") (r := true) (by decide +kernel)) ?_
    walk_at "w"
    have tl := G.text
    refine w_split (by decide +kernel) (by omega) (split_text G) fun ps J1 np s1 hp => ?_
    walk_at "w"
    have lL : (srtP ls).length ≤ 60 := by rw [(srtP_perm ls).length_eq]; exact G.links.few
    have lM : (srtP ms).length ≤ 60 := by rw [(srtP_perm ms).length_eq]; exact G.few
    have lW : (wordsS ls ms).length = (srtP ls).length + (srtP ms).length := by rw [wordsS, List.length_append, List.length_map, List.length_map]
    refine w_gStar1 (u := .str level) (ws := (wordsS ls ms).map V.str) (SqL.of hp) (by rw [List.length_map]; omega) fun D J2 nD s2 hD => ?_
    walk_at "w"
    have s12 := s1.trans s2
    intro D2 nD2
    refine w_comp walk_list (fun i acc M => Same J2 M ∧ PairsAt M acc ((srtP ls).take i)) nD2 (fun M s e => ⟨s, .nil⟩) (fun i acc M h => SqL.of (h.1 _ _ hD)) ?_ ?_
    · rintro i acc u M M' hi la ⟨m1, m2⟩ hA ⟨rfl, hu⟩
      rw [List.length_map] at hi
      obtain ⟨z, ez, rfl⟩ : ∃ z, (wordsS ls ms)[i]? = some z ∧ u = V.str z := by
        rw [List.getElem?_map] at hu
        obtain ⟨z, hz, e⟩ := Option.map_eq_some_iff.mp hu
        exact ⟨z, hz, e.symm⟩
      walk_at "w"
      refine ⟨rfl, ?_⟩
      walk_at "w"
      refine w_inG ?_
      walk_at "w"
      rcases words_at ez with ⟨l, el, rfl⟩ | ⟨big, m, em, rfl⟩
      · have n := G.l (List.mem_of_getElem? el)
        refine w_yes' (link_gt l) ?_
        walk_at "w"
        refine w_split (by decide +kernel) (by
          have h1 := (name_len n.1).2
          have h2 := (name_len n.2).2
          rw [linkS, app_len, app_len, app_len]
          show 0 + _ + 1 + _ ≤ _
          omega) (split_link n.1 n.2) fun q1 J3 n3 s3 h3 => ?_
        walk_at "w"
        refine w_tupL (SqL.of h3) fun q2 J4 n4 s4 h4 => ?_
        refine w_put ((s3.trans s4) _ _ hA) la (by omega) fun Z e6 hZ => ⟨Same.ofExt (m1.trans (s3.trans s4)) nD2 e6, ?_⟩
        rw [List.take_add_one, el]
        exact ((m2.same (s3.trans s4)).ext ((s3.trans s4) _ _ hA) e6).app (PairsAt.one ⟨q2, rfl, e6 q2 _ (ne_of h4 ((s3.trans s4) _ _ hA) (by intro z; cases z)) h4⟩)
      · have n := G.m (List.mem_of_getElem? em)
        refine w_no' (mark_gt n.1 n.2) ?_
        refine w_skip hA la ⟨m1, ?_⟩
        rw [List.take_of_length_le (by omega)]
        rw [List.take_of_length_le big] at m2
        exact m2
    · rintro acc M lacc hA ⟨m1, m2⟩
      rw [List.length_map, List.take_of_length_le (by omega)] at m2
      walk_at "w"
      have hD1 := m1 _ _ hD
      refine w_onL hD1 ?_
      intro D3 nD3
      refine w_comp walk_list (fun i acc N => Same M N ∧ PairsAt N acc ((srtP ms).take (i - (srtP ls).length))) nD3 (fun N s e => ⟨s, by rw [Nat.zero_sub]; exact .nil⟩) (fun i acc N h => SqL.of (h.1 _ _ hD1)) ?_ ?_
      · rintro i acc3 u N N' hi la ⟨k1, k2⟩ hA3 ⟨rfl, hu⟩
        rw [List.length_map] at hi
        obtain ⟨z, ez, rfl⟩ : ∃ z, (wordsS ls ms)[i]? = some z ∧ u = V.str z := by
          rw [List.getElem?_map] at hu
          obtain ⟨z, hz, e⟩ := Option.map_eq_some_iff.mp hu
          exact ⟨z, hz, e.symm⟩
        walk_at "w"
        refine ⟨rfl, ?_⟩
        walk_at "w"
        refine w_ninG ?_
        walk_at "w"
        rcases words_at ez with ⟨l, el, rfl⟩ | ⟨big, m, em, rfl⟩
        · refine w_ndec (fun n => absurd (link_gt l) n) fun _ => ?_
          refine w_skip hA3 la ⟨k1, ?_⟩
          have h1 := (List.getElem?_eq_some_iff.mp el).1
          rw [show i + 1 - (srtP ls).length = 0 by omega]
          rw [show i - (srtP ls).length = 0 by omega] at k2
          exact k2
        · have n := G.m (List.mem_of_getElem? em)
          refine w_ndec (fun _ => ?_) fun h => absurd h (mark_gt n.1 n.2)
          walk_at "w"
          refine w_split (by decide +kernel) (by
            have h1 := (name_len n.1).2
            have h2 := (name_len n.2).2
            rw [markS, app_len, app_len, app_len]
            show 0 + _ + 1 + _ ≤ _
            omega) (split_mark n.1 n.2) fun q1 J3 n3 s3 h3 => ?_
          walk_at "w"
          refine w_tupL (SqL.of h3) fun q2 J4 n4 s4 h4 => ?_
          refine w_put ((s3.trans s4) _ _ hA3) la (by omega) fun Z e6 hZ => ⟨Same.ofExt (k1.trans (s3.trans s4)) nD3 e6, ?_⟩
          rw [show i + 1 - (srtP ls).length = (i - (srtP ls).length) + 1 by omega, List.take_add_one, em]
          exact ((k2.same (s3.trans s4)).ext ((s3.trans s4) _ _ hA3) e6).app (PairsAt.one ⟨q2, rfl, e6 q2 _ (ne_of h4 ((s3.trans s4) _ _ hA3) (by intro z; cases z)) h4⟩)
      · rintro acc3 N lacc3 hA3 ⟨k1, k2⟩
        rw [List.length_map, List.take_of_length_le (by omega)] at k2
        walk_at "w"
        refine w_tupL (SqL.of hA3) fun pt J5 np5 s5 hpt => ?_
        walk_at "w"
        have sMJ := k1.trans s5
        refine w_onStarL (SqL.of (sMJ _ _ hA)) ?_
        walk_at "w"
        rw [List.append_nil]
        refine made1 (ls := srtP ls) (ms := srtP ms) (m2.same sMJ) (SqT.of hpt) (k2.same s5) (G.perm (srtP_perm ls) (srtP_perm ms)) fun x J6 nx s6 sh => ?_
        have sh2 := sh.perm (srtP_perm ls) (srtP_perm ms)
        walk_at "w"
        obtain ⟨dx, pl, pk, pm, lv, wl, wm, hx, _⟩ := id sh2.ex
        refine w_strO hx ⟨x, level, ls, ms, rfl, sh2, G, _, rfl, ?_⟩
        walk_at "w"
        rw [decide_eq_true rfl]
        walk_at "w"
        have sH := ((s12.trans m1).trans sMJ).trans s6
        exact q x J6 (Same.free ((s12.trans m1).trans sMJ) nx) sH sh2
end

end RT
set_option Elab.async false
set_option linter.all false
set_option maxRecDepth 100000
set_option maxHeartbeats 4000000
namespace RT
open PySem PySem.Spec PyProof.Rows L2
local macro_rules | `(tactic| walk_at "w0") => `(tactic| dsimp only [L2.start, cxOf, Cx.nox, Cx.wish, List.map, List.length_cons, List.length_nil, List.replicate_succ, List.replicate_zero, List.cons_append, List.nil_append, Nat.reduceAdd, Nat.reduceSub, List.set_cons_zero, List.set_cons_succ])
local macro_rules | `(tactic| walk_at "w1") => `(tactic| first
  | with_reducible refine w_seq ?_
  | with_reducible refine w_asg ?_
  | with_reducible refine w_var rfl ?_
  | with_reducible refine w_c ?_
  | with_reducible refine w_op ?_
  | with_reducible refine w_cons ?_
  | with_reducible refine w_nil ?_
  | with_reducible refine w_gname ?_
  | with_reducible refine w_cb ?_
  | with_reducible refine w_I0 ?_
  | with_reducible refine w_bl ?_
  | ((with_reducible refine' w_ixL ?s0 ?s1 ?q); (case s0 => assumption); (case s1 => rfl))
  | ((with_reducible refine' w_ixT ?s0 ?s1 ?q); (case s0 => assumption); (case s1 => rfl))
  | with_reducible refine w_gsub ?_
  | with_reducible refine w_ifS ?_
  | with_reducible refine w_test ?_
  | with_reducible refine w_call ?_
  | with_reducible refine w_ret ?_
  | with_reducible refine w_int1 ?_
  | with_reducible refine w_int ?_
  | with_reducible refine w_next ?_
  | with_reducible refine w_drop ?_
  | ((with_reducible refine' w_mod ?s0 ?q); (case s0 => omega))
  | ((with_reducible refine' w_div ?s0 ?q); (case s0 => omega))
  | ((with_reducible refine' w_mul ?s0 ?q); (case s0 => omega))
  | ((with_reducible refine' w_pow ?s0 ?q); (case s0 => decide))
  | with_reducible refine w_B ?_
  | with_reducible refine w_and ?_
  | with_reducible refine w_or ?_
  | with_reducible refine w_not ?_
  | with_reducible refine w_T ?_
  | with_reducible refine w_F ?_
  | with_reducible refine w_nT ?_
  | with_reducible refine w_nF ?_
  | with_reducible refine w_un ?_
  | with_reducible refine w_U ?_
  | with_reducible refine w_if ?_
  | with_reducible refine w_lst ?_
  | with_reducible refine w_tup ?_
  | with_reducible refine w_sl ?_
  | with_reducible refine w_part ?_
  | with_reducible refine w_nopart ?_
  | with_reducible refine w_eqI ?_
  | with_reducible refine w_neI ?_
  | with_reducible refine w_eqS ?_
  | with_reducible refine w_neS ?_
  | with_reducible refine w_abs ?_
  | with_reducible refine w_max2 ?_
  | with_reducible refine w_min2 ?_
  | ((with_reducible refine' w_lenL ?s0 ?q); (case s0 => assumption))
  | ((with_reducible refine' w_lenH ?s0 ?q); (case s0 => assumption))
  | ((with_reducible refine' w_lenT ?s0 ?q); (case s0 => assumption))
  | ((with_reducible refine' w_lenS ?s0 ?q); (case s0 => first | assumption | omega | decide +kernel))
  | with_reducible refine w_inC ?_
  | with_reducible refine w_ninC ?_
  | with_reducible refine w_m1 ?_
  | with_reducible refine w_m0 ?_
  | with_reducible refine w_isstr ?_
  | with_reducible refine w_andV ?_
  | with_reducible refine w_orV ?_
  | with_reducible refine w_notV ?_
  | with_reducible refine w_chain ?_
  | with_reducible refine w_retN ?_
  | with_reducible refine w_break ?_
  | with_reducible refine w_cont ?_
  | with_reducible refine w_yes ?_
  | with_reducible refine w_for ?_
  | with_reducible refine w_lc ?_
  | with_reducible refine w_iList ?_
  | with_reducible refine w_iTup ?_
  | with_reducible refine w_iStr ?_
  | with_reducible refine w_iR1 ?_
  | with_reducible refine w_iR2 ?_
  | ((with_reducible refine' w_onL ?s0 ?q); (case s0 => assumption))
  | ((with_reducible refine' w_onQ ?s0 ?q); (case s0 => assumption))
  | ((with_reducible refine' w_onT ?s0 ?q); (case s0 => assumption))
  | ((with_reducible refine' w_onU ?s0 ?q); (case s0 => assumption))
  | with_reducible refine w_onS ?_
  | ((with_reducible refine' w_onR1 ?s0 ?q); (case s0 => omega))
  | ((with_reducible refine' w_onR2 ?s0 ?q); (case s0 => omega))
  | with_reducible refine w_revL ?_
  | ((with_reducible refine' w_all ?s0 ?q); (case s0 => assumption))
  | ((with_reducible refine' w_any ?s0 ?q); (case s0 => assumption))
  | with_reducible refine w_bm ?_
  | with_reducible refine w_bm0 ?_
  | ((with_reducible refine' w_islst ?s0 ?q); (case s0 => assumption))
  | with_reducible refine w_kw ?_
  | ((with_reducible refine' w_isi ?s0 ?s1 ?q); (case s0 => assumption); (case s1 => assumption))
  | ((with_reducible refine' w_addS ?s0 ?q); (case s0 => first | omega | decide +kernel))
  | with_reducible refine w_dnew ?_
  | with_reducible refine w_pnil ?_
  | with_reducible refine w_pcons ?_
  | ((with_reducible refine' w_slS ?s0 ?q); (case s0 => first | assumption | omega))
  | ((with_reducible refine' w_inLS ?s0 ?q); (case s0 => assumption))
  | ((with_reducible refine' w_ninLS ?s0 ?q); (case s0 => assumption))
  | ((with_reducible refine' w_inTS ?s0 ?q); (case s0 => assumption))
  | with_reducible refine w_par ?_
  | with_reducible refine w_parEnd ?_
  | with_reducible refine w_fld ?_
  | with_reducible refine w_e1 ?_
  | with_reducible refine w_e2 ?_
  | with_reducible refine w_par3 ?_
  | with_reducible refine w_parEnd3 ?_
  | ((with_reducible refine' w_upper ?s0 ?q); (case s0 => first | assumption | omega | decide +kernel))
  | with_reducible refine w_fldT ?_
  | with_reducible refine w_setT ?_
  | with_reducible refine w_fs ?_
  | with_reducible refine w_jsC ?_
  | with_reducible refine w_js0 ?_
  | with_reducible refine w_fmtT ?_
  | with_reducible refine w_dinT ?_
  | with_reducible refine w_dninT ?_
  | with_reducible refine w_dputT ?_
  | with_reducible refine w_dgetT ?_
  | with_reducible refine w_dget2T ?_
  | with_reducible refine w_setdT ?_
  | with_reducible refine w_mkK ?_
  | with_reducible refine w_mkR ?_
  | with_reducible refine w_dcT ?_
  | ((with_reducible refine' w_ninTS ?s0 ?q); (case s0 => assumption))
  | with_reducible refine w_strS ?_
  | with_reducible refine w_star ?_
  | with_reducible refine w_iE ?_
  | with_reducible refine w_metK ?_
  | with_reducible refine w_met ?_
  | with_reducible refine w_stat ?_
  | dsimp only [wipe, List.set_cons_zero, List.set_cons_succ])
local macro_rules | `(tactic| walk_at "w") => `(tactic| repeat walk_at "w1")
/-! ### what the law draws -/
structure LinksOf (zs : List Str) (ls : List PP) : Prop where
  each : ∀ l ∈ ls, ∃ i k : Nat, i < k ∧ zs[i]? = some l.1 ∧ zs[k]? = some l.2
  nd : ls.Nodup
  few : ls.length ≤ zs.length + 2
  all : ∀ k, 0 < k → k < zs.length → ∃ (i : Nat) (x y : Str), i < k ∧ zs[i]? = some x ∧ zs[k]? = some y ∧ (x, y) ∈ ls
def spLinks : Sp := fun vs H Q _ => ∃ a b zs, vs = [.ref a, .ref b, .int 3] ∧ Bag H a ∧ H b = some (.lst ((zs : List Str).map V.str)) ∧ zs.Nodup ∧ 1 ≤ zs.length ∧ zs.length ≤ 10 ∧
  ∀ p J us ls, H p = none → J p = some (.lst us) → PairsAt J us ls → LinksOf zs ls → Ext a H J → Bag J a → Q (.ref p) J
def spPairs : Sp := fun vs H Q _ => ∃ a b zs, vs = [.ref a, .ref b] ∧ Bag H a ∧ H b = some (.lst ((zs : List Str).map V.str)) ∧ zs.length ≤ 10 ∧
  ∀ p J us ms, H p = none → J p = some (.lst us) → PairsAt J us ms → (ms.map (·.1)).Sublist zs → (∀ m ∈ ms, nameS m.2 = true) → Ext a H J → Bag J a → Q (.ref p) J
theorem erase_perm {α : Type} : ∀ {l : List α} {n : Nat} {m : α}, l[n]? = some m → (m :: l.eraseIdx n).Perm l
  | [], _, _, e => by cases e
  | x :: r, 0, m, e => by
    cases Option.some.inj e
    exact .refl _
  | x :: r, n + 1, m, e => (List.Perm.swap x m _).trans ((erase_perm (l := r) (n := n) e).cons x)
theorem at_str {zs : List Str} {d : Int} {n : Nat} (d0 : 0 ≤ d) (d1 : d < n) (hn : n ≤ zs.length) : ∃ (m : Nat) (z : Str), m < n ∧ zs[m]? = some z ∧ atI (zs.map V.str) d = some (.str z) := by
  obtain ⟨m, rfl⟩ := Int.eq_ofNat_of_zero_le d0
  have h : m < zs.length := by omega
  refine ⟨m, zs[m], by omega, List.getElem?_eq_getElem h, atI_nat ?_⟩
  rw [List.getElem?_map, List.getElem?_eq_getElem h]
  rfl
/-- the first turns: each name has one above it -/
structure Tree (zs : List Str) (ls : List PP) : Prop where
  at_ : ∀ (j : Nat) (l : PP), ls[j]? = some l → ∃ m : Nat, m < j + 1 ∧ zs[m]? = some l.1 ∧ zs[j + 1]? = some l.2
theorem Tree.links {zs : List Str} {ls : List PP} (T : Tree zs ls) (nd : zs.Nodup) (hl : ls.length = zs.length - 1) : LinksOf zs ls := by
  refine ⟨fun l hl => ?_, ?_, by omega, fun k h0 h1 => ?_⟩
  · obtain ⟨j, hj⟩ := List.getElem?_of_mem hl
    obtain ⟨m, h1, h2, h3⟩ := T.at_ j l hj
    exact ⟨m, j + 1, h1, h2, h3⟩
  · refine List.pairwise_iff_getElem.mpr fun i j hi hj hij e => ?_
    have e2 := List.getElem?_eq_getElem hj
    obtain ⟨m1, a1, a2, a3⟩ := T.at_ j _ e2
    obtain ⟨m2, b1, b2, b3⟩ := T.at_ i _ ((List.getElem?_eq_getElem hi).trans (congrArg some e))
    have := (List.getElem?_inj (List.getElem?_eq_some_iff.mp b3).1 nd).mp (b3.trans a3.symm)
    omega
  · have hk : k - 1 < ls.length := by omega
    obtain ⟨m, a1, a2, a3⟩ := T.at_ (k - 1) _ (List.getElem?_eq_getElem hk)
    have ek : k - 1 + 1 = k := by omega
    rw [ek] at a1 a3
    exact ⟨m, _, _, a1, a2, a3, List.getElem_mem hk⟩
theorem w_decI {A B p : Prop} {i : Decidable p} (h1 : p → A) (h2 : ¬ p → B) : if @decide p i = true then A else B := w_dec h1 h2
theorem w_listL {K : PySem.W.Frag} {H : Hp} {Q : VK} {p : Addr} {ys : List V} (h : SqL K H p ys ∨ SqT K H p ys) (q : ∀ l L, H l = none → Same H L → L l = some (.lst ys) → Q (.ref l) L) : qList K [.ref p] H Q := ⟨p, ys, rfl, h, w_new q⟩
theorem Bag.far {H : Hp} {a b : Addr} {zs : List Str} {z : Str} (h : Bag H a) (hb : H b = some (.lst (zs.map V.str))) (m : z ∈ zs) : b ≠ a := fun e => by
  obtain ⟨g, s, t, _, _, ha⟩ := h
  rw [e, ha] at hb
  have e2 := HO.lst.inj (Option.some.inj hb)
  cases zs with
  | nil => cases e2
  | cons x xs =>
    have e3 := (List.cons.inj e2).1
    cases e3
theorem PairsAt.bag {H J : Hp} {a : Addr} {vs : List V} {ls : List PP} (h : PairsAt H vs ls) (b : Bag H a) (e : Ext a H J) : PairsAt J vs ls := by
  obtain ⟨ys, hy⟩ := b.lst
  exact h.ext hy e
abbrev s__law_links : Stmt := topS 28
theorem sc__law_links : FnScope ["bag", "names", "more", "found", "k", "turn", "high", "pair"] ["bag", "names", "more"] (defScope s__law_links) := ⟨rfl, rfl, rfl, by decide +kernel, rfl, by decide +kernel, by decide +kernel⟩
abbrev s__law_pairs : Stmt := topS 31
theorem sc__law_pairs : FnScope ["bag", "names", "tier"] ["bag", "names"] (defScope s__law_pairs) := ⟨rfl, rfl, rfl, by decide +kernel, rfl, by decide +kernel, by decide +kernel⟩
section
variable {P : Program} {w : World} {K : PySem.W.Frag} {mg : Str → Option Value} {base : Heap}
theorem ok__law_pairs {f : Addr} {fd : FuncData} (F : Fun K "_law_pairs" "_law_pairs" s__law_pairs f fd) (T : Txt K mg) (c__law_draw : Cal P w K mg base 1 "_law_draw" spDraw) (c__law_name : Cal P w K mg base 2 "_law_name" spName1) : FnOk P w K mg base CX0 3 f fd ["bag", "names"] spPairs := by
  refine F.ok sc__law_pairs (fun vs H Q E h => ?_) (fun cdv A outer s H vs Q E hr h => ?_)
  · obtain ⟨a, b, zs, rfl, _⟩ := h
    rfl
  · obtain ⟨a, b, zs, rfl, ba, hb, few, q⟩ := h
    refine ⟨_, (pss_one (ps_ret (pe_lc (own := [("tier", 2)]) (g := (gName 2)) rfl sc__law_pairs.nd (k_iL (K := K) (pv 1)) (blkOk_by (own := [("tier", 2)]) (N := ["bag", "names", "tier"]) (sc := defScope s__law_pairs) (by decide +kernel)) (fun _ _ _ _ _ => (pg_name (i := 2) sc__law_pairs.nd rfl (Or.inl rfl))) (fun _ _ _ _ _ => (pts_one (pt_cmpR op_eq (pe_c c__law_draw hr (by decide) (by rfl) (pa_cons (pv 0) (pa_cons pe_int pa_nil))) pe_int (nomark _)))) (fun _ _ _ _ _ => (pe_tup (pa_cons (pv 2) (pa_cons (pe_c c__law_name hr (by decide) (by rfl) (pa_cons (pv 0) pa_nil)) pa_nil))))))), ?_⟩
    walk_at "w0"
    walk_at "w"
    intro D nD
    have nDa : D ≠ a := ba.ne nD
    have nDb : D ≠ b := fun z => by rw [z, hb] at nD; cases nD
    refine w_comp walk_list (fun i acc M => Bag M a ∧ Ext a H M ∧ M b = some (.lst (zs.map V.str)) ∧ ∃ ms, PairsAt M acc ms ∧ (ms.map (·.1)).Sublist (zs.take i) ∧ ∀ m ∈ ms, nameS m.2 = true) nD (fun M s e => ⟨ba.same s, .same s, s _ _ hb, [], .nil, by simp, by simp⟩) (fun i acc M h => SqL.of h.2.2.1) ?_ ?_
    · rintro i acc x M M' hi la ⟨b0, e0, hbM, ms, p0, sub, nms⟩ hA ⟨rfl, hx⟩
      obtain ⟨z, ez, rfl⟩ : ∃ z, zs[i]? = some z ∧ x = V.str z := by
        rw [List.getElem?_map] at hx
        obtain ⟨z, hz, e⟩ := Option.map_eq_some_iff.mp hx
        exact ⟨z, hz, e.symm⟩
      have hi2 : i < zs.length := by simpa using hi
      have take1 : zs.take (i + 1) = zs.take i ++ [z] := by
        rw [List.take_add_one, ez]
        rfl
      walk_at "w"
      refine ⟨rfl, ?_⟩
      walk_at "w"
      have nba : b ≠ a := ba.far hb (List.mem_of_getElem? ez)
      refine w_draw (by decide) (by decide) b0 fun d J d0 d1 e3 b3 => ?_
      have hA3 := e3 D _ nDa hA
      have hb3 := e3 b _ nba hbM
      walk_at "w"
      refine w_dec (fun _ => ?_) fun _ => w_skip hA3 la ⟨b3, e0.trans e3, hb3, ms, p0.bag b0 e3, sub.trans (by rw [take1]; exact List.sublist_append_left _ _), nms⟩
      walk_at "w"
      refine ⟨a, rfl, b3, fun y J2 hy e4 b4 => ?_⟩
      have hA4 := e4 D _ nDa hA3
      walk_at "w"
      refine w_newT rfl fun t J5 nt s5 ht => ?_
      refine w_put (s5 _ _ hA4) la (by omega) fun Z e6 hZ => ⟨(b4.same s5).keep e6 nDa.symm, (((e0.trans e3).trans e4).trans (.same s5)).put nD e6, e6 b _ nDb.symm (s5 _ _ (e4 b _ nba hb3)), ms ++ [(z, y)], ?_, ?_, ?_⟩
      · exact ((((p0.bag b0 e3).bag b3 e4).same s5).ext (s5 _ _ hA4) e6).app (PairsAt.one ⟨t, rfl, e6 t _ (ne_of ht (s5 _ _ hA4) (by intro z; cases z)) ht⟩)
      · rw [List.map_append, take1]
        exact sub.append (List.Sublist.refl _)
      · intro m hm
        rcases List.mem_append.mp hm with h | h
        · exact nms m h
        · rw [List.mem_singleton.mp h]
          exact hy
    · rintro acc M la hA ⟨b0, e0, hbM, ms, p0, sub, nms⟩
      have ew : zs.take (zs.map V.str).length = zs := List.take_of_length_le (by rw [List.length_map]; exact Nat.le_refl _)
      rw [ew] at sub
      exact q D M acc ms nD hA p0 sub nms e0 b0
theorem ok__law_links {f : Addr} {fd : FuncData} (F : Fun K "_law_links" "_law_links" s__law_links f fd) (T : Txt K mg) (c__law_draw : Cal P w K mg base 1 "_law_draw" spDraw) : FnOk P w K mg base CX0 2 f fd ["bag", "names", "more"] spLinks := by
  refine F.ok sc__law_links (fun vs H Q E h => ?_) (fun cdv A outer s H vs Q E hr h => ?_)
  · obtain ⟨a, b, zs, rfl, _⟩ := h
    rfl
  · obtain ⟨a, b, zs, rfl, ba, hb, nd, one, few, q⟩ := h
    refine ⟨_, (pss_cons (ps_set (i := 3) sc__law_links.nd rfl (by first | exact Or.inl rfl | exact Or.inr rfl) (pe_lst pa_nil))
  (pss_cons (ps_for PassesOwn.never rfl (pi_range2 rfl T.z_range (pa_cons pe_int (pa_cons (pe_callB (k_lenQ (K := K)) (by rfl) T.z_len (by decide +kernel) (pa_cons (pv 1) pa_nil)) pa_nil))) (pg_name (i := 4) sc__law_links.nd rfl (by first | exact Or.inl rfl | exact Or.inr rfl))
    (pss_one (ps_expr (k_bm (K := K) (pe_bm PySem.F.plainAttrs_list PySem.F.slot_list_append PySem.F.type_list_append mt_append (pv 3) (pa_cons (pe_tup (pa_cons (pe_ix (k_ixL (K := K)) (pv 1) (pe_c c__law_draw hr (by decide) (by rfl) (pa_cons (pv 0) (pa_cons (pv 4) pa_nil))) (fun _ _ => rfl)) (pa_cons (pe_ix (k_ixL (K := K)) (pv 1) (pv 4) (fun _ _ => rfl)) pa_nil))) pa_nil))))))
  (pss_cons (ps_for PassesOwn.never rfl (pi_range1 rfl T.z_range (pa_cons (pe_ifExp (pt_cmpR op_gt (pe_callB (k_lenQ (K := K)) (by rfl) T.z_len (by decide +kernel) (pa_cons (pv 1) pa_nil)) pe_int (nomark _)) (pv 2) pe_int) pa_nil)) (pg_name (i := 5) sc__law_links.nd rfl (by first | exact Or.inl rfl | exact Or.inr rfl))
    (pss_cons (ps_set (i := 6) sc__law_links.nd rfl (by first | exact Or.inl rfl | exact Or.inr rfl) (pe_op op_add pe_int (pe_c c__law_draw hr (by decide) (by rfl) (pa_cons (pv 0) (pa_cons (pe_op op_sub (pe_callB (k_lenQ (K := K)) (by rfl) T.z_len (by decide +kernel) (pa_cons (pv 1) pa_nil)) pe_int) pa_nil)))))
  (pss_cons (ps_set (i := 7) sc__law_links.nd rfl (by first | exact Or.inl rfl | exact Or.inr rfl) (pe_tup (pa_cons (pe_ix (k_ixL (K := K)) (pv 1) (pe_c c__law_draw hr (by decide) (by rfl) (pa_cons (pv 0) (pa_cons (pv 6) pa_nil))) (fun _ _ => rfl)) (pa_cons (pe_ix (k_ixL (K := K)) (pv 1) (pv 6) (fun _ _ => rfl)) pa_nil))))
  (pss_one (ps_if (pt_cmpR (k_ninL (α := PP) (K := K) hr (by decide)) (pv 7) (pv 3) rfl)
    (pss_one (ps_expr (k_bm (K := K) (pe_bm PySem.F.plainAttrs_list PySem.F.slot_list_append PySem.F.type_list_append mt_append (pv 3) (pa_cons (pv 7) pa_nil)))))
    pss_nil)))))
  (pss_one (ps_ret (pv 3)))))), ?_⟩
    walk_at "w0"
    walk_at "w"
    refine w_newL rfl fun g L1 ng s1 hg => ?_
    walk_at "w"
    have nga : g ≠ a := ba.ne ng
    have ngb : g ≠ b := fun z => by rw [z, hb] at ng; cases ng
    have nba : b ≠ a := by
      cases zs with
      | nil => simp at one
      | cons z r => exact ba.far hb List.mem_cons_self
    refine w_lenH (s1 _ _ hb) ?_
    walk_at "w"
    rw [List.length_map]
    refine w_onR2 (by omega) ?_
    have en : ((zs.length : Int) - 1).toNat = zs.length - 1 := by omega
    rw [en]
    refine w_loop walk_range (fun i σ M => ∃ o4 o5 o6 o7 us ls, σ = [some (.ref a), some (.ref b), some (.int 3), some (.ref g), o4, o5, o6, o7] ∧ M g = some (.lst us) ∧ PairsAt M us ls ∧ ls.length = i ∧ Tree zs ls ∧ M b = some (.lst (zs.map V.str)) ∧ Bag M a ∧ Ext a H M)
      ⟨_, _, _, _, [], [], rfl, hg, .nil, rfl, ⟨fun j l e => by cases e⟩, s1 _ _ hb, ba.same s1, .same s1⟩ (fun _ _ _ _ _ => trivial) ?_ ?_
    · rintro i x σ M0 M hi ⟨o4, o5, o6, o7, us, ls, rfl, hg1, p1, e1, T1, hb1, b0, e0⟩ ⟨rfl, rfl⟩
      walk_at "w"
      refine w_draw (by omega) (by omega) b0 fun d J d0 d1 e3 b3 => ?_
      have hg3 := e3 g _ nga hg1
      have hb3 := e3 b _ nba hb1
      obtain ⟨m, x, hm, ex, ax⟩ := at_str (zs := zs) (n := i + 1) d0 (by omega) (by omega)
      refine w_ixL hb3 ax ?_
      walk_at "w"
      obtain ⟨y, ey⟩ : ∃ y, zs[i + 1]? = some y := ⟨_, List.getElem?_eq_getElem (by omega)⟩
      refine w_ixL (v := .str y) hb3 (by
        rw [show (1 + (i : Int)) = ((i + 1 : Nat) : Int) by omega]
        exact atI_nat (by rw [List.getElem?_map, ey]; rfl)) ?_
      walk_at "w"
      refine w_newT rfl fun t J5 nt s5 ht => ?_
      walk_at "w"
      have l1 := p1.len
      refine w_append (s5 _ _ hg3) (by omega) fun J6 e6 hg6 => ?_
      walk_at "w"
      refine ⟨_, _, _, _, _, ls ++ [(x, y)], rfl, hg6, (((p1.bag b0 e3).same s5).ext (s5 _ _ hg3) e6).app (PairsAt.one ⟨t, rfl, e6 t _ (ne_of_none hg3 nt).symm ht⟩), by rw [List.length_append, e1]; rfl, ⟨fun j l e => ?_⟩, e6 b _ ngb.symm (s5 _ _ hb3), (b3.same s5).keep e6 nga.symm, ((e0.trans e3).trans (.same s5)).put ng e6⟩
      rw [List.getElem?_append] at e
      split at e
      · exact T1.at_ j l e
      · rename_i h
        have ej : j = i := by
          have := (List.getElem?_eq_some_iff.mp e).1
          simp at this
          omega
        subst ej
        rw [e1, Nat.sub_self] at e
        cases Option.some.inj e
        exact ⟨m, hm, ex, ey⟩
    · rintro σ M ⟨o4, o5, o6, o7, us, ls, rfl, hg1, p1, e1, T1, hb1, b0, e0⟩
      have L1 := T1.links nd e1
      walk_at "w"
      rw [List.length_map]
      refine w_dec (fun big => ?_) fun _ => ?_
      · walk_at "w"
        refine w_loop walk_range (fun i σ M => ∃ o4 o5 o6 o7 us ls, σ = [some (.ref a), some (.ref b), some (.int 3), some (.ref g), o4, o5, o6, o7] ∧ M g = some (.lst us) ∧ PairsAt M us ls ∧ ls.length ≤ zs.length - 1 + i ∧ LinksOf zs ls ∧ M b = some (.lst (zs.map V.str)) ∧ Bag M a ∧ Ext a H M)
          ⟨_, _, _, _, us, ls, rfl, hg1, p1, by omega, L1, hb1, b0, e0⟩ (fun _ _ _ _ _ => trivial) ?_ ?_
        · rintro i x σ M0 M hi ⟨o4, o5, o6, o7, us, ls, rfl, hg1, p1, e1, L1, hb1, b0, e0⟩ ⟨rfl, rfl⟩
          have hi2 : i < 3 := hi
          walk_at "w"
          rw [List.length_map]
          refine w_draw (by omega) (by omega) b0 fun d J d0 d1 e3 b3 => ?_
          have hg3 := e3 g _ nga hg1
          have hb3 := e3 b _ nba hb1
          walk_at "w"
          refine w_draw (by omega) (by omega) b3 fun d2 J2 d20 d21 e4 b4 => ?_
          have hg4 := e4 g _ nga hg3
          have hb4 := e4 b _ nba hb3
          obtain ⟨dn, rfl⟩ := Int.eq_ofNat_of_zero_le d0
          obtain ⟨m, x, hm, ex, ax⟩ := at_str (zs := zs) (n := 1 + dn) d20 (by omega) (by omega)
          refine w_ixL hb4 ax ?_
          walk_at "w"
          obtain ⟨y, ey⟩ : ∃ y, zs[1 + dn]? = some y := ⟨_, List.getElem?_eq_getElem (by omega)⟩
          refine w_ixL (v := .str y) hb4 (by
            rw [show (1 + (dn : Int)) = ((1 + dn : Nat) : Int) by omega]
            exact atI_nat (by rw [List.getElem?_map, ey]; rfl)) ?_
          walk_at "w"
          refine w_newT rfl fun t J5 nt s5 ht => ?_
          walk_at "w"
          have p5 := ((p1.bag b0 e3).bag b3 e4).same s5
          have hg5 := s5 _ _ hg4
          have l1 := p1.len
          refine w_ninL (α := PP) (a := (x, y)) (xs := ls) (PairAt.tv ⟨t, rfl, ht⟩) (tv_lst hg5 p5.tva) ?_
          walk_at "w"
          have e05 := ((e0.trans e3).trans e4).trans (.same s5)
          refine w_decI (fun nin => ?_) fun _ => ?_
          · walk_at "w"
            refine w_append hg5 (by omega) fun J6 e6 hg6 => ?_
            walk_at "w"
            refine ⟨_, _, _, _, _, ls ++ [(x, y)], rfl, hg6, (p5.ext hg5 e6).app (PairsAt.one ⟨t, rfl, e6 t _ (ne_of_none hg4 nt).symm ht⟩), by rw [List.length_append]; show _ + 1 ≤ _; omega, ⟨fun l hl => ?_, ?_, ?_, fun k h0 h1 => ?_⟩, e6 b _ ngb.symm (s5 _ _ hb4), (b4.same s5).keep e6 nga.symm, e05.put ng e6⟩
            · rcases List.mem_append.mp hl with h | h
              · exact L1.each l h
              · rw [List.mem_singleton.mp h]
                exact ⟨m, 1 + dn, hm, ex, ey⟩
            · exact List.nodup_append.mpr ⟨L1.nd, List.nodup_cons.mpr ⟨by simp, List.nodup_nil⟩, fun u hu v hv e => nin (by rw [← List.mem_singleton.mp hv, ← e]; exact hu)⟩
            · rw [List.length_append]
              show _ + 1 ≤ _
              omega
            · obtain ⟨i, x, y, a1, a2, a3, a4⟩ := L1.all k h0 h1
              exact ⟨i, x, y, a1, a2, a3, List.mem_append_left _ a4⟩
          · walk_at "w"
            exact ⟨_, _, _, _, _, ls, rfl, hg5, p5, by omega, L1, s5 _ _ hb4, b4.same s5, e05⟩
        · rintro σ M ⟨o4, o5, o6, o7, us, ls, rfl, hg1, p1, e1, L1, hb1, b0, e0⟩
          walk_at "w"
          exact q g M us ls ng hg1 p1 L1 e0 b0
      · walk_at "w"
        refine w_loop walk_range (fun i σ N => σ = [some (.ref a), some (.ref b), some (.int 3), some (.ref g), o4, o5, o6, o7] ∧ N = M) ⟨rfl, rfl⟩ (fun _ _ _ _ _ => trivial) (fun i x σ L N hi => absurd hi (Nat.not_lt_zero i)) ?_
        rintro σ N ⟨rfl, rfl⟩
        walk_at "w"
        exact q g N us ls ng hg1 p1 L1 e0 b0
end

end RT
set_option Elab.async false
set_option linter.all false
set_option maxRecDepth 100000
set_option maxHeartbeats 4000000
namespace RT
open PySem PySem.Spec PyProof.Rows L2
local macro_rules | `(tactic| walk_at "w0") => `(tactic| dsimp only [L2.start, cxOf, Cx.nox, Cx.wish, List.map, List.length_cons, List.length_nil, List.replicate_succ, List.replicate_zero, List.cons_append, List.nil_append, Nat.reduceAdd, Nat.reduceSub, List.set_cons_zero, List.set_cons_succ])
local macro_rules | `(tactic| walk_at "w1") => `(tactic| first
  | with_reducible refine w_seq ?_
  | with_reducible refine w_asg ?_
  | with_reducible refine w_var rfl ?_
  | with_reducible refine w_c ?_
  | with_reducible refine w_op ?_
  | with_reducible refine w_cons ?_
  | with_reducible refine w_nil ?_
  | with_reducible refine w_gname ?_
  | with_reducible refine w_cb ?_
  | with_reducible refine w_I0 ?_
  | with_reducible refine w_bl ?_
  | ((with_reducible refine' w_ixL ?s0 ?s1 ?q); (case s0 => assumption); (case s1 => rfl))
  | ((with_reducible refine' w_ixT ?s0 ?s1 ?q); (case s0 => assumption); (case s1 => rfl))
  | with_reducible refine w_gsub ?_
  | with_reducible refine w_ifS ?_
  | with_reducible refine w_test ?_
  | with_reducible refine w_call ?_
  | with_reducible refine w_ret ?_
  | with_reducible refine w_int1 ?_
  | with_reducible refine w_int ?_
  | with_reducible refine w_next ?_
  | with_reducible refine w_drop ?_
  | ((with_reducible refine' w_mod ?s0 ?q); (case s0 => omega))
  | ((with_reducible refine' w_div ?s0 ?q); (case s0 => omega))
  | ((with_reducible refine' w_mul ?s0 ?q); (case s0 => omega))
  | ((with_reducible refine' w_pow ?s0 ?q); (case s0 => decide))
  | with_reducible refine w_B ?_
  | with_reducible refine w_and ?_
  | with_reducible refine w_or ?_
  | with_reducible refine w_not ?_
  | with_reducible refine w_T ?_
  | with_reducible refine w_F ?_
  | with_reducible refine w_nT ?_
  | with_reducible refine w_nF ?_
  | with_reducible refine w_un ?_
  | with_reducible refine w_U ?_
  | with_reducible refine w_if ?_
  | with_reducible refine w_lst ?_
  | with_reducible refine w_tup ?_
  | with_reducible refine w_sl ?_
  | with_reducible refine w_part ?_
  | with_reducible refine w_nopart ?_
  | with_reducible refine w_eqI ?_
  | with_reducible refine w_neI ?_
  | with_reducible refine w_eqS ?_
  | with_reducible refine w_neS ?_
  | with_reducible refine w_abs ?_
  | with_reducible refine w_max2 ?_
  | with_reducible refine w_min2 ?_
  | ((with_reducible refine' w_lenL ?s0 ?q); (case s0 => assumption))
  | ((with_reducible refine' w_lenH ?s0 ?q); (case s0 => assumption))
  | ((with_reducible refine' w_lenT ?s0 ?q); (case s0 => assumption))
  | ((with_reducible refine' w_lenS ?s0 ?q); (case s0 => first | assumption | omega | decide +kernel))
  | with_reducible refine w_inC ?_
  | with_reducible refine w_ninC ?_
  | with_reducible refine w_m1 ?_
  | with_reducible refine w_m0 ?_
  | with_reducible refine w_isstr ?_
  | with_reducible refine w_andV ?_
  | with_reducible refine w_orV ?_
  | with_reducible refine w_notV ?_
  | with_reducible refine w_chain ?_
  | with_reducible refine w_retN ?_
  | with_reducible refine w_break ?_
  | with_reducible refine w_cont ?_
  | with_reducible refine w_yes ?_
  | with_reducible refine w_for ?_
  | with_reducible refine w_lc ?_
  | with_reducible refine w_iList ?_
  | with_reducible refine w_iTup ?_
  | with_reducible refine w_iStr ?_
  | with_reducible refine w_iR1 ?_
  | with_reducible refine w_iR2 ?_
  | ((with_reducible refine' w_onL ?s0 ?q); (case s0 => assumption))
  | ((with_reducible refine' w_onQ ?s0 ?q); (case s0 => assumption))
  | ((with_reducible refine' w_onT ?s0 ?q); (case s0 => assumption))
  | ((with_reducible refine' w_onU ?s0 ?q); (case s0 => assumption))
  | with_reducible refine w_onS ?_
  | ((with_reducible refine' w_onR1 ?s0 ?q); (case s0 => omega))
  | ((with_reducible refine' w_onR2 ?s0 ?q); (case s0 => omega))
  | with_reducible refine w_revL ?_
  | ((with_reducible refine' w_all ?s0 ?q); (case s0 => assumption))
  | ((with_reducible refine' w_any ?s0 ?q); (case s0 => assumption))
  | with_reducible refine w_bm ?_
  | with_reducible refine w_bm0 ?_
  | ((with_reducible refine' w_islst ?s0 ?q); (case s0 => assumption))
  | with_reducible refine w_kw ?_
  | ((with_reducible refine' w_isi ?s0 ?s1 ?q); (case s0 => assumption); (case s1 => assumption))
  | ((with_reducible refine' w_addS ?s0 ?q); (case s0 => first | omega | decide +kernel))
  | with_reducible refine w_dnew ?_
  | with_reducible refine w_pnil ?_
  | with_reducible refine w_pcons ?_
  | ((with_reducible refine' w_slS ?s0 ?q); (case s0 => first | assumption | omega))
  | ((with_reducible refine' w_inLS ?s0 ?q); (case s0 => assumption))
  | ((with_reducible refine' w_ninLS ?s0 ?q); (case s0 => assumption))
  | ((with_reducible refine' w_inTS ?s0 ?q); (case s0 => assumption))
  | with_reducible refine w_par ?_
  | with_reducible refine w_parEnd ?_
  | with_reducible refine w_fld ?_
  | with_reducible refine w_e1 ?_
  | with_reducible refine w_e2 ?_
  | with_reducible refine w_par3 ?_
  | with_reducible refine w_parEnd3 ?_
  | ((with_reducible refine' w_upper ?s0 ?q); (case s0 => first | assumption | omega | decide +kernel))
  | with_reducible refine w_fldT ?_
  | with_reducible refine w_setT ?_
  | with_reducible refine w_fs ?_
  | with_reducible refine w_jsC ?_
  | with_reducible refine w_js0 ?_
  | with_reducible refine w_fmtT ?_
  | with_reducible refine w_dinT ?_
  | with_reducible refine w_dninT ?_
  | with_reducible refine w_dputT ?_
  | with_reducible refine w_dgetT ?_
  | with_reducible refine w_dget2T ?_
  | with_reducible refine w_setdT ?_
  | with_reducible refine w_mkK ?_
  | with_reducible refine w_mkR ?_
  | with_reducible refine w_dcT ?_
  | ((with_reducible refine' w_ninTS ?s0 ?q); (case s0 => assumption))
  | with_reducible refine w_strS ?_
  | with_reducible refine w_star ?_
  | with_reducible refine w_iE ?_
  | with_reducible refine w_metK ?_
  | with_reducible refine w_met ?_
  | with_reducible refine w_stat ?_
  | dsimp only [wipe, List.set_cons_zero, List.set_cons_succ])
local macro_rules | `(tactic| walk_at "w") => `(tactic| repeat walk_at "w1")
/-! ### the law's own walk -/
def Closed (ls : List PP) (F : List Str) : Prop := ∀ l ∈ ls, l.1 ∈ F → l.2 ∈ F
structure Ov (ls : List PP) (y : Str) (F : List Str) : Prop where
  nd : F.Nodup
  top : y ∈ F
  rch : ∀ z ∈ F, Rch ls y z
theorem Ov.few {ls : List PP} {y : Str} {F : List Str} (h : Ov ls y F) : F.length ≤ ls.length + 1 := by
  have := length_le_of_nodup_of_subset F (y :: ls.map (·.2)) h.nd fun z hz => rch_in (h.rch z hz)
  rw [List.length_cons, List.length_map] at this
  exact this
theorem Ov.all {ls : List PP} {y : Str} {F : List Str} (h : Ov ls y F) (c : Closed ls F) {z : Str} (r : Rch ls y z) : z ∈ F := by
  induction r with
  | refl => exact h.top
  | step _ m ih => exact c _ m ih
/-- all places are taken -/
theorem Ov.full {ls : List PP} {y : Str} {F : List Str} (h : Ov ls y F) (n : ls.length + 1 ≤ F.length) : Closed ls F := by
  intro l hl _
  have sub : ∀ z ∈ F, z ∈ y :: ls.map (·.2) := fun z hz => rch_in (h.rch z hz)
  have m : l.2 ∈ y :: ls.map (·.2) := List.mem_cons_of_mem _ (List.mem_map.mpr ⟨l, hl, rfl⟩)
  refine Classical.byContradiction fun no => ?_
  have le := length_le_of_nodup_of_subset (l.2 :: F) (y :: ls.map (·.2)) (List.nodup_cons.mpr ⟨no, h.nd⟩) fun z hz => (List.mem_cons.mp hz).elim (fun e => e ▸ m) (sub z)
  rw [List.length_cons, List.length_cons, List.length_map] at le
  omega
/-- a turn -/
theorem Ov.turn {ls : List PP} {y : Str} {F F1 : List Str} {t : Nat} (h : Ov ls y F) (h1 : Ov ls y F1) (pre : ∃ G, F1 = F ++ G) (st : ∀ l ∈ ls, l.1 ∈ F → l.2 ∈ F1) (c : Closed ls F ∨ t + 1 ≤ F.length) : Closed ls F1 ∨ t + 2 ≤ F1.length := by
  obtain ⟨G, e⟩ := pre
  cases G with
  | nil =>
    rw [List.append_nil] at e
    subst e
    exact .inl st
  | cons g G =>
    rcases c with c | c
    · exact .inl fun l hl m => st l hl (h.all c (h1.rch _ m))
    · refine .inr ?_
      rw [e, List.length_append, List.length_cons]
      omega
def spOver : Sp := fun vs H Q _ => ∃ lk y ws ls, vs = [.ref lk, .str y] ∧ H lk = some (.tup ws) ∧ PairsAt H ws ls ∧ ls.length ≤ 60 ∧ ∀ p J lv, H p = none → Same H J → J p = some (.lst ((lv : List Str).map V.str)) → lv.Nodup → (∀ z, z ∈ lv ↔ Rch ls y z) → Q (.ref p) J
abbrev s__law_over : Stmt := topS 29
theorem sc__law_over : FnScope ["links", "tier", "found", "turn", "lower", "upper"] ["links", "tier"] (defScope s__law_over) := ⟨rfl, rfl, rfl, by decide +kernel, rfl, by decide +kernel, by decide +kernel⟩
section
variable {P : Program} {w : World} {K : PySem.W.Frag} {mg : Str → Option Value} {base : Heap}
theorem ok__law_over {f : Addr} {fd : FuncData} (F : Fun K "_law_over" "_law_over" s__law_over f fd) (T : Txt K mg) : FnOk P w K mg base CX0 1 f fd ["links", "tier"] spOver := by
  refine F.ok sc__law_over (fun vs H Q E h => ?_) (fun cdv A outer s H vs Q E hr h => ?_)
  · obtain ⟨lk, y, ws, ls, rfl, _⟩ := h
    rfl
  · obtain ⟨lk, y, ws, ls, rfl, hlk, hls, few, q⟩ := h
    refine ⟨_, (pss_cons (ps_set (i := 2) sc__law_over.nd rfl (by first | exact Or.inl rfl | exact Or.inr rfl) (pe_lst (pa_cons (pv 1) pa_nil)))
  (pss_cons (ps_for PassesOwn.never rfl (pi_range1 rfl T.z_range (pa_cons (pe_callB (k_lenQ (K := K)) (by rfl) T.z_len (by decide +kernel) (pa_cons (pv 0) pa_nil)) pa_nil)) (pg_name (i := 3) sc__law_over.nd rfl (by first | exact Or.inl rfl | exact Or.inr rfl))
    (pss_one (ps_for PassesOwn.never rfl (k_iT (K := K) (pv 0)) (k_tupG (K := K) (pg_tup (n := 2) (by rfl) (pgs_cons (pg_name (i := 4) sc__law_over.nd rfl (Or.inl rfl)) (pgs_cons (pg_name (i := 5) sc__law_over.nd rfl (Or.inl rfl)) pgs_nil))))
    (pss_one (ps_if (PW.pt (pw_and (pt_cmpR (k_in (K := K)) (pv 4) (pv 2) rfl) (pw_and1 (pt_cmpR (k_nin (K := K)) (pv 5) (pv 2) rfl))))
    (pss_one (ps_expr (k_bm (K := K) (pe_bm PySem.F.plainAttrs_list PySem.F.slot_list_append PySem.F.type_list_append mt_append (pv 2) (pa_cons (pv 5) pa_nil)))))
    pss_nil)))))
  (pss_one (ps_ret (pv 2))))), ?_⟩
    walk_at "w0"
    walk_at "w"
    refine w_newL rfl fun g L1 ng s1 hg => ?_
    walk_at "w"
    have lw := hls.len
    refine w_lenT (s1 _ _ hlk) ?_
    walk_at "w"
    refine w_loop walk_range (fun i σ M => ∃ o1 o2 o3 F, σ = [some (.ref lk), some (.str y), some (.ref g), o1, o2, o3] ∧ M g = some (.lst ((F : List Str).map V.str)) ∧ Ov ls y F ∧ (Closed ls F ∨ i + 1 ≤ F.length) ∧ Same H M)
      ⟨_, _, _, [y], rfl, hg, ⟨by simp, List.mem_singleton.mpr rfl, fun z hz => by rw [List.mem_singleton.mp hz]; exact .refl⟩, .inr (Nat.le_refl _), s1⟩ (fun _ _ _ _ _ => trivial) ?_ ?_
    · rintro i x σ M0 M hi ⟨o1, o2, o3, F, rfl, hgF, OF, c, sM⟩ ⟨rfl, rfl⟩
      walk_at "w"
      refine w_onT (sM _ _ hlk) ?_
      refine w_loop walk_tup (fun j σ N => ∃ o2 o3 F1, σ = [some (.ref lk), some (.str y), some (.ref g), some (.int (0 + i)), o2, o3] ∧ N g = some (.lst ((F1 : List Str).map V.str)) ∧ Ov ls y F1 ∧ (∃ G, F1 = F ++ G) ∧ (∀ l ∈ ls.take j, l.1 ∈ F → l.2 ∈ F1) ∧ Same H N)
        ⟨_, _, F, rfl, hgF, OF, ⟨[], by simp⟩, by simp, sM⟩ (fun j σ N _ h => by obtain ⟨_, _, _, _, _, _, _, _, s⟩ := h; exact SqT.of (s _ _ hlk)) ?_ ?_
      · rintro j u σ N N' hj ⟨o2, o3, F1, rfl, hgF1, O1, ⟨G, eG⟩, st, sN⟩ ⟨rfl, hu⟩
        obtain ⟨l, el, p, rfl, hp⟩ := hls.at hu
        refine w_gT2 (sN _ _ hp) ?_
        walk_at "w"
        have lm := List.mem_of_getElem? el
        have take1 : ∀ F2 : List Str, (∀ z ∈ F1, z ∈ F2) → (l.1 ∈ F → l.2 ∈ F2) → ∀ l' ∈ ls.take (j + 1), l'.1 ∈ F → l'.2 ∈ F2 := fun F2 h1 h2 l' hl' m => by
          rw [List.take_add_one, el] at hl'
          rcases List.mem_append.mp hl' with d | d
          · exact h1 _ (st l' d m)
          · have e : l' = l := by simpa using d
            rw [e] at m ⊢
            exact h2 m
        have inF1 : l.1 ∈ F → l.1 ∈ F1 := fun m => by
          rw [eG]
          exact List.mem_append_left _ m
        refine w_dec (fun e1 => ?_) fun n1 => ?_
        · walk_at "w"
          refine w_ndec (fun n2 => ?_) fun e2 => ?_
          · walk_at "w"
            have fw := O1.few
            refine w_append hgF1 (by rw [List.length_map]; omega) fun J e6 hg6 => ?_
            walk_at "w"
            refine ⟨_, _, F1 ++ [l.2], rfl, by rw [hg6, List.map_append]; rfl, ⟨?_, List.mem_append_left _ O1.top, fun z hz => ?_⟩, ⟨G ++ [l.2], by rw [eG, List.append_assoc]⟩, take1 _ (fun z hz => List.mem_append_left _ hz) fun _ => List.mem_append_right _ (List.mem_singleton.mpr rfl), Same.ofExt sN ng e6⟩
            · exact List.nodup_append.mpr ⟨O1.nd, List.nodup_cons.mpr ⟨by simp, List.nodup_nil⟩, fun u hu v hv e => n2 (by rw [← List.mem_singleton.mp hv, ← e]; exact hu)⟩
            · rcases List.mem_append.mp hz with d | d
              · exact O1.rch z d
              · rw [List.mem_singleton.mp d]
                exact .step (O1.rch _ e1) lm
          · walk_at "w"
            exact ⟨_, _, F1, rfl, hgF1, O1, ⟨G, eG⟩, take1 F1 (fun _ h => h) fun _ => e2, sN⟩
        · walk_at "w"
          exact ⟨_, _, F1, rfl, hgF1, O1, ⟨G, eG⟩, take1 F1 (fun _ h => h) fun m => absurd (inF1 m) n1, sN⟩
      · rintro σ N ⟨o2, o3, F1, rfl, hgF1, O1, pre, st, sN⟩
        rw [List.take_of_length_le (by rw [lw]; exact Nat.le_refl _)] at st
        exact ⟨_, _, _, F1, rfl, hgF1, O1, OF.turn O1 pre st c, sN⟩
    · rintro σ M ⟨o1, o2, o3, F, rfl, hgF, OF, c, sM⟩
      walk_at "w"
      have cl : Closed ls F := c.elim id fun n => OF.full (by
        have : ws.length + 1 ≤ F.length := by simpa using n
        omega)
      exact q g M F ng sM hgF OF.nd fun z => ⟨OF.rch z, fun r => OF.all cl r⟩
end

end RT
set_option Elab.async false
set_option linter.all false
set_option maxRecDepth 100000
set_option maxHeartbeats 4000000
namespace RT
open PySem PySem.Spec PyProof.Rows L2
local macro_rules | `(tactic| walk_at "w0") => `(tactic| dsimp only [L2.start, cxOf, Cx.nox, Cx.wish, List.map, List.length_cons, List.length_nil, List.replicate_succ, List.replicate_zero, List.cons_append, List.nil_append, Nat.reduceAdd, Nat.reduceSub, List.set_cons_zero, List.set_cons_succ])
local macro_rules | `(tactic| walk_at "w1") => `(tactic| first
  | with_reducible refine w_seq ?_
  | with_reducible refine w_asg ?_
  | with_reducible refine w_var rfl ?_
  | with_reducible refine w_c ?_
  | with_reducible refine w_op ?_
  | with_reducible refine w_cons ?_
  | with_reducible refine w_nil ?_
  | with_reducible refine w_gname ?_
  | with_reducible refine w_cb ?_
  | with_reducible refine w_I0 ?_
  | with_reducible refine w_bl ?_
  | ((with_reducible refine' w_ixL ?s0 ?s1 ?q); (case s0 => assumption); (case s1 => rfl))
  | ((with_reducible refine' w_ixT ?s0 ?s1 ?q); (case s0 => assumption); (case s1 => rfl))
  | with_reducible refine w_gsub ?_
  | with_reducible refine w_ifS ?_
  | with_reducible refine w_test ?_
  | with_reducible refine w_call ?_
  | with_reducible refine w_ret ?_
  | with_reducible refine w_int1 ?_
  | with_reducible refine w_int ?_
  | with_reducible refine w_next ?_
  | with_reducible refine w_drop ?_
  | ((with_reducible refine' w_mod ?s0 ?q); (case s0 => omega))
  | ((with_reducible refine' w_div ?s0 ?q); (case s0 => omega))
  | ((with_reducible refine' w_mul ?s0 ?q); (case s0 => omega))
  | ((with_reducible refine' w_pow ?s0 ?q); (case s0 => decide))
  | with_reducible refine w_B ?_
  | with_reducible refine w_and ?_
  | with_reducible refine w_or ?_
  | with_reducible refine w_not ?_
  | with_reducible refine w_T ?_
  | with_reducible refine w_F ?_
  | with_reducible refine w_nT ?_
  | with_reducible refine w_nF ?_
  | with_reducible refine w_un ?_
  | with_reducible refine w_U ?_
  | with_reducible refine w_if ?_
  | with_reducible refine w_lst ?_
  | with_reducible refine w_tup ?_
  | with_reducible refine w_sl ?_
  | with_reducible refine w_part ?_
  | with_reducible refine w_nopart ?_
  | with_reducible refine w_eqI ?_
  | with_reducible refine w_neI ?_
  | with_reducible refine w_eqS ?_
  | with_reducible refine w_neS ?_
  | with_reducible refine w_abs ?_
  | with_reducible refine w_max2 ?_
  | with_reducible refine w_min2 ?_
  | ((with_reducible refine' w_lenL ?s0 ?q); (case s0 => assumption))
  | ((with_reducible refine' w_lenH ?s0 ?q); (case s0 => assumption))
  | ((with_reducible refine' w_lenT ?s0 ?q); (case s0 => assumption))
  | ((with_reducible refine' w_lenS ?s0 ?q); (case s0 => first | assumption | omega | decide +kernel))
  | with_reducible refine w_inC ?_
  | with_reducible refine w_ninC ?_
  | with_reducible refine w_m1 ?_
  | with_reducible refine w_m0 ?_
  | with_reducible refine w_isstr ?_
  | with_reducible refine w_andV ?_
  | with_reducible refine w_orV ?_
  | with_reducible refine w_notV ?_
  | with_reducible refine w_chain ?_
  | with_reducible refine w_retN ?_
  | with_reducible refine w_break ?_
  | with_reducible refine w_cont ?_
  | with_reducible refine w_yes ?_
  | with_reducible refine w_for ?_
  | with_reducible refine w_lc ?_
  | with_reducible refine w_iList ?_
  | with_reducible refine w_iTup ?_
  | with_reducible refine w_iStr ?_
  | with_reducible refine w_iR1 ?_
  | with_reducible refine w_iR2 ?_
  | ((with_reducible refine' w_onL ?s0 ?q); (case s0 => assumption))
  | ((with_reducible refine' w_onQ ?s0 ?q); (case s0 => assumption))
  | ((with_reducible refine' w_onT ?s0 ?q); (case s0 => assumption))
  | ((with_reducible refine' w_onU ?s0 ?q); (case s0 => assumption))
  | with_reducible refine w_onS ?_
  | ((with_reducible refine' w_onR1 ?s0 ?q); (case s0 => omega))
  | ((with_reducible refine' w_onR2 ?s0 ?q); (case s0 => omega))
  | with_reducible refine w_revL ?_
  | ((with_reducible refine' w_all ?s0 ?q); (case s0 => assumption))
  | ((with_reducible refine' w_any ?s0 ?q); (case s0 => assumption))
  | with_reducible refine w_bm ?_
  | with_reducible refine w_bm0 ?_
  | ((with_reducible refine' w_islst ?s0 ?q); (case s0 => assumption))
  | with_reducible refine w_kw ?_
  | ((with_reducible refine' w_isi ?s0 ?s1 ?q); (case s0 => assumption); (case s1 => assumption))
  | ((with_reducible refine' w_addS ?s0 ?q); (case s0 => first | omega | decide +kernel))
  | with_reducible refine w_dnew ?_
  | with_reducible refine w_pnil ?_
  | with_reducible refine w_pcons ?_
  | ((with_reducible refine' w_slS ?s0 ?q); (case s0 => first | assumption | omega))
  | ((with_reducible refine' w_inLS ?s0 ?q); (case s0 => assumption))
  | ((with_reducible refine' w_ninLS ?s0 ?q); (case s0 => assumption))
  | ((with_reducible refine' w_inTS ?s0 ?q); (case s0 => assumption))
  | with_reducible refine w_par ?_
  | with_reducible refine w_parEnd ?_
  | with_reducible refine w_fld ?_
  | with_reducible refine w_e1 ?_
  | with_reducible refine w_e2 ?_
  | with_reducible refine w_par3 ?_
  | with_reducible refine w_parEnd3 ?_
  | ((with_reducible refine' w_upper ?s0 ?q); (case s0 => first | assumption | omega | decide +kernel))
  | with_reducible refine w_fldT ?_
  | with_reducible refine w_setT ?_
  | with_reducible refine w_fs ?_
  | with_reducible refine w_jsC ?_
  | with_reducible refine w_js0 ?_
  | with_reducible refine w_fmtT ?_
  | with_reducible refine w_dinT ?_
  | with_reducible refine w_dninT ?_
  | with_reducible refine w_dputT ?_
  | with_reducible refine w_dgetT ?_
  | with_reducible refine w_dget2T ?_
  | with_reducible refine w_setdT ?_
  | with_reducible refine w_mkK ?_
  | with_reducible refine w_mkR ?_
  | with_reducible refine w_dcT ?_
  | ((with_reducible refine' w_ninTS ?s0 ?q); (case s0 => assumption))
  | with_reducible refine w_strS ?_
  | with_reducible refine w_star ?_
  | with_reducible refine w_iE ?_
  | with_reducible refine w_metK ?_
  | with_reducible refine w_met ?_
  | with_reducible refine w_stat ?_
  | dsimp only [wipe, List.set_cons_zero, List.set_cons_succ])
local macro_rules | `(tactic| walk_at "w") => `(tactic| repeat walk_at "w1")
/-! ### what the law shows -/
theorem empty_app (x : Str) : Str.empty ++ x = x := by
  refine TL.ext_tl ?_
  rw [tl_app]
  rfl
theorem linkS_eq (l : PP) : linkS l = l.1 ++ Str.ofString ">" ++ l.2 := by rw [linkS, empty_app]
theorem markS_eq (l : PP) : markS l = l.1 ++ Str.ofString "=" ++ l.2 := by rw [markS, empty_app]
def textL (level : Str) (kl km : List PP) : Str := Txt.join (Str.ofString " ") (level :: (kl.map linkS ++ km.map markS))
theorem textL_eq (level : Str) (ls ms : List PP) : textL level (srtP ls) (srtP ms) = textS level ls ms := rfl
def short (l : PP) : Prop := l.1.length ≤ 8 ∧ l.2.length ≤ 8
def spShown : Sp := fun vs H Q _ => ∃ f level pk pm wl wm kl km, vs = [.ref f] ∧ H f = some (.tup [.str level, .ref pk, .ref pm]) ∧ level.length ≤ 8 ∧ H pk = some (.tup wl) ∧ PairsAt H wl kl ∧ H pm = some (.tup wm) ∧ PairsAt H wm km ∧ (∀ l ∈ kl, short l) ∧ (∀ l ∈ km, short l) ∧ kl.length ≤ 60 ∧ km.length ≤ 60 ∧ ∀ J, Same H J → Q (.str (textL level kl km)) J
abbrev s__law_shown : Stmt := topS 32
theorem sc__law_shown : FnScope ["form", "steps", "lower", "upper", "note"] ["form"] (defScope s__law_shown) := ⟨rfl, rfl, rfl, by decide +kernel, rfl, by decide +kernel, by decide +kernel⟩
abbrev s__law_part : Stmt := topS 30
theorem sc__law_part : FnScope ["form", "tier", "inside", "links", "pair"] ["form", "tier"] (defScope s__law_part) := ⟨rfl, rfl, rfl, by decide +kernel, rfl, by decide +kernel, by decide +kernel⟩
section
variable {P : Program} {w : World} {K : PySem.W.Frag} {mg : Str → Option Value} {base : Heap}
theorem ok__law_shown {f : Addr} {fd : FuncData} (F : Fun K "_law_shown" "_law_shown" s__law_shown f fd) (T : Txt K mg) : FnOk P w K mg base CX0 1 f fd ["form"] spShown := by
  refine F.ok sc__law_shown (fun vs H Q E h => ?_) (fun cdv A outer s H vs Q E hr h => ?_)
  · obtain ⟨f, _, _, _, _, _, _, _, rfl, _⟩ := h
    rfl
  · obtain ⟨fm, level, pk, pm, wl, wm, kl, km, rfl, hf, hlev, hpk, hkl, hpm, hkm, sl, sm, fl, fm2, q⟩ := h
    refine ⟨_, (pss_cons (ps_setLc (i := 1) (own := [("lower", 2), ("upper", 3)]) (g := _) (tt := tYes) rfl sc__law_shown.nd rfl rfl (sw_true rfl rfl rfl (by decide +kernel)) (k_iT (K := K) (pe_ix (k_ixT (K := K)) (pv 0) pe_int (fun _ _ => rfl))) (blkOk_by (own := [("lower", 2), ("upper", 3)]) (N := ["form", "steps", "lower", "upper", "note"]) (sc := defScope s__law_shown) (by decide +kernel)) (fun _ _ _ _ _ => (k_tupG (K := K) (pg_tup (n := 2) (by rfl) (pgs_cons (pg_name (i := 2) sc__law_shown.nd rfl (Or.inl rfl)) (pgs_cons (pg_name (i := 3) sc__law_shown.nd rfl (Or.inl rfl)) pgs_nil))))) (fun _ _ _ _ _ => pts_nil) (fun _ _ _ _ _ => (pe_op o_addS (pe_op o_addS (pv 2) pe_str) (pv 3))))
  (pss_one (ps_ret (k_join (K := K) pe_str (pe_op op_cat (pe_op op_cat (pe_lst (pa_cons (pe_ix (k_ixT (K := K)) (pv 0) pe_int (fun _ _ => rfl)) pa_nil)) (pv 1)) (pe_lc (own := [("upper", 3), ("note", 4)]) (g := _) (tt := tYes) rfl sc__law_shown.nd (k_iT (K := K) (pe_ix (k_ixT (K := K)) (pv 0) pe_int (fun _ _ => rfl))) (blkOk_by (own := [("upper", 3), ("note", 4)]) (N := ["form", "steps", "lower", "upper", "note"]) (sc := defScope s__law_shown) (by decide +kernel)) (fun _ _ _ _ _ => (k_tupG (K := K) (pg_tup (n := 2) (by rfl) (pgs_cons (pg_name (i := 3) sc__law_shown.nd rfl (Or.inl rfl)) (pgs_cons (pg_name (i := 4) sc__law_shown.nd rfl (Or.inl rfl)) pgs_nil))))) (fun _ _ _ _ _ => pts_nil) (fun _ _ _ _ _ => (pe_op o_addS (pe_op o_addS (pv 3) pe_str) (pv 4))))))))), ?_⟩
    walk_at "w0"
    walk_at "w"
    have l1 := hkl.len
    have l2 := hkm.len
    intro D nD
    refine w_compM (ys := kl.map fun l => V.str (linkS l)) walk_tup (by rw [List.length_map, l1]) (by omega) nD (fun L s => SqT.of (s _ _ hpk)) (fun i x L M y R hi sL hy ey hR => ?_) (fun L1 sL hD => ?_)
    · obtain ⟨rfl, hx⟩ := hy
      obtain ⟨l, el, p, rfl, hp⟩ := hkl.at hx
      have ss := sl l (List.mem_of_getElem? el)
      have e2 : y = V.str (linkS l) := by
        rw [List.getElem?_map, el] at ey
        exact (Option.some.inj ey).symm
      subst e2
      refine w_gT2 (sL _ _ hp) ?_
      walk_at "w"
      refine ⟨rfl, ?_⟩
      walk_at "w"
      refine w_addS (by show _ + 1 ≤ _; have := ss.1; omega) ?_
      walk_at "w"
      refine w_addS (by rw [app_len]; show _ + 1 + _ ≤ _; have := ss.1; have := ss.2; omega) ?_
      have z := hR M (Same.refl M)
      rw [linkS_eq] at z
      exact z
    walk_at "w"
    have hf1 := sL _ _ hf
    refine w_ixT hf1 rfl ?_
    walk_at "w"
    refine w_newL rfl fun p1 L2 np1 s1 hp1 => ?_
    walk_at "w"
    refine w_cat hp1 (s1 _ _ hD) (by rw [List.length_map]; show 1 + _ ≤ _; omega) fun p2 L3 np2 s2 hp2 => ?_
    walk_at "w"
    have s13 := (sL.trans s1).trans s2
    refine w_ixT (s13 _ _ hf) rfl ?_
    walk_at "w"
    refine w_onT (s13 _ _ hpm) ?_
    intro D2 nD2
    refine w_compM (ys := km.map fun l => V.str (markS l)) walk_tup (by rw [List.length_map, l2]) (by omega) nD2 (fun L s => SqT.of (s _ _ (s13 _ _ hpm))) (fun i x L M y R hi sL4 hy ey hR => ?_) (fun L4 sL4 hD2 => ?_)
    · obtain ⟨rfl, hx⟩ := hy
      obtain ⟨l, el, p, rfl, hp⟩ := (hkm.same s13).at hx
      have ss := sm l (List.mem_of_getElem? el)
      have e2 : y = V.str (markS l) := by
        rw [List.getElem?_map, el] at ey
        exact (Option.some.inj ey).symm
      subst e2
      refine w_gT2 (sL4 _ _ hp) ?_
      walk_at "w"
      refine ⟨rfl, ?_⟩
      walk_at "w"
      refine w_addS (by show _ + 1 ≤ _; have := ss.1; omega) ?_
      walk_at "w"
      refine w_addS (by rw [app_len]; show _ + 1 + _ ≤ _; have := ss.1; have := ss.2; omega) ?_
      have z := hR M (Same.refl M)
      rw [markS_eq] at z
      exact z
    walk_at "w"
    refine w_cat (sL4 _ _ hp2) hD2 (by rw [List.length_append, List.length_map, List.length_map]; show 1 + _ + _ ≤ _; omega) fun p3 L5 np3 s5 hp3 => ?_
    have sh : ∀ y ∈ level :: (kl.map linkS ++ km.map markS), y.length ≤ 17 := fun y hy => by
      rcases List.mem_cons.mp hy with rfl | hy
      · omega
      · rcases List.mem_append.mp hy with hy | hy
        · obtain ⟨l, hl, rfl⟩ := List.mem_map.mp hy
          have h := sl l hl
          rw [linkS, app_len, app_len, app_len]
          show 0 + _ + 1 + _ ≤ _
          have := h.1; have := h.2; omega
        · obtain ⟨l, hl, rfl⟩ := List.mem_map.mp hy
          have h := sm l hl
          rw [markS, app_len, app_len, app_len]
          show 0 + _ + 1 + _ ≤ _
          have := h.1; have := h.2; omega
    have sum := sum_few _ sh
    have e : [V.str level] ++ kl.map (fun l => V.str (linkS l)) ++ km.map (fun l => V.str (markS l)) = (level :: (kl.map linkS ++ km.map markS)).map V.str := by
      rw [List.map_cons, List.map_append, List.map_map, List.map_map]
      rfl
    rw [e] at hp3
    have ll : (level :: (kl.map linkS ++ km.map markS)).length ≤ 121 := by
      rw [List.length_cons, List.length_append, List.length_map, List.length_map]
      omega
    refine w_join (SqL.of hp3) (by show _ + _ * 1 ≤ _; omega) ?_
    exact q L5 ((s13.trans sL4).trans s5)
end
/-! ### the part of a model -/
theorem srt_part {ls ms : List PP} {y : Str} : srtP (partL ls y ms) = partL ls y ms := by
  refine (srtP_of (.refl _) ?_).symm
  exact (srtP_le ms).filter _
def Mod (H : Hp) (f : Addr) (level : Str) (kl km : List PP) : Prop := ∃ pk pm wl wm, H f = some (.tup [.str level, .ref pk, .ref pm]) ∧ H pk = some (.tup wl) ∧ PairsAt H wl kl ∧ H pm = some (.tup wm) ∧ PairsAt H wm km
theorem Mod.same {H J : Hp} {f : Addr} {level : Str} {kl km : List PP} (h : Mod H f level kl km) (s : Same H J) : Mod J f level kl km := by
  obtain ⟨pk, pm, wl, wm, h1, h2, h3, h4, h5⟩ := h
  exact ⟨pk, pm, wl, wm, s _ _ h1, s _ _ h2, h3.same s, s _ _ h4, h5.same s⟩
def spMPart : Sp := fun vs H Q _ => ∃ f level y ls ms, vs = [.ref f, .str y] ∧ Mod H f level (srtP ls) (srtP ms) ∧ ls.length ≤ 60 ∧ ms.length ≤ 60 ∧ ∀ p J, H p = none → Same H J → Mod J p y (partL ls y ls) (partL ls y ms) → Q (.ref p) J
section
variable {P : Program} {w : World} {K : PySem.W.Frag} {mg : Str → Option Value} {base : Heap}
theorem ok__law_part {f : Addr} {fd : FuncData} (F : Fun K "_law_part" "_law_part" s__law_part f fd) (T : Txt K mg) (c__law_over : Cal P w K mg base 1 "_law_over" spOver) : FnOk P w K mg base CX0 2 f fd ["form", "tier"] spMPart := by
  refine F.ok sc__law_part (fun vs H Q E h => ?_) (fun cdv A outer s H vs Q E hr h => ?_)
  · obtain ⟨f, level, y, ls, ms, rfl, _⟩ := h
    rfl
  · obtain ⟨fm, level, y, ls, ms, rfl, ⟨pk, pm, wl, wm, hf, hpk, twl, hpm, twm⟩, f1, f2, q⟩ := h
    refine ⟨_, (pss_cons (ps_set (i := 2) sc__law_part.nd rfl (by first | exact Or.inl rfl | exact Or.inr rfl) (pe_c c__law_over hr (by decide) (by rfl) (pa_cons (pe_ix (k_ixT (K := K)) (pv 0) pe_int (fun _ _ => rfl)) (pa_cons (pv 1) pa_nil))))
  (pss_cons (ps_set (i := 3) sc__law_part.nd rfl (by first | exact Or.inl rfl | exact Or.inr rfl) (pe_callTy (k_tuple (K := K)) (by rfl) T.z_tuple (by decide +kernel) (pa_cons (pe_lc (own := [("pair", 4)]) (g := (gName 4)) rfl sc__law_part.nd (k_iT (K := K) (pe_ix (k_ixT (K := K)) (pv 0) pe_int (fun _ _ => rfl))) (blkOk_by (own := [("pair", 4)]) (N := ["form", "tier", "inside", "links", "pair"]) (sc := defScope s__law_part) (by decide +kernel)) (fun _ _ _ _ _ => (pg_name (i := 4) sc__law_part.nd rfl (Or.inl rfl))) (fun _ _ _ _ _ => (pts_one (pt_cmpR (k_in (K := K)) (pe_ix (k_ixT (K := K)) (pv 4) pe_int (fun _ _ => rfl)) (pv 2) rfl))) (fun _ _ _ _ _ => (pv 4))) pa_nil)))
  (pss_one (ps_ret (pe_tup (pa_cons (pv 1) (pa_cons (pv 3) (pa_cons (pe_callTy (k_tuple (K := K)) (by rfl) T.z_tuple (by decide +kernel) (pa_cons (pe_lc (own := [("pair", 4)]) (g := (gName 4)) rfl sc__law_part.nd (k_iT (K := K) (pe_ix (k_ixT (K := K)) (pv 0) pe_int (fun _ _ => rfl))) (blkOk_by (own := [("pair", 4)]) (N := ["form", "tier", "inside", "links", "pair"]) (sc := defScope s__law_part) (by decide +kernel)) (fun _ _ _ _ _ => (pg_name (i := 4) sc__law_part.nd rfl (Or.inl rfl))) (fun _ _ _ _ _ => (pts_one (pt_cmpR (k_in (K := K)) (pe_ix (k_ixT (K := K)) (pv 4) pe_int (fun _ _ => rfl)) (pv 2) rfl))) (fun _ _ _ _ _ => (pv 4))) pa_nil)) pa_nil)))))))), ?_⟩
    walk_at "w0"
    walk_at "w"
    have lL := (srtP_perm ls).length_eq
    have lM := (srtP_perm ms).length_eq
    refine ⟨pk, y, wl, srtP ls, rfl, hpk, twl, by omega, fun g J1 lv ng s1 hg nd mem => ?_⟩
    have mem3 : ∀ z, z ∈ lv ↔ Rch ls y z := fun z => (mem z).trans (Rch.perm (srtP_perm ls))
    walk_at "w"
    refine w_ixT (s1 _ _ hf) rfl ?_
    walk_at "w"
    have hpk1 := s1 _ _ hpk
    have twl1 := twl.same s1
    refine w_onT hpk1 ?_
    intro D nD
    refine w_comp walk_tup (fun i acc N => Same J1 N ∧ PairsAt N acc (((srtP ls).take i).filter fun l => rB ls y l.1)) nD (fun N s e => ⟨s, by simpa using .nil⟩) (fun i acc N h => SqT.of (h.1 _ _ hpk1)) ?_ ?_
    · rintro i acc u N N' hi la ⟨m1, m2⟩ hA ⟨rfl, hu⟩
      obtain ⟨l, el, p, rfl, hp⟩ := twl1.at hu
      have wlen := twl1.len
      walk_at "w"
      refine ⟨rfl, ?_⟩
      walk_at "w"
      refine w_ixT (m1 _ _ hp) rfl ?_
      walk_at "w"
      refine w_inLS (m1 _ _ hg) ?_
      walk_at "w"
      have st := filter_step (ls := ls) (y := y) el
      refine w_dec (fun e => ?_) fun e => ?_
      · walk_at "w"
        rw [if_pos (rB_iff.mpr ((mem3 _).mp e))] at st
        refine w_put hA la (by omega) fun Z e6 hZ => ⟨Same.ofExt m1 nD e6, ?_⟩
        rw [st]
        exact (m2.ext hA e6).app (PairsAt.one ⟨p, rfl, e6 p _ (ne_of (m1 _ _ hp) hA (by intro z; cases z)) (m1 _ _ hp)⟩)
      · rw [if_neg fun z => e ((mem3 _).mpr (rB_iff.mp z)), List.append_nil] at st
        exact w_skip hA la ⟨m1, by rw [st]; exact m2⟩
    · rintro acc M lacc hA ⟨m1, m2⟩
      have ew : (srtP ls).take wl.length = srtP ls := List.take_of_length_le (by rw [twl.len]; exact Nat.le_refl _)
      rw [ew] at m2
      have m2L : PairsAt M acc (partL ls y ls) := m2
      clear m2
      walk_at "w"
      refine w_tupL (SqL.of hA) fun pt J2 np s2 hpt => ?_
      walk_at "w"
      have sJ := (s1.trans m1).trans s2
      have hg2 := (m1.trans s2) _ _ hg
      refine w_ixT (sJ _ _ hf) rfl ?_
      walk_at "w"
      have hpm2 := sJ _ _ hpm
      have twm2 := twm.same sJ
      refine w_onT hpm2 ?_
      clear m1
      intro D2 nD2
      refine w_comp walk_tup (fun i acc N => Same J2 N ∧ PairsAt N acc (((srtP ms).take i).filter fun l => rB ls y l.1)) nD2 (fun N s e => ⟨s, by simpa using .nil⟩) (fun i acc N h => SqT.of (h.1 _ _ hpm2)) ?_ ?_
      · rintro i acc u N N' hi la ⟨m1, m2⟩ hA2 ⟨rfl, hu⟩
        obtain ⟨l, el, p, rfl, hp⟩ := twm2.at hu
        have wlen := twm2.len
        walk_at "w"
        refine ⟨rfl, ?_⟩
        walk_at "w"
        refine w_ixT (m1 _ _ hp) rfl ?_
        walk_at "w"
        refine w_inLS (m1 _ _ hg2) ?_
        walk_at "w"
        have st := filter_step (ls := ls) (y := y) el
        refine w_dec (fun e => ?_) fun e => ?_
        · walk_at "w"
          rw [if_pos (rB_iff.mpr ((mem3 _).mp e))] at st
          refine w_put hA2 la (by omega) fun Z e6 hZ => ⟨Same.ofExt m1 nD2 e6, ?_⟩
          rw [st]
          exact (m2.ext hA2 e6).app (PairsAt.one ⟨p, rfl, e6 p _ (ne_of (m1 _ _ hp) hA2 (by intro z; cases z)) (m1 _ _ hp)⟩)
        · rw [if_neg fun z => e ((mem3 _).mpr (rB_iff.mp z)), List.append_nil] at st
          exact w_skip hA2 la ⟨m1, by rw [st]; exact m2⟩
      · rintro acc2 N lacc2 hA2 ⟨m1, m2⟩
        have ew2 : (srtP ms).take wm.length = srtP ms := List.take_of_length_le (by rw [twm.len]; exact Nat.le_refl _)
        rw [ew2] at m2
        walk_at "w"
        refine w_tupL (SqL.of hA2) fun pt2 J3 np3 s3 hpt3 => ?_
        walk_at "w"
        refine w_newT rfl fun r J4 nr s4 hr4 => ?_
        have sE := sJ.trans (m1.trans (s3.trans s4))
        exact q r J4 (Same.free (sJ.trans (m1.trans s3)) nr) sE ⟨pt, pt2, acc, acc2, hr4, (m1.trans (s3.trans s4)) _ _ hpt, m2L.same (s2.trans (m1.trans (s3.trans s4))), s4 _ _ hpt3, m2.same (s3.trans s4)⟩
end

end RT
set_option Elab.async false
set_option linter.all false
set_option maxRecDepth 100000
set_option maxHeartbeats 4000000
namespace RT
open PySem PySem.Spec PyProof.Rows L2
local macro_rules | `(tactic| walk_at "w0") => `(tactic| dsimp only [L2.start, cxOf, Cx.nox, Cx.wish, List.map, List.length_cons, List.length_nil, List.replicate_succ, List.replicate_zero, List.cons_append, List.nil_append, Nat.reduceAdd, Nat.reduceSub, List.set_cons_zero, List.set_cons_succ])
local macro_rules | `(tactic| walk_at "w1") => `(tactic| first
  | with_reducible refine w_seq ?_
  | with_reducible refine w_asg ?_
  | with_reducible refine w_var rfl ?_
  | with_reducible refine w_c ?_
  | with_reducible refine w_op ?_
  | with_reducible refine w_cons ?_
  | with_reducible refine w_nil ?_
  | with_reducible refine w_gname ?_
  | with_reducible refine w_cb ?_
  | with_reducible refine w_I0 ?_
  | with_reducible refine w_bl ?_
  | ((with_reducible refine' w_ixL ?s0 ?s1 ?q); (case s0 => assumption); (case s1 => rfl))
  | ((with_reducible refine' w_ixT ?s0 ?s1 ?q); (case s0 => assumption); (case s1 => rfl))
  | with_reducible refine w_gsub ?_
  | with_reducible refine w_ifS ?_
  | with_reducible refine w_test ?_
  | with_reducible refine w_call ?_
  | with_reducible refine w_ret ?_
  | with_reducible refine w_int1 ?_
  | with_reducible refine w_int ?_
  | with_reducible refine w_next ?_
  | with_reducible refine w_drop ?_
  | ((with_reducible refine' w_mod ?s0 ?q); (case s0 => omega))
  | ((with_reducible refine' w_div ?s0 ?q); (case s0 => omega))
  | ((with_reducible refine' w_mul ?s0 ?q); (case s0 => omega))
  | ((with_reducible refine' w_pow ?s0 ?q); (case s0 => decide))
  | with_reducible refine w_B ?_
  | with_reducible refine w_and ?_
  | with_reducible refine w_or ?_
  | with_reducible refine w_not ?_
  | with_reducible refine w_T ?_
  | with_reducible refine w_F ?_
  | with_reducible refine w_nT ?_
  | with_reducible refine w_nF ?_
  | with_reducible refine w_un ?_
  | with_reducible refine w_U ?_
  | with_reducible refine w_if ?_
  | with_reducible refine w_lst ?_
  | with_reducible refine w_tup ?_
  | with_reducible refine w_sl ?_
  | with_reducible refine w_part ?_
  | with_reducible refine w_nopart ?_
  | with_reducible refine w_eqI ?_
  | with_reducible refine w_neI ?_
  | with_reducible refine w_eqS ?_
  | with_reducible refine w_neS ?_
  | with_reducible refine w_abs ?_
  | with_reducible refine w_max2 ?_
  | with_reducible refine w_min2 ?_
  | ((with_reducible refine' w_lenL ?s0 ?q); (case s0 => assumption))
  | ((with_reducible refine' w_lenH ?s0 ?q); (case s0 => assumption))
  | ((with_reducible refine' w_lenT ?s0 ?q); (case s0 => assumption))
  | ((with_reducible refine' w_lenS ?s0 ?q); (case s0 => first | assumption | omega | decide +kernel))
  | with_reducible refine w_inC ?_
  | with_reducible refine w_ninC ?_
  | with_reducible refine w_m1 ?_
  | with_reducible refine w_m0 ?_
  | with_reducible refine w_isstr ?_
  | with_reducible refine w_andV ?_
  | with_reducible refine w_orV ?_
  | with_reducible refine w_notV ?_
  | with_reducible refine w_chain ?_
  | with_reducible refine w_retN ?_
  | with_reducible refine w_break ?_
  | with_reducible refine w_cont ?_
  | with_reducible refine w_yes ?_
  | with_reducible refine w_for ?_
  | with_reducible refine w_lc ?_
  | with_reducible refine w_iList ?_
  | with_reducible refine w_iTup ?_
  | with_reducible refine w_iStr ?_
  | with_reducible refine w_iR1 ?_
  | with_reducible refine w_iR2 ?_
  | ((with_reducible refine' w_onL ?s0 ?q); (case s0 => assumption))
  | ((with_reducible refine' w_onQ ?s0 ?q); (case s0 => assumption))
  | ((with_reducible refine' w_onT ?s0 ?q); (case s0 => assumption))
  | ((with_reducible refine' w_onU ?s0 ?q); (case s0 => assumption))
  | with_reducible refine w_onS ?_
  | ((with_reducible refine' w_onR1 ?s0 ?q); (case s0 => omega))
  | ((with_reducible refine' w_onR2 ?s0 ?q); (case s0 => omega))
  | with_reducible refine w_revL ?_
  | ((with_reducible refine' w_all ?s0 ?q); (case s0 => assumption))
  | ((with_reducible refine' w_any ?s0 ?q); (case s0 => assumption))
  | with_reducible refine w_bm ?_
  | with_reducible refine w_bm0 ?_
  | ((with_reducible refine' w_islst ?s0 ?q); (case s0 => assumption))
  | with_reducible refine w_kw ?_
  | ((with_reducible refine' w_isi ?s0 ?s1 ?q); (case s0 => assumption); (case s1 => assumption))
  | ((with_reducible refine' w_addS ?s0 ?q); (case s0 => first | omega | decide +kernel))
  | with_reducible refine w_dnew ?_
  | with_reducible refine w_pnil ?_
  | with_reducible refine w_pcons ?_
  | ((with_reducible refine' w_slS ?s0 ?q); (case s0 => first | assumption | omega))
  | ((with_reducible refine' w_inLS ?s0 ?q); (case s0 => assumption))
  | ((with_reducible refine' w_ninLS ?s0 ?q); (case s0 => assumption))
  | ((with_reducible refine' w_inTS ?s0 ?q); (case s0 => assumption))
  | with_reducible refine w_par ?_
  | with_reducible refine w_parEnd ?_
  | with_reducible refine w_fld ?_
  | with_reducible refine w_e1 ?_
  | with_reducible refine w_e2 ?_
  | with_reducible refine w_par3 ?_
  | with_reducible refine w_parEnd3 ?_
  | ((with_reducible refine' w_upper ?s0 ?q); (case s0 => first | assumption | omega | decide +kernel))
  | with_reducible refine w_fldT ?_
  | with_reducible refine w_setT ?_
  | with_reducible refine w_fs ?_
  | with_reducible refine w_jsC ?_
  | with_reducible refine w_js0 ?_
  | with_reducible refine w_fmtT ?_
  | with_reducible refine w_dinT ?_
  | with_reducible refine w_dninT ?_
  | with_reducible refine w_dputT ?_
  | with_reducible refine w_dgetT ?_
  | with_reducible refine w_dget2T ?_
  | with_reducible refine w_setdT ?_
  | with_reducible refine w_mkK ?_
  | with_reducible refine w_mkR ?_
  | with_reducible refine w_dcT ?_
  | ((with_reducible refine' w_ninTS ?s0 ?q); (case s0 => assumption))
  | with_reducible refine w_strS ?_
  | with_reducible refine w_star ?_
  | with_reducible refine w_iE ?_
  | with_reducible refine w_metK ?_
  | with_reducible refine w_met ?_
  | with_reducible refine w_stat ?_
  | dsimp only [wipe, List.set_cons_zero, List.set_cons_succ])
local macro_rules | `(tactic| walk_at "w") => `(tactic| repeat walk_at "w1")
/-! ### data that can be shown -/
def SO (d : PyData) (k n : Nat) : Prop := PyData.showable d = true ∧ PyData.hasDict d = false ∧ PyData.depth d ≤ k ∧ PyData.leavesShort 13 d = true ∧ PyData.bulk d ≤ n
def SOA (ds : List PyData) (k n : Nat) : Prop := PyData.showableAll ds = true ∧ PyData.hasDictAll ds = false ∧ PyData.depthAll ds ≤ k ∧ PyData.leavesShortAll 13 ds = true ∧ PyData.bulkAll ds ≤ n
theorem SOA.nil {k n : Nat} : SOA [] k n := ⟨by simp only [PyData.showableAll], by simp only [PyData.hasDictAll], by simp only [PyData.depthAll]; omega, by simp only [PyData.leavesShortAll], by simp only [PyData.bulkAll]; omega⟩
theorem SOA.cons {d : PyData} {ds : List PyData} {k n m : Nat} (h : SO d k n) (g : SOA ds k m) : SOA (d :: ds) k (n + 1 + m) := by
  obtain ⟨a1, a2, a3, a4, a5⟩ := h
  obtain ⟨b1, b2, b3, b4, b5⟩ := g
  refine ⟨by simp only [PyData.showableAll, a1, b1, Bool.and_self], by simp only [PyData.hasDictAll, a2, b2, Bool.or_self], by simp only [PyData.depthAll]; omega, by simp only [PyData.leavesShortAll, a4, b4, Bool.and_self], by simp only [PyData.bulkAll]; omega⟩
theorem SOA.tup {ds : List PyData} {k n : Nat} (g : SOA ds k n) : SO (.tuple ds) (k + 1) n := by
  obtain ⟨b1, b2, b3, b4, b5⟩ := g
  exact ⟨by simpa only [PyData.showable] using b1, by simpa only [PyData.hasDict] using b2, by simp only [PyData.depth]; omega, by simpa only [PyData.leavesShort] using b4, by simpa only [PyData.bulk] using b5⟩
theorem SOA.lst {ds : List PyData} {k n : Nat} (g : SOA ds k n) : SO (.list ds) (k + 1) n := by
  obtain ⟨b1, b2, b3, b4, b5⟩ := g
  exact ⟨by simpa only [PyData.showable] using b1, by simpa only [PyData.hasDict] using b2, by simp only [PyData.depth]; omega, by simpa only [PyData.leavesShort] using b4, by simpa only [PyData.bulk] using b5⟩
theorem SOA.map {α : Type} {f : α → PyData} {k n : Nat} : ∀ {xs : List α}, (∀ x ∈ xs, SO (f x) k n) → SOA (xs.map f) k (xs.length * (n + 1))
  | [], _ => .nil
  | x :: xs, h => by
    have z := SOA.cons (h x List.mem_cons_self) (SOA.map fun y hy => h y (List.mem_cons_of_mem _ hy))
    rw [List.length_cons, Nat.add_mul, Nat.one_mul, Nat.add_comm (xs.length * (n + 1))]
    exact z
theorem SO.le {d : PyData} {k k' n n' : Nat} (h : SO d k n) (hk : k ≤ k') (hn : n ≤ n') : SO d k' n' := ⟨h.1, h.2.1, Nat.le_trans h.2.2.1 hk, h.2.2.2.1, Nat.le_trans h.2.2.2.2 hn⟩
theorem SO.bool {b : Bool} {k n : Nat} : SO (.bool b) (k + 1) n := ⟨by simp only [PyData.showable], by simp only [PyData.hasDict], by simp only [PyData.depth]; omega, by simp only [PyData.leavesShort], by simp only [PyData.bulk]; omega⟩
/-- a text of low signs -/
def Low (z : Str) : Prop := ∀ c ∈ TL.tl z, c < 16 ^ 8
theorem SO.str {z : Str} {k n : Nat} (h : Low z) (hl : z.length ≤ n) : SO (.str z) (k + 1) n := ⟨by simp only [PyData.showable], by simp only [PyData.hasDict], by simp only [PyData.depth]; omega, by
  simp only [PyData.leavesShort]
  exact List.all_eq_true.mpr fun c hc => decide_eq_true (h c hc), by simp only [PyData.bulk]; exact hl⟩
theorem Low.app {a b : Str} (h : Low a) (g : Low b) : Low (a ++ b) := fun c hc => by
  rw [tl_app] at hc
  exact (List.mem_append.mp hc).elim (h c) (g c)
theorem low_name {z : Str} (h : nameS z = true) : Low z := fun c hc => by
  obtain ⟨c0, cs, e, _, h2, _⟩ := name_is h
  have m2 : c ∈ z.cps.toList := hc
  rw [e] at m2
  have all : ∀ c ∈ k__SIGNS.cps.toList, c < 16 ^ 8 := by decide +kernel
  exact all c (h2 c m2)
theorem low_join {c : Nat} (hc : c < 16 ^ 8) : ∀ {xs : List (List Nat)}, (∀ x ∈ xs, ∀ c ∈ x, c < 16 ^ 8) → ∀ d ∈ TL.joinL [c] xs, d < 16 ^ 8
  | [], _, d, hd => by cases hd
  | [p], h, d, hd => h p List.mem_cons_self d hd
  | p :: q :: r, h, d, hd => by
    have hd2 : d ∈ p ++ ([c] ++ TL.joinL [c] (q :: r)) := hd
    rcases List.mem_append.mp hd2 with z | z
    · exact h p List.mem_cons_self d z
    · rcases List.mem_append.mp z with z | z
      · rw [List.mem_singleton.mp z]
        exact hc
      · exact low_join hc (fun x hx => h x (List.mem_cons_of_mem _ hx)) d z
theorem low_lit {x : Str} (h : (TL.tl x).all (fun c => decide (c < 16 ^ 8)) = true) : Low x := fun c hc => of_decide_eq_true (List.all_eq_true.mp h c hc)
section
variable {level : Str} {ls ms : List PP}
theorem GoodSh.low (G : GoodSh level ls ms) : Low (textS level ls ms) := by
  intro d hd
  rw [tl_text] at hd
  refine low_join (by decide) (fun x hx => ?_) d hd
  obtain ⟨y, hy, rfl⟩ := List.mem_map.mp hx
  rcases List.mem_cons.mp hy with rfl | hy
  · exact low_name G.lev
  · rcases List.mem_append.mp hy with hy | hy
    · obtain ⟨l, hl, rfl⟩ := List.mem_map.mp hy
      have n := G.l hl
      rw [linkS_eq]
      exact ((low_name n.1).app (low_lit (by decide +kernel))).app (low_name n.2)
    · obtain ⟨l, hl, rfl⟩ := List.mem_map.mp hy
      have n := G.m hl
      rw [markS_eq]
      exact ((low_name n.1).app (low_lit (by decide +kernel))).app (low_name n.2)
end
theorem w_reprS {K : PySem.W.Frag} {H : Hp} {Q : VK} {a : Addr} {xs : List V} {ds : List PyData} {n : Nat} (h : H a = some (.lst xs)) (hd : DpAll K H xs ds) (s : SO (.list ds) n 100000) (hn : n ≤ 60) (q : Q (.str (PyData.shown (.list ds))) H) : rReprD K [.ref a] H Q :=
  w_repr h hd s.1 s.2.1 (Nat.le_trans s.2.2.1 hn) (PyData.shown_fits_bulk (B := 13) (by decide) (by decide) s.2.2.2.1 (Nat.le_trans s.2.2.2.2 (by decide))) q
theorem w_reprU {K : PySem.W.Frag} {H : Hp} {Q : VK} {a : Addr} {xs : List V} {ds : List PyData} {n : Nat} (h : SqT K H a xs) (hd : DpAll K H xs ds) (s : SO (.tuple ds) n 100000) (hn : n ≤ 60) (q : Q (.str (PyData.shown (.tuple ds))) H) : rReprD K [.ref a] H Q :=
  ⟨a, .tuple ds, rfl, .tup h hd, s.1, s.2.1, Nat.le_trans s.2.2.1 hn, PyData.shown_fits_bulk (B := 13) (by decide) (by decide) s.2.2.2.1 (Nat.le_trans s.2.2.2.2 (by decide)), q⟩

end RT
set_option Elab.async false
set_option linter.all false
set_option maxRecDepth 100000
set_option maxHeartbeats 4000000
namespace RT
open PySem PySem.Spec PyProof.Rows L2
local macro_rules | `(tactic| walk_at "w0") => `(tactic| dsimp only [L2.start, cxOf, Cx.nox, Cx.wish, List.map, List.length_cons, List.length_nil, List.replicate_succ, List.replicate_zero, List.cons_append, List.nil_append, Nat.reduceAdd, Nat.reduceSub, List.set_cons_zero, List.set_cons_succ])
local macro_rules | `(tactic| walk_at "w1") => `(tactic| first
  | with_reducible refine w_seq ?_
  | with_reducible refine w_asg ?_
  | with_reducible refine w_var rfl ?_
  | with_reducible refine w_c ?_
  | with_reducible refine w_op ?_
  | with_reducible refine w_cons ?_
  | with_reducible refine w_nil ?_
  | with_reducible refine w_gname ?_
  | with_reducible refine w_cb ?_
  | with_reducible refine w_I0 ?_
  | with_reducible refine w_bl ?_
  | ((with_reducible refine' w_ixL ?s0 ?s1 ?q); (case s0 => assumption); (case s1 => rfl))
  | ((with_reducible refine' w_ixT ?s0 ?s1 ?q); (case s0 => assumption); (case s1 => rfl))
  | with_reducible refine w_gsub ?_
  | with_reducible refine w_ifS ?_
  | with_reducible refine w_test ?_
  | with_reducible refine w_call ?_
  | with_reducible refine w_ret ?_
  | with_reducible refine w_int1 ?_
  | with_reducible refine w_int ?_
  | with_reducible refine w_next ?_
  | with_reducible refine w_drop ?_
  | ((with_reducible refine' w_mod ?s0 ?q); (case s0 => omega))
  | ((with_reducible refine' w_div ?s0 ?q); (case s0 => omega))
  | ((with_reducible refine' w_mul ?s0 ?q); (case s0 => omega))
  | ((with_reducible refine' w_pow ?s0 ?q); (case s0 => decide))
  | with_reducible refine w_B ?_
  | with_reducible refine w_and ?_
  | with_reducible refine w_or ?_
  | with_reducible refine w_not ?_
  | with_reducible refine w_T ?_
  | with_reducible refine w_F ?_
  | with_reducible refine w_nT ?_
  | with_reducible refine w_nF ?_
  | with_reducible refine w_un ?_
  | with_reducible refine w_U ?_
  | with_reducible refine w_if ?_
  | with_reducible refine w_lst ?_
  | with_reducible refine w_tup ?_
  | with_reducible refine w_sl ?_
  | with_reducible refine w_part ?_
  | with_reducible refine w_nopart ?_
  | with_reducible refine w_eqI ?_
  | with_reducible refine w_neI ?_
  | with_reducible refine w_eqS ?_
  | with_reducible refine w_neS ?_
  | with_reducible refine w_abs ?_
  | with_reducible refine w_max2 ?_
  | with_reducible refine w_min2 ?_
  | ((with_reducible refine' w_lenL ?s0 ?q); (case s0 => assumption))
  | ((with_reducible refine' w_lenH ?s0 ?q); (case s0 => assumption))
  | ((with_reducible refine' w_lenT ?s0 ?q); (case s0 => assumption))
  | ((with_reducible refine' w_lenS ?s0 ?q); (case s0 => first | assumption | omega | decide +kernel))
  | with_reducible refine w_inC ?_
  | with_reducible refine w_ninC ?_
  | with_reducible refine w_m1 ?_
  | with_reducible refine w_m0 ?_
  | with_reducible refine w_isstr ?_
  | with_reducible refine w_andV ?_
  | with_reducible refine w_orV ?_
  | with_reducible refine w_notV ?_
  | with_reducible refine w_chain ?_
  | with_reducible refine w_retN ?_
  | with_reducible refine w_break ?_
  | with_reducible refine w_cont ?_
  | with_reducible refine w_yes ?_
  | with_reducible refine w_for ?_
  | with_reducible refine w_lc ?_
  | with_reducible refine w_iList ?_
  | with_reducible refine w_iTup ?_
  | with_reducible refine w_iStr ?_
  | with_reducible refine w_iR1 ?_
  | with_reducible refine w_iR2 ?_
  | ((with_reducible refine' w_onL ?s0 ?q); (case s0 => assumption))
  | ((with_reducible refine' w_onQ ?s0 ?q); (case s0 => assumption))
  | ((with_reducible refine' w_onT ?s0 ?q); (case s0 => assumption))
  | ((with_reducible refine' w_onU ?s0 ?q); (case s0 => assumption))
  | with_reducible refine w_onS ?_
  | ((with_reducible refine' w_onR1 ?s0 ?q); (case s0 => omega))
  | ((with_reducible refine' w_onR2 ?s0 ?q); (case s0 => omega))
  | with_reducible refine w_revL ?_
  | ((with_reducible refine' w_all ?s0 ?q); (case s0 => assumption))
  | ((with_reducible refine' w_any ?s0 ?q); (case s0 => assumption))
  | with_reducible refine w_bm ?_
  | with_reducible refine w_bm0 ?_
  | ((with_reducible refine' w_islst ?s0 ?q); (case s0 => assumption))
  | with_reducible refine w_kw ?_
  | ((with_reducible refine' w_isi ?s0 ?s1 ?q); (case s0 => assumption); (case s1 => assumption))
  | ((with_reducible refine' w_addS ?s0 ?q); (case s0 => first | omega | decide +kernel))
  | with_reducible refine w_dnew ?_
  | with_reducible refine w_pnil ?_
  | with_reducible refine w_pcons ?_
  | ((with_reducible refine' w_slS ?s0 ?q); (case s0 => first | assumption | omega))
  | ((with_reducible refine' w_inLS ?s0 ?q); (case s0 => assumption))
  | ((with_reducible refine' w_ninLS ?s0 ?q); (case s0 => assumption))
  | ((with_reducible refine' w_inTS ?s0 ?q); (case s0 => assumption))
  | with_reducible refine w_par ?_
  | with_reducible refine w_parEnd ?_
  | with_reducible refine w_fld ?_
  | with_reducible refine w_e1 ?_
  | with_reducible refine w_e2 ?_
  | with_reducible refine w_par3 ?_
  | with_reducible refine w_parEnd3 ?_
  | ((with_reducible refine' w_upper ?s0 ?q); (case s0 => first | assumption | omega | decide +kernel))
  | with_reducible refine w_fldT ?_
  | with_reducible refine w_setT ?_
  | with_reducible refine w_fs ?_
  | with_reducible refine w_jsC ?_
  | with_reducible refine w_js0 ?_
  | with_reducible refine w_fmtT ?_
  | with_reducible refine w_dinT ?_
  | with_reducible refine w_dninT ?_
  | with_reducible refine w_dputT ?_
  | with_reducible refine w_dgetT ?_
  | with_reducible refine w_dget2T ?_
  | with_reducible refine w_setdT ?_
  | with_reducible refine w_mkK ?_
  | with_reducible refine w_mkR ?_
  | with_reducible refine w_dcT ?_
  | ((with_reducible refine' w_ninTS ?s0 ?q); (case s0 => assumption))
  | with_reducible refine w_strS ?_
  | with_reducible refine w_star ?_
  | with_reducible refine w_iE ?_
  | with_reducible refine w_metK ?_
  | with_reducible refine w_met ?_
  | with_reducible refine w_stat ?_
  | dsimp only [wipe, List.set_cons_zero, List.set_cons_succ])
local macro_rules | `(tactic| walk_at "w") => `(tactic| repeat walk_at "w1")
/-! ### all of the class, with its other methods -/
structure Sh5 (P : Program) (w : World) (K : PySem.W.Frag) (mg : Str → Option Value) (base : Heap) (C md : Addr) : Prop where
  A : ShAll P w K mg base C md
  mp : C8.Met P w K mg base 7 C "part" (spPart K C) []
  kp : MetK P w K mg base 7 C "part" ["level"] (spPart K C) (fun vs zs => vs ++ zs)
  mm : C8.Met P w K mg base 1 C "mark" (spMark K C) []
  km : MetK P w K mg base 1 C "mark" ["level"] (spMark K C) (fun vs zs => vs ++ zs)
  mh : CalM P w K mg base 1 C "__contains__" ["self", "value"] (spHas K C)
  rd : StatM P w K mg base 7 C "read" (spRead C)
def spMarksR (C : Addr) : Sp := fun vs H Q _ => ∃ x f level ls ms kl km, vs = [.ref x, .ref f] ∧ ShO C H x level ls ms ∧ GoodSh level ls ms ∧ Mod H f level kl km ∧ kl.Perm ls ∧ km.Perm ms ∧ ∀ J, Same H J → Q (.bl true) J
def firstN (km : List PP) (t : Str) : V := ((km.filter fun m => decide (m.1 = t)).map fun m => V.str m.2).headD .non
theorem shO_no {C : Addr} {H : Hp} {x : Addr} {level : Str} {ls ms : List PP} (h : ShO C H x level ls ms) : ∃ dx fs, H x = some (.ins C dx fs) ∧ fs.lookup ("part" : Str) = none ∧ fs.lookup ("mark" : Str) = none := by
  obtain ⟨dx, pl, pk, pm, lv, wl, wm, hx, _⟩ := h.ex
  exact ⟨dx, _, hx, rfl, rfl⟩
theorem mark_first {level : Str} {ls ms km : List PP} {t : Str} {r : V} (G : GoodSh level ls ms) (p : km.Perm ms) (h : (r = .non ∧ ∀ m ∈ ms, m.1 ≠ t) ∨ ∃ n, r = .str n ∧ (t, n) ∈ ms) : r = firstN km t := by
  unfold firstN
  cases e : km.filter fun m => decide (m.1 = t) with
  | nil =>
    rcases h with ⟨rfl, _⟩ | ⟨n, _, m⟩
    · rfl
    · have := List.filter_eq_nil_iff.mp e _ (p.mem_iff.mpr m)
      simp at this
  | cons a l =>
    have ha : a ∈ km.filter fun m => decide (m.1 = t) := by rw [e]; exact List.mem_cons_self
    obtain ⟨h1, h2⟩ := List.mem_filter.mp ha
    have et : a.1 = t := of_decide_eq_true h2
    have hm := p.mem_iff.mp h1
    rcases h with ⟨_, no⟩ | ⟨n, rfl, m⟩
    · exact absurd et (no a hm)
    · have inj : ∀ {u v : PP}, u ∈ ms → v ∈ ms → u.1 = v.1 → u = v := fun {u v} hu hv e => by
        obtain ⟨i, hi⟩ := List.getElem?_of_mem hu
        obtain ⟨j, hj⟩ := List.getElem?_of_mem hv
        have hi2 : (ms.map (·.1))[i]? = some u.1 := by rw [List.getElem?_map, hi]; rfl
        have hj2 : (ms.map (·.1))[j]? = some u.1 := by rw [List.getElem?_map, hj, e]; rfl
        have := (List.getElem?_inj (List.getElem?_eq_some_iff.mp hi2).1 G.nd).mp (hi2.trans hj2.symm)
        subst this
        exact Option.some.inj (hi.symm.trans hj)
      have := inj hm m et
      show V.str n = V.str a.2
      rw [this]
theorem firstN_at {km : List PP} {t : Str} : atI (((km.filter fun m => decide (m.1 = t)).map fun m => V.str m.2) ++ [V.non]) 0 = some (firstN km t) := by
  refine atI_nat (j := 0) ?_
  unfold firstN
  cases (km.filter fun m => decide (m.1 = t)).map fun m => V.str m.2 with
  | nil => rfl
  | cons a l => rfl
theorem SO.non {k n : Nat} : SO .none (k + 1) n := ⟨by simp only [PyData.showable], by simp only [PyData.hasDict], by simp only [PyData.depth]; omega, by simp only [PyData.leavesShort], by simp only [PyData.bulk]; omega⟩
theorem first_dp {level : Str} {ls ms km : List PP} {t : Str} (K : PySem.W.Frag) (G : GoodSh level ls ms) (p : km.Perm ms) : ∃ d, (∀ H, Dp K H (firstN km t) d) ∧ SO d 3 10 := by
  unfold firstN
  cases e : km.filter fun m => decide (m.1 = t) with
  | nil => exact ⟨.none, fun H => .non, SO.non⟩
  | cons a l =>
    have ha : a ∈ km.filter fun m => decide (m.1 = t) := by rw [e]; exact List.mem_cons_self
    have n := (G.marks a (p.mem_iff.mp (List.mem_filter.mp ha).1)).2
    exact ⟨.str a.2, fun H => .str _, SO.str (low_name n) (by have := (name_len n).2; omega)⟩
abbrev s__law_marks_right : Stmt := topS 34
theorem sc__law_marks_right : FnScope ["mine", "model", "inside", "tier", "due", "pair"] ["mine", "model"] (defScope s__law_marks_right) := ⟨rfl, rfl, rfl, by decide +kernel, rfl, by decide +kernel, by decide +kernel⟩
section
variable {P : Program} {w : World} {K : PySem.W.Frag} {mg : Str → Option Value} {base : Heap}
theorem ok__law_marks_right {f : Addr} {fd : FuncData} (F : Fun K "_law_marks_right" "_law_marks_right" s__law_marks_right f fd) (T : Txt K mg) (c__law_over : Cal P w K mg base 1 "_law_over" spOver) {C md : Addr} (SH : Sh5 P w K mg base C md) : FnG P w K mg base 5 f fd ["mine", "model"] (spMarksR C) := by
  have M_Shape_mark := SH.mm
  have K_Shape_mark := SH.km
  have m_Shape___contains__ := SH.mh
  refine fn_calm F sc__law_marks_right (fun vs H Q E h => ?_) (fun cdv A outer s H vs Q E hgd hr h => ?_)
  · obtain ⟨x, f, level, ls, ms, kl, km, rfl, _⟩ := h
    rfl
  · obtain ⟨x, fm, level, ls, ms, kl, km, rfl, sh, G, ⟨pk, pm, wl, wm, hf, hpk, twl, hpm, twm⟩, pL, pM, q⟩ := h
    refine ⟨_, (pss_cons (ps_set (i := 2) sc__law_marks_right.nd rfl (by first | exact Or.inl rfl | exact Or.inr rfl) (pe_c c__law_over hr (by decide) (by rfl) (pa_cons (pe_ix (k_ixT (K := K)) (pv 1) pe_int (fun _ _ => rfl)) (pa_cons (pe_ix (k_ixT (K := K)) (pv 1) pe_int (fun _ _ => rfl)) pa_nil))))
  (pss_cons (ps_for PassesOwn.never rfl (k_iL (K := K) (pv 2)) (pg_name (i := 3) sc__law_marks_right.nd rfl (by first | exact Or.inl rfl | exact Or.inr rfl))
    (pss_cons (ps_set (i := 4) sc__law_marks_right.nd rfl (by first | exact Or.inl rfl | exact Or.inr rfl) (pe_op op_cat (pe_lc (own := [("pair", 5)]) (g := (gName 5)) rfl sc__law_marks_right.nd (k_iT (K := K) (pe_ix (k_ixT (K := K)) (pv 1) pe_int (fun _ _ => rfl))) (blkOk_by (own := [("pair", 5)]) (N := ["mine", "model", "inside", "tier", "due", "pair"]) (sc := defScope s__law_marks_right) (by decide +kernel)) (fun _ _ _ _ _ => (pg_name (i := 5) sc__law_marks_right.nd rfl (Or.inl rfl))) (fun _ _ _ _ _ => (pts_one (pt_cmpR op_eq (pe_ix (k_ixT (K := K)) (pv 5) pe_int (fun _ _ => rfl)) (pv 3) (nomark _)))) (fun _ _ _ _ _ => (pe_ix (k_ixT (K := K)) (pv 5) pe_int (fun _ _ => rfl)))) (pe_lst (pa_cons pe_non pa_nil))))
  (pss_one (ps_if (pt_cmpR op_ne (pe_callB (k_repr (K := K) hr hgd) (by rfl) T.z_repr (by decide +kernel) (pa_cons (pe_lst (pa_cons (C8.pe_mt M_Shape_mark hr (by decide) (pv 0) (pa_cons (pv 3) pa_nil)) (pa_cons (pe_mtK K_Shape_mark hr (by decide) (pv 0) (pk_cons (pv 3) pk_nil)) (pa_cons (pe_cmpR (or_inO m_Shape___contains__ hr (by decide)) (pv 3) (pv 0) rfl) pa_nil)))) pa_nil)) (pe_callB (k_repr (K := K) hr hgd) (by rfl) T.z_repr (by decide +kernel) (pa_cons (pe_lst (pa_cons (pe_ix (k_ixL (K := K)) (pv 4) pe_int (fun _ _ => rfl)) (pa_cons (pe_ix (k_ixL (K := K)) (pv 4) pe_int (fun _ _ => rfl)) (pa_cons pe_bl pa_nil)))) pa_nil)) (nomark _))
    (pss_one (ps_ret pe_bl))
    pss_nil))))
  (pss_one (ps_ret pe_bl)))), ?_⟩
    walk_at "w0"
    walk_at "w"
    have fl := pL.length_eq
    have fm2 := pM.length_eq
    have f1 := G.links.few
    have f2 := G.few
    refine ⟨pk, level, wl, kl, rfl, hpk, twl, by omega, fun g J1 lv ng s1 hg nd mem => ?_⟩
    have mem3 : ∀ z ∈ lv, Rch ls level z := fun z hz => (Rch.perm pL).mp ((mem z).mp hz)
    walk_at "w"
    refine w_loop walk_list (fun i σ M => (∃ o3 o4 o5, σ = [some (.ref x), some (.ref fm), some (.ref g), o3, o4, o5]) ∧ Same J1 M) ⟨⟨_, _, _, rfl⟩, Same.refl _⟩ (fun i σ M _ h => SqL.of (h.2 _ _ hg)) ?_ ?_
    · rintro i u σ M M' hi ⟨⟨o3, o4, o5, rfl⟩, sM⟩ ⟨rfl, hu⟩
      obtain ⟨t, et, rfl⟩ : ∃ t, lv[i]? = some t ∧ u = V.str t := by
        rw [List.getElem?_map] at hu
        obtain ⟨z, hz, e⟩ := Option.map_eq_some_iff.mp hu
        exact ⟨z, hz, e.symm⟩
      have rt := mem3 t (List.mem_of_getElem? et)
      have s0 := s1.trans sM
      walk_at "w"
      refine w_ixT (s0 _ _ hf) rfl ?_
      walk_at "w"
      have hpm0 := s0 _ _ hpm
      have twm0 := twm.same s0
      refine w_onT hpm0 ?_
      intro D nD
      refine w_comp walk_tup (fun i acc N => Same M' N ∧ acc = (((km.take i).filter fun m => decide (m.1 = t)).map fun m => V.str m.2)) nD (fun N s e => ⟨s, by simp⟩) (fun i acc N h => SqT.of (h.1 _ _ hpm0)) ?_ ?_
      · rintro i acc u N N' hi la ⟨m1, m2⟩ hA ⟨rfl, hu⟩
        obtain ⟨m, em, p, rfl, hp⟩ := twm0.at hu
        have wlen := twm0.len
        walk_at "w"
        refine ⟨rfl, ?_⟩
        walk_at "w"
        refine w_ixT (m1 _ _ hp) rfl ?_
        walk_at "w"
        refine w_dec (fun e => ?_) fun e => ?_
        · walk_at "w"
          refine w_ixT (m1 _ _ hp) rfl ?_
          refine w_put hA la (by omega) fun Z e6 hZ => ⟨Same.ofExt m1 nD e6, ?_⟩
          rw [List.take_add_one, em, m2]
          simp [e]
        · refine w_skip hA la ⟨m1, ?_⟩
          rw [List.take_add_one, em, m2]
          simp [e]
      · rintro acc N lacc hA ⟨m1, m2⟩
        have ew : km.take wm.length = km := List.take_of_length_le (by rw [twm.len]; exact Nat.le_refl _)
        rw [ew] at m2
        walk_at "w"
        have lacc2 : acc.length ≤ 60 := by have := twm.len; omega
        refine w_newL rfl fun n1 L1 nn s2 hn1 => ?_
        walk_at "w"
        refine w_cat (s2 _ _ hA) hn1 (by show _ + 1 ≤ _; omega) fun dl L2 nd2 s3 hdl => ?_
        walk_at "w"
        have sA := ((s0.trans m1).trans s2).trans s3
        have shA := sh.same sA
        obtain ⟨dx, fs, hx, _, lm⟩ := shO_no shA
        refine w_aMetX hx lm ?_
        walk_at "w"
        refine ⟨x, level, ls, ms, _, rfl, shA, G, .inr ⟨t, rfl, fun L3 r s4 hr1 => ?_⟩⟩
        have e1 := mark_first G pM hr1
        subst e1
        walk_at "w"
        refine w_aMet (s4 _ _ hx) lm ?_
        walk_at "w"
        refine ⟨rfl, x, level, ls, ms, _, rfl, shA.same s4, G, .inr ⟨t, rfl, fun L4 r s5 hr2 => ?_⟩⟩
        have e2 := mark_first G pM hr2
        subst e2
        walk_at "w"
        have s45 := s4.trans s5
        refine ⟨x, dx, fs, rfl, s45 _ _ hx, x, level, ls, ms, _, rfl, shA.same s45, .inr ⟨t, rfl, fun b hb => ⟨b, rfl, fun b' e => ?_⟩⟩⟩
        cases e
        have eb : b = true := hb.mpr rt
        subst eb
        rw [if_neg Bool.false_ne_true]
        walk_at "w"
        obtain ⟨d, dp, so⟩ := first_dp (t := t) K G pM
        have so3 : SO (.list [d, d, .bool true]) 10 100000 := (SOA.cons so (SOA.cons so (SOA.cons (SO.bool (k := 2) (n := 0)) (SOA.nil (n := 0))))).lst.le (by decide) (by decide)
        refine w_newL rfl fun q1 L5 n5 s6 h5 => ?_
        walk_at "w"
        refine w_reprS h5 (.cons (dp _) (.cons (dp _) (.cons (.bl _) .nil))) so3 (by decide) ?_
        walk_at "w"
        have hdl2 := (s45.trans s6) _ _ hdl
        rw [m2] at hdl2
        refine w_ixL hdl2 firstN_at ?_
        walk_at "w"
        refine w_ixL hdl2 firstN_at ?_
        walk_at "w"
        refine w_newL rfl fun q2 L6 n6 s7 h6 => ?_
        walk_at "w"
        refine w_reprS h6 (.cons (dp _) (.cons (dp _) (.cons (.bl _) .nil))) so3 (by decide) ?_
        walk_at "w"
        rw [decide_eq_true rfl]
        walk_at "w"
        exact ⟨⟨_, _, _, rfl⟩, (((sM.trans m1).trans s2).trans s3).trans ((s45.trans s6).trans s7)⟩
    · rintro σ M ⟨⟨o3, o4, o5, rfl⟩, sM⟩
      walk_at "w"
      exact q M (s1.trans sM)
end

end RT
set_option Elab.async false
set_option linter.all false
set_option maxRecDepth 100000
set_option maxHeartbeats 4000000
namespace RT
open PySem PySem.Spec PyProof.Rows L2
local macro_rules | `(tactic| walk_at "w0") => `(tactic| dsimp only [L2.start, cxOf, Cx.nox, Cx.wish, List.map, List.length_cons, List.length_nil, List.replicate_succ, List.replicate_zero, List.cons_append, List.nil_append, Nat.reduceAdd, Nat.reduceSub, List.set_cons_zero, List.set_cons_succ])
local macro_rules | `(tactic| walk_at "w1") => `(tactic| first
  | with_reducible refine w_seq ?_
  | with_reducible refine w_asg ?_
  | with_reducible refine w_var rfl ?_
  | with_reducible refine w_c ?_
  | with_reducible refine w_op ?_
  | with_reducible refine w_cons ?_
  | with_reducible refine w_nil ?_
  | with_reducible refine w_gname ?_
  | with_reducible refine w_cb ?_
  | with_reducible refine w_I0 ?_
  | with_reducible refine w_bl ?_
  | ((with_reducible refine' w_ixL ?s0 ?s1 ?q); (case s0 => assumption); (case s1 => rfl))
  | ((with_reducible refine' w_ixT ?s0 ?s1 ?q); (case s0 => assumption); (case s1 => rfl))
  | with_reducible refine w_gsub ?_
  | with_reducible refine w_ifS ?_
  | with_reducible refine w_test ?_
  | with_reducible refine w_call ?_
  | with_reducible refine w_ret ?_
  | with_reducible refine w_int1 ?_
  | with_reducible refine w_int ?_
  | with_reducible refine w_next ?_
  | with_reducible refine w_drop ?_
  | ((with_reducible refine' w_mod ?s0 ?q); (case s0 => omega))
  | ((with_reducible refine' w_div ?s0 ?q); (case s0 => omega))
  | ((with_reducible refine' w_mul ?s0 ?q); (case s0 => omega))
  | ((with_reducible refine' w_pow ?s0 ?q); (case s0 => decide))
  | with_reducible refine w_B ?_
  | with_reducible refine w_and ?_
  | with_reducible refine w_or ?_
  | with_reducible refine w_not ?_
  | with_reducible refine w_T ?_
  | with_reducible refine w_F ?_
  | with_reducible refine w_nT ?_
  | with_reducible refine w_nF ?_
  | with_reducible refine w_un ?_
  | with_reducible refine w_U ?_
  | with_reducible refine w_if ?_
  | with_reducible refine w_lst ?_
  | with_reducible refine w_tup ?_
  | with_reducible refine w_sl ?_
  | with_reducible refine w_part ?_
  | with_reducible refine w_nopart ?_
  | with_reducible refine w_eqI ?_
  | with_reducible refine w_neI ?_
  | with_reducible refine w_eqS ?_
  | with_reducible refine w_neS ?_
  | with_reducible refine w_abs ?_
  | with_reducible refine w_max2 ?_
  | with_reducible refine w_min2 ?_
  | ((with_reducible refine' w_lenL ?s0 ?q); (case s0 => assumption))
  | ((with_reducible refine' w_lenH ?s0 ?q); (case s0 => assumption))
  | ((with_reducible refine' w_lenT ?s0 ?q); (case s0 => assumption))
  | ((with_reducible refine' w_lenS ?s0 ?q); (case s0 => first | assumption | omega | decide +kernel))
  | with_reducible refine w_inC ?_
  | with_reducible refine w_ninC ?_
  | with_reducible refine w_m1 ?_
  | with_reducible refine w_m0 ?_
  | with_reducible refine w_isstr ?_
  | with_reducible refine w_andV ?_
  | with_reducible refine w_orV ?_
  | with_reducible refine w_notV ?_
  | with_reducible refine w_chain ?_
  | with_reducible refine w_retN ?_
  | with_reducible refine w_break ?_
  | with_reducible refine w_cont ?_
  | with_reducible refine w_yes ?_
  | with_reducible refine w_for ?_
  | with_reducible refine w_lc ?_
  | with_reducible refine w_iList ?_
  | with_reducible refine w_iTup ?_
  | with_reducible refine w_iStr ?_
  | with_reducible refine w_iR1 ?_
  | with_reducible refine w_iR2 ?_
  | ((with_reducible refine' w_onL ?s0 ?q); (case s0 => assumption))
  | ((with_reducible refine' w_onQ ?s0 ?q); (case s0 => assumption))
  | ((with_reducible refine' w_onT ?s0 ?q); (case s0 => assumption))
  | ((with_reducible refine' w_onU ?s0 ?q); (case s0 => assumption))
  | with_reducible refine w_onS ?_
  | ((with_reducible refine' w_onR1 ?s0 ?q); (case s0 => omega))
  | ((with_reducible refine' w_onR2 ?s0 ?q); (case s0 => omega))
  | with_reducible refine w_revL ?_
  | ((with_reducible refine' w_all ?s0 ?q); (case s0 => assumption))
  | ((with_reducible refine' w_any ?s0 ?q); (case s0 => assumption))
  | with_reducible refine w_bm ?_
  | with_reducible refine w_bm0 ?_
  | ((with_reducible refine' w_islst ?s0 ?q); (case s0 => assumption))
  | with_reducible refine w_kw ?_
  | ((with_reducible refine' w_isi ?s0 ?s1 ?q); (case s0 => assumption); (case s1 => assumption))
  | ((with_reducible refine' w_addS ?s0 ?q); (case s0 => first | omega | decide +kernel))
  | with_reducible refine w_dnew ?_
  | with_reducible refine w_pnil ?_
  | with_reducible refine w_pcons ?_
  | ((with_reducible refine' w_slS ?s0 ?q); (case s0 => first | assumption | omega))
  | ((with_reducible refine' w_inLS ?s0 ?q); (case s0 => assumption))
  | ((with_reducible refine' w_ninLS ?s0 ?q); (case s0 => assumption))
  | ((with_reducible refine' w_inTS ?s0 ?q); (case s0 => assumption))
  | with_reducible refine w_par ?_
  | with_reducible refine w_parEnd ?_
  | with_reducible refine w_fld ?_
  | with_reducible refine w_e1 ?_
  | with_reducible refine w_e2 ?_
  | with_reducible refine w_par3 ?_
  | with_reducible refine w_parEnd3 ?_
  | ((with_reducible refine' w_upper ?s0 ?q); (case s0 => first | assumption | omega | decide +kernel))
  | with_reducible refine w_fldT ?_
  | with_reducible refine w_setT ?_
  | with_reducible refine w_fs ?_
  | with_reducible refine w_jsC ?_
  | with_reducible refine w_js0 ?_
  | with_reducible refine w_fmtT ?_
  | with_reducible refine w_dinT ?_
  | with_reducible refine w_dninT ?_
  | with_reducible refine w_dputT ?_
  | with_reducible refine w_dgetT ?_
  | with_reducible refine w_dget2T ?_
  | with_reducible refine w_setdT ?_
  | with_reducible refine w_mkK ?_
  | with_reducible refine w_mkR ?_
  | with_reducible refine w_dcT ?_
  | ((with_reducible refine' w_ninTS ?s0 ?q); (case s0 => assumption))
  | with_reducible refine w_strS ?_
  | with_reducible refine w_star ?_
  | with_reducible refine w_iE ?_
  | with_reducible refine w_metK ?_
  | with_reducible refine w_met ?_
  | with_reducible refine w_stat ?_
  | dsimp only [wipe, List.set_cons_zero, List.set_cons_succ])
local macro_rules | `(tactic| walk_at "w") => `(tactic| repeat walk_at "w1")
/-! ### odd things -/
theorem upper_no {z : Str} (h : nameS z = true) : nameS (Txt.upper z) = false := by
  obtain ⟨c, cs, e, hc, hs, _⟩ := name_is h
  have low : ∀ x ∈ k__SIGNS.cps.toList, x < 128 := by decide +kernel
  have ez : z = SX.S (c :: cs) := by rw [← e]
  refine Bool.eq_false_iff.mpr fun y => ?_
  rw [ez, SX.upper_S (List.all_eq_true.mpr fun x hx => decide_eq_true (low x (hs x hx)))] at y
  obtain ⟨c2, cs2, e2, hc2, _, _⟩ := name_is y
  have e3 : (c :: cs).map PyProof.Rows.up1 = c2 :: cs2 := by
    have : (SX.S ((c :: cs).map PyProof.Rows.up1)).cps.toList = (c :: cs).map PyProof.Rows.up1 := by simp
    rw [← this]
    exact e2
  rw [List.map_cons] at e3
  have e4 := (List.cons.inj e3).1
  have no : ∀ x ∈ k__LETTERS.cps.toList, PyProof.Rows.up1 x ∉ k__LETTERS.cps.toList := by decide +kernel
  exact no c hc (e4 ▸ hc2)
theorem blank_no {z : Str} : nameS (z ++ Str.ofString " ") = false := by
  refine Bool.eq_false_iff.mpr fun y => ?_
  refine name_no y no32 ?_
  rw [tl_app]
  exact List.mem_append_right _ (by decide +kernel)
theorem long_no {z : Str} : nameS (z ++ Str.ofString "123456789") = false := by
  refine Bool.eq_false_iff.mpr fun y => ?_
  have := (name_len y).2
  rw [app_len] at this
  have e : (Str.ofString "123456789").length = 9 := by decide +kernel
  omega
def OddV (K : PySem.W.Frag) (H : Hp) (v : V) : Prop := NoText K H v ∨ ∃ y, v = .str y ∧ nameS y = false ∧ y.length ≤ 100
theorem OddV.same {K : PySem.W.Frag} {H J : Hp} {v : V} (h : OddV K H v) (s : Same H J) : OddV K J v := h.elim (fun n => .inl (n.same s)) .inr
theorem no_data {K : PySem.W.Frag} {H : Hp} {v : V} {d : PyData} (h : Dp K H v d) (p : d.plain = true) (n : ∀ z, d ≠ .str z) (k : PyData.depth d ≤ 60) : OddV K H v := .inl (.inl ⟨d, h, p, n, k⟩)
def spOdd (K : PySem.W.Frag) : Sp := fun vs H Q _ => ∃ b zs level, vs = [.ref b] ∧ H b = some (.lst ((zs : List Str).map V.str)) ∧ zs[0]? = some level ∧ nameS level = true ∧ ∀ p J xs, H p = none → Same H J → J p = some (.lst xs) → xs.length ≤ 20 → (∀ v ∈ xs, OddV K J v) → Q (.ref p) J
abbrev s__law_odd : Stmt := topS 33
theorem sc__law_odd : FnScope ["names", "odd"] ["names"] (defScope s__law_odd) := ⟨rfl, rfl, rfl, by decide +kernel, rfl, by decide +kernel, by decide +kernel⟩
section
variable {P : Program} {w : World} {K : PySem.W.Frag} {mg : Str → Option Value} {base : Heap}
theorem ok__law_odd {f : Addr} {fd : FuncData} (F : Fun K "_law_odd" "_law_odd" s__law_odd f fd) (T : Txt K mg) : FnOk P w K mg base CX0 1 f fd ["names"] (spOdd K) := by
  refine F.ok sc__law_odd (fun vs H Q E h => ?_) (fun cdv A outer s H vs Q E hr h => ?_)
  · obtain ⟨b, zs, level, rfl, _⟩ := h
    rfl
  · obtain ⟨b, zs, level, rfl, hb, h0, hl, q⟩ := h
    have a0 : atI (zs.map V.str) 0 = some (.str level) := atI_nat (j := 0) (by rw [List.getElem?_map, h0]; rfl)
    refine ⟨_, (pss_cons (ps_set (i := 1) sc__law_odd.nd rfl (by first | exact Or.inl rfl | exact Or.inr rfl) (pe_lst (pa_cons pe_non (pa_cons pe_bl (pa_cons pe_int (pa_cons pe_str (pa_cons (pe_tup (pa_cons (pe_ix (k_ixL (K := K)) (pv 0) pe_int (fun _ _ => rfl)) pa_nil)) (pa_cons (pe_lst (pa_cons (pe_ix (k_ixL (K := K)) (pv 0) pe_int (fun _ _ => rfl)) pa_nil)) (pa_cons pe_dnewK (pa_cons (pe_lst pa_nil) (pa_cons (pe_op o_addS (pe_ix (k_ixL (K := K)) (pv 0) pe_int (fun _ _ => rfl)) pe_str) (pa_cons (p_upper (pe_ix (k_ixL (K := K)) (pv 0) pe_int (fun _ _ => rfl))) (pa_cons (pe_tup pa_nil) (pa_cons (pe_disp (pps_cons (pe_ix (k_ixL (K := K)) (pv 0) pe_int (fun _ _ => rfl)) pe_int pps_nil) (by rfl) (by rfl) (fun z => by cases z) (by decide)) pa_nil))))))))))))))
  (pss_one (ps_ret (pe_op op_cat (pv 1) (pe_lst (pa_cons (pe_op o_addS (pe_ix (k_ixL (K := K)) (pv 0) pe_int (fun _ _ => rfl)) pe_str) pa_nil)))))), ?_⟩
    walk_at "w0"
    walk_at "w"
    have ln := name_len hl
    refine w_ixL hb a0 ?_
    walk_at "w"
    refine w_newT rfl fun t1 J1 n1 s1 h1 => ?_
    walk_at "w"
    refine w_ixL (s1 _ _ hb) a0 ?_
    walk_at "w"
    refine w_newL rfl fun t2 J2 n2 s2 h2 => ?_
    walk_at "w"
    refine w_newD fun t3 J3 n3 s3 h3 => ?_
    walk_at "w"
    refine w_newL rfl fun t4 J4 n4 s4 h4 => ?_
    walk_at "w"
    have s14 := ((s1.trans s2).trans s3).trans s4
    refine w_ixL (s14 _ _ hb) a0 ?_
    walk_at "w"
    refine w_addS (by show _ + 1 ≤ _; omega) ?_
    walk_at "w"
    refine w_ixL (s14 _ _ hb) a0 ?_
    walk_at "w"
    refine w_newT rfl fun t5 J5 n5 s5 h5 => ?_
    walk_at "w"
    refine w_disp fun t6 J6 n6 s6 h6 => ?_
    walk_at "w"
    have s16 := (s14.trans s5).trans s6
    refine w_ixL (s16 _ _ hb) a0 ?_
    walk_at "w"
    refine w_dEnd [(Sum.inr level, .int 1)] h6 rfl (Nat.le_of_ble_eq_true rfl) fun J7 e7 h7 => ?_
    walk_at "w"
    have s17 : Same H J7 := Same.ofExt s16 (Same.free ((s14).trans s5) n6) e7
    have ne6 : ∀ {c : Addr} {o : HO}, J6 c = some o → (∀ kvs, o ≠ .dK kvs) → J7 c = some o := fun {c o} h n => e7 c o (fun z => by rw [z, h6] at h; exact n _ (Option.some.inj h).symm) h
    have g1 := ne6 (((((s2.trans s3).trans s4).trans s5).trans s6) _ _ h1) (by intro k z; cases z)
    have g2 := ne6 ((((s3.trans s4).trans s5).trans s6) _ _ h2) (by intro k z; cases z)
    have g4 := ne6 ((s5.trans s6) _ _ h4) (by intro k z; cases z)
    have g5 := ne6 (s6 _ _ h5) (by intro k z; cases z)
    have g3 : J7 t3 = some (.dK []) := e7 t3 _ (fun z => by
      have := ((s4.trans s5)) _ _ h3
      rw [z, n6] at this
      cases this) (((s4.trans s5).trans s6) _ _ h3)
    refine w_newL rfl fun p1 J8 n8 s8 h8 => ?_
    walk_at "w"
    refine w_ixL ((s17.trans s8) _ _ hb) a0 ?_
    walk_at "w"
    refine w_addS (by
      have e : (Str.ofString "123456789").length = 9 := by decide +kernel
      omega) ?_
    walk_at "w"
    refine w_newL rfl fun p2 J9 n9 s9 h9 => ?_
    refine w_cat (s9 _ _ h8) h9 (Nat.le_of_ble_eq_true rfl) fun p3 J10 n10 s10 h10 => ?_
    have sE := ((s17.trans s8).trans s9).trans s10
    have s7E := (s8.trans s9).trans s10
    refine q p3 J10 _ (Same.free ((s17.trans s8).trans s9) n10) sE h10 (Nat.le_of_ble_eq_true rfl) ?_
    have d1 : OddV K J10 (.ref t1) := no_data (d := .tuple [.str level]) (.tup (SqT.of (s7E _ _ g1)) (.cons (.str _) .nil)) rfl (fun z e => by cases e) (by simp [PyData.depth, PyData.depthAll])
    have d2 : OddV K J10 (.ref t2) := no_data (d := .list [.str level]) (.lst (SqL.of (s7E _ _ g2)) (.cons (.str _) .nil)) rfl (fun z e => by cases e) (by simp [PyData.depth, PyData.depthAll])
    have d3 : OddV K J10 (.ref t3) := .inl (.inr ⟨t3, [], rfl, s7E _ _ g3⟩)
    have d4 : OddV K J10 (.ref t4) := no_data (d := .list []) (.lst (SqL.of (s7E _ _ g4)) .nil) rfl (fun z e => by cases e) (by simp [PyData.depth, PyData.depthAll])
    have d5 : OddV K J10 (.ref t5) := no_data (d := .tuple []) (.tup (SqT.of (s7E _ _ g5)) .nil) rfl (fun z e => by cases e) (by simp [PyData.depth, PyData.depthAll])
    have d6 : OddV K J10 (.ref t6) := .inl (.inr ⟨t6, _, rfl, s7E _ _ h7⟩)
    have dn : OddV K J10 .non := no_data .non rfl (fun z e => by cases e) (by simp [PyData.depth])
    have db : OddV K J10 (.bl true) := no_data (.bl true) rfl (fun z e => by cases e) (by simp [PyData.depth])
    have di : OddV K J10 (.int 0) := no_data (.int 0) rfl (fun z e => by cases e) (by simp [PyData.depth])
    have de : OddV K J10 (.str (Str.ofString "")) := .inr ⟨_, rfl, by decide +kernel, by decide +kernel⟩
    have dw : OddV K J10 (.str (level ++ Str.ofString " ")) := .inr ⟨_, rfl, blank_no, by rw [app_len]; show _ + 1 ≤ _; omega⟩
    have du : OddV K J10 (.str (Txt.upper level)) := .inr ⟨_, rfl, upper_no hl, by have := PyProof.Rows.len_upper level; omega⟩
    have dl : OddV K J10 (.str (level ++ Str.ofString "123456789")) := .inr ⟨_, rfl, long_no, by
      rw [app_len]
      have e : (Str.ofString "123456789").length = 9 := by decide +kernel
      omega⟩
    intro v hv
    simp only [List.cons_append, List.nil_append, List.mem_cons, List.not_mem_nil, or_false] at hv
    rcases hv with rfl | rfl | rfl | rfl | rfl | rfl | rfl | rfl | rfl | rfl | rfl | rfl | rfl
    · exact dn
    · exact db
    · exact di
    · exact de
    · exact d1
    · exact d2
    · exact d3
    · exact d4
    · exact dw
    · exact du
    · exact d5
    · exact d6
    · exact dl
end

end RT
set_option Elab.async false
set_option linter.all false
set_option maxRecDepth 100000
set_option maxHeartbeats 4000000
namespace RT
open PySem PySem.Spec PyProof.Rows L2
local macro_rules | `(tactic| walk_at "w0") => `(tactic| dsimp only [L2.start, cxOf, Cx.nox, Cx.wish, List.map, List.length_cons, List.length_nil, List.replicate_succ, List.replicate_zero, List.cons_append, List.nil_append, Nat.reduceAdd, Nat.reduceSub, List.set_cons_zero, List.set_cons_succ])
local macro_rules | `(tactic| walk_at "w1") => `(tactic| first
  | with_reducible refine w_seq ?_
  | with_reducible refine w_asg ?_
  | with_reducible refine w_var rfl ?_
  | with_reducible refine w_c ?_
  | with_reducible refine w_op ?_
  | with_reducible refine w_cons ?_
  | with_reducible refine w_nil ?_
  | with_reducible refine w_gname ?_
  | with_reducible refine w_cb ?_
  | with_reducible refine w_I0 ?_
  | with_reducible refine w_bl ?_
  | ((with_reducible refine' w_ixL ?s0 ?s1 ?q); (case s0 => assumption); (case s1 => rfl))
  | ((with_reducible refine' w_ixT ?s0 ?s1 ?q); (case s0 => assumption); (case s1 => rfl))
  | with_reducible refine w_gsub ?_
  | with_reducible refine w_ifS ?_
  | with_reducible refine w_test ?_
  | with_reducible refine w_call ?_
  | with_reducible refine w_ret ?_
  | with_reducible refine w_int1 ?_
  | with_reducible refine w_int ?_
  | with_reducible refine w_next ?_
  | with_reducible refine w_drop ?_
  | ((with_reducible refine' w_mod ?s0 ?q); (case s0 => omega))
  | ((with_reducible refine' w_div ?s0 ?q); (case s0 => omega))
  | ((with_reducible refine' w_mul ?s0 ?q); (case s0 => omega))
  | ((with_reducible refine' w_pow ?s0 ?q); (case s0 => decide))
  | with_reducible refine w_B ?_
  | with_reducible refine w_and ?_
  | with_reducible refine w_or ?_
  | with_reducible refine w_not ?_
  | with_reducible refine w_T ?_
  | with_reducible refine w_F ?_
  | with_reducible refine w_nT ?_
  | with_reducible refine w_nF ?_
  | with_reducible refine w_un ?_
  | with_reducible refine w_U ?_
  | with_reducible refine w_if ?_
  | with_reducible refine w_lst ?_
  | with_reducible refine w_tup ?_
  | with_reducible refine w_sl ?_
  | with_reducible refine w_part ?_
  | with_reducible refine w_nopart ?_
  | with_reducible refine w_eqI ?_
  | with_reducible refine w_neI ?_
  | with_reducible refine w_eqS ?_
  | with_reducible refine w_neS ?_
  | with_reducible refine w_abs ?_
  | with_reducible refine w_max2 ?_
  | with_reducible refine w_min2 ?_
  | ((with_reducible refine' w_lenL ?s0 ?q); (case s0 => assumption))
  | ((with_reducible refine' w_lenH ?s0 ?q); (case s0 => assumption))
  | ((with_reducible refine' w_lenT ?s0 ?q); (case s0 => assumption))
  | ((with_reducible refine' w_lenS ?s0 ?q); (case s0 => first | assumption | omega | decide +kernel))
  | with_reducible refine w_inC ?_
  | with_reducible refine w_ninC ?_
  | with_reducible refine w_m1 ?_
  | with_reducible refine w_m0 ?_
  | with_reducible refine w_isstr ?_
  | with_reducible refine w_andV ?_
  | with_reducible refine w_orV ?_
  | with_reducible refine w_notV ?_
  | with_reducible refine w_chain ?_
  | with_reducible refine w_retN ?_
  | with_reducible refine w_break ?_
  | with_reducible refine w_cont ?_
  | with_reducible refine w_yes ?_
  | with_reducible refine w_for ?_
  | with_reducible refine w_lc ?_
  | with_reducible refine w_iList ?_
  | with_reducible refine w_iTup ?_
  | with_reducible refine w_iStr ?_
  | with_reducible refine w_iR1 ?_
  | with_reducible refine w_iR2 ?_
  | ((with_reducible refine' w_onL ?s0 ?q); (case s0 => assumption))
  | ((with_reducible refine' w_onQ ?s0 ?q); (case s0 => assumption))
  | ((with_reducible refine' w_onT ?s0 ?q); (case s0 => assumption))
  | ((with_reducible refine' w_onU ?s0 ?q); (case s0 => assumption))
  | with_reducible refine w_onS ?_
  | ((with_reducible refine' w_onR1 ?s0 ?q); (case s0 => omega))
  | ((with_reducible refine' w_onR2 ?s0 ?q); (case s0 => omega))
  | with_reducible refine w_revL ?_
  | ((with_reducible refine' w_all ?s0 ?q); (case s0 => assumption))
  | ((with_reducible refine' w_any ?s0 ?q); (case s0 => assumption))
  | with_reducible refine w_bm ?_
  | with_reducible refine w_bm0 ?_
  | ((with_reducible refine' w_islst ?s0 ?q); (case s0 => assumption))
  | with_reducible refine w_kw ?_
  | ((with_reducible refine' w_isi ?s0 ?s1 ?q); (case s0 => assumption); (case s1 => assumption))
  | ((with_reducible refine' w_addS ?s0 ?q); (case s0 => first | omega | decide +kernel))
  | with_reducible refine w_dnew ?_
  | with_reducible refine w_pnil ?_
  | with_reducible refine w_pcons ?_
  | ((with_reducible refine' w_slS ?s0 ?q); (case s0 => first | assumption | omega))
  | ((with_reducible refine' w_inLS ?s0 ?q); (case s0 => assumption))
  | ((with_reducible refine' w_ninLS ?s0 ?q); (case s0 => assumption))
  | ((with_reducible refine' w_inTS ?s0 ?q); (case s0 => assumption))
  | with_reducible refine w_par ?_
  | with_reducible refine w_parEnd ?_
  | with_reducible refine w_fld ?_
  | with_reducible refine w_e1 ?_
  | with_reducible refine w_e2 ?_
  | with_reducible refine w_par3 ?_
  | with_reducible refine w_parEnd3 ?_
  | ((with_reducible refine' w_upper ?s0 ?q); (case s0 => first | assumption | omega | decide +kernel))
  | with_reducible refine w_fldT ?_
  | with_reducible refine w_setT ?_
  | with_reducible refine w_fs ?_
  | with_reducible refine w_jsC ?_
  | with_reducible refine w_js0 ?_
  | with_reducible refine w_fmtT ?_
  | with_reducible refine w_dinT ?_
  | with_reducible refine w_dninT ?_
  | with_reducible refine w_dputT ?_
  | with_reducible refine w_dgetT ?_
  | with_reducible refine w_dget2T ?_
  | with_reducible refine w_setdT ?_
  | with_reducible refine w_mkK ?_
  | with_reducible refine w_mkR ?_
  | with_reducible refine w_dcT ?_
  | ((with_reducible refine' w_ninTS ?s0 ?q); (case s0 => assumption))
  | with_reducible refine w_strS ?_
  | with_reducible refine w_star ?_
  | with_reducible refine w_iE ?_
  | with_reducible refine w_metK ?_
  | with_reducible refine w_met ?_
  | with_reducible refine w_stat ?_
  | dsimp only [wipe, List.set_cons_zero, List.set_cons_succ])
local macro_rules | `(tactic| walk_at "w") => `(tactic| repeat walk_at "w1")
/-! ### == of shapes, as it is read -/
section
variable {P : Program} {w : World} {K : PySem.W.Frag} {mg : Str → Option Value} {C : Addr} {H : Hp} {Q : VK} {x x' : Addr} {y : V} {t : Value} {level level' : Str} {ls ms ls' ms' : List PP}
theorem shTy (O : OSh K C) (h : ShO C H x level ls ms) : TyX K H (.ref x) (.ref C) := by
  obtain ⟨dx, pl, pk, pm, lv, wl, wm, hx, _⟩ := h.ex
  have I := O.c.ins
  exact .base (.ins hx I.cl I.ha I.hn I.htk I.hm)
theorem w_eqSh (O : OSh K C) (S : ShK K mg C) (h : ShO C H x level ls ms) (h' : ShO C H x' level' ls' ms') (q : Q (.bl (decide (textS level ls ms = textS level' ls' ms'))) H) : oEqO K C (spShEq K C) (.ref x) (.ref x') H Q := by
  obtain ⟨dx, pl, pk, pm, lv, wl, wm, hx, _⟩ := h.ex
  exact ⟨x, dx, _, _, rfl, hx, shTy O h', S.nO, x, level, ls, ms, _, rfl, h, .inl ⟨x', level', ls', ms', rfl, h', _, rfl, q⟩⟩
theorem w_neSh (O : OSh K C) (S : ShK K mg C) (h : ShO C H x level ls ms) (h' : ShO C H x' level' ls' ms') (q : Q (.bl (!decide (textS level ls ms = textS level' ls' ms'))) H) : oNeO K C (spShEq K C) (.ref x) (.ref x') H Q := by
  obtain ⟨dx, pl, pk, pm, lv, wl, wm, hx, _⟩ := h.ex
  exact ⟨x, dx, _, _, rfl, hx, shTy O h', S.nO, x, level, ls, ms, _, rfl, h, .inl ⟨x', level', ls', ms', rfl, h', _, rfl, fun b e => by cases e; exact q⟩⟩
end
/-! ### a shape and a model stay when a bag is drawn from -/
theorem ShO.bag {C : Addr} {H J : Hp} {x a : Addr} {level : Str} {ls ms : List PP} (h : ShO C H x level ls ms) (b : Bag H a) (e : Ext a H J) : ShO C J x level ls ms := by
  obtain ⟨dx, pl, pk, pm, lv, wl, wm, h1, h2, h3, h4, h5, h6, h7, h8, h9⟩ := h.ex
  obtain ⟨ys, hy⟩ := b.lst
  exact ⟨dx, pl, pk, pm, lv, wl, wm, e _ _ (ne_of h1 hy (by intro z; cases z)) h1, e _ _ (ne_of h2 hy (by intro z; cases z)) h2, h3, h4, h5, e _ _ (ne_of h6 hy (by intro z; cases z)) h6, h7.bag b e, e _ _ (ne_of h8 hy (by intro z; cases z)) h8, h9.bag b e⟩
theorem Mod.bag {H J : Hp} {f a : Addr} {level : Str} {kl km : List PP} (h : Mod H f level kl km) (b : Bag H a) (e : Ext a H J) : Mod J f level kl km := by
  obtain ⟨pk, pm, wl, wm, h1, h2, h3, h4, h5⟩ := h
  obtain ⟨ys, hy⟩ := b.lst
  exact ⟨pk, pm, wl, wm, e _ _ (ne_of h1 hy (by intro z; cases z)) h1, e _ _ (ne_of h2 hy (by intro z; cases z)) h2, h3.bag b e, e _ _ (ne_of h4 hy (by intro z; cases z)) h4, h5.bag b e⟩
/-! ### what is drawn is good -/
theorem reach_all {zs : List Str} {level : Str} {ls : List PP} (h0 : zs[0]? = some level) (L : LinksOf zs ls) : ∀ y ∈ zs, Rch ls level y := by
  have up : ∀ (n k : Nat) (y : Str), k ≤ n → zs[k]? = some y → Rch ls level y := fun n => by
    induction n with
    | zero =>
      intro k y hk e
      have : k = 0 := by omega
      subst this
      rw [h0] at e
      cases e
      exact .refl
    | succ n ih =>
      intro k y hk e
      by_cases z : k = 0
      · subst z
        rw [h0] at e
        cases e
        exact .refl
      · obtain ⟨i, x, y', h1, h2, h3, h4⟩ := L.all k (by omega) (List.getElem?_eq_some_iff.mp e).1
        rw [e] at h3
        cases h3
        exact .step (ih i x (by omega) h2) h4
  intro y hy
  obtain ⟨k, hk⟩ := List.getElem?_of_mem hy
  exact up k k y (Nat.le_refl k) hk
theorem reach_in {zs : List Str} {level : Str} {ls : List PP} (h0 : zs[0]? = some level) (L : LinksOf zs ls) {y : Str} (r : Rch ls level y) : y ∈ zs := by
  rcases List.mem_cons.mp (rch_in r) with e | m
  · rw [e]
    exact List.mem_of_getElem? h0
  · obtain ⟨l, hl, rfl⟩ := List.mem_map.mp m
    obtain ⟨i, k, _, _, h⟩ := L.each l hl
    exact List.mem_of_getElem? h
theorem good_of {zs : List Str} {level : Str} {ls ms : List PP} (nd : zs.Nodup) (nm : ∀ z ∈ zs, nameS z = true) (h0 : zs[0]? = some level) (hz : zs.length ≤ 10) (L : LinksOf zs ls) (sub : (ms.map (·.1)).Sublist zs) (n2 : ∀ m ∈ ms, nameS m.2 = true) : GoodSh level ls ms := by
  have inj : ∀ {i j : Nat} {x : Str}, zs[i]? = some x → zs[j]? = some x → i = j := fun {i j x} hi hj => (List.getElem?_inj (List.getElem?_eq_some_iff.mp hi).1 nd).mp (hi.trans hj.symm)
  have all := reach_all h0 L
  refine ⟨nm _ (List.mem_of_getElem? h0), ⟨fun l hl => ?_, L.nd, by have := L.few; omega⟩, ⟨fun x => zs.idxOf x, fun l hl => ?_⟩, fun l hl => ?_, fun m hm => ⟨all _ (sub.subset (List.mem_map.mpr ⟨m, hm, rfl⟩)), n2 m hm⟩, sub.nodup nd, ?_⟩
  · obtain ⟨i, k, h1, h2, h3⟩ := L.each l hl
    exact ⟨nm _ (List.mem_of_getElem? h2), nm _ (List.mem_of_getElem? h3), fun e => by
      rw [e] at h2
      have := inj h2 h3
      omega⟩
  · obtain ⟨i, k, h1, h2, h3⟩ := L.each l hl
    have ix : ∀ {i : Nat} {x : Str}, zs[i]? = some x → zs.idxOf x = i := fun {i x} h => by
      have hm := List.mem_of_getElem? h
      have h4 := List.idxOf_lt_length_of_mem hm
      have h5 : zs[zs.idxOf x]? = some x := by
        rw [List.getElem?_eq_getElem h4, List.getElem_idxOf]
      exact inj h5 h
    show zs.idxOf l.1 < zs.idxOf l.2
    rw [ix h2, ix h3]
    exact h1
  · obtain ⟨i, k, h1, h2, h3⟩ := L.each l hl
    exact all _ (List.mem_of_getElem? h2)
  · have := sub.length_le
    rw [List.length_map] at this
    omega
/-! ### parts of parts -/
theorem part_rch2 {ls : List PP} {t h z : Str} (r : Rch ls t h) : Rch (partL ls t ls) h z ↔ Rch ls h z := by
  refine ⟨fun h => h.mono fun l hl => (partL_mem.mp hl).1, fun g => ?_⟩
  induction g with
  | refl => exact .refl
  | step r2 m ih => exact .step ih (partL_mem.mpr ⟨m, r.trans r2⟩)
theorem rB_eq {ls ms : List PP} {y z y' z' : Str} (h : Rch ls y z ↔ Rch ms y' z') : rB ls y z = rB ms y' z' := by
  rw [Bool.eq_iff_iff, rB_iff, rB_iff]
  exact h
theorem part_part {ls ms : List PP} {t h : Str} (r : Rch ls t h) : partL (partL ls t ls) h (partL ls t ms) = partL ls h ms := by
  show (srtP (partL ls t ms)).filter (fun l => rB (partL ls t ls) h l.1) = _
  rw [srt_part]
  show ((srtP ms).filter fun l => rB ls t l.1).filter (fun l => rB (partL ls t ls) h l.1) = (srtP ms).filter fun l => rB ls h l.1
  rw [List.filter_filter]
  refine List.filter_congr fun l _ => ?_
  rw [rB_eq (part_rch2 r)]
  cases e : rB ls h l.1 with
  | false => rfl
  | true =>
    rw [Bool.true_and]
    exact rB_iff.mpr (r.trans (rB_iff.mp e))
theorem part_own {level : Str} {ls ms : List PP} (G : GoodSh level ls ms) : partL ls level ls = srtP ls ∧ partL ls level ms = srtP ms :=
  ⟨List.filter_eq_self.mpr fun l hl => rB_iff.mpr (G.top l ((srtP_perm ls).mem_iff.mp hl)), List.filter_eq_self.mpr fun l hl => rB_iff.mpr (G.marks l ((srtP_perm ms).mem_iff.mp hl)).1⟩
/-! ### data of shapes -/
def pairD (l : PP) : PyData := .tuple [.str l.1, .str l.2]
theorem dp_strs {K : PySem.W.Frag} {H : Hp} : ∀ zs : List Str, DpAll K H (zs.map V.str) (zs.map PyData.str)
  | [] => .nil
  | z :: r => .cons (.str z) (dp_strs r)
theorem dp_pairs {K : PySem.W.Frag} {H : Hp} : ∀ {vs : List V} {ls : List PP}, PairsAt H vs ls → DpAll K H vs (ls.map pairD)
  | _, _, .nil => .nil
  | _, _, .cons ⟨p, e, hp⟩ r => by
    subst e
    exact .cons (.tup (SqT.of hp) (.cons (.str _) (.cons (.str _) .nil))) (dp_pairs r)
theorem SO.pair {l : PP} (h1 : nameS l.1 = true) (h2 : nameS l.2 = true) : SO (pairD l) 2 18 :=
  (SOA.cons (SO.str (k := 0) (low_name h1) (name_len h1).2) (SOA.cons (SO.str (low_name h2) (name_len h2).2) (SOA.nil (n := 0)))).tup
theorem SO.pairs {ls : List PP} (h : ∀ l ∈ ls, nameS l.1 = true ∧ nameS l.2 = true) (few : ls.length ≤ 60) : SO (.tuple (ls.map pairD)) 3 1140 :=
  (SOA.map fun l hl => SO.pair (h l hl).1 (h l hl).2).tup.le (Nat.le_refl _) (by omega)
theorem SO.names {zs : List Str} (h : ∀ z ∈ zs, nameS z = true) (few : zs.length ≤ 61) : SO (.tuple (zs.map PyData.str)) 2 549 :=
  (SOA.map (k := 1) (n := 8) fun z hz => SO.str (low_name (h z hz)) (name_len (h z hz)).2).tup.le (Nat.le_refl _) (by omega)
/-- a model's text -/
theorem w_shown {H : Hp} {Q : VK} {E : XK} {f : Addr} {level : Str} {ls ms : List PP} (h : Mod H f level (srtP ls) (srtP ms)) (G : GoodSh level ls ms) (q : ∀ J, Same H J → Q (.str (textS level ls ms)) J) : spShown [.ref f] H Q E := by
  obtain ⟨pk, pm, wl, wm, hf, hpk, twl, hpm, twm⟩ := h
  have sh : ∀ {l : PP}, nameS l.1 = true ∧ nameS l.2 = true → short l := fun n => ⟨(name_len n.1).2, (name_len n.2).2⟩
  exact ⟨f, level, pk, pm, wl, wm, _, _, rfl, hf, (name_len G.lev).2, hpk, twl, hpm, twm, fun l hl => sh (G.l hl), fun l hl => sh (G.m hl), by rw [srtP_len]; exact G.links.few, by rw [srtP_len]; exact G.few, q⟩
/-- all levels of a shape, ascending -/
theorem lv_eq {ls : List PP} {level : Str} {lv zs : List Str} (nd : lv.Nodup) (s : lv = srtS lv) (h : ∀ y, y ∈ lv ↔ Rch ls level y) (n2 : zs.Nodup) (h2 : ∀ y, y ∈ zs ↔ Rch ls level y) : lv = srtS zs := by
  rw [s]
  exact srtS_eq (perm_nodup nd n2 fun x => (h x).trans (h2 x).symm)

end RT
set_option Elab.async false
set_option linter.all false
set_option maxRecDepth 100000
set_option maxHeartbeats 4000000
namespace RT
open PySem PySem.Spec PyProof.Rows L2
local macro_rules | `(tactic| walk_at "w0") => `(tactic| dsimp only [L2.start, cxOf, Cx.nox, Cx.wish, List.map, List.length_cons, List.length_nil, List.replicate_succ, List.replicate_zero, List.cons_append, List.nil_append, Nat.reduceAdd, Nat.reduceSub, List.set_cons_zero, List.set_cons_succ])
local macro_rules | `(tactic| walk_at "w1") => `(tactic| first
  | with_reducible refine w_seq ?_
  | with_reducible refine w_asg ?_
  | with_reducible refine w_var rfl ?_
  | with_reducible refine w_c ?_
  | with_reducible refine w_op ?_
  | with_reducible refine w_cons ?_
  | with_reducible refine w_nil ?_
  | with_reducible refine w_gname ?_
  | with_reducible refine w_cb ?_
  | with_reducible refine w_I0 ?_
  | with_reducible refine w_bl ?_
  | ((with_reducible refine' w_ixL ?s0 ?s1 ?q); (case s0 => assumption); (case s1 => rfl))
  | ((with_reducible refine' w_ixT ?s0 ?s1 ?q); (case s0 => assumption); (case s1 => rfl))
  | with_reducible refine w_gsub ?_
  | with_reducible refine w_ifS ?_
  | with_reducible refine w_test ?_
  | with_reducible refine w_call ?_
  | with_reducible refine w_ret ?_
  | with_reducible refine w_int1 ?_
  | with_reducible refine w_int ?_
  | with_reducible refine w_next ?_
  | with_reducible refine w_drop ?_
  | ((with_reducible refine' w_mod ?s0 ?q); (case s0 => omega))
  | ((with_reducible refine' w_div ?s0 ?q); (case s0 => omega))
  | ((with_reducible refine' w_mul ?s0 ?q); (case s0 => omega))
  | ((with_reducible refine' w_pow ?s0 ?q); (case s0 => decide))
  | with_reducible refine w_B ?_
  | with_reducible refine w_and ?_
  | with_reducible refine w_or ?_
  | with_reducible refine w_not ?_
  | with_reducible refine w_T ?_
  | with_reducible refine w_F ?_
  | with_reducible refine w_nT ?_
  | with_reducible refine w_nF ?_
  | with_reducible refine w_un ?_
  | with_reducible refine w_U ?_
  | with_reducible refine w_if ?_
  | with_reducible refine w_lst ?_
  | with_reducible refine w_tup ?_
  | with_reducible refine w_sl ?_
  | with_reducible refine w_part ?_
  | with_reducible refine w_nopart ?_
  | with_reducible refine w_eqI ?_
  | with_reducible refine w_neI ?_
  | with_reducible refine w_eqS ?_
  | with_reducible refine w_neS ?_
  | with_reducible refine w_abs ?_
  | with_reducible refine w_max2 ?_
  | with_reducible refine w_min2 ?_
  | ((with_reducible refine' w_lenL ?s0 ?q); (case s0 => assumption))
  | ((with_reducible refine' w_lenH ?s0 ?q); (case s0 => assumption))
  | ((with_reducible refine' w_lenT ?s0 ?q); (case s0 => assumption))
  | ((with_reducible refine' w_lenS ?s0 ?q); (case s0 => first | assumption | omega | decide +kernel))
  | with_reducible refine w_inC ?_
  | with_reducible refine w_ninC ?_
  | with_reducible refine w_m1 ?_
  | with_reducible refine w_m0 ?_
  | with_reducible refine w_isstr ?_
  | with_reducible refine w_andV ?_
  | with_reducible refine w_orV ?_
  | with_reducible refine w_notV ?_
  | with_reducible refine w_chain ?_
  | with_reducible refine w_retN ?_
  | with_reducible refine w_break ?_
  | with_reducible refine w_cont ?_
  | with_reducible refine w_yes ?_
  | with_reducible refine w_for ?_
  | with_reducible refine w_lc ?_
  | with_reducible refine w_iList ?_
  | with_reducible refine w_iTup ?_
  | with_reducible refine w_iStr ?_
  | with_reducible refine w_iR1 ?_
  | with_reducible refine w_iR2 ?_
  | ((with_reducible refine' w_onL ?s0 ?q); (case s0 => assumption))
  | ((with_reducible refine' w_onQ ?s0 ?q); (case s0 => assumption))
  | ((with_reducible refine' w_onT ?s0 ?q); (case s0 => assumption))
  | ((with_reducible refine' w_onU ?s0 ?q); (case s0 => assumption))
  | with_reducible refine w_onS ?_
  | ((with_reducible refine' w_onR1 ?s0 ?q); (case s0 => omega))
  | ((with_reducible refine' w_onR2 ?s0 ?q); (case s0 => omega))
  | with_reducible refine w_revL ?_
  | ((with_reducible refine' w_all ?s0 ?q); (case s0 => assumption))
  | ((with_reducible refine' w_any ?s0 ?q); (case s0 => assumption))
  | with_reducible refine w_bm ?_
  | with_reducible refine w_bm0 ?_
  | ((with_reducible refine' w_islst ?s0 ?q); (case s0 => assumption))
  | with_reducible refine w_kw ?_
  | ((with_reducible refine' w_isi ?s0 ?s1 ?q); (case s0 => assumption); (case s1 => assumption))
  | ((with_reducible refine' w_addS ?s0 ?q); (case s0 => first | omega | decide +kernel))
  | with_reducible refine w_dnew ?_
  | with_reducible refine w_pnil ?_
  | with_reducible refine w_pcons ?_
  | ((with_reducible refine' w_slS ?s0 ?q); (case s0 => first | assumption | omega))
  | ((with_reducible refine' w_inLS ?s0 ?q); (case s0 => assumption))
  | ((with_reducible refine' w_ninLS ?s0 ?q); (case s0 => assumption))
  | ((with_reducible refine' w_inTS ?s0 ?q); (case s0 => assumption))
  | with_reducible refine w_par ?_
  | with_reducible refine w_parEnd ?_
  | with_reducible refine w_fld ?_
  | with_reducible refine w_e1 ?_
  | with_reducible refine w_e2 ?_
  | with_reducible refine w_par3 ?_
  | with_reducible refine w_parEnd3 ?_
  | ((with_reducible refine' w_upper ?s0 ?q); (case s0 => first | assumption | omega | decide +kernel))
  | with_reducible refine w_fldT ?_
  | with_reducible refine w_setT ?_
  | with_reducible refine w_fs ?_
  | with_reducible refine w_jsC ?_
  | with_reducible refine w_js0 ?_
  | with_reducible refine w_fmtT ?_
  | with_reducible refine w_dinT ?_
  | with_reducible refine w_dninT ?_
  | with_reducible refine w_dputT ?_
  | with_reducible refine w_dgetT ?_
  | with_reducible refine w_dget2T ?_
  | with_reducible refine w_setdT ?_
  | with_reducible refine w_mkK ?_
  | with_reducible refine w_mkR ?_
  | with_reducible refine w_dcT ?_
  | ((with_reducible refine' w_ninTS ?s0 ?q); (case s0 => assumption))
  | with_reducible refine w_strS ?_
  | with_reducible refine w_star ?_
  | with_reducible refine w_iE ?_
  | with_reducible refine w_metK ?_
  | with_reducible refine w_met ?_
  | with_reducible refine w_stat ?_
  | dsimp only [wipe, List.set_cons_zero, List.set_cons_succ])
local macro_rules | `(tactic| walk_at "w") => `(tactic| repeat walk_at "w1")
/-! ### values that are no level of a shape -/
def Alien (K : PySem.W.Frag) (H : Hp) (zs : List Str) (v : V) : Prop := NoText K H v ∨ ∃ y, v = .str y ∧ y ∉ zs
theorem Alien.same {K : PySem.W.Frag} {H J : Hp} {zs : List Str} {v : V} (h : Alien K H zs v) (s : Same H J) : Alien K J zs v := h.elim (fun n => .inl (n.same s)) .inr
theorem OddV.alien {K : PySem.W.Frag} {H : Hp} {zs : List Str} {v : V} (h : OddV K H v) (nm : ∀ z ∈ zs, nameS z = true) : Alien K H zs v := h.elim .inl fun ⟨y, e, n, _⟩ => .inr ⟨y, e, fun m => by rw [nm y m] at n; cases n⟩
section
variable {K : PySem.W.Frag} {C : Addr} {H : Hp} {Q : VK} {E : XK} {x : Addr} {level : Str} {ls ms : List PP} {zs : List Str} {v : V}
theorem part_alien (sh : ShO C H x level ls ms) (G : GoodSh level ls ms) (all : ∀ y, y ∈ zs ↔ Rch ls level y) (h : Alien K H zs v) (q : ∀ J, Same H J → Q .non J) : spPart K C [.ref x, v] H Q E := by
  rcases h with n | ⟨y, rfl, n⟩
  · exact ⟨x, level, ls, ms, _, rfl, sh, G, .inl ⟨n, q⟩⟩
  · exact ⟨x, level, ls, ms, _, rfl, sh, G, .inr ⟨y, rfl, fun _ => q, fun r => absurd ((all y).mpr r) n⟩⟩
theorem mark_alien (sh : ShO C H x level ls ms) (G : GoodSh level ls ms) (all : ∀ y, y ∈ zs ↔ Rch ls level y) (h : Alien K H zs v) (q : ∀ J, Same H J → Q .non J) : spMark K C [.ref x, v] H Q E := by
  rcases h with n | ⟨y, rfl, n⟩
  · exact ⟨x, level, ls, ms, _, rfl, sh, G, .inl ⟨n, q⟩⟩
  · refine ⟨x, level, ls, ms, _, rfl, sh, G, .inr ⟨y, rfl, fun J r s h => ?_⟩⟩
    rcases h with ⟨rfl, _⟩ | ⟨m, _, hm⟩
    · exact q J s
    · exact absurd ((all y).mpr (G.marks _ hm).1) n
theorem has_alien (sh : ShO C H x level ls ms) (all : ∀ y, y ∈ zs ↔ Rch ls level y) (h : Alien K H zs v) (q : Q (.bl false) H) : spHas K C [.ref x, v] H Q E := by
  rcases h with n | ⟨y, rfl, n⟩
  · exact ⟨x, level, ls, ms, _, rfl, sh, .inl ⟨n, q⟩⟩
  · refine ⟨x, level, ls, ms, _, rfl, sh, .inr ⟨y, rfl, fun b hb => ?_⟩⟩
    have e : b = false := Bool.eq_false_iff.mpr fun e => n ((all y).mpr (hb.mp e))
    subst e
    exact q
theorem part_in {y : Str} (sh : ShO C H x level ls ms) (G : GoodSh level ls ms) (r : Rch ls level y) (q : ∀ z J, H z = none → Same H J → ShO C J z y (partL ls y ls) (partL ls y ms) → Q (.ref z) J) : spPart K C [.ref x, .str y] H Q E :=
  ⟨x, level, ls, ms, _, rfl, sh, G, .inr ⟨y, rfl, fun n => absurd r n, fun _ => q⟩⟩
theorem in_alien {neg : Bool} (sh : ShO C H x level ls ms) (all : ∀ y, y ∈ zs ↔ Rch ls level y) (h : Alien K H zs v) (q : Q (.bl neg) H) : oInO neg C (spHas K C) v (.ref x) H Q := by
  obtain ⟨dx, fs, hx, _, _⟩ := shO_no sh
  refine ⟨x, dx, fs, rfl, hx, has_alien sh all h ⟨false, rfl, fun b e => ?_⟩⟩
  cases e
  cases neg
  · exact q
  · exact q
end
/-- what stands behind the draws -/
structure D5 (C : Addr) (M : Hp) (pn mo x : Addr) (zs : List Str) (level : Str) (ls ms : List PP) : Prop where
  hn : M pn = some (.lst (zs.map V.str))
  h0 : zs[0]? = some level
  nd : zs.Nodup
  nm : ∀ z ∈ zs, nameS z = true
  l7 : zs.length ≤ 7
  G : GoodSh level ls ms
  all : ∀ y, y ∈ zs ↔ Rch ls level y
  MO : Mod M mo level (srtP ls) (srtP ms)
  sh : ShO C M x level ls ms
theorem D5.same {C : Addr} {M J : Hp} {pn mo x : Addr} {zs : List Str} {level : Str} {ls ms : List PP} (h : D5 C M pn mo x zs level ls ms) (s : Same M J) : D5 C J pn mo x zs level ls ms := ⟨s _ _ h.hn, h.h0, h.nd, h.nm, h.l7, h.G, h.all, h.MO.same s, h.sh.same s⟩
def spRight : Sp := fun vs H Q _ => ∃ a, vs = [.ref a] ∧ Bag H a ∧ ∀ J, Ext a H J → Bag J a → Q (.bl true) J
theorem none_shown : PyData.shown (.list [.none, .none, .none, .bool false]) = Str.ofString "[None, None, None, False]" := by decide +kernel
theorem rep_all (n : Nat) : (List.replicate n true).all id = true := by simp
abbrev s__law_right : Stmt := topS 35
theorem sc__law_right : FnScope ["bag", "names", "links", "pairs", "model", "mine", "spare", "turn", "thing", "each", "tier", "low", "due", "high"] ["bag"] (defScope s__law_right) := ⟨rfl, rfl, rfl, by decide +kernel, rfl, by decide +kernel, by decide +kernel⟩
section
variable {P : Program} {w : World} {K : PySem.W.Frag} {mg : Str → Option Value} {base : Heap}
theorem ok__law_right {f : Addr} {fd : FuncData} (F : Fun K "_law_right" "_law_right" s__law_right f fd) (T : Txt K mg) (c__law_draw : Cal P w K mg base 1 "_law_draw" spDraw) (c__law_names : Cal P w K mg base 3 "_law_names" spNames) (c__law_links : Cal P w K mg base 2 "_law_links" spLinks) (c__law_pairs : Cal P w K mg base 3 "_law_pairs" spPairs) (c__law_shown : Cal P w K mg base 1 "_law_shown" spShown) (c__law_part : Cal P w K mg base 2 "_law_part" spMPart) (c__law_over : Cal P w K mg base 1 "_law_over" spOver) (c__law_odd : Cal P w K mg base 1 "_law_odd" (spOdd K))
    {C md : Addr} (SH : Sh5 P w K mg base C md) (cg__law_marks_right : CalG P w K mg base 5 "_law_marks_right" (spMarksR C)) : FnG P w K mg base 8 f fd ["bag"] spRight := by
  have O_Shape := SH.A.O
  have h_Shape := SH.A.S.h
  have SS := SH.A.S
  have p_Shape_level := SH.A.p1
  have p_Shape_levels := SH.A.p2
  have p_Shape_links := SH.A.p3
  have p_Shape_marks := SH.A.p4
  have m_Shape___str__ := SH.A.mS
  have m_Shape___eq__ := SH.A.mE
  have M_Shape_part := SH.mp
  have K_Shape_part := SH.kp
  have M_Shape_mark := SH.mm
  have m_Shape___contains__ := SH.mh
  have S_Shape_read := SH.rd
  refine fn_calm F sc__law_right (fun vs H Q E h => ?_) (fun cdv A outer s H vs Q E hgd hr h => ?_)
  · obtain ⟨a, rfl, _⟩ := h
    rfl
  · obtain ⟨a, rfl, ba, q⟩ := h
    refine ⟨_, (C8.pss_cut (ps_set (i := 1) sc__law_right.nd rfl (by first | exact Or.inl rfl | exact Or.inr rfl) (pe_c c__law_names hr (by decide) (by rfl) (pa_cons (pv 0) (pa_cons (pe_op op_add pe_int (pe_c c__law_draw hr (by decide) (by rfl) (pa_cons (pv 0) (pa_cons pe_int pa_nil)))) pa_nil))))
  (C8.pss_cut (ps_par (i := 2) (j := 3) (by rfl) sc__law_right.nd rfl rfl (by decide) rfl rfl (pa_cons (pe_c c__law_links hr (by decide) (by rfl) (pa_cons (pv 0) (pa_cons (pv 1) (pa_cons pe_int pa_nil)))) (pa_cons (pe_c c__law_pairs hr (by decide) (by rfl) (pa_cons (pv 0) (pa_cons (pv 1) pa_nil))) pa_nil)) (by rfl))
  (C8.pss_cut (ps_set (i := 4) sc__law_right.nd rfl (by first | exact Or.inl rfl | exact Or.inr rfl) (pe_tup (pa_cons (pe_ix (k_ixL (K := K)) (pv 1) pe_int (fun _ _ => rfl)) (pa_cons (pe_callTy (k_tuple (K := K)) (by rfl) T.z_tuple (by decide +kernel) (pa_cons (pe_callB (k_srtP (K := K) hr) (by rfl) T.z_sorted (by decide +kernel) (pa_cons (pv 2) pa_nil)) pa_nil)) (pa_cons (pe_callTy (k_tuple (K := K)) (by rfl) T.z_tuple (by decide +kernel) (pa_cons (pe_callB (k_srtP (K := K) hr) (by rfl) T.z_sorted (by decide +kernel) (pa_cons (pv 3) pa_nil)) pa_nil)) pa_nil)))))
  (C8.pss_cut (ps_set (i := 5) sc__law_right.nd rfl (by first | exact Or.inl rfl | exact Or.inr rfl) (pe_stat S_Shape_read hr (by decide) (pe_own h_Shape (by rfl)) (pa_cons (pe_c c__law_shown hr (by decide) (by rfl) (pa_cons (pv 4) pa_nil)) pa_nil)))
  (C8.pss_cut (ps_set (i := 6) sc__law_right.nd rfl (by first | exact Or.inl rfl | exact Or.inr rfl) (pe_c c__law_names hr (by decide) (by rfl) (pa_cons (pv 0) (pa_cons pe_int pa_nil))))
  (C8.pss_cut (ps_for PassesOwn.never rfl (pi_range1 rfl T.z_range (pa_cons pe_int pa_nil)) (pg_name (i := 7) sc__law_right.nd rfl (by first | exact Or.inl rfl | exact Or.inr rfl))
    (C8.pss_cut (ps_for PassesOwn.never rfl (k_iL (K := K) (pe_op op_cat (pe_c c__law_odd hr (by decide) (by rfl) (pa_cons (pv 1) pa_nil)) (pe_lc (own := [("each", 9)]) (g := (gName 9)) rfl sc__law_right.nd (k_iL (K := K) (pv 6)) (blkOk_by (own := [("each", 9)]) (N := ["bag", "names", "links", "pairs", "model", "mine", "spare", "turn", "thing", "each", "tier", "low", "due", "high"]) (sc := defScope s__law_right) (by decide +kernel)) (fun _ _ _ _ _ => (pg_name (i := 9) sc__law_right.nd rfl (Or.inl rfl))) (fun _ _ _ _ _ => (pts_one (pt_cmpR (k_nin (K := K)) (pv 9) (pv 1) rfl))) (fun _ _ _ _ _ => (pv 9))))) (pg_name (i := 8) sc__law_right.nd rfl (by first | exact Or.inl rfl | exact Or.inr rfl))
    (pss_one (ps_if (pt_cmpR op_ne (pe_callB (k_repr (K := K) hr hgd) (by rfl) T.z_repr (by decide +kernel) (pa_cons (pe_lst (pa_cons (C8.pe_mt M_Shape_part hr (by decide) (pv 5) (pa_cons (pv 8) pa_nil)) (pa_cons (pe_mtK K_Shape_part hr (by decide) (pv 5) (pk_cons (pv 8) pk_nil)) (pa_cons (C8.pe_mt M_Shape_mark hr (by decide) (pv 5) (pa_cons (pv 8) pa_nil)) (pa_cons (pe_cmpR (or_inO m_Shape___contains__ hr (by decide)) (pv 8) (pv 5) rfl) pa_nil))))) pa_nil)) pe_str (nomark _))
    (pss_one (ps_ret pe_bl))
    pss_nil)))
  (C8.pss_cut (ps_if (PW.pt (pw_or (pt_not (pt_val (pg_c cg__law_marks_right hgd hr (by decide) (by rfl) (pa_cons (pv 5) (pa_cons (pv 4) pa_nil))))) (pw_or1 (pt_cmpR (or_neO m_Shape___eq__ O_Shape.c.ne O_Shape.c.ins.hm hr (by decide)) (C8.pe_mt M_Shape_part hr (by decide) (pv 5) (pa_cons (pe_ix (k_ixL (K := K)) (pv 1) pe_int (fun _ _ => rfl)) pa_nil)) (pv 5) (nomark _)))))
    (pss_one (ps_ret pe_bl))
    pss_nil)
  (pss_one (ps_for PassesOwn.never rfl (k_iL (K := K) (pv 1)) (pg_name (i := 10) sc__law_right.nd rfl (by first | exact Or.inl rfl | exact Or.inr rfl))
    (C8.pss_cut (ps_asg (pe_tup (pa_cons (C8.pe_mt M_Shape_part hr (by decide) (pv 5) (pa_cons (pv 10) pa_nil)) (pa_cons (pe_c c__law_part hr (by decide) (by rfl) (pa_cons (pv 4) (pa_cons (pv 10) pa_nil))) pa_nil))) (k_tupG (K := K) (pg_tup (n := 2) (by rfl) (pgs_cons (pg_name (i := 11) sc__law_right.nd rfl (Or.inr rfl)) (pgs_cons (pg_name (i := 12) sc__law_right.nd rfl (Or.inl rfl)) pgs_nil)))))
  (C8.pss_cut (ps_if (pt_cmpR op_ne (pe_callB (k_repr (K := K) hr hgd) (by rfl) T.z_repr (by decide +kernel) (pa_cons (pe_lst (pa_cons (pe_callTy (cr_strO m_Shape___str__ hr (by decide)) (by rfl) T.z_str (by decide +kernel) (pa_cons (pv 11) pa_nil)) (pa_cons (pe_getC O_Shape.c p_Shape_level hr (by decide) (pv 11)) (pa_cons (pe_getC O_Shape.c p_Shape_links hr (by decide) (pv 11)) (pa_cons (pe_getC O_Shape.c p_Shape_marks hr (by decide) (pv 11)) pa_nil))))) pa_nil)) (pe_callB (k_repr (K := K) hr hgd) (by rfl) T.z_repr (by decide +kernel) (pa_cons (pe_lst (pa_cons (pe_c c__law_shown hr (by decide) (by rfl) (pa_cons (pv 12) pa_nil)) (pa_cons (pv 10) (pa_cons (pe_ix (k_ixT (K := K)) (pv 12) pe_int (fun _ _ => rfl)) (pa_cons (pe_ix (k_ixT (K := K)) (pv 12) pe_int (fun _ _ => rfl)) pa_nil))))) pa_nil)) (nomark _))
    (pss_one (ps_ret pe_bl))
    pss_nil)
  (C8.pss_cut (ps_if (PW.pt (pw_or (pt_cmpR op_ne (pe_callB (k_repr (K := K) hr hgd) (by rfl) T.z_repr (by decide +kernel) (pa_cons (pe_getC O_Shape.c p_Shape_levels hr (by decide) (pv 11)) pa_nil)) (pe_callB (k_repr (K := K) hr hgd) (by rfl) T.z_repr (by decide +kernel) (pa_cons (pe_callTy (k_tuple (K := K)) (by rfl) T.z_tuple (by decide +kernel) (pa_cons (pe_callB (k_srtS (K := K) hr) (by rfl) T.z_sorted (by decide +kernel) (pa_cons (pe_c c__law_over hr (by decide) (by rfl) (pa_cons (pe_ix (k_ixT (K := K)) (pv 12) pe_int (fun _ _ => rfl)) (pa_cons (pv 10) pa_nil))) pa_nil)) pa_nil)) pa_nil)) (nomark _)) (pw_or1 (pt_not (pt_val (pg_c cg__law_marks_right hgd hr (by decide) (by rfl) (pa_cons (pv 11) (pa_cons (pv 12) pa_nil))))))))
    (pss_one (ps_ret pe_bl))
    pss_nil)
  (C8.pss_cut (ps_if (pt_not (pt_val (pe_callB (k_all (K := K) rfl) (by rfl) T.z_all (by decide +kernel) (pa_cons (pe_lc (own := [("high", 13)]) (g := (gName 13)) (tt := tYes) rfl sc__law_right.nd (k_iT (K := K) (pe_getC O_Shape.c p_Shape_levels hr (by decide) (pv 11))) (blkOk_by (own := [("high", 13)]) (N := ["bag", "names", "links", "pairs", "model", "mine", "spare", "turn", "thing", "each", "tier", "low", "due", "high"]) (sc := defScope s__law_right) (by decide +kernel)) (fun _ _ _ _ _ => (pg_name (i := 13) sc__law_right.nd rfl (Or.inl rfl))) (fun _ _ _ _ _ => pts_nil) (fun _ _ _ _ _ => (pe_cmpR (k_eqO (K := K) m_Shape___eq__ hr (by decide)) (C8.pe_mt M_Shape_part hr (by decide) (pv 11) (pa_cons (pv 13) pa_nil)) (C8.pe_mt M_Shape_part hr (by decide) (pv 5) (pa_cons (pv 13) pa_nil)) (nomark _)))) pa_nil))))
    (pss_one (ps_ret pe_bl))
    pss_nil)
  (pss_one (ps_if (pt_not (pt_val (pe_callB (k_all (K := K) rfl) (by rfl) T.z_all (by decide +kernel) (pa_cons (pe_lc (own := [("high", 13)]) (g := (gName 13)) rfl sc__law_right.nd (k_iL (K := K) (pv 1)) (blkOk_by (own := [("high", 13)]) (N := ["bag", "names", "links", "pairs", "model", "mine", "spare", "turn", "thing", "each", "tier", "low", "due", "high"]) (sc := defScope s__law_right) (by decide +kernel)) (fun _ _ _ _ _ => (pg_name (i := 13) sc__law_right.nd rfl (Or.inl rfl))) (fun _ _ _ _ _ => (pts_one (pt_cmpR (k_nin (K := K)) (pv 13) (pe_getC O_Shape.c p_Shape_levels hr (by decide) (pv 11)) rfl))) (fun _ _ _ _ _ => (pe_and (pe_cmpR op_isN (C8.pe_mt M_Shape_part hr (by decide) (pv 11) (pa_cons (pv 13) pa_nil)) pe_non (nomark _)) (pe_one (pe_cmpR (or_ninO m_Shape___contains__ hr (by decide)) (pv 13) (pv 11) rfl))))) pa_nil))))
    (pss_one (ps_ret pe_bl))
    pss_nil)))))))))))
  (pss_one (ps_ret (pe_cmpR op_eq (pe_callTy (cr_strO m_Shape___str__ hr (by decide)) (by rfl) T.z_str (by decide +kernel) (pa_cons (pv 5) pa_nil)) (pe_c c__law_shown hr (by decide) (by rfl) (pa_cons (pv 4) pa_nil)) (nomark _)))))))))), ?_⟩
    walk_at "w0"
    -- names
    refine w_cut (fun σ M => ∃ (pn : Addr) (zs : List Str), σ = [some (.ref a), some (.ref pn), none, none, none, none, none, none, none, none, none, none, none, none] ∧ Bag M a ∧ M pn = some (.lst (zs.map V.str)) ∧ pn ≠ a ∧ zs.Nodup ∧ (∀ z ∈ zs, nameS z = true) ∧ 1 ≤ zs.length ∧ zs.length ≤ 7 ∧ Ext a H M) ?_ ?_
    · walk_at "w"
      refine w_draw (by decide) (by decide) ba fun d J1 d0 d1 e1 b1 => ?_
      walk_at "w"
      obtain ⟨dn, rfl⟩ := Int.eq_ofNat_of_zero_le d0
      have dsmall : dn < 7 := by omega
      refine ⟨a, 1 + dn, by rw [Int.natCast_add]; rfl, by omega, b1, fun pn zs J2 npn lz nd nm hn e2 b2 => ?_⟩
      walk_at "w"
      exact ⟨pn, zs, rfl, b2, hn, b1.ne npn, nd, nm, by omega, by omega, e1.trans e2⟩
    rintro _ M1 ⟨pn, zs, rfl, b1, hn1, nna, nd, nm, l1, l7, e1⟩
    obtain ⟨level, h0⟩ : ∃ y, zs[0]? = some y := ⟨_, List.getElem?_eq_getElem (by omega)⟩
    have a0 : atI (zs.map V.str) 0 = some (.str level) := atI_nat (j := 0) (by rw [List.getElem?_map, h0]; rfl)
    -- links and marks
    refine w_cut (fun σ M => ∃ (pl pp : Addr) (ls ms : List PP) (us ws : List V), σ = [some (.ref a), some (.ref pn), some (.ref pl), some (.ref pp), none, none, none, none, none, none, none, none, none, none] ∧ Bag M a ∧ M pn = some (.lst (zs.map V.str)) ∧ M pl = some (.lst us) ∧ PairsAt M us ls ∧ M pp = some (.lst ws) ∧ PairsAt M ws ms ∧ LinksOf zs ls ∧ (ms.map (·.1)).Sublist zs ∧ (∀ m ∈ ms, nameS m.2 = true) ∧ Ext a H M) ?_ ?_
    · walk_at "w"
      refine ⟨a, pn, zs, rfl, b1, hn1, nd, l1, by omega, fun pl J3 us ls npl hl tl L e3 b3 => ?_⟩
      walk_at "w"
      have hn3 := e3 _ _ nna hn1
      refine ⟨a, pn, zs, rfl, b3, hn3, by omega, fun pp J4 ws ms npp hp tp sub n2 e4 b4 => ?_⟩
      walk_at "w"
      exact ⟨pl, pp, ls, ms, us, ws, rfl, b4, e4 _ _ nna hn3, e4 _ _ (b1.ne npl) hl, tl.bag b3 e4, hp, tp, L, sub, n2, (e1.trans e3).trans e4⟩
    rintro _ M2 ⟨pl, pp, ls, ms, us, ws, rfl, b2, hn2, hl2, tl2, hp2, tp2, L, sub, n2, e2⟩
    have G := good_of nd nm h0 (by omega) L sub n2
    -- the model
    refine w_cut (fun σ M => ∃ mo, σ = [some (.ref a), some (.ref pn), some (.ref pl), some (.ref pp), some (.ref mo), none, none, none, none, none, none, none, none, none] ∧ Same M2 M ∧ Mod M mo level (srtP ls) (srtP ms)) ?_ ?_
    · walk_at "w"
      refine w_ixL hn2 a0 ?_
      walk_at "w"
      refine w_srtP (.inl (SqL.of hl2)) tl2 (by have := G.links.few; omega) fun kl q5 J5 nq5 s5 hq5 tk5 => ?_
      walk_at "w"
      refine w_tupL (SqL.of hq5) fun pk J6 npk s6 hpk => ?_
      walk_at "w"
      have s46 := s5.trans s6
      refine w_srtP (.inl (SqL.of (s46 _ _ hp2))) (tp2.same s46) (by have := G.few; omega) fun km q7 J7 nq7 s7 hq7 tk7 => ?_
      walk_at "w"
      refine w_tupL (SqL.of hq7) fun pm J8 npm s8 hpm => ?_
      walk_at "w"
      refine w_newT rfl fun mo J9 nmo s9 hmo => ?_
      walk_at "w"
      have s79 := s7.trans (s8.trans s9)
      exact ⟨mo, rfl, s46.trans s79, pk, pm, kl, km, hmo, s79 _ _ hpk, (tk5.same s6).same s79, s9 _ _ hpm, (tk7.same s8).same s9⟩
    rintro _ M3 ⟨mo, rfl, s23, MO3⟩
    -- mine
    refine w_cut (fun σ M => ∃ x, σ = [some (.ref a), some (.ref pn), some (.ref pl), some (.ref pp), some (.ref mo), some (.ref x), none, none, none, none, none, none, none, none] ∧ Same M3 M ∧ ShO C M x level ls ms) ?_ ?_
    · walk_at "w"
      refine ⟨rfl, ?_⟩
      walk_at "w"
      refine w_shown MO3 G fun J s1 => ?_
      walk_at "w"
      refine ⟨level, ls, ms, rfl, G, fun x J2 nx s2 sh => ?_⟩
      walk_at "w"
      exact ⟨x, rfl, s1.trans s2, sh⟩
    rintro _ M4 ⟨x, rfl, s34, sh4⟩
    have s24 := s23.trans s34
    have D4 : D5 C M4 pn mo x zs level ls ms := ⟨s24 _ _ hn2, h0, nd, nm, l7, G, fun y => ⟨reach_all h0 L y, reach_in h0 L⟩, MO3.same s34, sh4⟩
    -- spare names
    refine w_cut (fun σ M => ∃ sp qs, σ = [some (.ref a), some (.ref pn), some (.ref pl), some (.ref pp), some (.ref mo), some (.ref x), some (.ref sp), none, none, none, none, none, none, none] ∧ D5 C M pn mo x zs level ls ms ∧ M sp = some (.lst ((qs : List Str).map V.str)) ∧ qs.length = 3 ∧ Bag M a ∧ Ext a H M) ?_ ?_
    · walk_at "w"
      refine ⟨a, 3, rfl, by omega, b2.same s24, fun sp qs J5 nsp lq _ _ hq e5 b5 => ?_⟩
      walk_at "w"
      exact ⟨sp, qs, rfl, ⟨e5 _ _ nna D4.hn, h0, nd, nm, l7, G, D4.all, D4.MO.bag (b2.same s24) e5, D4.sh.bag (b2.same s24) e5⟩, hq, lq, b5, (e2.trans (.same s24)).trans e5⟩
    rintro _ M5 ⟨sp, qs, rfl, D, hq, lq, b5, e5⟩
    -- two turns
    refine w_cut (fun σ M => (∃ o7 o8 o9 o10 o11 o12 o13, σ = [some (.ref a), some (.ref pn), some (.ref pl), some (.ref pp), some (.ref mo), some (.ref x), some (.ref sp), o7, o8, o9, o10, o11, o12, o13]) ∧ Same M5 M) ?_ ?_
    · walk_at "w"
      refine w_loop walk_range (fun i σ M => (∃ o7 o8 o9 o10 o11 o12 o13, σ = [some (.ref a), some (.ref pn), some (.ref pl), some (.ref pp), some (.ref mo), some (.ref x), some (.ref sp), o7, o8, o9, o10, o11, o12, o13]) ∧ Same M5 M) ⟨⟨_, _, _, _, _, _, _, rfl⟩, Same.refl _⟩ (fun _ _ _ _ _ => trivial) ?_ (fun σ M h => h)
      rintro i u σ M0 M hi ⟨⟨o7, o8, o9, o10, o11, o12, o13, rfl⟩, sM⟩ ⟨rfl, rfl⟩
      walk_at "w"
      -- odd things
      refine w_cut (fun σ N => (∃ o7 o8 o9 o10 o11 o12 o13, σ = [some (.ref a), some (.ref pn), some (.ref pl), some (.ref pp), some (.ref mo), some (.ref x), some (.ref sp), o7, o8, o9, o10, o11, o12, o13]) ∧ Same M5 N) ?_ ?_
      · walk_at "w"
        have D1 := D.same sM
        refine ⟨pn, zs, level, rfl, D1.hn, h0, G.lev, fun p J xs np s1 hp lx odd => ?_⟩
        walk_at "w"
        have hq1 := (sM.trans s1) _ _ hq
        refine w_onL hq1 ?_
        intro D0 nD
        refine w_comp walk_list (fun i acc N => Same J N ∧ ∀ v ∈ acc, ∃ y, v = V.str y ∧ y ∉ zs) nD (fun N s e => ⟨s, by simp⟩) (fun i acc N h => SqL.of (h.1 _ _ hq1)) ?_ ?_
        · rintro i acc u N N' hi la ⟨m1, m2⟩ hA ⟨rfl, hu⟩
          obtain ⟨t, et, rfl⟩ : ∃ t, qs[i]? = some t ∧ u = V.str t := by
            rw [List.getElem?_map] at hu
            obtain ⟨z, hz, e⟩ := Option.map_eq_some_iff.mp hu
            exact ⟨z, hz, e.symm⟩
          rw [List.length_map] at hi
          walk_at "w"
          refine ⟨rfl, ?_⟩
          walk_at "w"
          refine w_ninLS ((s1.trans m1) _ _ D1.hn) ?_
          walk_at "w"
          refine w_ndec (fun nin => ?_) fun hin => ?_
          · walk_at "w"
            refine w_put hA la (by omega) fun Z e6 hZ => ⟨Same.ofExt m1 nD e6, fun v hv => ?_⟩
            rcases List.mem_append.mp hv with h | h
            · exact m2 v h
            · rw [List.mem_singleton.mp h]
              exact ⟨t, rfl, nin⟩
          · exact w_skip hA la ⟨m1, m2⟩
        · rintro acc N lacc hA ⟨m1, m2⟩
          walk_at "w"
          rw [List.length_map] at lacc
          refine w_cat (m1 _ _ hp) hA (by omega) fun p2 J3 np2 s3 hp2 => ?_
          walk_at "w"
          have s0J := ((sM.trans s1).trans m1).trans s3
          have al : ∀ v ∈ xs ++ acc, Alien K J3 zs v := fun v hv => by
            rcases List.mem_append.mp hv with h | h
            · exact ((odd v h).alien nm).same (m1.trans s3)
            · exact .inr (m2 v h)
          refine w_loop walk_list (fun i σ O => (∃ o7 o8 o9 o10 o11 o12 o13, σ = [some (.ref a), some (.ref pn), some (.ref pl), some (.ref pp), some (.ref mo), some (.ref x), some (.ref sp), o7, o8, o9, o10, o11, o12, o13]) ∧ Same J3 O) ⟨⟨_, _, _, _, _, _, _, rfl⟩, Same.refl _⟩ (fun i σ O _ h => SqL.of (h.2 _ _ hp2)) ?_ (fun σ O h => ⟨h.1, s0J.trans h.2⟩)
          rintro i v σ O O' hi ⟨⟨o7, o8, o9, o10, o11, o12, o13, rfl⟩, sO⟩ ⟨rfl, hv⟩
          have av := (al v (List.mem_of_getElem? hv)).same sO
          have DO := D.same (s0J.trans sO)
          obtain ⟨dx, fs, hx, lp, lm⟩ := shO_no DO.sh
          walk_at "w"
          refine w_aMetX hx lp ?_
          walk_at "w"
          refine part_alien DO.sh G D.all av fun K1 t1 => ?_
          walk_at "w"
          refine w_aMet (t1 _ _ hx) lp ?_
          walk_at "w"
          refine ⟨rfl, part_alien (DO.sh.same t1) G D.all (av.same t1) fun K2 t2 => ?_⟩
          have t12 := t1.trans t2
          walk_at "w"
          refine w_aMetX (t12 _ _ hx) lm ?_
          walk_at "w"
          refine mark_alien (DO.sh.same t12) G D.all (av.same t12) fun K3 t3 => ?_
          have t13 := t12.trans t3
          walk_at "w"
          refine in_alien (DO.sh.same t13) D.all (av.same t13) ?_
          walk_at "w"
          refine w_newL rfl fun r K4 nr t4 hr4 => ?_
          walk_at "w"
          refine w_reprS hr4 (.cons .non (.cons .non (.cons .non (.cons (.bl _) .nil)))) (n := 10) ((SOA.cons (SO.non (k := 0) (n := 0)) (SOA.cons (SO.non (k := 0) (n := 0)) (SOA.cons (SO.non (k := 0) (n := 0)) (SOA.cons (SO.bool (k := 0) (n := 0)) (SOA.nil (n := 0)))))).lst.le (by decide) (by decide)) (by decide) ?_
          rw [none_shown]
          walk_at "w"
          rw [decide_eq_true rfl]
          walk_at "w"
          exact ⟨⟨_, _, _, _, _, _, _, rfl⟩, (sO.trans t13).trans t4⟩
      rintro _ N1 ⟨⟨o7, o8, o9, o10, o11, o12, o13, rfl⟩, sN1⟩
      -- marks, the own part
      refine w_cut (fun σ N => (∃ o7 o8 o9 o10 o11 o12 o13, σ = [some (.ref a), some (.ref pn), some (.ref pl), some (.ref pp), some (.ref mo), some (.ref x), some (.ref sp), o7, o8, o9, o10, o11, o12, o13]) ∧ Same M5 N) ?_ ?_
      · walk_at "w"
        have D1 := D.same sN1
        refine ⟨x, mo, level, ls, ms, _, _, rfl, D1.sh, G, D1.MO, srtP_perm ls, srtP_perm ms, fun J s1 => ?_⟩
        have D2 := D1.same s1
        walk_at "w"
        obtain ⟨dx, fs, hx, lp, lm⟩ := shO_no D2.sh
        refine w_aMetX hx lp ?_
        walk_at "w"
        refine w_ixL D2.hn a0 ?_
        walk_at "w"
        refine part_in D2.sh G .refl fun z J2 nz s2 shz => ?_
        walk_at "w"
        refine w_neSh O_Shape SS shz (D2.sh.same s2) ?_
        rw [(part_own G).1, (part_own G).2, text_perm (srtP_perm ls) (srtP_perm ms), decide_eq_true rfl]
        walk_at "w"
        exact ⟨⟨_, _, _, _, _, _, _, rfl⟩, (sN1.trans s1).trans s2⟩
      rintro _ N2 ⟨⟨o7, o8, o9, o10, o11, o12, o13, rfl⟩, sN2⟩
      have D2 := D.same sN2
      -- each level
      walk_at "w"
      refine w_onL D2.hn ?_
      refine w_loop walk_list (fun i σ N => (∃ o7 o8 o9 o10 o11 o12 o13, σ = [some (.ref a), some (.ref pn), some (.ref pl), some (.ref pp), some (.ref mo), some (.ref x), some (.ref sp), o7, o8, o9, o10, o11, o12, o13]) ∧ Same N2 N) ⟨⟨_, _, _, _, _, _, _, rfl⟩, Same.refl _⟩ (fun i σ N _ h => SqL.of (h.2 _ _ D2.hn)) ?_ (fun σ N h => ⟨h.1, sN2.trans h.2⟩)
      rintro i u σ N N' hi ⟨⟨o7, o8, o9, o10, o11, o12, o13, rfl⟩, sN⟩ ⟨rfl, hu⟩
      obtain ⟨t, et, rfl⟩ : ∃ t, zs[i]? = some t ∧ u = V.str t := by
        rw [List.getElem?_map] at hu
        obtain ⟨z, hz, e⟩ := Option.map_eq_some_iff.mp hu
        exact ⟨z, hz, e.symm⟩
      have rt : Rch ls level t := (D.all t).mp (List.mem_of_getElem? et)
      have DN := D2.same sN
      have GP := G.part rt
      have fL : (partL ls t ls).length ≤ 60 := GP.links.few
      have fM : (partL ls t ms).length ≤ 60 := GP.few
      refine w_cut (fun σ O => (∃ z du o7 o8 o9 o13, σ = [some (.ref a), some (.ref pn), some (.ref pl), some (.ref pp), some (.ref mo), some (.ref x), some (.ref sp), o7, o8, o9, some (.str t), some (.ref z), some (.ref du), o13] ∧ ShO C O z t (partL ls t ls) (partL ls t ms) ∧ Mod O du t (partL ls t ls) (partL ls t ms)) ∧ Same N2 O) ?_ ?_
      · walk_at "w"
        obtain ⟨dx, fs, hx, lp, lm⟩ := shO_no DN.sh
        refine w_aMetX hx lp ?_
        walk_at "w"
        refine part_in DN.sh G rt fun z J1 nz s1 shz => ?_
        walk_at "w"
        refine ⟨mo, level, t, ls, ms, rfl, DN.MO.same s1, G.links.few, G.few, fun du J2 nd2 s2 Md => ?_⟩
        walk_at "w"
        refine w_newT rfl fun tp J3 n3 s3 h3 => ?_
        refine w_gT2 h3 ?_
        walk_at "w"
        exact ⟨⟨z, du, _, _, _, _, rfl, (shz.same s2).same s3, Md.same s3⟩, ((sN.trans s1).trans s2).trans s3⟩
      rintro _ O1 ⟨⟨z, du, o7, o8, o9, o13, rfl, shz, Md⟩, sO1⟩
      -- what is told
      refine w_cut (fun σ O => σ = [some (.ref a), some (.ref pn), some (.ref pl), some (.ref pp), some (.ref mo), some (.ref x), some (.ref sp), o7, o8, o9, some (.str t), some (.ref z), some (.ref du), o13] ∧ Same O1 O) ?_ ?_
      · walk_at "w"
        obtain ⟨dx, pl1, pk1, pm1, lv1, wl1, wm1, hx1, hpl1, nd1, srt1, mem1, hpk1, twl1, hpm1, twm1⟩ := id shz.ex
        refine w_strO hx1 ⟨z, t, _, _, rfl, shz, GP, _, rfl, ?_⟩
        walk_at "w"
        refine w_fldC hx1 (by rfl) ?_
        walk_at "w"
        refine w_fldC hx1 (by rfl) ?_
        walk_at "w"
        refine w_fldC hx1 (by rfl) ?_
        walk_at "w"
        refine w_newL rfl fun r J1 nr s1 hr1 => ?_
        walk_at "w"
        rw [srt_part] at twl1 twm1
        have so : SO (.list [.str (textS t (partL ls t ls) (partL ls t ms)), .str t, .tuple ((partL ls t ls).map pairD), .tuple ((partL ls t ms).map pairD)]) 10 100000 :=
          (SOA.cons ((SO.str (k := 2) GP.low GP.text)) (SOA.cons (SO.str (k := 2) (low_name GP.lev) (name_len GP.lev).2) (SOA.cons (SO.pairs (fun l hl => GP.l (by rw [srt_part]; exact hl)) fL) (SOA.cons (SO.pairs (fun l hl => GP.m (by rw [srt_part]; exact hl)) fM) (SOA.nil (n := 0)))))).lst.le (by decide) (by decide)
        refine w_reprS hr1 (.cons (.str _) (.cons (.str _) (.cons (.tup (SqT.of (s1 _ _ hpk1)) (dp_pairs (twl1.same s1))) (.cons (.tup (SqT.of (s1 _ _ hpm1)) (dp_pairs (twm1.same s1))) .nil)))) so (by decide) ?_
        walk_at "w"
        have Md1 := Md.same s1
        refine w_shown (ls := partL ls t ls) (ms := partL ls t ms) (by rw [srt_part, srt_part]; exact Md1) GP fun J2 s2 => ?_
        walk_at "w"
        obtain ⟨qk, qm, xl, xm, hd, hqk, txl, hqm, txm⟩ := Md1.same s2
        refine w_ixT hd rfl ?_
        walk_at "w"
        refine w_newL rfl fun r2 J3 nr2 s3 hr3 => ?_
        walk_at "w"
        refine w_reprS hr3 (.cons (.str _) (.cons (.str _) (.cons (.tup (SqT.of (s3 _ _ hqk)) (dp_pairs (txl.same s3))) (.cons (.tup (SqT.of (s3 _ _ hqm)) (dp_pairs (txm.same s3))) .nil)))) so (by decide) ?_
        walk_at "w"
        rw [decide_eq_true rfl]
        walk_at "w"
        exact ⟨rfl, (s1.trans s2).trans s3⟩
      rintro _ O2 ⟨rfl, sO2⟩
      -- levels, marks
      refine w_cut (fun σ O => σ = [some (.ref a), some (.ref pn), some (.ref pl), some (.ref pp), some (.ref mo), some (.ref x), some (.ref sp), o7, o8, o9, some (.str t), some (.ref z), some (.ref du), o13] ∧ Same O1 O) ?_ ?_
      · walk_at "w"
        obtain ⟨dx, pl1, pk1, pm1, lv1, wl1, wm1, hx1, hpl1, nd1, srt1, mem1, _⟩ := id (shz.same sO2).ex
        refine w_fldC hx1 (by rfl) ?_
        walk_at "w"
        have so : SO (.tuple (lv1.map PyData.str)) 10 100000 := (SO.names (fun y hy => rch_name GP ((mem1 y).mp hy)) (by
          have z := length_le_of_nodup_of_subset lv1 (t :: (partL ls t ls).map (·.2)) nd1 fun y hy => rch_in ((mem1 y).mp hy)
          rw [List.length_cons, List.length_map] at z
          omega)).le (by decide) (by decide)
        refine w_reprU (SqT.of hpl1) (dp_strs lv1) so (by decide) ?_
        walk_at "w"
        obtain ⟨qk, qm, xl, xm, hd, hqk, txl, hqm, txm⟩ := id (Md.same sO2)
        refine w_ixT hd rfl ?_
        walk_at "w"
        refine ⟨qk, t, xl, _, rfl, hqk, txl, fL, fun g J1 lv2 ng s1 hg nd2 mem2 => ?_⟩
        walk_at "w"
        have ll : lv2.length ≤ 61 := by
          have z := length_le_of_nodup_of_subset lv2 (t :: (partL ls t ls).map (·.2)) nd2 fun y hy => rch_in ((mem2 y).mp hy)
          rw [List.length_cons, List.length_map] at z
          omega
        refine w_srtS (SqL.of hg) (by omega) fun g2 J2 ng2 s2 hg2 => ?_
        rw [← lv_eq nd1 srt1 mem1 nd2 mem2] at hg2
        walk_at "w"
        refine w_tupL (SqL.of hg2) fun g3 J3 ng3 s3 hg3 => ?_
        walk_at "w"
        refine w_reprU (SqT.of hg3) (dp_strs lv1) so (by decide) ?_
        walk_at "w"
        rw [decide_eq_true rfl]
        walk_at "w"
        have s13 := (s1.trans s2).trans s3
        refine ⟨z, du, t, _, _, _, _, rfl, (shz.same sO2).same s13, GP, (Md.same sO2).same s13, .refl _, .refl _, fun J4 s4 => ?_⟩
        walk_at "w"
        exact ⟨rfl, (sO2.trans s13).trans s4⟩
      rintro _ O3 ⟨rfl, sO3⟩
      have shz3 := shz.same sO3
      have D3 := D2.same (sO1.trans sO3)
      have alz : ∀ y, Rch (partL ls t ls) t y ↔ Rch ls t y := fun y => part_rch
      -- parts of parts
      refine w_cut (fun σ O => σ = [some (.ref a), some (.ref pn), some (.ref pl), some (.ref pp), some (.ref mo), some (.ref x), some (.ref sp), o7, o8, o9, some (.str t), some (.ref z), some (.ref du), o13] ∧ Same O3 O) ?_ ?_
      · walk_at "w"
        obtain ⟨dx, pl1, pk1, pm1, lv1, wl1, wm1, hx1, hpl1, nd1, srt1, mem1, _⟩ := id shz3.ex
        refine w_fldC hx1 (by rfl) ?_
        walk_at "w"
        intro D0 nD
        have ll : lv1.length ≤ 61 := by
          have z := length_le_of_nodup_of_subset lv1 (t :: (partL ls t ls).map (·.2)) nd1 fun y hy => rch_in ((mem1 y).mp hy)
          rw [List.length_cons, List.length_map] at z
          omega
        refine w_compM (ys := (List.replicate lv1.length true).map V.bl) walk_tup (by simp) (by rw [List.length_map]; omega) nD (fun L s => SqT.of (s _ _ hpl1)) (fun i v L M y R hi sL hy ey hR => ?_) (fun L sL hD => ?_)
        · obtain ⟨rfl, hv⟩ := hy
          obtain ⟨h, eh, rfl⟩ : ∃ h, lv1[i]? = some h ∧ v = V.str h := by
            rw [List.getElem?_map] at hv
            obtain ⟨z, hz, e⟩ := Option.map_eq_some_iff.mp hv
            exact ⟨z, hz, e.symm⟩
          have rh := (alz h).mp ((mem1 h).mp (List.mem_of_getElem? eh))
          have e2 : y = V.bl true := by
            rw [List.getElem?_map] at ey
            obtain ⟨s, hs, e⟩ := Option.map_eq_some_iff.mp ey
            rw [← e, List.eq_of_mem_replicate (List.mem_of_getElem? hs)]
          subst e2
          walk_at "w"
          refine ⟨rfl, ?_⟩
          walk_at "w"
          have shz4 := shz3.same sL
          have D4 := D3.same sL
          obtain ⟨dx2, fs2, hx2, lp2, _⟩ := shO_no shz4
          refine w_aMetX hx2 lp2 ?_
          walk_at "w"
          refine part_in shz4 GP ((alz h).mpr rh) fun z1 J1 nz1 s1 sh1 => ?_
          walk_at "w"
          obtain ⟨dx3, fs3, hx3, lp3, _⟩ := shO_no (D4.sh.same s1)
          refine w_aMetX hx3 lp3 ?_
          walk_at "w"
          refine part_in (D4.sh.same s1) G (rt.trans rh) fun z2 J2 nz2 s2 sh2 => ?_
          walk_at "w"
          refine w_eqSh O_Shape SS (sh1.same s2) sh2 ?_
          rw [part_part rh, part_part rh, decide_eq_true rfl]
          exact hR J2 (s1.trans s2)
        walk_at "w"
        rw [rep_all]
        walk_at "w"
        exact ⟨rfl, sL⟩
      rintro _ O4 ⟨rfl, sO4⟩
      -- the levels outside
      have shz4 := shz3.same sO4
      have D4 := D3.same sO4
      have hn4 := D4.hn
      walk_at "w"
      intro D0 nD
      obtain ⟨dx, pl1, pk1, pm1, lv1, wl1, wm1, hx1, hpl1, nd1, srt1, mem1, _⟩ := id shz4.ex
      refine w_comp walk_list (fun i acc L => Same O4 L ∧ ∃ n, acc = (List.replicate n true).map V.bl) nD (fun L s e => ⟨s, 0, rfl⟩) (fun i acc L h => SqL.of (h.1 _ _ hn4)) ?_ ?_
      · rintro i acc u L L' hi la ⟨m1, n, m2⟩ hA ⟨rfl, hu⟩
        obtain ⟨h, eh, rfl⟩ : ∃ h, zs[i]? = some h ∧ u = V.str h := by
          rw [List.getElem?_map] at hu
          obtain ⟨z, hz, e⟩ := Option.map_eq_some_iff.mp hu
          exact ⟨z, hz, e.symm⟩
        rw [List.length_map] at hi
        walk_at "w"
        refine ⟨rfl, ?_⟩
        walk_at "w"
        refine w_fldC (m1 _ _ hx1) (by rfl) ?_
        refine w_ninTS (m1 _ _ hpl1) ?_
        walk_at "w"
        refine w_ndec (fun nin => ?_) fun _ => w_skip hA la ⟨m1, n, m2⟩
        walk_at "w"
        have av : Alien K L' lv1 (.str h) := .inr ⟨h, rfl, nin⟩
        have shL := shz4.same m1
        obtain ⟨dx2, fs2, hx2, lp2, _⟩ := shO_no shL
        refine w_aMetX hx2 lp2 ?_
        walk_at "w"
        refine part_alien shL GP mem1 av fun J1 s1 => ⟨rfl, ?_⟩
        rw [decide_eq_true rfl]
        walk_at "w"
        refine in_alien (shL.same s1) mem1 (av.same s1) ?_
        refine w_put (s1 _ _ hA) la (by omega) fun Z e6 hZ => ⟨Same.ofExt (m1.trans s1) nD e6, n + 1, ?_⟩
        rw [m2, List.replicate_succ', List.map_append]
        rfl
      · rintro acc L lacc hA ⟨m1, n, m2⟩
        rw [m2] at hA
        walk_at "w"
        rw [rep_all]
        walk_at "w"
        exact ⟨⟨_, _, _, _, _, _, _, rfl⟩, ((sO1.trans sO3).trans sO4).trans m1⟩
    rintro _ M6 ⟨⟨o7, o8, o9, o10, o11, o12, o13, rfl⟩, s6⟩
    walk_at "w"
    have D6 := D.same s6
    obtain ⟨dx, fs, hx, lp, lm⟩ := shO_no D6.sh
    refine w_strO hx ⟨x, level, ls, ms, rfl, D6.sh, G, _, rfl, ?_⟩
    walk_at "w"
    refine w_shown D6.MO G fun J s7 => ?_
    walk_at "w"
    rw [decide_eq_true rfl]
    exact q J (e5.trans (.same (s6.trans s7))) (b5.same (s6.trans s7))
end

end RT
set_option Elab.async false
set_option linter.all false
set_option maxRecDepth 100000
set_option maxHeartbeats 4000000
namespace RT
open PySem PySem.Spec PyProof.Rows L2
local macro_rules | `(tactic| walk_at "w0") => `(tactic| dsimp only [L2.start, cxOf, Cx.nox, Cx.wish, List.map, List.length_cons, List.length_nil, List.replicate_succ, List.replicate_zero, List.cons_append, List.nil_append, Nat.reduceAdd, Nat.reduceSub, List.set_cons_zero, List.set_cons_succ])
local macro_rules | `(tactic| walk_at "w1") => `(tactic| first
  | with_reducible refine w_seq ?_
  | with_reducible refine w_asg ?_
  | with_reducible refine w_var rfl ?_
  | with_reducible refine w_c ?_
  | with_reducible refine w_op ?_
  | with_reducible refine w_cons ?_
  | with_reducible refine w_nil ?_
  | with_reducible refine w_gname ?_
  | with_reducible refine w_cb ?_
  | with_reducible refine w_I0 ?_
  | with_reducible refine w_bl ?_
  | ((with_reducible refine' w_ixL ?s0 ?s1 ?q); (case s0 => assumption); (case s1 => rfl))
  | ((with_reducible refine' w_ixT ?s0 ?s1 ?q); (case s0 => assumption); (case s1 => rfl))
  | with_reducible refine w_gsub ?_
  | with_reducible refine w_ifS ?_
  | with_reducible refine w_test ?_
  | with_reducible refine w_call ?_
  | with_reducible refine w_ret ?_
  | with_reducible refine w_int1 ?_
  | with_reducible refine w_int ?_
  | with_reducible refine w_next ?_
  | with_reducible refine w_drop ?_
  | ((with_reducible refine' w_mod ?s0 ?q); (case s0 => omega))
  | ((with_reducible refine' w_div ?s0 ?q); (case s0 => omega))
  | ((with_reducible refine' w_mul ?s0 ?q); (case s0 => omega))
  | ((with_reducible refine' w_pow ?s0 ?q); (case s0 => decide))
  | with_reducible refine w_B ?_
  | with_reducible refine w_and ?_
  | with_reducible refine w_or ?_
  | with_reducible refine w_not ?_
  | with_reducible refine w_T ?_
  | with_reducible refine w_F ?_
  | with_reducible refine w_nT ?_
  | with_reducible refine w_nF ?_
  | with_reducible refine w_un ?_
  | with_reducible refine w_U ?_
  | with_reducible refine w_if ?_
  | with_reducible refine w_lst ?_
  | with_reducible refine w_tup ?_
  | with_reducible refine w_sl ?_
  | with_reducible refine w_part ?_
  | with_reducible refine w_nopart ?_
  | with_reducible refine w_eqI ?_
  | with_reducible refine w_neI ?_
  | with_reducible refine w_eqS ?_
  | with_reducible refine w_neS ?_
  | with_reducible refine w_abs ?_
  | with_reducible refine w_max2 ?_
  | with_reducible refine w_min2 ?_
  | ((with_reducible refine' w_lenL ?s0 ?q); (case s0 => assumption))
  | ((with_reducible refine' w_lenH ?s0 ?q); (case s0 => assumption))
  | ((with_reducible refine' w_lenT ?s0 ?q); (case s0 => assumption))
  | ((with_reducible refine' w_lenS ?s0 ?q); (case s0 => first | assumption | omega | decide +kernel))
  | with_reducible refine w_inC ?_
  | with_reducible refine w_ninC ?_
  | with_reducible refine w_m1 ?_
  | with_reducible refine w_m0 ?_
  | with_reducible refine w_isstr ?_
  | with_reducible refine w_andV ?_
  | with_reducible refine w_orV ?_
  | with_reducible refine w_notV ?_
  | with_reducible refine w_chain ?_
  | with_reducible refine w_retN ?_
  | with_reducible refine w_break ?_
  | with_reducible refine w_cont ?_
  | with_reducible refine w_yes ?_
  | with_reducible refine w_for ?_
  | with_reducible refine w_lc ?_
  | with_reducible refine w_iList ?_
  | with_reducible refine w_iTup ?_
  | with_reducible refine w_iStr ?_
  | with_reducible refine w_iR1 ?_
  | with_reducible refine w_iR2 ?_
  | ((with_reducible refine' w_onL ?s0 ?q); (case s0 => assumption))
  | ((with_reducible refine' w_onQ ?s0 ?q); (case s0 => assumption))
  | ((with_reducible refine' w_onT ?s0 ?q); (case s0 => assumption))
  | ((with_reducible refine' w_onU ?s0 ?q); (case s0 => assumption))
  | with_reducible refine w_onS ?_
  | ((with_reducible refine' w_onR1 ?s0 ?q); (case s0 => omega))
  | ((with_reducible refine' w_onR2 ?s0 ?q); (case s0 => omega))
  | with_reducible refine w_revL ?_
  | ((with_reducible refine' w_all ?s0 ?q); (case s0 => assumption))
  | ((with_reducible refine' w_any ?s0 ?q); (case s0 => assumption))
  | with_reducible refine w_bm ?_
  | with_reducible refine w_bm0 ?_
  | ((with_reducible refine' w_islst ?s0 ?q); (case s0 => assumption))
  | with_reducible refine w_kw ?_
  | ((with_reducible refine' w_isi ?s0 ?s1 ?q); (case s0 => assumption); (case s1 => assumption))
  | ((with_reducible refine' w_addS ?s0 ?q); (case s0 => first | omega | decide +kernel))
  | with_reducible refine w_dnew ?_
  | with_reducible refine w_pnil ?_
  | with_reducible refine w_pcons ?_
  | ((with_reducible refine' w_slS ?s0 ?q); (case s0 => first | assumption | omega))
  | ((with_reducible refine' w_inLS ?s0 ?q); (case s0 => assumption))
  | ((with_reducible refine' w_ninLS ?s0 ?q); (case s0 => assumption))
  | ((with_reducible refine' w_inTS ?s0 ?q); (case s0 => assumption))
  | with_reducible refine w_par ?_
  | with_reducible refine w_parEnd ?_
  | with_reducible refine w_fld ?_
  | with_reducible refine w_e1 ?_
  | with_reducible refine w_e2 ?_
  | with_reducible refine w_par3 ?_
  | with_reducible refine w_parEnd3 ?_
  | ((with_reducible refine' w_upper ?s0 ?q); (case s0 => first | assumption | omega | decide +kernel))
  | with_reducible refine w_fldT ?_
  | with_reducible refine w_setT ?_
  | with_reducible refine w_fs ?_
  | with_reducible refine w_jsC ?_
  | with_reducible refine w_js0 ?_
  | with_reducible refine w_fmtT ?_
  | with_reducible refine w_dinT ?_
  | with_reducible refine w_dninT ?_
  | with_reducible refine w_dputT ?_
  | with_reducible refine w_dgetT ?_
  | with_reducible refine w_dget2T ?_
  | with_reducible refine w_setdT ?_
  | with_reducible refine w_mkK ?_
  | with_reducible refine w_mkR ?_
  | with_reducible refine w_dcT ?_
  | ((with_reducible refine' w_ninTS ?s0 ?q); (case s0 => assumption))
  | with_reducible refine w_strS ?_
  | with_reducible refine w_star ?_
  | with_reducible refine w_iE ?_
  | with_reducible refine w_metK ?_
  | with_reducible refine w_met ?_
  | with_reducible refine w_stat ?_
  | dsimp only [wipe, List.set_cons_zero, List.set_cons_succ])
local macro_rules | `(tactic| walk_at "w") => `(tactic| repeat walk_at "w1")
/-! ### a large shape -/
def hN : List Str := ((List.range 10).map fun k => Str.ofString "a" ++ Str.ofString (toString ((k : Nat) : Int))) ++ (List.range 6).map fun k => Str.ofString "b" ++ Str.ofString (toString ((k : Nat) : Int))
def hLn (m d : Nat) : List PP := (List.range m).map fun k => (hN.getD k Str.empty, hN.getD (k + d) Str.empty)
def hL : List PP := hLn 15 1 ++ hLn 14 2
def hM : List PP := hN.map fun t => (t, Str.ofString "m" ++ t)
def hA0 : Str := "a0"
def hB1 : Str := "b1"
def hPart : List Str := ["b1", "b2", "b3", "b4", "b5"]
theorem hN_len : hN.length = 16 := by decide +kernel
theorem hN_nd : hN.Nodup := by decide +kernel
theorem hN_sorted : srtS hN = hN := (srtS_of (.refl _) (by decide +kernel)).symm
theorem hM_sorted : srtP hM = hM := (srtP_of (.refl _) (by decide +kernel)).symm
theorem hN_names : ∀ z ∈ hN, nameS z = true := by decide +kernel
theorem hL_chain : ∀ k < 15, (hN.getD k Str.empty, hN.getD (k + 1) Str.empty) ∈ hL := by decide +kernel
theorem hL_in : ∀ l ∈ hL, l.1 ∈ hN ∧ l.2 ∈ hN := by decide +kernel
theorem hL_part : ∀ l ∈ hL, l.1 ∈ hPart → l.2 ∈ hPart := by decide +kernel
theorem hL_reach : ∀ k, k < 16 → Rch hL hA0 (hN.getD k Str.empty)
  | 0, _ => by
    have e : hN.getD 0 Str.empty = hA0 := by decide +kernel
    rw [e]
    exact .refl
  | k + 1, h => .step (hL_reach k (by omega)) (hL_chain k (by omega))
theorem hL_all : ∀ z ∈ hN, Rch hL hA0 z := fun z hz => by
  obtain ⟨k, hk⟩ := List.getElem?_of_mem hz
  have lt := (List.getElem?_eq_some_iff.mp hk).1
  rw [hN_len] at lt
  have r := hL_reach k lt
  rw [List.getD_eq_getElem?_getD, hk] at r
  exact r
theorem hL_iff : ∀ z, z ∈ hN ↔ Rch hL hA0 z := fun z => ⟨hL_all z, fun r => by
  rcases List.mem_cons.mp (rch_in r) with e | m
  · rw [e]
    decide +kernel
  · obtain ⟨l, hl, rfl⟩ := List.mem_map.mp m
    exact (hL_in l hl).2⟩
theorem hP_reach : ∀ k, k < 5 → Rch hL hB1 (hN.getD (11 + k) Str.empty)
  | 0, _ => by
    have e : hN.getD 11 Str.empty = hB1 := by decide +kernel
    rw [e]
    exact .refl
  | k + 1, h => .step (hP_reach k (by omega)) (hL_chain (11 + k) (by omega))
theorem hP_iff : ∀ z, z ∈ hPart ↔ Rch hL hB1 z := fun z => ⟨fun m => by
  obtain ⟨k, hk⟩ := List.getElem?_of_mem m
  have lt : k < 5 := (List.getElem?_eq_some_iff.mp hk).1
  have e : ∀ k < 5, hPart[k]? = some (hN.getD (11 + k) Str.empty) := by decide +kernel
  have r := hP_reach k lt
  rw [e k lt] at hk
  rw [Option.some.inj hk] at r
  exact r, fun r => by
  induction r with
  | refl => decide +kernel
  | step _ m ih => exact hL_part _ m ih⟩
theorem large_good : GoodSh hA0 hL hM := by
  have each : ∀ l ∈ hL, nameS l.1 = true ∧ nameS l.2 = true ∧ l.1 ≠ l.2 := by decide +kernel
  have em : ∀ m ∈ hM, m.1 ∈ hN ∧ nameS m.2 = true := by decide +kernel
  exact ⟨by decide +kernel, ⟨each, by decide +kernel, by decide +kernel⟩, ⟨fun x => hN.idxOf x, by decide +kernel⟩, fun l hl => hL_all _ (hL_in l hl).1, fun m hm => ⟨hL_all _ (em m hm).1, (em m hm).2⟩, by decide +kernel, by decide +kernel⟩
theorem hL_rows (d m : Nat) (h : ∀ k < m, hN[k]? = some (hN.getD k Str.empty) ∧ hN[k + d]? = some (hN.getD (k + d) Str.empty)) : ∀ i < m, ∃ x y, (hLn m d)[i]? = some (x, y) ∧ hN[i]? = some x ∧ hN[i + d]? = some y := fun i hi => by
  refine ⟨_, _, ?_, (h i hi).1, (h i hi).2⟩
  unfold hLn
  rw [List.getElem?_map, List.getElem?_range hi]
  rfl
theorem hLn_len (m d : Nat) : (hLn m d).length = m := by unfold hLn; rw [List.length_map, List.length_range]
theorem num_len : ∀ i : Nat, i < 20 → (Str.ofString (toString ((i : Nat) : Int))).length ≤ 2 := by decide +kernel
def spLarge : Sp := fun vs H Q _ => vs = [] ∧ ∀ J, Same H J → Q (.bl true) J
abbrev s__law_large_right : Stmt := topS 36
theorem sc__law_large_right : FnScope ["names", "k", "links", "model", "tier", "mine", "due"] [] (defScope s__law_large_right) := ⟨rfl, rfl, rfl, by decide +kernel, rfl, by decide +kernel, by decide +kernel⟩
section
variable {P : Program} {w : World} {K : PySem.W.Frag} {mg : Str → Option Value} {base : Heap}
theorem ok__law_large_right {f : Addr} {fd : FuncData} (F : Fun K "_law_large_right" "_law_large_right" s__law_large_right f fd) (T : Txt K mg) (c__law_shown : Cal P w K mg base 1 "_law_shown" spShown) (c__law_part : Cal P w K mg base 2 "_law_part" spMPart) {C md : Addr} (SH : Sh5 P w K mg base C md) : FnG P w K mg base 8 f fd [] spLarge := by
  have O_Shape := SH.A.O
  have h_Shape := SH.A.S.h
  have SS := SH.A.S
  have p_Shape_levels := SH.A.p2
  have m_Shape___str__ := SH.A.mS
  have M_Shape_part := SH.mp
  have S_Shape_read := SH.rd
  refine fn_calm F sc__law_large_right (fun vs H Q E h => ?_) (fun cdv A outer s H vs Q E hgd hr h => ?_)
  · obtain ⟨rfl, _⟩ := h
    rfl
  · obtain ⟨rfl, q⟩ := h
    refine ⟨_, (C8.pss_cut (ps_set (i := 0) sc__law_large_right.nd rfl (by first | exact Or.inl rfl | exact Or.inr rfl) (pe_op op_cat (pe_lc (own := [("k", 1)]) (g := (gName 1)) (tt := tYes) rfl sc__law_large_right.nd (pi_range1 rfl T.z_range (pa_cons pe_int pa_nil)) (blkOk_by (own := [("k", 1)]) (N := ["names", "k", "links", "model", "tier", "mine", "due"]) (sc := defScope s__law_large_right) (by decide +kernel)) (fun _ _ _ _ _ => (pg_name (i := 1) sc__law_large_right.nd rfl (Or.inl rfl))) (fun _ _ _ _ _ => pts_nil) (fun _ _ _ _ _ => (pe_op o_addS pe_str (pe_callTy c_strI (by rfl) T.z_str (by decide +kernel) (pa_cons (pv 1) pa_nil))))) (pe_lc (own := [("k", 1)]) (g := (gName 1)) (tt := tYes) rfl sc__law_large_right.nd (pi_range1 rfl T.z_range (pa_cons pe_int pa_nil)) (blkOk_by (own := [("k", 1)]) (N := ["names", "k", "links", "model", "tier", "mine", "due"]) (sc := defScope s__law_large_right) (by decide +kernel)) (fun _ _ _ _ _ => (pg_name (i := 1) sc__law_large_right.nd rfl (Or.inl rfl))) (fun _ _ _ _ _ => pts_nil) (fun _ _ _ _ _ => (pe_op o_addS pe_str (pe_callTy c_strI (by rfl) T.z_str (by decide +kernel) (pa_cons (pv 1) pa_nil)))))))
  (C8.pss_cut (ps_set (i := 2) sc__law_large_right.nd rfl (by first | exact Or.inl rfl | exact Or.inr rfl) (pe_op op_cat (pe_lc (own := [("k", 1)]) (g := (gName 1)) (tt := tYes) rfl sc__law_large_right.nd (pi_range1 rfl T.z_range (pa_cons pe_int pa_nil)) (blkOk_by (own := [("k", 1)]) (N := ["names", "k", "links", "model", "tier", "mine", "due"]) (sc := defScope s__law_large_right) (by decide +kernel)) (fun _ _ _ _ _ => (pg_name (i := 1) sc__law_large_right.nd rfl (Or.inl rfl))) (fun _ _ _ _ _ => pts_nil) (fun _ _ _ _ _ => (pe_tup (pa_cons (pe_ix (k_ixL (K := K)) (pv 0) (pv 1) (fun _ _ => rfl)) (pa_cons (pe_ix (k_ixL (K := K)) (pv 0) (pe_op op_add (pv 1) pe_int) (fun _ _ => rfl)) pa_nil))))) (pe_lc (own := [("k", 1)]) (g := (gName 1)) (tt := tYes) rfl sc__law_large_right.nd (pi_range1 rfl T.z_range (pa_cons pe_int pa_nil)) (blkOk_by (own := [("k", 1)]) (N := ["names", "k", "links", "model", "tier", "mine", "due"]) (sc := defScope s__law_large_right) (by decide +kernel)) (fun _ _ _ _ _ => (pg_name (i := 1) sc__law_large_right.nd rfl (Or.inl rfl))) (fun _ _ _ _ _ => pts_nil) (fun _ _ _ _ _ => (pe_tup (pa_cons (pe_ix (k_ixL (K := K)) (pv 0) (pv 1) (fun _ _ => rfl)) (pa_cons (pe_ix (k_ixL (K := K)) (pv 0) (pe_op op_add (pv 1) pe_int) (fun _ _ => rfl)) pa_nil)))))))
  (C8.pss_cut (ps_set (i := 3) sc__law_large_right.nd rfl (by first | exact Or.inl rfl | exact Or.inr rfl) (pe_tup (pa_cons pe_str (pa_cons (pe_callTy (k_tuple (K := K)) (by rfl) T.z_tuple (by decide +kernel) (pa_cons (pe_callB (k_srtP (K := K) hr) (by rfl) T.z_sorted (by decide +kernel) (pa_cons (pv 2) pa_nil)) pa_nil)) (pa_cons (pe_callTy (k_tuple (K := K)) (by rfl) T.z_tuple (by decide +kernel) (pa_cons (pe_lc (own := [("tier", 4)]) (g := (gName 4)) (tt := tYes) rfl sc__law_large_right.nd (k_iL (K := K) (pv 0)) (blkOk_by (own := [("tier", 4)]) (N := ["names", "k", "links", "model", "tier", "mine", "due"]) (sc := defScope s__law_large_right) (by decide +kernel)) (fun _ _ _ _ _ => (pg_name (i := 4) sc__law_large_right.nd rfl (Or.inl rfl))) (fun _ _ _ _ _ => pts_nil) (fun _ _ _ _ _ => (pe_tup (pa_cons (pv 4) (pa_cons (pe_op o_addS pe_str (pv 4)) pa_nil))))) pa_nil)) pa_nil)))))
  (C8.pss_cut (ps_par (i := 5) (j := 6) (by rfl) sc__law_large_right.nd rfl rfl (by decide) rfl rfl (pa_cons (pe_stat S_Shape_read hr (by decide) (pe_own h_Shape (by rfl)) (pa_cons (pe_c c__law_shown hr (by decide) (by rfl) (pa_cons (pv 3) pa_nil)) pa_nil)) (pa_cons (pe_c c__law_part hr (by decide) (by rfl) (pa_cons (pv 3) (pa_cons pe_str pa_nil))) pa_nil)) (by rfl))
  (C8.pss_cut (ps_if (PW.pt (pw_or (pt_cmpR op_ne (pe_callTy (cr_strO m_Shape___str__ hr (by decide)) (by rfl) T.z_str (by decide +kernel) (pa_cons (pv 5) pa_nil)) (pe_c c__law_shown hr (by decide) (by rfl) (pa_cons (pv 3) pa_nil)) (nomark _)) (pw_or1 (pt_cmpR (k_neT (α := PySem.W.Tup Str) (K := K) hr (by decide)) (pe_getC O_Shape.c p_Shape_levels hr (by decide) (pv 5)) (pe_callTy (k_tuple (K := K)) (by rfl) T.z_tuple (by decide +kernel) (pa_cons (pv 0) pa_nil)) (nomark _)))))
    (pss_one (ps_ret pe_bl))
    pss_nil)
  (pss_one (ps_ret (pe_and (pe_cmpR op_eq (pe_callTy (cr_strO m_Shape___str__ hr (by decide)) (by rfl) T.z_str (by decide +kernel) (pa_cons (C8.pe_mt M_Shape_part hr (by decide) (pv 5) (pa_cons pe_str pa_nil)) pa_nil)) (pe_c c__law_shown hr (by decide) (by rfl) (pa_cons (pv 6) pa_nil)) (nomark _)) (pe_one (pe_cmpR (k_eqT (α := PySem.W.Tup Str) (K := K) hr (by decide)) (pe_getC O_Shape.c p_Shape_levels hr (by decide) (C8.pe_mt M_Shape_part hr (by decide) (pv 5) (pa_cons pe_str pa_nil))) (pe_tup (pa_cons pe_str (pa_cons pe_str (pa_cons pe_str (pa_cons pe_str (pa_cons pe_str pa_nil)))))) (nomark _))))))))))), ?_⟩
    walk_at "w0"
    -- names
    refine w_cut (fun σ M => ∃ pn, σ = [some (.ref pn), none, none, none, none, none, none] ∧ M pn = some (.lst (hN.map V.str)) ∧ Same H M) ?_ ?_
    · walk_at "w"
      intro D nD
      refine w_compM (ys := ((List.range 10).map fun k => Str.ofString "a" ++ Str.ofString (toString ((k : Nat) : Int))).map V.str) walk_range (by simp) (by decide) nD (fun _ _ => trivial) (fun i x L M y R hi sL hy ey hR => ?_) (fun L sL hD => ?_)
      · obtain ⟨rfl, rfl⟩ := hy
        have hi2 : i < 10 := hi
        have e2 : y = V.str (Str.ofString "a" ++ Str.ofString (toString ((i : Nat) : Int))) := by
          rw [List.getElem?_map, List.getElem?_map, List.getElem?_range hi2] at ey
          exact (Option.some.inj ey).symm
        subst e2
        walk_at "w"
        refine ⟨rfl, ?_⟩
        walk_at "w"
        rw [Int.zero_add]
        refine w_strI (small_log (by omega)) ?_
        refine w_addS (by have := num_len i (by omega); show 1 + _ ≤ _; omega) ?_
        exact hR M (Same.refl M)
      walk_at "w"
      intro D2 nD2
      refine w_compM (ys := ((List.range 6).map fun k => Str.ofString "b" ++ Str.ofString (toString ((k : Nat) : Int))).map V.str) walk_range (by simp) (by decide) nD2 (fun _ _ => trivial) (fun i x L2' M y R hi sL2 hy ey hR => ?_) (fun L2' sL2 hD2 => ?_)
      · obtain ⟨rfl, rfl⟩ := hy
        have hi2 : i < 6 := hi
        have e2 : y = V.str (Str.ofString "b" ++ Str.ofString (toString ((i : Nat) : Int))) := by
          rw [List.getElem?_map, List.getElem?_map, List.getElem?_range hi2] at ey
          exact (Option.some.inj ey).symm
        subst e2
        walk_at "w"
        refine ⟨rfl, ?_⟩
        walk_at "w"
        rw [Int.zero_add]
        refine w_strI (small_log (by omega)) ?_
        refine w_addS (by have := num_len i (by omega); show 1 + _ ≤ _; omega) ?_
        exact hR M (Same.refl M)
      refine w_cat (sL2 _ _ hD) hD2 (by simp) fun pn J1 np s1 hp => ?_
      walk_at "w"
      rw [← List.map_append] at hp
      exact ⟨pn, rfl, hp, (sL.trans sL2).trans s1⟩
    rintro _ M1 ⟨pn, rfl, hn1, s01⟩
    have at_ : ∀ (L : Hp) (k : Nat) (z : Str), hN[k]? = some z → atI (hN.map V.str) (k : Int) = some (.str z) := fun L k z e => atI_nat (by rw [List.getElem?_map, e]; rfl)
    -- links
    refine w_cut (fun σ M => ∃ pl us, σ = [some (.ref pn), none, some (.ref pl), none, none, none, none] ∧ M pl = some (.lst us) ∧ PairsAt M us hL ∧ Same M1 M) ?_ ?_
    · walk_at "w"
      intro D nD
      refine w_comp walk_range (fun i acc L => Same M1 L ∧ PairsAt L acc ((hLn 15 1).take i)) nD (fun L s e => ⟨s, .nil⟩) (fun _ _ _ _ => trivial) ?_ ?_
      · rintro i acc u L L' hi la ⟨m1, m2⟩ hA ⟨rfl, rfl⟩
        have hi2 : i < 15 := hi
        obtain ⟨a, b, e1, e2, e3⟩ := hL_rows 1 15 (by decide +kernel) i hi2
        walk_at "w"
        refine ⟨rfl, ?_⟩
        walk_at "w"
        rw [Int.zero_add]
        refine w_ixL (m1 _ _ hn1) (at_ L' i a e2) ?_
        walk_at "w"
        refine w_ixL (m1 _ _ hn1) (v := .str b) (by rw [show ((i : Int) + 1) = ((i + 1 : Nat) : Int) by omega]; exact at_ L' (i + 1) b e3) ?_
        walk_at "w"
        refine w_newT rfl fun tp J nt s1 ht => ?_
        refine w_put (s1 _ _ hA) la (by omega) fun Z e6 hZ => ⟨Same.ofExt (m1.trans s1) nD e6, ?_⟩
        rw [List.take_add_one, e1]
        exact ((m2.same s1).ext (s1 _ _ hA) e6).app (PairsAt.one ⟨tp, rfl, e6 tp _ (ne_of ht (s1 _ _ hA) (by intro z; cases z)) ht⟩)
      · rintro acc L la hA ⟨m1, m2⟩
        have m2a : PairsAt L acc (hLn 15 1) := by
          rw [List.take_of_length_le (by rw [hLn_len]; exact Nat.le_refl _)] at m2
          exact m2
        clear m2
        walk_at "w"
        intro D2 nD2
        refine w_comp walk_range (fun i acc N => Same L N ∧ PairsAt N acc ((hLn 14 2).take i)) nD2 (fun L s e => ⟨s, .nil⟩) (fun _ _ _ _ => trivial) ?_ ?_
        · rintro i acc2 u N N' hi la2 ⟨k1, k2⟩ hA2 ⟨rfl, rfl⟩
          have hi2 : i < 14 := hi
          obtain ⟨a, b, e1, e2, e3⟩ := hL_rows 2 14 (by decide +kernel) i hi2
          walk_at "w"
          refine ⟨rfl, ?_⟩
          walk_at "w"
          rw [Int.zero_add]
          refine w_ixL ((m1.trans k1) _ _ hn1) (at_ N' i a e2) ?_
          walk_at "w"
          refine w_ixL ((m1.trans k1) _ _ hn1) (v := .str b) (by rw [show ((i : Int) + 2) = ((i + 2 : Nat) : Int) by omega]; exact at_ N' (i + 2) b e3) ?_
          walk_at "w"
          refine w_newT rfl fun tp J nt s1 ht => ?_
          refine w_put (s1 _ _ hA2) la2 (by omega) fun Z e6 hZ => ⟨Same.ofExt (k1.trans s1) nD2 e6, ?_⟩
          rw [List.take_add_one, e1]
          exact ((k2.same s1).ext (s1 _ _ hA2) e6).app (PairsAt.one ⟨tp, rfl, e6 tp _ (ne_of ht (s1 _ _ hA2) (by intro z; cases z)) ht⟩)
        · rintro acc2 N la2 hA2 ⟨k1, k2⟩
          have k2a : PairsAt N acc2 (hLn 14 2) := by
            rw [List.take_of_length_le (by rw [hLn_len]; exact Nat.le_refl _)] at k2
            exact k2
          have la3 : acc.length ≤ 15 := la
          have la4 : acc2.length ≤ 14 := la2
          refine w_cat (k1 _ _ hA) hA2 (by omega) fun pl J np s2 hpl => ?_
          walk_at "w"
          exact ⟨pl, _, rfl, hpl, ((m2a.same k1).same s2).app (k2a.same s2), (m1.trans k1).trans s2⟩
    rintro _ M2 ⟨pl, us, rfl, hl2, tl2, s12⟩
    have hn2 := s12 _ _ hn1
    -- the model
    refine w_cut (fun σ M => ∃ mo o4, σ = [some (.ref pn), none, some (.ref pl), some (.ref mo), o4, none, none] ∧ Mod M mo hA0 (srtP hL) (srtP hM) ∧ Same M2 M) ?_ ?_
    · walk_at "w"
      refine w_srtP (.inl (SqL.of hl2)) tl2 (by decide +kernel) fun kl q5 J5 nq5 s5 hq5 tk5 => ?_
      walk_at "w"
      refine w_tupL (SqL.of hq5) fun pk J6 npk s6 hpk => ?_
      have s46 := s5.trans s6
      have hn6 := s46 _ _ hn2
      walk_at "w"
      intro D nD
      refine w_comp walk_list (fun i acc L => Same J6 L ∧ PairsAt L acc (hM.take i)) nD (fun L s e => ⟨s, .nil⟩) (fun i acc L h => SqL.of (h.1 _ _ hn6)) ?_ ?_
      · rintro i acc u L L' hi la ⟨m1, m2⟩ hA ⟨rfl, hu⟩
        rw [List.length_map, hN_len] at hi
        obtain ⟨t, et, rfl⟩ : ∃ t, hN[i]? = some t ∧ u = V.str t := by
          rw [List.getElem?_map] at hu
          obtain ⟨z, hz, e⟩ := Option.map_eq_some_iff.mp hu
          exact ⟨z, hz, e.symm⟩
        have em : hM[i]? = some (t, Str.ofString "m" ++ t) := by
          unfold hM
          rw [List.getElem?_map, et]
          rfl
        have lt := (name_len (hN_names t (List.mem_of_getElem? et))).2
        walk_at "w"
        refine ⟨rfl, ?_⟩
        walk_at "w"
        refine w_addS (by show 1 + _ ≤ _; omega) ?_
        walk_at "w"
        refine w_newT rfl fun tp J nt s1 ht => ?_
        refine w_put (s1 _ _ hA) la (by omega) fun Z e6 hZ => ⟨Same.ofExt (m1.trans s1) nD e6, ?_⟩
        rw [List.take_add_one, em]
        exact ((m2.same s1).ext (s1 _ _ hA) e6).app (PairsAt.one ⟨tp, rfl, e6 tp _ (ne_of ht (s1 _ _ hA) (by intro z; cases z)) ht⟩)
      · rintro acc L la hA ⟨m1, m2⟩
        rw [List.length_map, hN_len, List.take_of_length_le (by decide +kernel)] at m2
        walk_at "w"
        refine w_tupL (SqL.of hA) fun pm J8 npm s8 hpm => ?_
        walk_at "w"
        refine w_newT rfl fun mo J9 nmo s9 hmo => ?_
        walk_at "w"
        have s69 := m1.trans (s8.trans s9)
        refine ⟨mo, _, rfl, ⟨pk, pm, kl, acc, hmo, s69 _ _ hpk, (tk5.same s6).same s69, s9 _ _ hpm, ?_⟩, s46.trans s69⟩
        rw [hM_sorted]
        exact (m2.same s8).same s9
    rintro _ M3 ⟨mo, o4, rfl, MO, s23⟩
    -- the shape and the due part
    refine w_cut (fun σ M => ∃ x du, σ = [some (.ref pn), none, some (.ref pl), some (.ref mo), o4, some (.ref x), some (.ref du)] ∧ ShO C M x hA0 hL hM ∧ Mod M du hB1 (partL hL hB1 hL) (partL hL hB1 hM) ∧ Same M3 M) ?_ ?_
    · walk_at "w"
      refine ⟨rfl, ?_⟩
      walk_at "w"
      refine w_shown MO large_good fun J s1 => ?_
      walk_at "w"
      refine ⟨hA0, hL, hM, rfl, large_good, fun x J2 nx s2 sh => ?_⟩
      walk_at "w"
      refine ⟨mo, hA0, hB1, hL, hM, rfl, (MO.same s1).same s2, by decide +kernel, by decide +kernel, fun du J3 nd s3 Md => ?_⟩
      walk_at "w"
      exact ⟨x, du, rfl, sh.same s3, Md, (s1.trans s2).trans s3⟩
    rintro _ M4 ⟨x, du, rfl, sh, Md, s34⟩
    have rB1 : Rch hL hA0 hB1 := hL_all _ (by decide +kernel)
    have GP := large_good.part rB1
    -- its text, its levels
    refine w_cut (fun σ M => σ = [some (.ref pn), none, some (.ref pl), some (.ref mo), o4, some (.ref x), some (.ref du)] ∧ Same M4 M) ?_ ?_
    · walk_at "w"
      obtain ⟨dx, pl1, pk1, pm1, lv1, wl1, wm1, hx1, hpl1, nd1, srt1, mem1, _⟩ := id sh.ex
      refine w_strO hx1 ⟨x, hA0, _, _, rfl, sh, large_good, _, rfl, ?_⟩
      walk_at "w"
      refine w_shown (MO.same s34) large_good fun J s1 => ?_
      walk_at "w"
      rw [decide_eq_true rfl]
      walk_at "w"
      refine w_fldC (s1 _ _ hx1) (by rfl) ?_
      walk_at "w"
      refine w_tupL (SqL.of (((s23.trans s34).trans s1) _ _ hn2)) fun tp J2 nt s2 ht => ?_
      have e : lv1 = hN := (lv_eq nd1 srt1 mem1 hN_nd hL_iff).trans hN_sorted
      subst e
      refine w_neT (a := PySem.W.Tup.mk hN) (b := PySem.W.Tup.mk hN) (tv_tup ((s1.trans s2) _ _ hpl1) (tva_strs _)) (tv_tup (vs := hN.map V.str) ht (tva_strs _)) ?_
      rw [decide_eq_false (fun n => n rfl)]
      walk_at "w"
      exact ⟨rfl, s1.trans s2⟩
    rintro _ M5 ⟨rfl, s45⟩
    walk_at "w"
    have sh5 := sh.same s45
    obtain ⟨dx, fs, hx, lp, _⟩ := shO_no sh5
    refine w_aMetX hx lp ?_
    walk_at "w"
    refine part_in sh5 large_good rB1 fun z1 J1 nz1 s1 sz1 => ?_
    walk_at "w"
    obtain ⟨dx1, pl1, pk1, pm1, lv1, wl1, wm1, hx1, hpl1, nd1, srt1, mem1, _⟩ := id sz1.ex
    refine w_strO hx1 ⟨z1, _, _, _, rfl, sz1, GP, _, rfl, ?_⟩
    walk_at "w"
    have Md5 := (Md.same s45).same s1
    refine w_shown (ls := partL hL hB1 hL) (ms := partL hL hB1 hM) (by rw [srt_part, srt_part]; exact Md5) GP fun J2 s2 => ?_
    walk_at "w"
    refine w_yes' (by rfl) ?_
    walk_at "w"
    refine w_aMetX ((s1.trans s2) _ _ hx) lp ?_
    walk_at "w"
    refine part_in ((sh5.same s1).same s2) large_good rB1 fun z2 J3 nz2 s3 sz2 => ?_
    walk_at "w"
    obtain ⟨dx2, pl2, pk2, pm2, lv2, wl2, wm2, hx2, hpl2, nd2, srt2, mem2, _⟩ := id sz2.ex
    refine w_fldC hx2 (by rfl) ?_
    walk_at "w"
    refine w_newT rfl fun tp J4 nt s4 ht => ?_
    have e : lv2 = hPart := (lv_eq nd2 srt2 (fun y => (mem2 y).trans part_rch) (by decide +kernel) hP_iff).trans (srtS_of (.refl _) (by decide +kernel)).symm
    subst e
    refine w_eqT (a := PySem.W.Tup.mk hPart) (b := PySem.W.Tup.mk hPart) (tv_tup (s4 _ _ hpl2) (tva_strs _)) (tv_tup (vs := hPart.map V.str) ht (tva_strs _)) ?_
    rw [decide_eq_true rfl]
    exact q J4 (((s01.trans s12).trans (s23.trans s34)).trans ((s45.trans s1).trans ((s2.trans s3).trans s4)))
end

end RT
set_option Elab.async false
set_option linter.all false
set_option maxRecDepth 100000
set_option maxHeartbeats 4000000
namespace RT
open PySem PySem.Spec PyProof.Rows L2
local macro_rules | `(tactic| walk_at "w0") => `(tactic| dsimp only [L2.start, cxOf, Cx.nox, Cx.wish, List.map, List.length_cons, List.length_nil, List.replicate_succ, List.replicate_zero, List.cons_append, List.nil_append, Nat.reduceAdd, Nat.reduceSub, List.set_cons_zero, List.set_cons_succ])
local macro_rules | `(tactic| walk_at "w1") => `(tactic| first
  | with_reducible refine w_seq ?_
  | with_reducible refine w_asg ?_
  | with_reducible refine w_var rfl ?_
  | with_reducible refine w_c ?_
  | with_reducible refine w_op ?_
  | with_reducible refine w_cons ?_
  | with_reducible refine w_nil ?_
  | with_reducible refine w_gname ?_
  | with_reducible refine w_cb ?_
  | with_reducible refine w_I0 ?_
  | with_reducible refine w_bl ?_
  | ((with_reducible refine' w_ixL ?s0 ?s1 ?q); (case s0 => assumption); (case s1 => rfl))
  | ((with_reducible refine' w_ixT ?s0 ?s1 ?q); (case s0 => assumption); (case s1 => rfl))
  | with_reducible refine w_gsub ?_
  | with_reducible refine w_ifS ?_
  | with_reducible refine w_test ?_
  | with_reducible refine w_call ?_
  | with_reducible refine w_ret ?_
  | with_reducible refine w_int1 ?_
  | with_reducible refine w_int ?_
  | with_reducible refine w_next ?_
  | with_reducible refine w_drop ?_
  | ((with_reducible refine' w_mod ?s0 ?q); (case s0 => omega))
  | ((with_reducible refine' w_div ?s0 ?q); (case s0 => omega))
  | ((with_reducible refine' w_mul ?s0 ?q); (case s0 => omega))
  | ((with_reducible refine' w_pow ?s0 ?q); (case s0 => decide))
  | with_reducible refine w_B ?_
  | with_reducible refine w_and ?_
  | with_reducible refine w_or ?_
  | with_reducible refine w_not ?_
  | with_reducible refine w_T ?_
  | with_reducible refine w_F ?_
  | with_reducible refine w_nT ?_
  | with_reducible refine w_nF ?_
  | with_reducible refine w_un ?_
  | with_reducible refine w_U ?_
  | with_reducible refine w_if ?_
  | with_reducible refine w_lst ?_
  | with_reducible refine w_tup ?_
  | with_reducible refine w_sl ?_
  | with_reducible refine w_part ?_
  | with_reducible refine w_nopart ?_
  | with_reducible refine w_eqI ?_
  | with_reducible refine w_neI ?_
  | with_reducible refine w_eqS ?_
  | with_reducible refine w_neS ?_
  | with_reducible refine w_abs ?_
  | with_reducible refine w_max2 ?_
  | with_reducible refine w_min2 ?_
  | ((with_reducible refine' w_lenL ?s0 ?q); (case s0 => assumption))
  | ((with_reducible refine' w_lenH ?s0 ?q); (case s0 => assumption))
  | ((with_reducible refine' w_lenT ?s0 ?q); (case s0 => assumption))
  | ((with_reducible refine' w_lenS ?s0 ?q); (case s0 => first | assumption | omega | decide +kernel))
  | with_reducible refine w_inC ?_
  | with_reducible refine w_ninC ?_
  | with_reducible refine w_m1 ?_
  | with_reducible refine w_m0 ?_
  | with_reducible refine w_isstr ?_
  | with_reducible refine w_andV ?_
  | with_reducible refine w_orV ?_
  | with_reducible refine w_notV ?_
  | with_reducible refine w_chain ?_
  | with_reducible refine w_retN ?_
  | with_reducible refine w_break ?_
  | with_reducible refine w_cont ?_
  | with_reducible refine w_yes ?_
  | with_reducible refine w_for ?_
  | with_reducible refine w_lc ?_
  | with_reducible refine w_iList ?_
  | with_reducible refine w_iTup ?_
  | with_reducible refine w_iStr ?_
  | with_reducible refine w_iR1 ?_
  | with_reducible refine w_iR2 ?_
  | ((with_reducible refine' w_onL ?s0 ?q); (case s0 => assumption))
  | ((with_reducible refine' w_onQ ?s0 ?q); (case s0 => assumption))
  | ((with_reducible refine' w_onT ?s0 ?q); (case s0 => assumption))
  | ((with_reducible refine' w_onU ?s0 ?q); (case s0 => assumption))
  | with_reducible refine w_onS ?_
  | ((with_reducible refine' w_onR1 ?s0 ?q); (case s0 => omega))
  | ((with_reducible refine' w_onR2 ?s0 ?q); (case s0 => omega))
  | with_reducible refine w_revL ?_
  | ((with_reducible refine' w_all ?s0 ?q); (case s0 => assumption))
  | ((with_reducible refine' w_any ?s0 ?q); (case s0 => assumption))
  | with_reducible refine w_bm ?_
  | with_reducible refine w_bm0 ?_
  | ((with_reducible refine' w_islst ?s0 ?q); (case s0 => assumption))
  | with_reducible refine w_kw ?_
  | ((with_reducible refine' w_isi ?s0 ?s1 ?q); (case s0 => assumption); (case s1 => assumption))
  | ((with_reducible refine' w_addS ?s0 ?q); (case s0 => first | omega | decide +kernel))
  | with_reducible refine w_dnew ?_
  | with_reducible refine w_pnil ?_
  | with_reducible refine w_pcons ?_
  | ((with_reducible refine' w_slS ?s0 ?q); (case s0 => first | assumption | omega))
  | ((with_reducible refine' w_inLS ?s0 ?q); (case s0 => assumption))
  | ((with_reducible refine' w_ninLS ?s0 ?q); (case s0 => assumption))
  | ((with_reducible refine' w_inTS ?s0 ?q); (case s0 => assumption))
  | with_reducible refine w_par ?_
  | with_reducible refine w_parEnd ?_
  | with_reducible refine w_fld ?_
  | with_reducible refine w_e1 ?_
  | with_reducible refine w_e2 ?_
  | with_reducible refine w_par3 ?_
  | with_reducible refine w_parEnd3 ?_
  | ((with_reducible refine' w_upper ?s0 ?q); (case s0 => first | assumption | omega | decide +kernel))
  | with_reducible refine w_fldT ?_
  | with_reducible refine w_setT ?_
  | with_reducible refine w_fs ?_
  | with_reducible refine w_jsC ?_
  | with_reducible refine w_js0 ?_
  | with_reducible refine w_fmtT ?_
  | with_reducible refine w_dinT ?_
  | with_reducible refine w_dninT ?_
  | with_reducible refine w_dputT ?_
  | with_reducible refine w_dgetT ?_
  | with_reducible refine w_dget2T ?_
  | with_reducible refine w_setdT ?_
  | with_reducible refine w_mkK ?_
  | with_reducible refine w_mkR ?_
  | with_reducible refine w_dcT ?_
  | ((with_reducible refine' w_ninTS ?s0 ?q); (case s0 => assumption))
  | with_reducible refine w_strS ?_
  | with_reducible refine w_star ?_
  | with_reducible refine w_iE ?_
  | with_reducible refine w_metK ?_
  | with_reducible refine w_met ?_
  | with_reducible refine w_stat ?_
  | dsimp only [wipe, List.set_cons_zero, List.set_cons_succ])
local macro_rules | `(tactic| walk_at "w") => `(tactic| repeat walk_at "w1")
def spLaw (K : PySem.W.Frag) : Sp := fun vs H Q _ => ∃ (a : Addr) (ns : List Int), vs = [.ref a] ∧ SqL K H a (ns.map V.int) ∧ ns.length ≤ 63 ∧ ∀ J, Q (.bl true) J
abbrev s_law : Stmt := topS 37
theorem sc_law : FnScope ["script", "k"] ["script"] (defScope s_law) := ⟨rfl, rfl, rfl, by decide +kernel, rfl, by decide +kernel, by decide +kernel⟩
section
variable {P : Program} {w : World} {K : PySem.W.Frag} {mg : Str → Option Value} {base : Heap}
theorem ok_law {f : Addr} {fd : FuncData} (F : Fun K "law" "law" s_law f fd) (T : Txt K mg) (c__law_cell : Cal P w K mg base 1 "_law_cell" (spCell K)) (c__law_bag : Cal P w K mg base 1 "_law_bag" spBag) (cg__law_right : CalG P w K mg base 8 "_law_right" spRight) (cg__law_large_right : CalG P w K mg base 8 "_law_large_right" spLarge) : FnG P w K mg base 9 f fd ["script"] (spLaw K) := by
  refine fn_calm F sc_law (fun vs H Q E h => ?_) (fun cdv A outer s H vs Q E hgd hr h => ?_)
  · obtain ⟨a, ns, rfl, _⟩ := h
    rfl
  · obtain ⟨a, ns, rfl, hS, hlen, q⟩ := h
    refine ⟨_, (pss_cons (ps_if (pt_not (pt_val (pg_c0 cg__law_large_right hgd hr (by decide) (by rfl))))
    (pss_one (ps_ret pe_bl))
    pss_nil)
  (pss_one (ps_ret (pe_callB (k_all (K := K) rfl) (by rfl) T.z_all (by decide +kernel) (pa_cons (pe_lc (own := [("k", 1)]) (g := (gName 1)) (tt := tYes) rfl sc_law.nd (pi_range1 rfl T.z_range (pa_cons (pe_callB (c_max2 rfl) (by rfl) T.z_max (by decide +kernel) (pa_cons pe_int (pa_cons (pe_callB (c_min2 rfl) (by rfl) T.z_min (by decide +kernel) (pa_cons (pe_callB (k_lenQ (K := K)) (by rfl) T.z_len (by decide +kernel) (pa_cons (pv 0) pa_nil)) (pa_cons pe_int pa_nil))) pa_nil))) pa_nil)) (blkOk_by (own := [("k", 1)]) (N := ["script", "k"]) (sc := defScope s_law) (by decide +kernel)) (fun _ _ _ _ _ => (pg_name (i := 1) sc_law.nd rfl (Or.inl rfl))) (fun _ _ _ _ _ => pts_nil) (fun _ _ _ _ _ => (pg_c cg__law_right hgd hr (by decide) (by rfl) (pa_cons (pe_c c__law_bag hr (by decide) (by rfl) (pa_cons (pe_c c__law_cell hr (by decide) (by rfl) (pa_cons (pv 0) (pa_cons (pv 1) pa_nil))) pa_nil)) pa_nil)))) pa_nil))))), ?_⟩
    walk_at "w0"
    walk_at "w"
    refine ⟨rfl, fun J0 s00 => ?_⟩
    walk_at "w"
    refine w_lenL (s00.seq hS) ?_
    walk_at "w"
    rw [List.length_map]
    have b1 : (if (3 : Int) < (ns.length : Int) then (3 : Int) else ns.length) ≤ 3 := by split <;> omega
    have b2 : 0 ≤ (if (3 : Int) < (ns.length : Int) then (3 : Int) else ns.length) := by split <;> omega
    generalize (if (3 : Int) < (ns.length : Int) then (3 : Int) else ns.length) = m at b1 b2
    have b3 : (if m > (2 : Int) then m else 2) ≤ 3 := by split <;> omega
    have b4 : 0 ≤ (if m > (2 : Int) then m else 2) := by split <;> omega
    generalize (if m > (2 : Int) then m else 2) = n at b3 b4
    intro D nD
    refine w_comp walk_range (fun i acc L => Same J0 L ∧ acc = (List.replicate i true).map V.bl) nD (fun L s1 _ => ⟨s1, rfl⟩) (fun _ _ _ _ => trivial) ?_ ?_
    · rintro i acc x L M hi hl ⟨s0, e5⟩ hD ⟨rfl, rfl⟩
      walk_at "w"
      refine ⟨rfl, ?_⟩
      walk_at "w"
      refine ⟨a, _, ns, rfl, by omega, by omega, s0.seq (s00.seq hS), fun d J s1 => ?_⟩
      walk_at "w"
      refine ⟨_, rfl, fun b J2 nb s2 hb => ?_⟩
      walk_at "w"
      have nDb : D ≠ b := fun z => by
        have := s1 _ _ hD
        rw [z, nb] at this
        cases this
      refine ⟨b, rfl, hb, fun J5 e6 b6 => ?_⟩
      have hD5 : J5 D = some _ := e6 D _ nDb ((s1.trans s2) _ _ hD)
      have sN : Same J0 J5 := Same.ofExt ((s0.trans s1).trans s2) (Same.free (s0.trans s1) nb) e6
      refine w_put hD5 hl (by omega) fun Z e7 hZ => ⟨Same.ofExt sN nD e7, ?_⟩
      rw [List.replicate_succ', List.map_append, e5]
      rfl
    · rintro acc L hl hD ⟨s0, e5⟩
      rw [e5] at hD
      walk_at "w"
      rw [rep_all]
      exact q _
end

end RT
set_option Elab.async false
set_option linter.all false
set_option maxRecDepth 100000
set_option maxHeartbeats 4000000
namespace RT
open PySem PySem.Spec PyProof.Rows L2
local macro_rules | `(tactic| walk_at "w0") => `(tactic| dsimp only [L2.start, cxOf, Cx.nox, Cx.wish, List.map, List.length_cons, List.length_nil, List.replicate_succ, List.replicate_zero, List.cons_append, List.nil_append, Nat.reduceAdd, Nat.reduceSub, List.set_cons_zero, List.set_cons_succ])
local macro_rules | `(tactic| walk_at "w1") => `(tactic| first
  | with_reducible refine w_seq ?_
  | with_reducible refine w_asg ?_
  | with_reducible refine w_var rfl ?_
  | with_reducible refine w_c ?_
  | with_reducible refine w_op ?_
  | with_reducible refine w_cons ?_
  | with_reducible refine w_nil ?_
  | with_reducible refine w_gname ?_
  | with_reducible refine w_cb ?_
  | with_reducible refine w_I0 ?_
  | with_reducible refine w_bl ?_
  | ((with_reducible refine' w_ixL ?s0 ?s1 ?q); (case s0 => assumption); (case s1 => rfl))
  | ((with_reducible refine' w_ixT ?s0 ?s1 ?q); (case s0 => assumption); (case s1 => rfl))
  | with_reducible refine w_gsub ?_
  | with_reducible refine w_ifS ?_
  | with_reducible refine w_test ?_
  | with_reducible refine w_call ?_
  | with_reducible refine w_ret ?_
  | with_reducible refine w_int1 ?_
  | with_reducible refine w_int ?_
  | with_reducible refine w_next ?_
  | with_reducible refine w_drop ?_
  | ((with_reducible refine' w_mod ?s0 ?q); (case s0 => omega))
  | ((with_reducible refine' w_div ?s0 ?q); (case s0 => omega))
  | ((with_reducible refine' w_mul ?s0 ?q); (case s0 => omega))
  | ((with_reducible refine' w_pow ?s0 ?q); (case s0 => decide))
  | with_reducible refine w_B ?_
  | with_reducible refine w_and ?_
  | with_reducible refine w_or ?_
  | with_reducible refine w_not ?_
  | with_reducible refine w_T ?_
  | with_reducible refine w_F ?_
  | with_reducible refine w_nT ?_
  | with_reducible refine w_nF ?_
  | with_reducible refine w_un ?_
  | with_reducible refine w_U ?_
  | with_reducible refine w_if ?_
  | with_reducible refine w_lst ?_
  | with_reducible refine w_tup ?_
  | with_reducible refine w_sl ?_
  | with_reducible refine w_part ?_
  | with_reducible refine w_nopart ?_
  | with_reducible refine w_eqI ?_
  | with_reducible refine w_neI ?_
  | with_reducible refine w_eqS ?_
  | with_reducible refine w_neS ?_
  | with_reducible refine w_abs ?_
  | with_reducible refine w_max2 ?_
  | with_reducible refine w_min2 ?_
  | ((with_reducible refine' w_lenL ?s0 ?q); (case s0 => assumption))
  | ((with_reducible refine' w_lenH ?s0 ?q); (case s0 => assumption))
  | ((with_reducible refine' w_lenT ?s0 ?q); (case s0 => assumption))
  | ((with_reducible refine' w_lenS ?s0 ?q); (case s0 => first | assumption | omega | decide +kernel))
  | with_reducible refine w_inC ?_
  | with_reducible refine w_ninC ?_
  | with_reducible refine w_m1 ?_
  | with_reducible refine w_m0 ?_
  | with_reducible refine w_isstr ?_
  | with_reducible refine w_andV ?_
  | with_reducible refine w_orV ?_
  | with_reducible refine w_notV ?_
  | with_reducible refine w_chain ?_
  | with_reducible refine w_retN ?_
  | with_reducible refine w_break ?_
  | with_reducible refine w_cont ?_
  | with_reducible refine w_yes ?_
  | with_reducible refine w_for ?_
  | with_reducible refine w_lc ?_
  | with_reducible refine w_iList ?_
  | with_reducible refine w_iTup ?_
  | with_reducible refine w_iStr ?_
  | with_reducible refine w_iR1 ?_
  | with_reducible refine w_iR2 ?_
  | ((with_reducible refine' w_onL ?s0 ?q); (case s0 => assumption))
  | ((with_reducible refine' w_onQ ?s0 ?q); (case s0 => assumption))
  | ((with_reducible refine' w_onT ?s0 ?q); (case s0 => assumption))
  | ((with_reducible refine' w_onU ?s0 ?q); (case s0 => assumption))
  | with_reducible refine w_onS ?_
  | ((with_reducible refine' w_onR1 ?s0 ?q); (case s0 => omega))
  | ((with_reducible refine' w_onR2 ?s0 ?q); (case s0 => omega))
  | with_reducible refine w_revL ?_
  | ((with_reducible refine' w_all ?s0 ?q); (case s0 => assumption))
  | ((with_reducible refine' w_any ?s0 ?q); (case s0 => assumption))
  | with_reducible refine w_bm ?_
  | with_reducible refine w_bm0 ?_
  | ((with_reducible refine' w_islst ?s0 ?q); (case s0 => assumption))
  | with_reducible refine w_kw ?_
  | ((with_reducible refine' w_isi ?s0 ?s1 ?q); (case s0 => assumption); (case s1 => assumption))
  | ((with_reducible refine' w_addS ?s0 ?q); (case s0 => first | omega | decide +kernel))
  | with_reducible refine w_dnew ?_
  | with_reducible refine w_pnil ?_
  | with_reducible refine w_pcons ?_
  | ((with_reducible refine' w_slS ?s0 ?q); (case s0 => first | assumption | omega))
  | ((with_reducible refine' w_inLS ?s0 ?q); (case s0 => assumption))
  | ((with_reducible refine' w_ninLS ?s0 ?q); (case s0 => assumption))
  | ((with_reducible refine' w_inTS ?s0 ?q); (case s0 => assumption))
  | with_reducible refine w_par ?_
  | with_reducible refine w_parEnd ?_
  | with_reducible refine w_fld ?_
  | with_reducible refine w_e1 ?_
  | with_reducible refine w_e2 ?_
  | with_reducible refine w_par3 ?_
  | with_reducible refine w_parEnd3 ?_
  | ((with_reducible refine' w_upper ?s0 ?q); (case s0 => first | assumption | omega | decide +kernel))
  | with_reducible refine w_fldT ?_
  | with_reducible refine w_setT ?_
  | with_reducible refine w_fs ?_
  | with_reducible refine w_jsC ?_
  | with_reducible refine w_js0 ?_
  | with_reducible refine w_fmtT ?_
  | with_reducible refine w_dinT ?_
  | with_reducible refine w_dninT ?_
  | with_reducible refine w_dputT ?_
  | with_reducible refine w_dgetT ?_
  | with_reducible refine w_dget2T ?_
  | with_reducible refine w_setdT ?_
  | with_reducible refine w_mkK ?_
  | with_reducible refine w_mkR ?_
  | with_reducible refine w_dcT ?_
  | ((with_reducible refine' w_ninTS ?s0 ?q); (case s0 => assumption))
  | with_reducible refine w_strS ?_
  | with_reducible refine w_star ?_
  | with_reducible refine w_iE ?_
  | with_reducible refine w_metK ?_
  | with_reducible refine w_met ?_
  | with_reducible refine w_stat ?_
  | dsimp only [wipe, List.set_cons_zero, List.set_cons_succ])
local macro_rules | `(tactic| walk_at "w") => `(tactic| repeat walk_at "w1")
/-! ### the class, as the top has made it -/
abbrev s_Shape_level : Stmt := inClass (topS 21) 2
theorem sc_Shape_level : FnScope ["self"] ["self"] (defScope s_Shape_level) := ⟨rfl, rfl, rfl, by decide +kernel, rfl, by decide +kernel, by decide +kernel⟩
abbrev s_Shape_levels : Stmt := inClass (topS 21) 3
theorem sc_Shape_levels : FnScope ["self"] ["self"] (defScope s_Shape_levels) := ⟨rfl, rfl, rfl, by decide +kernel, rfl, by decide +kernel, by decide +kernel⟩
abbrev s_Shape_links : Stmt := inClass (topS 21) 4
theorem sc_Shape_links : FnScope ["self"] ["self"] (defScope s_Shape_links) := ⟨rfl, rfl, rfl, by decide +kernel, rfl, by decide +kernel, by decide +kernel⟩
abbrev s_Shape_marks : Stmt := inClass (topS 21) 5
theorem sc_Shape_marks : FnScope ["self"] ["self"] (defScope s_Shape_marks) := ⟨rfl, rfl, rfl, by decide +kernel, rfl, by decide +kernel, by decide +kernel⟩
structure ShFacts (K : PySem.W.Frag) (mg : Str → Option Value) (C md : Addr) : Prop where
  O : OSh K C
  S : ShK K mg C
  I : ∃ f fd, IniSh K mg C f md fd
  str : ∃ f fd, Fun K "__str__" "Shape.__str__" s_Shape___str__ f fd ∧ OwnM K C "__str__" f
  repr : ∃ f fd, Fun K "__repr__" "Shape.__repr__" s_Shape___repr__ f fd ∧ OwnM K C "__repr__" f
  eq : ∃ f fd, Fun K "__eq__" "Shape.__eq__" s_Shape___eq__ f fd ∧ OwnM K C "__eq__" f
  p1 : ∀ (P : Program) (w : World) (base : Heap), GetP P w K mg base C "level" "_level"
  p2 : ∀ (P : Program) (w : World) (base : Heap), GetP P w K mg base C "levels" "_levels"
  p3 : ∀ (P : Program) (w : World) (base : Heap), GetP P w K mg base C "links" "_links"
  p4 : ∀ (P : Program) (w : World) (base : Heap), GetP P w K mg base C "marks" "_marks"
theorem shAll_mk {P : Program} {w : World} {K : PySem.W.Frag} {mg : Str → Option Value} {base : Heap} {C md : Addr} (CF : ShFacts K mg C md) (T : Txt K mg) (c_check_name : Cal P w K mg base 2 "check_name" spCheckName) (c_levels_from : Cal P w K mg base 4 "levels_from" spLevels) (c_check_marks : Cal P w K mg base 3 "check_marks" (spCheckMarks K)) : ShAll P w K mg base C md := by
  obtain ⟨f, fd, I⟩ := CF.I
  obtain ⟨f1, fd1, F1, M1⟩ := CF.str
  obtain ⟨f2, fd2, F2, M2⟩ := CF.repr
  obtain ⟨f3, fd3, F3, M3⟩ := CF.eq
  refine ⟨CF.O, CF.S, ?_, ?_, ?_, ?_, I.tup0, CF.p1 P w base, CF.p2 P w base, CF.p3 P w base, CF.p4 P w base, ?_, ?_, ?_⟩
  · exact mk_of CF.O I T c_check_name c_levels_from c_check_marks fun D doc pm an cdv ct e => sb_none e
  · exact mk_of CF.O I T c_check_name c_levels_from c_check_marks fun D doc pm an cdv ct e => sb_marks
  · exact mk_of CF.O I T c_check_name c_levels_from c_check_marks fun D doc pm an cdv ct e => sb_level e
  · exact mk_of CF.O I T c_check_name c_levels_from c_check_marks fun D doc pm an cdv ct e => sb_marks_level
  · exact ⟨f1, fd1, M1, m_str F1 CF.O T, F1.binds (ps := ["self"]) fun _ _ _ _ _ _ us hl => match us, hl with | [_], _ => rfl⟩
  · exact ⟨f2, fd2, M2, m_repr F2 CF.O T, F2.binds (ps := ["self"]) fun _ _ _ _ _ _ us hl => match us, hl with | [_], _ => rfl⟩
  · exact ⟨f3, fd3, M3, m_eq F3 CF.O CF.S.h T, F3.binds (ps := ["self", "other"]) fun _ _ _ _ _ _ us hl => match us, hl with | [_, _], _ => rfl⟩
structure Sh5F (K : PySem.W.Frag) (mg : Str → Option Value) (C md : Addr) : Prop where
  F : ShFacts K mg C md
  cls : Cls K C
  part : ∃ f fd, Fun K "part" "Shape.part" s_Shape_part f fd ∧ Meth K C "part" f
  mark : ∃ f fd, Fun K "mark" "Shape.mark" s_Shape_mark f fd ∧ Meth K C "mark" f
  has : ∃ f fd, Fun K "__contains__" "Shape.__contains__" s_Shape___contains__ f fd ∧ OwnM K C "__contains__" f
  read : ∃ mc p g fd, ClX.CRead K C mc ∧ SMet K C mc "read" p g ∧ Fun K "read" "Shape.read" s_Shape_read g fd
theorem sh5_mk {P : Program} {w : World} {K : PySem.W.Frag} {mg : Str → Option Value} {base : Heap} {C md : Addr} (CF : Sh5F K mg C md) (T : Txt K mg) (c_check_name : Cal P w K mg base 2 "check_name" spCheckName) (c_levels_from : Cal P w K mg base 4 "levels_from" spLevels) (c_check_marks : Cal P w K mg base 3 "check_marks" (spCheckMarks K)) (c_reached : Cal P w K mg base 1 "reached" spReached) : Sh5 P w K mg base C md := by
  have A := shAll_mk CF.F T c_check_name c_levels_from c_check_marks
  obtain ⟨f1, fd1, F1, M1⟩ := CF.part
  obtain ⟨f2, fd2, F2, M2⟩ := CF.mark
  obtain ⟨f3, fd3, F3, M3⟩ := CF.has
  obtain ⟨mc, p, g, fd4, R, S, F4⟩ := CF.read
  have O1 := m_part (P := P) (w := w) (mg := mg) (base := base) F1 A.O T c_reached A.k1
  have O2 := m_mark (P := P) (w := w) (mg := mg) (base := base) F2 A.O T
  have O3 := m_has (P := P) (w := w) (mg := mg) (base := base) F3 A.O T
  have O4 := m_read (P := P) (w := w) (mg := mg) (base := base) F4 A.O T A.k1 A.mS
  refine ⟨A, ?_, ?_, ?_, ?_, ?_, ?_⟩
  · exact ⟨f1, fd1, _, [], CF.cls, M1, O1, F1.binds (ps := ["self", "level"]) fun _ _ _ _ _ _ us hl => match us, hl with | [_, _], _ => rfl, .nil⟩
  · exact ⟨f1, fd1, _, _, CF.cls, M1, O1, kw_mt F1 fun _ _ _ _ _ _ _ _ => rfl⟩
  · exact ⟨f2, fd2, _, [], CF.cls, M2, O2, F2.binds (ps := ["self", "level"]) fun _ _ _ _ _ _ us hl => match us, hl with | [_, _], _ => rfl, .nil⟩
  · exact ⟨f2, fd2, _, _, CF.cls, M2, O2, kw_mt F2 fun _ _ _ _ _ _ _ _ => rfl⟩
  · exact ⟨f3, fd3, M3, O3, F3.binds (ps := ["self", "value"]) fun _ _ _ _ _ _ us hl => match us, hl with | [_, _], _ => rfl⟩
  · exact ⟨mc, p, g, fd4, _, R, S, O4, F4.binds (ps := ["text"]) fun _ _ _ _ _ _ us hl => match us, hl with | [_], _ => rfl⟩
/-! ### what is looked at -/
def gsL : List GetD := [⟨"Shape", "level", "Shape.level", s_Shape_level⟩, ⟨"Shape", "levels", "Shape.levels", s_Shape_levels⟩, ⟨"Shape", "links", "Shape.links", s_Shape_links⟩, ⟨"Shape", "marks", "Shape.marks", s_Shape_marks⟩]
def mdAt (K : PySem.W.Frag) : Addr := kwAt ("Shape", some "__init__") "marks" K
def dI : He.DefD := ⟨("Shape", some "__init__"), "__init__", "Shape.__init__", defArgs s_Shape___init__, defBody s_Shape___init__, defScope s_Shape___init__, [], [("marks", .adr mdAt)]⟩
def noL : List Str := ["_level", "_levels", "_links", "_marks", "_text", "__bool__", "__len__"]
def tyL : List String := ["str", "tuple", "int"]
def meL : List Str := ["__str__", "__repr__", "__eq__"]
def shB (K : PySem.W.Frag) : Bool := (He.Fa.glo "Shape").ok K && (clsB K "Shape" && ((noL.all fun f => (He.Fa.noat "Shape" f).ok K) && ((tyL.all fun n => decide (PySem.W.kitOne K (.type n) (.ref (He.ga K "Shape")) = some false) && PySem.W.notFirst K (He.ga K "Shape") (.type n)) &&
  (PySem.W.notFirst K (He.ga K "Shape") (.ref (He.ga K "Shape")) && (tup0B K (mdAt K) && ((gsL.all fun g => g.ok K) && meL.all fun m => (He.Fa.meth "Shape" m).ok K))))))
theorem shFacts_of {ck : PySem.W.Frag → Bool} {fn : List He.DefD} {K : PySem.W.Frag} {h : Heap} {mg : Str → Option Value} (X : K.In h) (G : h.Ns mainGlobals mg) (c : SaysK ck fn K) (hB : shB K = true) (hg : ∀ g ∈ gsL, g.fw K = g.val) (i0 i1 i2 i3 : Nat) (e0 : fn[i0]? = some dI)
    (e1 : fn[i1]? = some (dM "Shape" "__str__" "Shape.__str__" s_Shape___str__)) (e2 : fn[i2]? = some (dM "Shape" "__repr__" "Shape.__repr__" s_Shape___repr__)) (e3 : fn[i3]? = some (dM "Shape" "__eq__" "Shape.__eq__" s_Shape___eq__)) : ShFacts K mg (He.ga K "Shape") (mdAt K) := by
  obtain ⟨b1, hB⟩ := He.ba hB
  obtain ⟨b2, hB⟩ := He.ba hB
  obtain ⟨b3, hB⟩ := He.ba hB
  obtain ⟨b4, hB⟩ := He.ba hB
  obtain ⟨b5, hB⟩ := He.ba hB
  obtain ⟨b6, hB⟩ := He.ba hB
  obtain ⟨b7, b8⟩ := He.ba hB
  obtain ⟨oc, mk⟩ := clsB_ok b2
  have no : ∀ f ∈ noL, NoAttr K (He.ga K "Shape") f := fun f hf => He.noat_ok (List.all_eq_true.mp b3 f hf)
  have ki : ∀ n ∈ tyL, PySem.W.kitOne K (.type n) (.ref (He.ga K "Shape")) = some false ∧ PySem.W.notFirst K (He.ga K "Shape") (.type n) = true := fun n hn => by
    obtain ⟨a, b⟩ := He.ba (List.all_eq_true.mp b4 n hn)
    exact ⟨of_decide_eq_true a, b⟩
  have me : ∀ m ∈ meL, Meth K (He.ga K "Shape") m (He.ma K (He.ga K "Shape") m) := fun m hm => He.meth_ok (List.all_eq_true.mp b8 m hm)
  have here := He.glo_ok X G b1
  have O : OSh K (He.ga K "Shape") := ⟨oc, no _ (by simp [noL]), no _ (by simp [noL]), no _ (by simp [noL]), no _ (by simp [noL]), no _ (by simp [noL]), no _ (by simp [noL]), no _ (by simp [noL])⟩
  have gok : ∀ g ∈ gsL, g.ok K = true := fun g h => List.all_eq_true.mp b7 g h
  refine ⟨O, ⟨here, (ki _ (by simp [tyL])).1, (ki _ (by simp [tyL])).1, (ki _ (by simp [tyL])).1, b5, (ki _ (by simp [tyL])).2, (ki _ (by simp [tyL])).2, (ki _ (by simp [tyL])).2⟩, ?_, ?_, ?_, ?_, ?_, ?_, ?_, ?_⟩
  · obtain ⟨fd, F⟩ := c.def_ i0 e0
    exact ⟨_, fd, F, mk, fun H => tup0B_ok b6 H, here⟩
  · obtain ⟨fd, F⟩ := c.def_ i1 e1
    have m := me "__str__" (by simp [meL])
    exact ⟨_, fd, fun_of F, m.at_, m.fn⟩
  · obtain ⟨fd, F⟩ := c.def_ i2 e2
    have m := me "__repr__" (by simp [meL])
    exact ⟨_, fd, fun_of F, m.at_, m.fn⟩
  · obtain ⟨fd, F⟩ := c.def_ i3 e3
    have m := me "__eq__" (by simp [meL])
    exact ⟨_, fd, fun_of F, m.at_, m.fn⟩
  · exact fun P w base => GetD.getP (g := ⟨"Shape", "level", "Shape.level", s_Shape_level⟩) (hg _ (by simp [gsL])) (gok _ (by simp [gsL])) sc_Shape_level rfl ⟨_, _, _, rfl⟩ oc.ins.cl O.f__level fun _ _ _ _ _ _ us hl => match us, hl with | [_], _ => rfl
  · exact fun P w base => GetD.getP (g := ⟨"Shape", "levels", "Shape.levels", s_Shape_levels⟩) (hg _ (by simp [gsL])) (gok _ (by simp [gsL])) sc_Shape_levels rfl ⟨_, _, _, rfl⟩ oc.ins.cl O.f__levels fun _ _ _ _ _ _ us hl => match us, hl with | [_], _ => rfl
  · exact fun P w base => GetD.getP (g := ⟨"Shape", "links", "Shape.links", s_Shape_links⟩) (hg _ (by simp [gsL])) (gok _ (by simp [gsL])) sc_Shape_links rfl ⟨_, _, _, rfl⟩ oc.ins.cl O.f__links fun _ _ _ _ _ _ us hl => match us, hl with | [_], _ => rfl
  · exact fun P w base => GetD.getP (g := ⟨"Shape", "marks", "Shape.marks", s_Shape_marks⟩) (hg _ (by simp [gsL])) (gok _ (by simp [gsL])) sc_Shape_marks rfl ⟨_, _, _, rfl⟩ oc.ins.cl O.f__marks fun _ _ _ _ _ _ us hl => match us, hl with | [_], _ => rfl
/-! ### its other methods -/
def gs5 : List AtD := gsL.map GetD.toA ++ [stA "Shape" "read" "Shape.read" s_Shape_read]
def me5 : List Str := ["part", "mark", "__contains__"]
def sh5B (K : PySem.W.Frag) : Bool := shB K && ((He.Fa.cls "Shape").ok K && ((me5.all fun m => (He.Fa.meth "Shape" m).ok K) && (staB K "Shape" "read" && (stA "Shape" "read" "Shape.read" s_Shape_read).ok K)))
theorem sh5F_of {ck : PySem.W.Frag → Bool} {fn : List He.DefD} {K : PySem.W.Frag} {h : Heap} {mg : Str → Option Value} (X : K.In h) (G : h.Ns mainGlobals mg) (c : SaysK ck fn K) (hB : sh5B K = true) (hg : ∀ g ∈ gs5, g.fw K = g.val) (i0 i1 i2 i3 i4 i5 i6 : Nat) (e0 : fn[i0]? = some dI)
    (e1 : fn[i1]? = some (dM "Shape" "__str__" "Shape.__str__" s_Shape___str__)) (e2 : fn[i2]? = some (dM "Shape" "__repr__" "Shape.__repr__" s_Shape___repr__)) (e3 : fn[i3]? = some (dM "Shape" "__eq__" "Shape.__eq__" s_Shape___eq__))
    (e4 : fn[i4]? = some (dM "Shape" "part" "Shape.part" s_Shape_part)) (e5 : fn[i5]? = some (dM "Shape" "mark" "Shape.mark" s_Shape_mark)) (e6 : fn[i6]? = some (dM "Shape" "__contains__" "Shape.__contains__" s_Shape___contains__)) : Sh5F K mg (He.ga K "Shape") (mdAt K) := by
  obtain ⟨b1, hB⟩ := He.ba hB
  obtain ⟨b2, hB⟩ := He.ba hB
  obtain ⟨b3, hB⟩ := He.ba hB
  obtain ⟨b4, b5⟩ := He.ba hB
  have me : ∀ m ∈ me5, Meth K (He.ga K "Shape") m (He.ma K (He.ga K "Shape") m) := fun m hm => He.meth_ok (List.all_eq_true.mp b3 m hm)
  refine ⟨shFacts_of X G c b1 (fun g hg2 => hg g.toA (by simp only [gs5]; exact List.mem_append_left _ (List.mem_map.mpr ⟨g, hg2, rfl⟩))) i0 i1 i2 i3 e0 e1 e2 e3, He.cls_ok b2, ?_, ?_, ?_, ?_⟩
  · obtain ⟨fd, F⟩ := c.def_ i4 e4
    exact ⟨_, fd, fun_of F, me "part" (by simp [me5])⟩
  · obtain ⟨fd, F⟩ := c.def_ i5 e5
    exact ⟨_, fd, fun_of F, me "mark" (by simp [me5])⟩
  · obtain ⟨fd, F⟩ := c.def_ i6 e6
    have m := me "__contains__" (by simp [me5])
    exact ⟨_, fd, fun_of F, m.at_, m.fn⟩
  · have e := hg (stA "Shape" "read" "Shape.read" s_Shape_read) (by simp [gs5])
    obtain ⟨fd, F⟩ := AtD.out e b5
    obtain ⟨R, S⟩ := staB_ok b4 F.kp
    exact ⟨_, _, _, fd, R, S, F⟩

end RT
set_option Elab.async false
set_option linter.all false
set_option maxRecDepth 100000
set_option maxHeartbeats 4000000
namespace RT
open PySem PySem.Spec PyProof.Rows L2
theorem all_mk {l : PySem.W.OpenLaw} {w : World} {K : PySem.W.Frag} {mg : Str → Option Value} {fa : Addr} (hfa : mg "law" = some (.ref fa)) (T : Txt K mg)
     {C md : Addr} (CF : Sh5F K mg C md) (d__law_cell : DefAt K mg "_law_cell" s__law_cell) (d__law_bag : DefAt K mg "_law_bag" s__law_bag) (d__law_draw : DefAt K mg "_law_draw" s__law_draw) (d__law_name : DefAt K mg "_law_name" s__law_name) (d__law_names : DefAt K mg "_law_names" s__law_names) (d__law_links : DefAt K mg "_law_links" s__law_links) (d__law_pairs : DefAt K mg "_law_pairs" s__law_pairs) (d__law_shown : DefAt K mg "_law_shown" s__law_shown) (d__law_over : DefAt K mg "_law_over" s__law_over) (d__law_part : DefAt K mg "_law_part" s__law_part) (d__law_odd : DefAt K mg "_law_odd" s__law_odd) (d_is_name : DefAt K mg "is_name" s_is_name) (d_check_name : DefAt K mg "check_name" s_check_name) (d_is_link : DefAt K mg "is_link" s_is_link) (d_bad_link : DefAt K mg "bad_link" s_bad_link) (d_reached : DefAt K mg "reached" s_reached) (d_has_circle : DefAt K mg "has_circle" s_has_circle) (d_levels_from : DefAt K mg "levels_from" s_levels_from) (d_is_mark : DefAt K mg "is_mark" s_is_mark) (d_check_marks : DefAt K mg "check_marks" s_check_marks) (d__law_marks_right : DefAt K mg "_law_marks_right" s__law_marks_right) (d__law_right : DefAt K mg "_law_right" s__law_right) (d__law_large_right : DefAt K mg "_law_large_right" s__law_large_right) (d_law : DefAt K mg "law" s_law) :
    ∃ fd : FuncData, (∀ (s : Shared) (v : Value), BindsTo s fd ⟨[v], []⟩ [("script", v)]) ∧ ∀ base : Heap, K.In base → base.Ns mainGlobals mg → FnG l.prog w K mg base 9 fa fd ["script"] (spLaw K) := by
  obtain ⟨f__law_cell, fd__law_cell, F__law_cell, g__law_cell⟩ := d__law_cell
  obtain ⟨f__law_bag, fd__law_bag, F__law_bag, g__law_bag⟩ := d__law_bag
  obtain ⟨f__law_draw, fd__law_draw, F__law_draw, g__law_draw⟩ := d__law_draw
  obtain ⟨f__law_name, fd__law_name, F__law_name, g__law_name⟩ := d__law_name
  obtain ⟨f__law_names, fd__law_names, F__law_names, g__law_names⟩ := d__law_names
  obtain ⟨f__law_links, fd__law_links, F__law_links, g__law_links⟩ := d__law_links
  obtain ⟨f__law_pairs, fd__law_pairs, F__law_pairs, g__law_pairs⟩ := d__law_pairs
  obtain ⟨f__law_shown, fd__law_shown, F__law_shown, g__law_shown⟩ := d__law_shown
  obtain ⟨f__law_over, fd__law_over, F__law_over, g__law_over⟩ := d__law_over
  obtain ⟨f__law_part, fd__law_part, F__law_part, g__law_part⟩ := d__law_part
  obtain ⟨f__law_odd, fd__law_odd, F__law_odd, g__law_odd⟩ := d__law_odd
  obtain ⟨f_is_name, fd_is_name, F_is_name, g_is_name⟩ := d_is_name
  obtain ⟨f_check_name, fd_check_name, F_check_name, g_check_name⟩ := d_check_name
  obtain ⟨f_is_link, fd_is_link, F_is_link, g_is_link⟩ := d_is_link
  obtain ⟨f_bad_link, fd_bad_link, F_bad_link, g_bad_link⟩ := d_bad_link
  obtain ⟨f_reached, fd_reached, F_reached, g_reached⟩ := d_reached
  obtain ⟨f_has_circle, fd_has_circle, F_has_circle, g_has_circle⟩ := d_has_circle
  obtain ⟨f_levels_from, fd_levels_from, F_levels_from, g_levels_from⟩ := d_levels_from
  obtain ⟨f_is_mark, fd_is_mark, F_is_mark, g_is_mark⟩ := d_is_mark
  obtain ⟨f_check_marks, fd_check_marks, F_check_marks, g_check_marks⟩ := d_check_marks
  obtain ⟨f__law_marks_right, fd__law_marks_right, F__law_marks_right, g__law_marks_right⟩ := d__law_marks_right
  obtain ⟨f__law_right, fd__law_right, F__law_right, g__law_right⟩ := d__law_right
  obtain ⟨f__law_large_right, fd__law_large_right, F__law_large_right, g__law_large_right⟩ := d__law_large_right
  obtain ⟨f_law, fd_law, F_law, g_law⟩ := d_law
  have e := hfa.symm.trans g_law
  cases e
  have F0 := F_law
  obtain ⟨oc, od, kV, doc, pm, an, cdv, ct, osl, rfl, lk, hcd⟩ := F0.ex
  refine ⟨PySem.W.fnOf "law" "law" (defArgs s_law) (defBody s_law) (defScope s_law) .none kV doc pm an cdv ct, fun s v => .of_eq rfl, fun base _ _ => ?_⟩
  have o__law_cell : FnOk l.prog w K mg base CX0 1 f__law_cell fd__law_cell ["script", "k"] (spCell K) := ok__law_cell F__law_cell T
  have c__law_cell : Cal l.prog w K mg base 1 "_law_cell" (spCell K) := Cal.of F__law_cell g__law_cell (F__law_cell.binds (ps := ["script", "k"]) fun _ _ _ _ _ _ us hl => match us, hl with | [_, _], _ => rfl) o__law_cell
  have o__law_bag : FnOk l.prog w K mg base CX0 1 f__law_bag fd__law_bag ["cell"] spBag := ok__law_bag F__law_bag T
  have c__law_bag : Cal l.prog w K mg base 1 "_law_bag" spBag := Cal.of F__law_bag g__law_bag (F__law_bag.binds (ps := ["cell"]) fun _ _ _ _ _ _ us hl => match us, hl with | [_], _ => rfl) o__law_bag
  have o__law_draw : FnOk l.prog w K mg base CX0 1 f__law_draw fd__law_draw ["bag", "many"] spDraw := ok__law_draw F__law_draw T
  have c__law_draw : Cal l.prog w K mg base 1 "_law_draw" spDraw := Cal.of F__law_draw g__law_draw (F__law_draw.binds (ps := ["bag", "many"]) fun _ _ _ _ _ _ us hl => match us, hl with | [_, _], _ => rfl) o__law_draw
  have o__law_name : FnOk l.prog w K mg base CX0 2 f__law_name fd__law_name ["bag"] spName1 := ok__law_name F__law_name T c__law_draw
  have c__law_name : Cal l.prog w K mg base 2 "_law_name" spName1 := Cal.of F__law_name g__law_name (F__law_name.binds (ps := ["bag"]) fun _ _ _ _ _ _ us hl => match us, hl with | [_], _ => rfl) o__law_name
  have o__law_names : FnOk l.prog w K mg base CX0 3 f__law_names fd__law_names ["bag", "many"] spNames := ok__law_names F__law_names T c__law_draw c__law_name
  have c__law_names : Cal l.prog w K mg base 3 "_law_names" spNames := Cal.of F__law_names g__law_names (F__law_names.binds (ps := ["bag", "many"]) fun _ _ _ _ _ _ us hl => match us, hl with | [_, _], _ => rfl) o__law_names
  have o__law_links : FnOk l.prog w K mg base CX0 2 f__law_links fd__law_links ["bag", "names", "more"] spLinks := ok__law_links F__law_links T c__law_draw
  have c__law_links : Cal l.prog w K mg base 2 "_law_links" spLinks := Cal.of F__law_links g__law_links (F__law_links.binds (ps := ["bag", "names", "more"]) fun _ _ _ _ _ _ us hl => match us, hl with | [_, _, _], _ => rfl) o__law_links
  have o__law_pairs : FnOk l.prog w K mg base CX0 3 f__law_pairs fd__law_pairs ["bag", "names"] spPairs := ok__law_pairs F__law_pairs T c__law_draw c__law_name
  have c__law_pairs : Cal l.prog w K mg base 3 "_law_pairs" spPairs := Cal.of F__law_pairs g__law_pairs (F__law_pairs.binds (ps := ["bag", "names"]) fun _ _ _ _ _ _ us hl => match us, hl with | [_, _], _ => rfl) o__law_pairs
  have o__law_shown : FnOk l.prog w K mg base CX0 1 f__law_shown fd__law_shown ["form"] spShown := ok__law_shown F__law_shown T
  have c__law_shown : Cal l.prog w K mg base 1 "_law_shown" spShown := Cal.of F__law_shown g__law_shown (F__law_shown.binds (ps := ["form"]) fun _ _ _ _ _ _ us hl => match us, hl with | [_], _ => rfl) o__law_shown
  have o__law_over : FnOk l.prog w K mg base CX0 1 f__law_over fd__law_over ["links", "tier"] spOver := ok__law_over F__law_over T
  have c__law_over : Cal l.prog w K mg base 1 "_law_over" spOver := Cal.of F__law_over g__law_over (F__law_over.binds (ps := ["links", "tier"]) fun _ _ _ _ _ _ us hl => match us, hl with | [_, _], _ => rfl) o__law_over
  have o__law_part : FnOk l.prog w K mg base CX0 2 f__law_part fd__law_part ["form", "tier"] spMPart := ok__law_part F__law_part T c__law_over
  have c__law_part : Cal l.prog w K mg base 2 "_law_part" spMPart := Cal.of F__law_part g__law_part (F__law_part.binds (ps := ["form", "tier"]) fun _ _ _ _ _ _ us hl => match us, hl with | [_, _], _ => rfl) o__law_part
  have o__law_odd : FnOk l.prog w K mg base CX0 1 f__law_odd fd__law_odd ["names"] (spOdd K) := ok__law_odd F__law_odd T
  have c__law_odd : Cal l.prog w K mg base 1 "_law_odd" (spOdd K) := Cal.of F__law_odd g__law_odd (F__law_odd.binds (ps := ["names"]) fun _ _ _ _ _ _ us hl => match us, hl with | [_], _ => rfl) o__law_odd
  have o_is_name : FnOk l.prog w K mg base CX0 1 f_is_name fd_is_name ["value"] (spName K) := ok_is_name F_is_name T
  have c_is_name : Cal l.prog w K mg base 1 "is_name" (spName K) := Cal.of F_is_name g_is_name (F_is_name.binds (ps := ["value"]) fun _ _ _ _ _ _ us hl => match us, hl with | [_], _ => rfl) o_is_name
  have o_check_name : FnOk l.prog w K mg base CX0 2 f_check_name fd_check_name ["value"] spCheckName := ok_check_name F_check_name T c_is_name
  have c_check_name : Cal l.prog w K mg base 2 "check_name" spCheckName := Cal.of F_check_name g_check_name (F_check_name.binds (ps := ["value"]) fun _ _ _ _ _ _ us hl => match us, hl with | [_], _ => rfl) o_check_name
  have o_is_link : FnOk l.prog w K mg base CX0 2 f_is_link fd_is_link ["value"] spGoodLink := ok_is_link F_is_link T c_is_name
  have c_is_link : Cal l.prog w K mg base 2 "is_link" spGoodLink := Cal.of F_is_link g_is_link (F_is_link.binds (ps := ["value"]) fun _ _ _ _ _ _ us hl => match us, hl with | [_], _ => rfl) o_is_link
  have o_bad_link : FnOk l.prog w K mg base CX0 3 f_bad_link fd_bad_link ["links"] spBadLink := ok_bad_link F_bad_link T c_is_link
  have c_bad_link : Cal l.prog w K mg base 3 "bad_link" spBadLink := Cal.of F_bad_link g_bad_link (F_bad_link.binds (ps := ["links"]) fun _ _ _ _ _ _ us hl => match us, hl with | [_], _ => rfl) o_bad_link
  have o_reached : FnOk l.prog w K mg base CX0 1 f_reached fd_reached ["level", "links"] spReached := ok_reached F_reached T
  have c_reached : Cal l.prog w K mg base 1 "reached" spReached := Cal.of F_reached g_reached (F_reached.binds (ps := ["level", "links"]) fun _ _ _ _ _ _ us hl => match us, hl with | [_, _], _ => rfl) o_reached
  have o_has_circle : FnOk l.prog w K mg base CX0 1 f_has_circle fd_has_circle ["links"] spNoCircle := ok_has_circle F_has_circle T
  have c_has_circle : Cal l.prog w K mg base 1 "has_circle" spNoCircle := Cal.of F_has_circle g_has_circle (F_has_circle.binds (ps := ["links"]) fun _ _ _ _ _ _ us hl => match us, hl with | [_], _ => rfl) o_has_circle
  have o_levels_from : FnOk l.prog w K mg base CX0 4 f_levels_from fd_levels_from ["level", "links"] spLevels := ok_levels_from F_levels_from T c_bad_link c_reached c_has_circle
  have c_levels_from : Cal l.prog w K mg base 4 "levels_from" spLevels := Cal.of F_levels_from g_levels_from (F_levels_from.binds (ps := ["level", "links"]) fun _ _ _ _ _ _ us hl => match us, hl with | [_, _], _ => rfl) o_levels_from
  have o_is_mark : FnOk l.prog w K mg base CX0 2 f_is_mark fd_is_mark ["levels", "value"] spGoodMark := ok_is_mark F_is_mark T c_is_name
  have c_is_mark : Cal l.prog w K mg base 2 "is_mark" spGoodMark := Cal.of F_is_mark g_is_mark (F_is_mark.binds (ps := ["levels", "value"]) fun _ _ _ _ _ _ us hl => match us, hl with | [_, _], _ => rfl) o_is_mark
  have o_check_marks : FnOk l.prog w K mg base CX0 3 f_check_marks fd_check_marks ["levels", "marks"] (spCheckMarks K) := ok_check_marks F_check_marks T c_is_mark
  have c_check_marks : Cal l.prog w K mg base 3 "check_marks" (spCheckMarks K) := Cal.of F_check_marks g_check_marks (F_check_marks.binds (ps := ["levels", "marks"]) fun _ _ _ _ _ _ us hl => match us, hl with | [_, _], _ => rfl) o_check_marks
  have SH : Sh5 l.prog w K mg base C md := sh5_mk CF T c_check_name c_levels_from c_check_marks c_reached
  have o__law_marks_right : FnG l.prog w K mg base 5 f__law_marks_right fd__law_marks_right ["mine", "model"] (spMarksR C) := ok__law_marks_right F__law_marks_right T c__law_over SH
  have cg__law_marks_right : CalG l.prog w K mg base 5 "_law_marks_right" (spMarksR C) := CalG.of F__law_marks_right g__law_marks_right (F__law_marks_right.binds (ps := ["mine", "model"]) fun _ _ _ _ _ _ us hl => match us, hl with | [_, _], _ => rfl) o__law_marks_right
  have o__law_right : FnG l.prog w K mg base 8 f__law_right fd__law_right ["bag"] spRight := ok__law_right F__law_right T c__law_draw c__law_names c__law_links c__law_pairs c__law_shown c__law_part c__law_over c__law_odd SH cg__law_marks_right
  have cg__law_right : CalG l.prog w K mg base 8 "_law_right" spRight := CalG.of F__law_right g__law_right (F__law_right.binds (ps := ["bag"]) fun _ _ _ _ _ _ us hl => match us, hl with | [_], _ => rfl) o__law_right
  have o__law_large_right : FnG l.prog w K mg base 8 f__law_large_right fd__law_large_right [] spLarge := ok__law_large_right F__law_large_right T c__law_shown c__law_part SH
  have cg__law_large_right : CalG l.prog w K mg base 8 "_law_large_right" spLarge := CalG.of F__law_large_right g__law_large_right (F__law_large_right.binds (ps := []) fun _ _ _ _ _ _ us hl => match us, hl with | [], _ => rfl) o__law_large_right
  exact ok_law F_law T c__law_cell c__law_bag cg__law_right cg__law_large_right
/-! ### the light head -/
def fnL0 : List He.DefD := [dG "_law_cell" s__law_cell, dG "_law_bag" s__law_bag, dG "_law_draw" s__law_draw, dG "_law_name" s__law_name, dG "_law_names" s__law_names, dG "_law_links" s__law_links, dG "_law_pairs" s__law_pairs, dG "_law_shown" s__law_shown, dG "_law_over" s__law_over, dG "_law_part" s__law_part, dG "_law_odd" s__law_odd, dG "is_name" s_is_name, dG "check_name" s_check_name, dG "is_link" s_is_link, dG "bad_link" s_bad_link, dG "reached" s_reached, dG "has_circle" s_has_circle, dG "levels_from" s_levels_from, dG "is_mark" s_is_mark, dG "check_marks" s_check_marks]
def fnL1 : List He.DefD := [dG "_law_marks_right" s__law_marks_right, dG "_law_right" s__law_right, dG "_law_large_right" s__law_large_right, dG "law" s_law, dI, dM "Shape" "__str__" "Shape.__str__" s_Shape___str__, dM "Shape" "__repr__" "Shape.__repr__" s_Shape___repr__, dM "Shape" "__eq__" "Shape.__eq__" s_Shape___eq__, dM "Shape" "part" "Shape.part" s_Shape_part, dM "Shape" "mark" "Shape.mark" s_Shape_mark, dM "Shape" "__contains__" "Shape.__contains__" s_Shape___contains__]
def fnL : List He.DefD := fnL0 ++ (fnL1)
def faL0 : List He.Fa := [.glo "_law_cell", .glo "_law_bag", .glo "_law_draw", .glo "_law_name", .glo "_law_names", .glo "_law_links", .glo "_law_pairs", .glo "_law_shown", .glo "_law_over", .glo "_law_part", .glo "_law_odd", .glo "is_name", .glo "check_name", .glo "is_link", .glo "bad_link", .glo "reached", .glo "has_circle", .glo "levels_from", .glo "is_mark", .glo "check_marks"]
def faL1 : List He.Fa := [.glo "_law_marks_right", .glo "_law_right", .glo "_law_large_right", .glo "law", .free "abs", .free "all", .free "any", .free "enumerate", .free "int", .free "isinstance", .free "len", .free "max", .free "min", .free "range", .free "repr", .free "sorted", .free "str", .free "tuple", .str "_LETTERS" k__LETTERS, .str "_SIGNS" k__SIGNS]
def faL2 : List He.Fa := [.int "_LONGEST" (8)]
def faL : List He.Fa := faL0 ++ (faL1 ++ (faL2))
def looseL0 : List Str := [("RaggedError" : Str), ("InvalidName" : Str), ("InvalidText" : Str), ("InvalidLinks" : Str), ("InvalidMarks" : Str), ("_LETTERS" : Str), ("_SIGNS" : Str), ("_LONGEST" : Str), ("is_name" : Str), ("is_link" : Str), ("check_name" : Str), ("bad_link" : Str), ("reached" : Str), ("has_circle" : Str), ("levels_from" : Str), ("is_mark" : Str), ("check_marks" : Str), ("Shape" : Str), ("_law_cell" : Str), ("_law_bag" : Str), ("_law_draw" : Str), ("_law_name" : Str), ("_law_names" : Str), ("_law_links" : Str), ("_law_over" : Str), ("_law_part" : Str), ("_law_pairs" : Str), ("_law_shown" : Str), ("_law_odd" : Str), ("_law_marks_right" : Str), ("_law_right" : Str), ("_law_large_right" : Str)]
def looseL : List Str := looseL0
def extraL : PySem.W.Frag → Bool := fun K => sh5B K
def ckL : PySem.W.Frag → Bool := fun K => (faL.all fun f => f.ok K) && extraL K
abbrev RRL : PySem.W.OpenRow := PySem.W.OpenLaw.row PySem.Challenge.rw_raggedtotals_k05_whole_parts_of_shapes
abbrev hkL : PySem.W.Hook := hookA 6 ckL fnL gs5
def obL : PySem.W.SharedT → AlC := fun s => obsAG 6 ckL fnL gs5 (HandSHeadRun.getT s)
theorem obL_eq (s : PySem.W.SharedT) : obL s = hkL.obs s.abs := obsAG_eq (HandSHeadRun.getT_eq s)
theorem run1 (w : World) : RLook RRL 30000 w := by intro os; kernel_rfl
theorem run2 (w : World) : RSeen RRL (PySem.W.view RRL.prog [37]) 30000 looseL w := by intro os; kernel_rfl
theorem run3 (w : World) : RKS RRL 30000 6 w (fun K => faL.all fun f => f.ok K) := by intro os; kernel_rfl
theorem run4 (w : World) : RKS RRL 30000 6 w extraL := by intro os; kernel_rfl
theorem run5 (w : World) : RKS RRL 30000 6 w (fun K => fnL.all fun d => d.ok K) := by intro os; kernel_rfl
theorem run6 (w : World) : RFS RRL 30000 6 w fnL := by intro os; kernel_rfl
theorem run7 (w : World) : RGA RRL 30000 6 w gs5 := by intro os; kernel_rfl
theorem runL (w : World) : HandSHeadRun.RunEq RRL (PySem.W.view RRL.prog [37]) hkL obL 30000 looseL w := runEqA_mk (run1 w) (run2 w) (RKS.and (run3 w) (run4 w)) (run5 w) (run6 w) (run7 w)
theorem factsL {w : World} {K : PySem.W.Frag} {h : Heap} {mg : Str → Option Value} {fa : Addr} (X : K.In h) (G : h.Ns mainGlobals mg) (hfa : mg "law" = some (.ref fa)) (c0 : SaysA ckL fnL gs5 K) :
    ∃ fd : FuncData, (∀ (s : Shared) (v : Value), BindsTo s fd ⟨[v], []⟩ [("script", v)]) ∧ ∀ base : Heap, K.In base → base.Ns mainGlobals mg → FnG (PySem.Challenge.rw_raggedtotals_k05_whole_parts_of_shapes).prog w K mg base 9 fa fd ["script"] (spLaw K) := by
  have c := c0.k
  obtain ⟨c1, c2⟩ := He.ba c.chk
  have hf : ∀ (i : Nat) (f : He.Fa), faL[i]? = some f → f.ok K = true := fun i f e => List.all_eq_true.mp c1 f (List.mem_of_getElem? e)
  exact all_mk hfa ⟨He.free_ok X G (hf 24 _ rfl), He.free_ok X G (hf 25 _ rfl), He.free_ok X G (hf 26 _ rfl), He.free_ok X G (hf 27 _ rfl), He.free_ok X G (hf 28 _ rfl), He.free_ok X G (hf 29 _ rfl), He.free_ok X G (hf 30 _ rfl), He.free_ok X G (hf 31 _ rfl), He.free_ok X G (hf 32 _ rfl), He.free_ok X G (hf 33 _ rfl), He.free_ok X G (hf 34 _ rfl), He.free_ok X G (hf 35 _ rfl), He.free_ok X G (hf 36 _ rfl), He.free_ok X G (hf 37 _ rfl), (let ⟨t, e⟩ := He.str_ok X G (hf 38 _ rfl); ⟨_, e, t, rfl⟩), (let ⟨t, e⟩ := He.str_ok X G (hf 39 _ rfl); ⟨_, e, t, rfl⟩), (let ⟨t, e⟩ := He.int_ok X G (hf 40 _ rfl); ⟨_, e, t, rfl⟩)⟩ (sh5F_of X G c c2 (fun g hg => by obtain ⟨i, hi⟩ := List.getElem?_of_mem hg; exact c0.get i hi) 24 25 26 27 28 29 30 rfl rfl rfl rfl rfl rfl rfl) (defAt_of X G c 0 rfl (hf 0 _ rfl)) (defAt_of X G c 1 rfl (hf 1 _ rfl)) (defAt_of X G c 2 rfl (hf 2 _ rfl)) (defAt_of X G c 3 rfl (hf 3 _ rfl)) (defAt_of X G c 4 rfl (hf 4 _ rfl)) (defAt_of X G c 5 rfl (hf 5 _ rfl)) (defAt_of X G c 6 rfl (hf 6 _ rfl)) (defAt_of X G c 7 rfl (hf 7 _ rfl)) (defAt_of X G c 8 rfl (hf 8 _ rfl)) (defAt_of X G c 9 rfl (hf 9 _ rfl)) (defAt_of X G c 10 rfl (hf 10 _ rfl)) (defAt_of X G c 11 rfl (hf 11 _ rfl)) (defAt_of X G c 12 rfl (hf 12 _ rfl)) (defAt_of X G c 13 rfl (hf 13 _ rfl)) (defAt_of X G c 14 rfl (hf 14 _ rfl)) (defAt_of X G c 15 rfl (hf 15 _ rfl)) (defAt_of X G c 16 rfl (hf 16 _ rfl)) (defAt_of X G c 17 rfl (hf 17 _ rfl)) (defAt_of X G c 18 rfl (hf 18 _ rfl)) (defAt_of X G c 19 rfl (hf 19 _ rfl)) (defAt_of X G c 20 rfl (hf 20 _ rfl)) (defAt_of X G c 21 rfl (hf 21 _ rfl)) (defAt_of X G c 22 rfl (hf 22 _ rfl)) (defAt_of X G c 23 rfl (hf 23 _ rfl))
end RT
open PySem PySem.W PySem.Calls PyProof.Rows
set_option maxHeartbeats 0 in
theorem PySem.Challenge.cw_raggedtotals_k05_whole_parts_of_shapes_holds : PySem.Challenge.rw_raggedtotals_k05_whole_parts_of_shapes.Holds := by
  w_on; o_law
  refine HandSHeadRun.head_any (r := OpenLaw.row PySem.Challenge.rw_raggedtotals_k05_whole_parts_of_shapes) (q := view (OpenLaw.row PySem.Challenge.rw_raggedtotals_k05_whole_parts_of_shapes).prog [37]) (H := RT.hkL) (ob := RT.obL) (M := 30000) (loose := RT.looseL) (d := HandSHeadRun.topDef (OpenLaw.row PySem.Challenge.rw_raggedtotals_k05_whole_parts_of_shapes).prog 37) (kwd := []) RT.obL_eq
    (by kernel_rfl) (fun s => by kernel_rfl) RT.runL (by kernel_rfl) (by kernel_rfl) (by kernel_rfl) (by rfl) (by first | assumption | decide +kernel) (by decide +kernel) ⟨rfl, rfl, rfl, rfl, rfl, by decide +kernel⟩ ?hw ?hc
  case hw => w_witness2
  case hc =>
    refine RT.walk_calmE (l := PySem.Challenge.rw_raggedtotals_k05_whole_parts_of_shapes) (n := 63) (k := 9) (x := "script") (sp := RT.spLaw) rfl (by decide) (by kernel_rfl) ⟨rfl, by decide, by decide⟩ ?F (fun K H a ns hl _ hS => ⟨a, ns, rfl, hS, hl, fun _ => rfl⟩)
    intro w mg fa h Y G hmg0
    obtain ⟨K, KX, c⟩ := Y
    have hmg : mg ("law" : PySem.Str) = some (.ref fa) := by
      have e : (HandSHeadRun.topDef (OpenLaw.row PySem.Challenge.rw_raggedtotals_k05_whole_parts_of_shapes).prog 37).name = ("law" : PySem.Str) := by kernel_rfl
      rw [← e]
      exact hmg0
    obtain ⟨fd, hb, hF⟩ := RT.factsL KX G hmg c
    exact ⟨K, fd, KX, hb, hF⟩

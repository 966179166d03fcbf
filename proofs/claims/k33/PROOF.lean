import PyProof.Rows.All
import Wide.All
import OpenK.AllK
import Wide.FinOn
import HandS.ForMost
import HandS.IsInst
import HandS.SortInts
import HandS.Evl
import HandS.Conv
import HandS.Walk
import KE.GoesEnum
import KE.GoesMore
import PyProof.ZipIter
import PyProof.Draws
import KE.KStar
import HandS.Defaults
import HandS.Rev
import HandS.TupAny
import HandS.TupMul
import HandS.Star
import HandS.Style
import HandS.Strs
import HandS.List
import HandS.Flow
import HandS.More
import HandS.Zip
import HandS.TupLe
import HandS.Wide
import PyProof.ListRange
import PyProof.WalkInts
import PyProof.SumWalk
import HandS.ExcValue
import HandS.ExcOwn
import HandS.TupSets
import HandS.SortOrd
import HandS.SortRule
import PyProof.ReprRoads
import HandS.Ends
import HandS.Deep
import HandS.FStr
import PyProof.Rows.StrIntSpec
import HandS.IntHex
import PyProof.StrLawsIn
import KE.KDictZip
import KE.KItemsList
import KE.SortCalls
import HandS.DictTup
import HandS.Small
import HandS.DictComp
import HandS.TupLen
import HandS.Finally
import KE.KDictKeyed
import HandS.CallLocal
import PySem.Challenge.RW_dotquilts_k33_format_words
set_option Elab.async false
set_option linter.all false
set_option maxRecDepth 100000
set_option maxHeartbeats 4000000
namespace My
open PySem PySem.Spec PyProof.Rows L2
/-! ### a dict of the module with int keys -/
inductive EntI : List DictEntry → List (Int × Int) → Prop where
  | nil : EntI [] []
  | cons {k v : Int} {t u : Tok} {es : List DictEntry} {kvs : List (Int × Int)} (h : EntI es kvs) (hk : hashInt k = k := by decide +kernel) : EntI (⟨k, .int k t, .int v u⟩ :: es) ((k, v) :: kvs)
def KInt (K : PySem.W.Frag) (d : Addr) (kvs : List (Int × Int)) : Prop :=
  ∃ (es : Array DictEntry) (n : Nat), K.lookup d = some ⟨.type "dict", none, .dict es n, #[]⟩ ∧ EntI es.toList kvs ∧ (d == sysModules) = false
theorem EntI.all {es : List DictEntry} {kvs : List (Int × Int)} (h : EntI es kvs) : ∀ e ∈ es, ∃ k t, e.key = .int k t ∧ e.hash = hashInt k := by
  induction h with
  | nil => intro e he; cases he
  | cons h hk ih =>
    intro e he
    cases he with
    | head => exact ⟨_, _, rfl, hk.symm⟩
    | tail _ m => exact ih e m
def getI (k : Int) : List (Int × Int) → Option Int
  | [] => none
  | (k', v) :: r => if k' = k then some v else getI k r
theorem EntI.find {es : List DictEntry} {kvs : List (Int × Int)} (h : EntI es kvs) (k : Int) :
    (getI k kvs = none → findBy Value.isInt es.toArray k = none) ∧ (∀ v, getI k kvs = some v → ∃ u, findBy Value.isInt es.toArray k = some (.int v u)) := by
  unfold findBy
  rw [List.find?_toArray]
  induction h with
  | nil => exact ⟨fun _ => rfl, fun v z => by cases z⟩
  | @cons k' v t u es kvs h hk ih =>
    rw [List.find?_cons]
    by_cases e : k' = k
    · have q : Value.isInt k (Value.int k' t) = true := by show (k' == k) = true; simp [e]
      simp only [q]
      refine ⟨fun z => ?_, fun v' z => ?_⟩
      · unfold getI at z; rw [if_pos e] at z; cases z
      · unfold getI at z; rw [if_pos e] at z; cases z; exact ⟨u, rfl⟩
    · have q : Value.isInt k (Value.int k' t) = false := by show (k' == k) = false; simp [e]
      simp only [q]
      unfold getI
      rw [if_neg e]
      exact ih
section
variable {X : Cx} {d : Addr} {kvs : List (Int × Int)}
theorem mapInt_K {prog : Program} {w : World} {K : PySem.W.Frag} {h : Heap} {es : Array DictEntry} {n : Nat} (X : K.In h) (hl : K.lookup d = some ⟨.type "dict", none, .dict es n, #[]⟩) (hk : EntI es.toList kvs) :
    h.MapOf (intKind prog w) d (fun k => findBy Value.isInt es k) :=
  ⟨_, es, n, X _ _ hl, ⟨rfl, rfl, rfl⟩, rfl, fun e he => by
    obtain ⟨x, t, e1, e2⟩ := hk.all e (Array.mem_toList_iff.mpr he)
    exact ⟨x, by rw [e1]; exact intKind_is prog w x t, e2⟩, fun _ => rfl⟩
/-- d[k] -/
def rKI (d : Addr) (kvs : List (Int × Int)) : R2 := fun x y H Q => ∃ k v, x = .ref d ∧ y = .int k ∧ getI k kvs = some v ∧ Q (.int v) H
theorem ix_kint (D : KInt X.K d kvs) : IxR X (rKI d kvs) := by
  intro value slice pins s σ H x y v u Q I rx ry h hs
  obtain ⟨k, r, rfl, rfl, e, q⟩ := h
  obtain ⟨es, n, hl, hk, hd⟩ := D
  obtain rfl : v = Value.ref d := rx
  obtain ⟨t, rfl⟩ := ry
  have hm := mapInt_K (prog := X.prog) (w := X.w) I.kIn hl hk
  obtain ⟨u0, eu⟩ := (hk.find k).2 r e
  exact tail_any hm.typeIs slot_dict_getitem.lookup (wpAny_getItem_of (intKind_is X.prog X.w k t) hm eu ⟨.int r, H, I.tok _, ⟨_, rfl⟩, q⟩) hs
/-- k in d, k not in d -/
def rInKI (d : Addr) (kvs : List (Int × Int)) (neg : Bool) : R2 := fun x y H Q => ∃ k, x = .int k ∧ y = .ref d ∧ Q (.bl (if neg then !(getI k kvs).isSome else (getI k kvs).isSome)) H
theorem find_is {es : Array DictEntry} (hk : EntI es.toList kvs) (k : Int) : (findBy Value.isInt es k).isSome = (getI k kvs).isSome := by
  have q : findBy Value.isInt es k = findBy Value.isInt es.toList.toArray k := by simp
  cases e : getI k kvs with
  | none => rw [q, (hk.find k).1 e] <;> rfl
  | some v =>
    obtain ⟨u, eu⟩ := (hk.find k).2 v e
    rw [q, eu]
    rfl
theorem op_inKI (D : KInt X.K d kvs) : OpR X (compareOp .In) (rInKI d kvs false) := by
  intro pins s σ H x y v u Q I rx ry h
  obtain ⟨k, rfl, rfl, q⟩ := h
  obtain ⟨es, n, hl, hk, hd⟩ := D
  obtain ⟨t, rfl⟩ := rx
  cases ry
  refine wpAny_in_of (intKind_is X.prog X.w k t) hd (mapInt_K (prog := X.prog) (w := X.w) I.kIn hl hk) ?_
  exact ⟨.bl _, H, I.tok _, rfl, by rw [find_is hk]; exact q⟩
theorem op_notInKI (D : KInt X.K d kvs) : OpR X (compareOp .NotIn) (rInKI d kvs true) := by
  intro pins s σ H x y v u Q I rx ry h
  obtain ⟨k, rfl, rfl, q⟩ := h
  obtain ⟨es, n, hl, hk, hd⟩ := D
  obtain ⟨t, rfl⟩ := rx
  cases ry
  refine wpAny_notIn_of (intKind_is X.prog X.w k t) hd (mapInt_K (prog := X.prog) (w := X.w) I.kIn hl hk) ?_
  exact ⟨.bl _, H, I.tok _, rfl, by rw [find_is hk]; exact q⟩
/-- xs + ys, whatever kind of lists stand there (the script, too) -/
def rCatL (K : PySem.W.Frag) : R2 := fun x y H Q => ∃ l b xs zs, x = .ref l ∧ y = .ref b ∧ SqL K H l xs ∧ SqL K H b zs ∧ xs.length + zs.length ≤ sizeLine ∧ ∀ p, H p = none → Q (.ref p) (upd H p (.lst (xs ++ zs)))
theorem op_catL : OpR X (binaryOp .Add) (rCatL X.K) := by
  intro pins s σ H x y v u Q I rx ry h
  obtain ⟨l, b, xs, zs, rfl, rfl, hl, hb, hz, q⟩ := h
  cases rx
  cases ry
  obtain ⟨its, r, ⟨⟨cls, dd, data, sl⟩, n, ho, hc, hd, hs⟩, z1⟩ := I.list hl
  obtain ⟨its2, r2, ⟨⟨cls2, dd2, data2, sl2⟩, n2, ho2, hc2, hd2, hs2⟩, z2⟩ := I.list hb
  have e1 := r.length
  have e2 := r2.length
  simp only at hc hd hs hc2 hd2 hs2
  subst hc hd hs hc2 hd2 hs2
  have e : its.toArray ++ its2.toArray = (its ++ its2).toArray := by simp
  refine concat_meets ⟨_, ho, rfl⟩ ⟨_, ho2, rfl⟩ noFill_list_add seq_list_add PySem.F.slot_list_add PySem.F.entry_list_add (PySem.F.args_list_add_2 _ _) (list_addW l b its.toArray its2.toArray n n2 none none sl sl2 (by simp; omega)) ⟨ho, ho2, ?_⟩
  rw [e]
  exact ⟨.ref _, _, I.lnew (t' := s.toks) (r.append r2) (by rw [List.length_append]; omega), rfl, q _ I.fresh⟩
/-- name op= e, by the in-place operator's rule -/
theorem pip_of {op : Operator} {r : R2} (h : OpR X (inplaceOp op) r) : PIp X op r := h
end
end My

set_option Elab.async false
set_option linter.all false
set_option maxRecDepth 100000
set_option maxHeartbeats 4000000
namespace My
open PySem PySem.Spec PyProof.Rows L2
/-! ### bits of ints that are not negative -/
theorem bx (a b : Nat) : Builtin.bitXor (a : Int) (b : Int) = ((a ^^^ b : Nat) : Int) := by
  have h := Bits.bitXor_pp (x := (a : Int)) (y := (b : Int)) (by omega) (by omega)
  simpa using h
theorem band1 (a : Nat) : Builtin.bitAnd (a : Int) 1 = ((a % 2 : Nat) : Int) := by
  have h := Bits.bitAnd_mask (x := (a : Int)) 1 (by omega)
  simpa using h
/-! ### the field: words as natural numbers -/
def span (b : Nat) : Nat := cond (Nat.beq b 4) 16 256
def foldw (b : Nat) : Nat := cond (Nat.beq b 4) 9 113
def turn (b : Nat) : Nat := cond (Nat.beq b 4) 15 255
def dbl (b x : Nat) : Nat := cond (Nat.blt (2 * x) (span b)) (2 * x) ((2 * x - span b) ^^^ foldw b)
def mulF (b : Nat) : Nat → Nat → Nat → Nat
  | 0, _, _ => 0
  | n + 1, x, y => (cond (Nat.beq (y % 2) 1) x 0) ^^^ mulF b n (dbl b x) (y / 2)
def mul (b x y : Nat) : Nat := mulF b b x y
def pw (b : Nat) : Nat → Nat
  | 0 => 1
  | n + 1 => dbl b (pw b n)
def pws (b : Nat) : List Nat := (List.range (turn b)).map (pw b)
def Wd (b : Nat) : Prop := b = 4 ∨ b = 8
def allB (p : Nat → Nat → Bool) (n : Nat) : Bool := (List.range n).all fun x => (List.range n).all fun y => p x y
theorem allB_ok {p : Nat → Nat → Bool} {n : Nat} (h : allB p n = true) {x y : Nat} (hx : x < n) (hy : y < n) : p x y = true :=
  List.all_eq_true.mp (List.all_eq_true.mp h x (List.mem_range.mpr hx)) y (List.mem_range.mpr hy)
def linB (b : Nat) (x y : Nat) : Bool := Nat.beq (dbl b (x ^^^ y)) (dbl b x ^^^ dbl b y)
theorem lin4 : allB (linB 4) 16 = true := by decide +kernel
theorem lin8 : allB (linB 8) 256 = true := by decide +kernel
theorem dbl_lin {b x y : Nat} (hb : Wd b) (hx : x < span b) (hy : y < span b) : dbl b (x ^^^ y) = dbl b x ^^^ dbl b y := by
  rcases hb with rfl | rfl
  · exact Nat.eq_of_beq_eq_true (allB_ok lin4 hx hy)
  · exact Nat.eq_of_beq_eq_true (allB_ok lin8 hx hy)
theorem dbl_lt {b x : Nat} (hb : Wd b) (hx : x < span b) : dbl b x < span b := by
  rcases hb with rfl | rfl
  · exact (by decide +kernel : ∀ x, x < 16 → dbl 4 x < 16) x hx
  · exact (by decide +kernel : ∀ x, x < 256 → dbl 8 x < 256) x hx
theorem dbl_zero {b : Nat} (hb : Wd b) : dbl b 0 = 0 := by rcases hb with rfl | rfl <;> rfl
theorem span_pow {b : Nat} (hb : Wd b) : span b = 2 ^ b := by rcases hb with rfl | rfl <;> rfl
theorem xor_lt {b x y : Nat} (hb : Wd b) (hx : x < span b) (hy : y < span b) : x ^^^ y < span b := by
  rw [span_pow hb] at *
  exact Nat.xor_lt_two_pow hx hy
theorem mulF_lt {b : Nat} (hb : Wd b) : ∀ (n x y : Nat), x < span b → mulF b n x y < span b
  | 0, _, _, _ => by
    show 0 < span b
    rcases hb with rfl | rfl <;> decide
  | n + 1, x, y, hx => by
    refine xor_lt hb ?_ (mulF_lt hb n _ _ (dbl_lt hb hx))
    cases Nat.beq (y % 2) 1
    · show 0 < span b; rcases hb with rfl | rfl <;> decide
    · exact hx
theorem mulF_zero {b : Nat} (x : Nat) : ∀ n x, mulF b n x 0 = 0
  | 0, _ => rfl
  | n + 1, x => by
    show (0 : Nat) ^^^ mulF b n (dbl b x) 0 = 0
    rw [mulF_zero x n _]
    rfl
theorem zero_mulF {b : Nat} (hb : Wd b) : ∀ n y, mulF b n 0 y = 0
  | 0, _ => rfl
  | n + 1, y => by
    show (cond (Nat.beq (y % 2) 1) 0 0) ^^^ mulF b n (dbl b 0) (y / 2) = 0
    rw [dbl_zero hb, zero_mulF hb n]
    cases Nat.beq (y % 2) 1 <;> rfl
theorem mulF_lin {b : Nat} (hb : Wd b) : ∀ (n x z y : Nat), x < span b → z < span b → mulF b n (x ^^^ z) y = mulF b n x y ^^^ mulF b n z y
  | 0, _, _, _, _, _ => by
    show (0 : Nat) = 0 ^^^ 0
    rfl
  | n + 1, x, z, y, hx, hz => by
    show (cond (Nat.beq (y % 2) 1) (x ^^^ z) 0) ^^^ mulF b n (dbl b (x ^^^ z)) (y / 2) = ((cond (Nat.beq (y % 2) 1) x 0) ^^^ mulF b n (dbl b x) (y / 2)) ^^^ ((cond (Nat.beq (y % 2) 1) z 0) ^^^ mulF b n (dbl b z) (y / 2))
    rw [dbl_lin hb hx hz, mulF_lin hb n _ _ _ (dbl_lt hb hx) (dbl_lt hb hz)]
    cases Nat.beq (y % 2) 1
    · simp
    · show (x ^^^ z) ^^^ (_ ^^^ _) = (x ^^^ _) ^^^ (z ^^^ _)
      ac_rfl
theorem mulF_dbl {b : Nat} (hb : Wd b) : ∀ (n x y : Nat), x < span b → mulF b n (dbl b x) y = dbl b (mulF b n x y)
  | 0, _, _, _ => (dbl_zero hb).symm
  | n + 1, x, y, hx => by
    show (cond (Nat.beq (y % 2) 1) (dbl b x) 0) ^^^ mulF b n (dbl b (dbl b x)) (y / 2) = dbl b ((cond (Nat.beq (y % 2) 1) x 0) ^^^ mulF b n (dbl b x) (y / 2))
    rw [mulF_dbl hb n _ _ (dbl_lt hb hx)]
    cases Nat.beq (y % 2) 1
    · simp
    · show dbl b x ^^^ _ = dbl b (x ^^^ _)
      rw [dbl_lin hb hx (mulF_lt hb _ _ _ (dbl_lt hb hx))]
theorem one_mul {b y : Nat} (hb : Wd b) (hy : y < span b) : mul b 1 y = y := by
  rcases hb with rfl | rfl
  · exact (by decide +kernel : ∀ x, x < 16 → mul 4 1 x = x) y hy
  · exact (by decide +kernel : ∀ x, x < 256 → mul 8 1 x = x) y hy
theorem pw_lt {b : Nat} (hb : Wd b) : ∀ n, pw b n < span b
  | 0 => by rcases hb with rfl | rfl <;> decide
  | n + 1 => dbl_lt hb (pw_lt hb n)
theorem mul_lt {b x y : Nat} (hb : Wd b) (hx : x < span b) : mul b x y < span b := mulF_lt hb _ _ _ hx
theorem pw_mul {b : Nat} (hb : Wd b) (j : Nat) : ∀ i, mul b (pw b i) (pw b j) = pw b (i + j)
  | 0 => by rw [Nat.zero_add]; exact one_mul hb (pw_lt hb j)
  | i + 1 => by
    show mulF b b (dbl b (pw b i)) (pw b j) = _
    rw [mulF_dbl hb _ _ _ (pw_lt hb i)]
    have h := pw_mul hb j i
    unfold mul at h
    rw [h, show i + 1 + j = (i + j) + 1 by omega]
    rfl
theorem pw_turn {b : Nat} (hb : Wd b) : pw b (turn b) = 1 := by rcases hb with rfl | rfl <;> decide +kernel
theorem pw_add_turn {b : Nat} (hb : Wd b) (i : Nat) : pw b (i + turn b) = pw b i := by
  rw [← pw_mul hb, pw_turn hb]
  have h := pw_mul hb 0 i
  exact h
theorem pw_add_mul {b : Nat} (hb : Wd b) (i : Nat) : ∀ k, pw b (i + k * turn b) = pw b i
  | 0 => by rw [Nat.zero_mul, Nat.add_zero]
  | k + 1 => by
    rw [Nat.succ_mul, ← Nat.add_assoc, pw_add_turn hb, pw_add_mul hb i k]
theorem pw_mod {b : Nat} (hb : Wd b) (i : Nat) : pw b i = pw b (i % turn b) := by
  have h := pw_add_mul hb (i % turn b) (i / turn b)
  have e : i % turn b + i / turn b * turn b = i := by
    have := Nat.mod_add_div i (turn b)
    rw [Nat.mul_comm] at this
    exact this
  rw [e] at h
  exact h
def lg (b x : Nat) : Nat := (pws b).idxOf x
def memB (b : Nat) (x : Nat) : Bool := Nat.beq x 0 || (pws b).any fun y => Nat.beq x y
theorem mem_pws {b x : Nat} (hb : Wd b) (hx : x < span b) (h0 : x ≠ 0) : x ∈ pws b := by
  have q : memB b x = true := by
    rcases hb with rfl | rfl
    · exact List.all_eq_true.mp (by decide +kernel : ((List.range 16).all fun x => memB 4 x) = true) x (List.mem_range.mpr hx)
    · exact List.all_eq_true.mp (by decide +kernel : ((List.range 256).all fun x => memB 8 x) = true) x (List.mem_range.mpr hx)
  rcases (Bool.or_eq_true _ _).mp q with h | h
  · exact absurd (Nat.eq_of_beq_eq_true h) h0
  · obtain ⟨y, hy, e⟩ := List.any_eq_true.mp h
    rw [Nat.eq_of_beq_eq_true e]
    exact hy
theorem pws_len (b : Nat) : (pws b).length = turn b := by simp [pws]
theorem pws_at {b i : Nat} (h : i < turn b) : (pws b)[i]? = some (pw b i) := by
  simp [pws, h]
theorem lg_lt {b x : Nat} (hb : Wd b) (hx : x < span b) (h0 : x ≠ 0) : lg b x < turn b := by
  rw [← pws_len b]
  exact List.idxOf_lt_length_of_mem (mem_pws hb hx h0)
theorem pw_lg {b x : Nat} (hb : Wd b) (hx : x < span b) (h0 : x ≠ 0) : pw b (lg b x) = x := by
  have h := lg_lt hb hx h0
  have e := pws_at h
  have e2 : (pws b)[lg b x]? = some x := by
    unfold lg
    rw [List.getElem?_eq_getElem (List.idxOf_lt_length_of_mem (mem_pws hb hx h0)), List.getElem_idxOf]
  rw [e] at e2
  exact Option.some.inj e2
theorem pw_ne {b : Nat} (hb : Wd b) (i : Nat) : pw b i ≠ 0 := by
  intro h
  have e := pw_mul hb ((turn b - i % turn b)) (i % turn b)
  rw [← pw_mod hb i, h] at e
  have ht : i % turn b < turn b := Nat.mod_lt _ (by rcases hb with rfl | rfl <;> decide)
  rw [show i % turn b + (turn b - i % turn b) = turn b by omega, pw_turn hb] at e
  unfold mul at e
  rw [zero_mulF hb] at e
  cases e
/-- before its place a word does not stand in the list of powers -/
theorem lg_first {b x m z : Nat} (hm : m < lg b x) (hz : (pws b)[m]? = some z) : z ≠ x := by
  intro e
  subst e
  have := List.not_of_lt_findIdx (xs := pws b) (p := (· == z)) (i := m) hm
  obtain ⟨hl, he⟩ := List.getElem?_eq_some_iff.mp hz
  simp [he] at this
theorem mul_comm {b x y : Nat} (hb : Wd b) (hx : x < span b) (hy : y < span b) : mul b x y = mul b y x := by
  by_cases h1 : x = 0
  · subst h1
    unfold mul
    rw [zero_mulF hb, mulF_zero 0]
  · by_cases h2 : y = 0
    · subst h2
      unfold mul
      rw [zero_mulF hb, mulF_zero 0]
    · rw [← pw_lg hb hx h1, ← pw_lg hb hy h2, pw_mul hb, pw_mul hb, Nat.add_comm]
theorem mulF_more {b : Nat} : ∀ (n x y : Nat), y < 2 ^ n → ∀ m, n ≤ m → mulF b m x y = mulF b n x y
  | 0, x, y, h, m, _ => by
    have : y = 0 := by simpa using h
    subst this
    rw [mulF_zero 0]
    rfl
  | n + 1, x, y, h, m, hm => by
    cases m with
    | zero => omega
    | succ m =>
      show (cond (Nat.beq (y % 2) 1) x 0) ^^^ mulF b m (dbl b x) (y / 2) = (cond (Nat.beq (y % 2) 1) x 0) ^^^ mulF b n (dbl b x) (y / 2)
      rw [mulF_more n _ _ (by rw [Nat.pow_succ] at h; omega) m (by omega)]
end My

set_option Elab.async false
set_option linter.all false
set_option maxRecDepth 100000
set_option maxHeartbeats 4000000
/-! ### enumerate of a tuple -/
namespace EnT
open PySem PySem.Spec PyProof.Rows
theorem meets_enumerate_newT (l : Addr) (items : Array Value) (n : Nat) (dct : Option Addr) (sl : Array (Option Value)) :
    Meets (Builtin.«enumerate.__new__» ⟨[.type "enumerate", .ref l], []⟩) (fun _ R s => s.heap.get? l = some { cls := .type "tuple", dict := dct, data := .seq items n, slots := sl } ∧
      R (.ok (.ret (.ref (s.heap.push { cls := .type "tuple_iterator", data := .fields #[.ref l, .int 0 0] }).objs.size)))
        { s with heap := (s.heap.push { cls := .type "tuple_iterator", data := .fields #[.ref l, .int 0 0] }).push { cls := .type "enumerate", data := .fields #[.none, .bool false, .ref s.heap.objs.size, rawInt 0, .none, .none] } }) :=
  .of_wp fun prog w A R s h => by
    obtain ⟨hp, g, d, tk, os⟩ := s; obtain ⟨hl, h⟩ := h
    have hsub := sub_enumerate
    have hL : Heap.IsTuple (Shared.heap ⟨hp, g, d, tk, os⟩) l items := ⟨_, hl, rfl, n, rfl⟩
    wp_walk using wpAny_loadPart' hl
    refine wpAny_stack_any fun st => wpAny_pure ?_
    split
    · rename_i c _ _ _ _ _
      cases (c == Value.type "enumerate")
      · wp_walk using wpAny_loadPart' hl, wpAny_pyIter_tuple hL
        exact ⟨_, rfl, h⟩
      · wp_walk using wpAny_loadPart' hl, wpAny_pyIter_tuple hL
        exact ⟨_, rfl, h⟩
    · wp_walk using wpAny_loadPart' hl, wpAny_pyIter_tuple hL
      exact ⟨_, rfl, h⟩
theorem call_enumerate_tuple {prog : Program} {w : World} {A : Around} {E : Value → Shared → Prop} {s : Shared} {l : Addr} {items : Array Value} {Q : Value → Shared → Prop} (hL : s.heap.IsTuple l items)
    (h : ∀ h', IsEnum h' (s.heap.objs.size + 1) s.heap.objs.size 0 .none → h'.IsTupleIter s.heap.objs.size l 0 → h'.objs.size = s.heap.objs.size + 2 →
      (∀ b o, s.heap.get? b = some o → h'.get? b = some o) → Q (.ref (s.heap.objs.size + 1)) { s with heap := h' }) :
    wpAny (model prog w) A (call (.type "enumerate") [.ref l]) Q E s := by
  obtain ⟨⟨c, dct, dt, sl⟩, hl, hc, n, hd⟩ := hL
  replace hc : c = .type "tuple" := hc
  replace hd : dt = .seq items n := hd
  subst hc hd
  refine callType_new F.called_enumerate (by decide) (F.typeCall_enumerate_1 _) (F.newCall_enumerate_1 _) (fun obj => F.args_object_init_2 obj _) F.entry_enumerate_new
    (meets_enumerate_newT l items n dct sl) ⟨hl, ?_⟩
  have hz : (s.heap.push { cls := .type "tuple_iterator", data := .fields #[.ref l, .int 0 0] }).objs.size = s.heap.objs.size + 1 := Heap.size_push ..
  show _ ∧ _
  rw [hz]
  have he : IsEnum ((s.heap.push { cls := .type "tuple_iterator", data := .fields #[.ref l, .int 0 0] }).push
      { cls := .type "enumerate", data := .fields #[.none, .bool false, .ref s.heap.objs.size, rawInt 0, .none, .none] }) (s.heap.objs.size + 1) s.heap.objs.size 0 .none := by
    have := Heap.get?_push_size (s.heap.push { cls := .type "tuple_iterator", data := .fields #[.ref l, .int 0 0] })
      (o := { cls := .type "enumerate", data := .fields #[.none, .bool false, .ref s.heap.objs.size, rawInt 0, .none, .none] }) rfl
    rw [hz] at this; exact this
  refine ⟨⟨_, he, rfl⟩, h _ he ⟨_, Heap.get?_push_of_some _ (Heap.get?_push_size _ rfl), rfl, rfl⟩ (by rw [Heap.size_push, hz]) fun b o x => Heap.get?_push_of_some _ (Heap.get?_push_of_some _ x)⟩
open L2
def IteT (K : PySem.W.Frag) (a : Addr) : It :=
  ⟨fun i H => ∃ (xs : List V) (x : V), SqT K H a xs ∧ xs[i]? = some x, fun i H v H' => ∃ T x, v = .ref T ∧ H T = none ∧ H' = upd H T (.tup [.int (i : Nat), x]) ∧ ∀ xs, SqT K H a xs → xs[i]? = some x, fun i H => ∃ xs : List V, SqT K H a xs ∧ xs.length = i⟩
theorem turn_enumT {P : Program} {w : World} {K : PySem.W.Frag} {elts : List Expr} {kk : Nat} {tpos : Pos} (a e it : Addr) :
    Turn P w K (.Tuple elts kk tpos) (IteT K a) [e, it] e (fun i h => (∃ old, IsEnum h e it ((i : Nat) : Int) old) ∧ h.IsTupleIter it a i ∧ e ≠ it ∧ a ≠ it ∧ e ≠ a) where
  mem := by simp
  obj := fun i h st b hb => by
    obtain ⟨⟨old, he⟩, ⟨o, ho, hc, hd⟩, _⟩ := st
    have e' : b = e ∨ b = it := by simpa using hb
    rcases e' with z | z
    · rw [z]; exact ⟨_, he, fun v q => nomatch q⟩
    · rw [z]; exact ⟨o, ho, fun v q => by rw [hd] at q; cases q⟩
  keep := fun i h h' st k => let ⟨⟨old, he⟩, hi, hne⟩ := st; ⟨⟨old, k e (by simp) _ he⟩, hi.at fun o q => k it (by simp) o q, hne⟩
  item := by
    intro X hP hw hK hc i pins s σ H E I hf st hg
    subst hP hw hK
    obtain ⟨⟨old, he⟩, hit, hne, hai, hea⟩ := st
    obtain ⟨xs, x, hq, hx⟩ := hg
    obtain ⟨its, rv, p, hz⟩ := I.tuple hq
    obtain ⟨u, hu, ru⟩ := rv.get hx
    have hel : e < s.heap.objs.size := Heap.lt_size he
    have hil : it < s.heap.objs.size := by obtain ⟨_, q, _⟩ := hit; exact Heap.lt_size q
    have hin : i < its.toArray.size := by
      have := (List.getElem?_eq_some_iff.mp hu).1
      simpa using this
    have hd0 : X.A.in1.handled = none := I.ok.hd hc
    refine wpAny_pyNext_enum_itemC (Draws.tuple hd0 it a hai its.toArray) he ⟨hit, p⟩ hin hne (by simp [hne, hea]) fun y h' tk hy ho hst' hT hsz hk => ?_
    obtain rfl : y = u := by
      have : its.toArray[i]? = some y := hy
      simp at this
      rw [hu] at this
      exact (Option.some.inj this).symm
    have hit' := hst'.1
    refine ⟨_, rfl, wpAny_letOwnedTupleGo_enum (s := { s with heap := h', toks := tk + 1 }) ho fun h'' he' sb => ?_⟩
    have hT2 : h''.get? s.heap.objs.size = some { cls := .type "tuple", data := .seq #[.int i tk, y] } := (sb.2 _ (Nat.ne_of_gt hel)).trans hT
    have new : ObjOk X.prog X.w (upd H s.heap.objs.size (.tup [.int (i : Nat), x])) h'' s.heap.objs.size (.tup [.int (i : Nat), x]) :=
      ⟨by show 2 ≤ sizeLine; decide, [.int i tk, y], .cons ⟨_, rfl⟩ (.cons ru .nil), ⟨_, hT2, rfl, _, rfl⟩⟩
    have I1 : Inv X pins σ (upd H s.heap.objs.size (.tup [.int (i : Nat), x])) { s with heap := h'', toks := tk + 1 } :=
      I.turnedNew (ch := [e, it]) (fun b ob hb q => (sb.2 b (fun z => hb (by simp [z]))).trans (hk b ob (fun z => hb (by simp [z])) (fun z => hb (by simp [z])) q)) hf (Nat.le_refl _) new
    refine ⟨.ref s.heap.objs.size, _, I1, rfl, ⟨_, x, rfl, I.hok.fresh (Nat.le_refl _), rfl, fun ys hy => by rw [I.tuple_inj hy hq]; exact hx⟩, ⟨⟨y, ?_⟩, hit'.at fun o q => (sb.2 it (Ne.symm hne)).trans q, hne, hai, hea⟩, fun b hb => ?_⟩
    · have e1 : ((i + 1 : Nat) : Int) = (i : Int) + 1 := by omega
      rw [e1]; exact he'
    · have hb' : b < s.heap.objs.size := by
        have e' : b = e ∨ b = it := by simpa using hb
        rcases e' with z | z
        · rw [z]; exact hel
        · rw [z]; exact hil
      rw [upd_ne (Nat.ne_of_lt hb')]
      exact (hf b hb).1
  done := by
    intro X hP hw hK hc i pins s σ H E I hf st hg
    subst hP hw hK
    obtain ⟨⟨old, he⟩, hit, hne, hai, hea⟩ := st
    obtain ⟨xs, hq, hx⟩ := hg
    obtain ⟨its, rv, p, hz⟩ := I.tuple hq
    obtain ⟨f0, f1, f2, f3, f4, f5⟩ := hf it (by simp)
    have hl := rv.length
    have hd0 : X.A.in1.handled = none := I.ok.hd hc
    have en : its.toArray.size = i := by simp; omega
    have hst : s.heap.IsTupleIter it a its.toArray.size ∧ s.heap.IsTuple a its.toArray := ⟨by rw [en]; exact hit, p⟩
    exact wpAny_pyNext_enum_endD (Draws.tuple hd0 it a hai its.toArray) he hst fun h' eb => ⟨rfl, I.turned (t' := s.toks) (fun b o hb q => eb b o hb q) f0 f1 f3 f4 f5⟩
  self := fun A i s Q E st h => let ⟨⟨_, he⟩, _⟩ := st; wpAny_pyIter_enum he h
def iEnumT (K : PySem.W.Frag) (ta : TA) : TI := fun σ H R => ta σ H fun vs H1 => ∃ a xs, vs = [.ref a] ∧ SqT K H1 a xs ∧ R (IteT K a) H1
theorem pi_enumT {X : Cx} {e : Expr} {ta : TA} {p pos tpos : Pos} {elts : List Expr} {kk : Nat} (hg : Gl X "enumerate") (hm : X.mg "enumerate" = none) (ha : PA X [e] ta) (hs : starEach [e] X.env = [(false, eval e X.env)] := by rfl) :
    PI X (.Tuple elts kk tpos) (.Call (.Name "enumerate" p) [e] [] pos) (iEnumT X.K ta) := by
  refine ⟨fun pins s σ H R I h => ?_⟩
  refine Call_ (ld_blt I hg hm boot_enumerate (PyProof.Rows.callWith_type1 (thn (ha.run pos pins s σ H _ I h) fun us s1 ⟨vs, H1, I1, r1, q1⟩ => ?_) hs rfl))
  obtain ⟨a, xs, ex, hq, q⟩ := q1
  subst ex
  cases r1 with
  | cons r rr =>
    cases rr
    cases r
    obtain ⟨its, rv, p', hz⟩ := I1.tuple hq
    have hal : a < s1.heap.objs.size := by obtain ⟨_, q, _⟩ := p'; exact Heap.lt_size q
    refine call_enumerate_tuple p' fun h' he hit hsz hk => wpAny_pyIter_enum he ?_
    have I2 : Inv X pins σ H1 { s1 with heap := h' } := I1.kept (t' := s1.toks) hk
    refine ⟨s1.heap.objs.size + 1, [s1.heap.objs.size + 1, s1.heap.objs.size], _, _, H1, rfl, I2, turn_enumT a (s1.heap.objs.size + 1) s1.heap.objs.size, ⟨⟨.none, he⟩, hit, Nat.succ_ne_self _, Nat.ne_of_lt hal, Nat.ne_of_gt (Nat.lt_succ_of_lt hal)⟩, fun b hb => ?_, q⟩
    have e' : b = s1.heap.objs.size + 1 ∨ b = s1.heap.objs.size := by simpa using hb
    have hle : s1.heap.objs.size ≤ b := by
      rcases e' with z | z
      · rw [z]; exact Nat.le_add_right _ _
      · rw [z]; exact Nat.le_refl _
    exact I1.fpOk hle (I1.hok.fresh hle)
theorem walk_enumT {K : PySem.W.Frag} {a : Addr} {xs : List V} : Walk (IteT K a) xs.length (fun H => SqT K H a xs) (YPair (fun i => some (.int (i : Nat))) (fun i => xs[i]?)) where
  goes := fun i H hi h => ⟨xs, xs[i], h, List.getElem?_eq_getElem hi⟩
  stops := fun H h => ⟨xs, h, rfl⟩
  yields := fun i H x H' hi h y => by
    obtain ⟨T, z, e1, e2, e3, e4⟩ := y
    exact ⟨T, _, z, e1, e2, e3, rfl, e4 xs h⟩
end EnT

set_option Elab.async false
set_option linter.all false
set_option maxRecDepth 100000
set_option maxHeartbeats 4000000
/-! ### rows: lists (true) and tuples (false) in one -/
namespace My
open PySem PySem.Spec PyProof.Rows L2
def SqB (b : Bool) (K : PySem.W.Frag) (H : Hp) (a : Addr) (xs : List V) : Prop := if b = true then SqL K H a xs else SqT K H a xs
def ItB (b : Bool) (K : PySem.W.Frag) (a : Addr) : It := if b = true then Itl K a else Itt K a
def IteB (b : Bool) (K : PySem.W.Frag) (a : Addr) : It := if b = true then Ite K a else EnT.IteT K a
section
variable {b : Bool} {K : PySem.W.Frag} {H H' : Hp} {a : Addr} {xs : List V}
theorem SqB.or (h : SqB b K H a xs) : SqL K H a xs ∨ SqT K H a xs := by
  cases b
  · exact .inr h
  · exact .inl h
theorem Same.sqt (e : Same H H') (h : SqT K H a xs) : SqT K H' a xs := by
  rcases h with (h | ⟨o, h⟩) | h
  · exact .inl (.inl (e _ _ h))
  · exact .inl (.inr ⟨o, e _ _ h⟩)
  · exact .inr h
theorem Same.sqb (e : Same H H') (h : SqB b K H a xs) : SqB b K H' a xs := by
  cases b
  · exact Same.sqt e h
  · exact e.seq h
theorem SqB.lst (h : H a = some (.lst xs)) : SqB true K H a xs := .inl (.inl h)
theorem SqB.tup (h : H a = some (.tup xs)) : SqB false K H a xs := .inl (.inl h)
theorem SqB.ty (h : SqB b K H a xs) : TyX K H (.ref a) (.type (if b = true then "list" else "tuple")) := by
  cases b
  · rcases h with (h | ⟨o, h⟩) | ⟨o, its, n, hk, hc, _⟩
    · exact .base (.tup h)
    · exact .fTuple h
    · exact .kTuple hk hc
  · rcases h with (h | ⟨o, h⟩) | ⟨o, its, n, hk, hc, _⟩
    · exact .base (.lst h)
    · exact .base (.frz h)
    · exact .kList hk hc
theorem walk_seq : Walk (ItB b K a) xs.length (fun H => SqB b K H a xs) (YAt xs) := by
  cases b
  · exact walk_tup
  · exact walk_list
theorem walk_enumS : Walk (IteB b K a) xs.length (fun H => SqB b K H a xs) (YPair (fun i => some (.int (i : Nat))) (fun i => xs[i]?)) := by
  cases b
  · exact EnT.walk_enumT
  · exact walk_enum
end
section
variable {X : Cx} {tg : Expr}
def iSeq (K : PySem.W.Frag) (tl : TE) : TI := fun σ H R => tl σ H fun x H1 => ∃ a xs b, x = .ref a ∧ SqB b K H1 a xs ∧ R (ItB b K a) H1
theorem pi_seq {l : Expr} {tl : TE} (hl : PE X l tl) : PI X tg l (iSeq X.K tl) := by
  refine ⟨fun pins s σ H R I h => ?_⟩
  refine thn (hl.run pins s σ H _ I h) fun v s1 ⟨x, H1, I1, r1, q1⟩ => ?_
  obtain ⟨a, xs, b, e, hq, q⟩ := q1
  subst e
  cases r1
  cases b
  · obtain ⟨its, rv, p, hz⟩ := I1.tuple hq
    refine wpAny_pyIter_tuple (show s1.heap.IsTuple a its.toArray from p) ?_
    refine ⟨s1.heap.objs.size, [s1.heap.objs.size], _, _, H1, rfl, I1.kept (t' := s1.toks) fun b o e => Heap.get?_push_of_some _ e, turn_tuple a _, ⟨_, Heap.get?_push_size _ rfl, rfl, rfl⟩, fun b hb => ?_, q⟩
    have e : b = s1.heap.objs.size := by simpa using hb
    subst e
    exact I1.fpOk (Nat.le_refl _) (I1.hok.fresh (Nat.le_refl _))
  · obtain ⟨its, rv, p, hz⟩ := I1.list hq
    refine wpAny_pyIter_list p.isList ?_
    refine ⟨s1.heap.objs.size, [s1.heap.objs.size], _, _, H1, rfl, I1.kept (t' := s1.toks) fun b o e => Heap.get?_push_of_some _ e, turn_list a _, ⟨_, Heap.get?_push_size _ rfl, rfl, rfl⟩, fun b hb => ?_, q⟩
    have e : b = s1.heap.objs.size := by simpa using hb
    subst e
    exact I1.fpOk (Nat.le_refl _) (I1.hok.fresh (Nat.le_refl _))
def iEnumS (K : PySem.W.Frag) (ta : TA) : TI := fun σ H R => ta σ H fun vs H1 => ∃ a xs b, vs = [.ref a] ∧ SqB b K H1 a xs ∧ R (IteB b K a) H1
theorem pi_enumS {e : Expr} {ta : TA} {p pos tpos : Pos} {elts : List Expr} {kk : Nat} (hg : Gl X "enumerate") (hm : X.mg "enumerate" = none) (ha : PA X [e] ta) (hs : starEach [e] X.env = [(false, eval e X.env)] := by rfl) :
    PI X (.Tuple elts kk tpos) (.Call (.Name "enumerate" p) [e] [] pos) (iEnumS X.K ta) := by
  refine ⟨fun pins s σ H R I h => ?_⟩
  refine Call_ (ld_blt I hg hm boot_enumerate (PyProof.Rows.callWith_type1 (thn (ha.run pos pins s σ H _ I h) fun us s1 ⟨vs, H1, I1, r1, q1⟩ => ?_) hs rfl))
  obtain ⟨a, xs, b, ex, hq, q⟩ := q1
  subst ex
  cases r1 with
  | cons r rr =>
    cases rr
    cases r
    cases b
    · obtain ⟨its, rv, p', hz⟩ := I1.tuple hq
      have hal : a < s1.heap.objs.size := by obtain ⟨_, q, _⟩ := p'; exact Heap.lt_size q
      refine EnT.call_enumerate_tuple p' fun h' he hit hsz hk => wpAny_pyIter_enum he ?_
      have I2 : Inv X pins σ H1 { s1 with heap := h' } := I1.kept (t' := s1.toks) hk
      refine ⟨s1.heap.objs.size + 1, [s1.heap.objs.size + 1, s1.heap.objs.size], _, _, H1, rfl, I2, EnT.turn_enumT a (s1.heap.objs.size + 1) s1.heap.objs.size, ⟨⟨.none, he⟩, hit, Nat.succ_ne_self _, Nat.ne_of_lt hal, Nat.ne_of_gt (Nat.lt_succ_of_lt hal)⟩, fun b hb => ?_, q⟩
      have e' : b = s1.heap.objs.size + 1 ∨ b = s1.heap.objs.size := by simpa using hb
      have hle : s1.heap.objs.size ≤ b := by
        rcases e' with z | z
        · rw [z]; exact Nat.le_add_right _ _
        · rw [z]; exact Nat.le_refl _
      exact I1.fpOk hle (I1.hok.fresh hle)
    · obtain ⟨its, rv, p', hz⟩ := I1.list hq
      refine call_enumerate_list p'.isList fun h' he hit hsz hk => wpAny_pyIter_enum he ?_
      have I2 : Inv X pins σ H1 { s1 with heap := h' } := I1.kept (t' := s1.toks) hk
      refine ⟨s1.heap.objs.size + 1, [s1.heap.objs.size + 1, s1.heap.objs.size], _, _, H1, rfl, I2, turn_enum a (s1.heap.objs.size + 1) s1.heap.objs.size, ⟨⟨.none, he⟩, hit, Nat.succ_ne_self _⟩, fun b hb => ?_, q⟩
      have e' : b = s1.heap.objs.size + 1 ∨ b = s1.heap.objs.size := by simpa using hb
      have hle : s1.heap.objs.size ≤ b := by
        rcases e' with z | z
        · rw [z]; exact Nat.le_add_right _ _
        · rw [z]; exact Nat.le_refl _
      exact I1.fpOk hle (I1.hok.fresh hle)
/-- xs[i] of a list or a tuple -/
def rIxB (K : PySem.W.Frag) : R2 := fun x y H Q => ∃ p xs i v b, x = .ref p ∧ y = .int i ∧ SqB b K H p xs ∧ atI xs i = some v ∧ Q v H
theorem ix_rowB : IxR X (rIxB X.K) := by
  intro value slice pins s σ H x y v u Q I rx ry h hs
  obtain ⟨p, xs, i, z, b, rfl, rfl, hq, ha, q⟩ := h
  refine ix_seq value slice pins s σ H _ _ v u Q I rx ry ?_ hs
  cases b
  · exact .inr (.inl ⟨p, xs, i, z, rfl, rfl, hq, ha, q⟩)
  · exact .inl ⟨p, xs, i, z, rfl, rfl, hq, ha, q⟩
end
end My

set_option Elab.async false
set_option linter.all false
set_option maxRecDepth 100000
set_option maxHeartbeats 4000000
namespace My
open PySem PySem.Spec PyProof.Rows L2
section
variable {X : Cx}
/-- xs[i] of a list, by the item's own rule (for xs[i] op= e) -/
def rGetL (K : PySem.W.Frag) : V → V → Hp → VK → Prop := fun x y H Q => ∃ p xs v, ∃ j : Nat, x = .ref p ∧ y = .int (j : Int) ∧ SqL K H p xs ∧ xs[j]? = some v ∧ Q v H
theorem get_list : PGet X (rGetL X.K) := by
  intro pins s σ H x y v u Q I rx ry h
  obtain ⟨p, xs, z, j, rfl, rfl, hq, he, q⟩ := h
  cases rx
  obtain ⟨t, rfl⟩ := ry
  obtain ⟨its, r, pl, hz⟩ := I.list hq
  obtain ⟨w, ew, rw'⟩ := r.get he
  have hl := r.length
  have hn := line63
  have hj : j < xs.length := (List.getElem?_eq_some_iff.mp he).1
  exact wpAny_getItem_list pl.isList (by omega) (by omega) (by simpa using ew) ⟨z, H, I, rw', q⟩
end
end My

set_option Elab.async false
set_option linter.all false
set_option maxRecDepth 100000
set_option maxHeartbeats 1000000
/-! ### two values the other way round -/
namespace My
open PySem PySem.Spec PyProof.Rows L2
/-- two values the other way round -/
def rev2 {α : Type} : List α → List α
  | [a, b] => [b, a]
  | l => l
theorem rev2_rel {zs : List V} {ws : List Value} (r : Vals zs ws) : Vals (rev2 zs) (rev2 ws) := by
  cases r with
  | nil => exact .nil
  | cons r1 r =>
    cases r with
    | nil => exact .cons r1 .nil
    | cons r2 r =>
      cases r with
      | nil => exact .cons r2 (.cons r1 .nil)
      | cons r3 r => exact .cons r1 (.cons r2 (.cons r3 r))
end My

set_option Elab.async false
set_option linter.all false
set_option maxRecDepth 100000
set_option maxHeartbeats 1000000
/-! ### zip of any number of lists -/
namespace My
open PySem
open PySem.Sem (wp)
section
variable {prog : Program} {w : World} {A : Around} {E : Value → Shared → Prop}
/-- a for over a list, with a word for each turn -/
theorem wp_for {α β : Type} {f : α → β → Sem (ForInStep β)} {Q : β → Shared → Prop} (W : Nat → β → Shared → Prop) : ∀ (l : List α) (k : Nat) (b : β) (s : Shared),
    (∀ j x b s, l[j]? = some x → W (k + j) b s → wpAny (model prog w) A (f x b) (fun r s' => ∃ b', r = .yield b' ∧ W (k + j + 1) b' s') E s) → W k b s → (∀ b s, W (k + l.length) b s → Q b s) → wpAny (model prog w) A (forIn l b f) Q E s
  | [], k, b, s, _, h0, hq => by
    rw [List.forIn_nil]
    exact wpAny_pure (hq b s h0)
  | x :: l, k, b, s, hs, h0, hq => by
    rw [List.forIn_cons]
    refine wpAny_bind (wpAny_mono (hs 0 x b s rfl h0) (fun r s' h => ?_) fun _ _ h => h)
    obtain ⟨b', e, h1⟩ := h
    subst e
    refine wp_for W l (k + 1) b' s' (fun j y b2 s2 hy h2 => ?_) h1 (fun b2 s2 h2 => hq b2 s2 ?_)
    · have e : k + 1 + j = k + (j + 1) := by omega
      rw [e] at h2 ⊢
      exact hs (j + 1) y b2 s2 (by simpa using hy) h2
    · have e : k + 1 + l.length = k + (x :: l).length := by rw [List.length_cons]; omega
      rw [← e]
      exact h2
/-- the iterators of a zip, made one behind the other -/
theorem wp_iterAll {L : List Addr} {s : Shared} {Q : List Value → Shared → Prop} (hl : ∀ l ∈ L, ∃ xs, s.heap.IsList l xs)
    (hq : ∀ h', h'.objs.size = s.heap.objs.size + L.length → (∀ j l, L[j]? = some l → h'.IsListIter (s.heap.objs.size + j) l 0) → (∀ c o, s.heap.get? c = some o → h'.get? c = some o) →
      Q ((List.range L.length).map fun j => .ref (s.heap.objs.size + j)) { s with heap := h' }) :
    wpAny (model prog w) A (Builtin.SmallTypes.iterAll (L.map .ref)) Q E s := by
  unfold Builtin.SmallTypes.iterAll
  refine wpAny_bind (wp_for (fun k (b : Array Value) s' => ∃ h', s' = { s with heap := h' } ∧ b.toList = (List.range k).map (fun j => Value.ref (s.heap.objs.size + j)) ∧ h'.objs.size = s.heap.objs.size + k ∧ (∀ j l, j < k → L[j]? = some l → h'.IsListIter (s.heap.objs.size + j) l 0) ∧ (∀ c o, s.heap.get? c = some o → h'.get? c = some o)) _ 0 _ _ ?_ ⟨s.heap, rfl, rfl, rfl, fun j l z _ => absurd z (Nat.not_lt_zero _), fun _ _ e => e⟩ ?_)
  · rintro j x b s' hx ⟨h', rfl, hb, hsz, hi, hk⟩
    rw [Nat.zero_add] at hb hsz hi ⊢
    rw [List.getElem?_map] at hx
    cases hL : L[j]? with
    | none => rw [hL] at hx; cases hx
    | some l =>
      rw [hL] at hx
      cases hx
      obtain ⟨xs, o, ho, hc, hd⟩ := hl l (List.mem_of_getElem? hL)
      have hl' : Heap.IsList h' l xs := ⟨o, hk _ _ ho, hc, hd⟩
      refine wpAny_bind (wpAny_holding (wpAny_pyIter_list (s := { s with heap := h' }) hl' (wpAny_pure ⟨_, rfl, _, rfl, ?_, ?_, ?_, ?_⟩)))
      · show (b.push _).toList = _
        rw [Array.toList_push, hb, List.range_succ, List.map_append, hsz]
        rfl
      · show (Heap.push h' _).objs.size = _
        rw [Heap.size_push, hsz]
        omega
      · intro j2 l2 hj h2
        by_cases e : j2 = j
        · subst e
          rw [hL] at h2
          cases h2
          rw [← hsz]
          exact ⟨_, Heap.get?_push_size _ rfl, rfl, rfl⟩
        · exact (hi j2 l2 (by omega) h2).at fun o q => Heap.get?_push_of_some _ q
      · exact fun c o q => Heap.get?_push_of_some _ (hk c o q)
  · rintro b s' ⟨h', rfl, hb, hsz, hi, hk⟩
    rw [List.length_map, Nat.zero_add] at hb hsz hi
    refine wpAny_pure ?_
    rw [hb]
    exact hq h' hsz (fun j l h => hi j l (List.getElem?_eq_some_iff.mp h).1 h) hk
theorem typeCall_zip (l : List Value) : checkTypeCall "zip" ⟨l, []⟩ = pure () := by kernel_rfl
theorem newCall_zip (a : Value) (l : List Value) : checkBuiltinCall "zip.__new__" ⟨.type "zip" :: a :: l, []⟩ = pure () := by kernel_rfl
theorem args_init_any (a : Value) (l : List Value) : argsOk "object.__init__" ⟨a :: l, []⟩ := by unfold argsOk; kernel_rfl
/-- a zip object, its parts in the two cells behind the iterators -/
abbrev ZRec (h : Heap) (z TI TO : Addr) (f0 : Value) (b : Bool) : Prop :=
  h.get? z = some { cls := .type "zip", dict := none, data := .fields #[f0, .bool b, .bool false, .ref TI, .ref TO], slots := #[] }
abbrev STup (h : Heap) (T : Addr) (a : Array Value) : Prop := h.get? T = some { cls := .type "tuple", data := .seq a }
def refsOf (b n : Nat) : List Value := (List.range n).map fun j => .ref (b + j)
theorem meets_zip_n (L : List Addr) (hn : L.length ≤ sizeLine) :
    Meets (Builtin.«zip.__new__» ⟨.type "zip" :: L.map .ref, []⟩) (fun _ R s => (∀ l ∈ L, ∃ xs, s.heap.IsList l xs) ∧
      ∀ h', ZRec h' (s.heap.objs.size + L.length + 2) (s.heap.objs.size + L.length) (s.heap.objs.size + L.length + 1) .none false → STup h' (s.heap.objs.size + L.length) (refsOf s.heap.objs.size L.length).toArray →
        (∃ a, STup h' (s.heap.objs.size + L.length + 1) a ∧ a.size = L.length) → (∀ j l, L[j]? = some l → h'.IsListIter (s.heap.objs.size + j) l 0) → (∀ c o, s.heap.get? c = some o → h'.get? c = some o) →
        R (.ok (.ret (.ref (s.heap.objs.size + L.length + 2)))) { s with heap := h' }) :=
  .of_wp fun prog w A R s h => by
    obtain ⟨hp, g, d, tk, os⟩ := s
    obtain ⟨hl, h⟩ := h
    have hsub := sub_zip
    wp_walk using wp_iterAll hl
    intro h1 hsz hi hk
    refine wpAny_bind (wpAny_newTuple ?_ (by simpa using hn))
    refine wpAny_bind (wpAny_newTuple ?_ (by simpa using hn))
    have n2 : (h1.push { cls := .type "tuple", data := .seq (refsOf hp.objs.size L.length).toArray }).objs.size = hp.objs.size + L.length + 1 := by rw [Heap.size_push, hsz]
    generalize ea : (List.map (fun _ => Value.none) (List.map (fun j => Value.ref (hp.objs.size + j)) (List.range L.length))).toArray = a0
    have la : a0.size = L.length := by rw [← ea]; simp
    have n3 : ((h1.push { cls := .type "tuple", data := .seq (refsOf hp.objs.size L.length).toArray }).push { cls := .type "tuple", data := .seq a0 }).objs.size = hp.objs.size + L.length + 2 := by rw [Heap.size_push, n2]
    unfold Builtin.SmallTypes.newRecord
    wp_walk
    refine ⟨_, rfl, ?_⟩
    have ev : (Shared.heap ⟨hp, g, d, tk, os⟩) = hp := rfl
    rw [ev] at h
    have key := h (((h1.push { cls := .type "tuple", data := .seq (refsOf hp.objs.size L.length).toArray }).push { cls := .type "tuple", data := .seq a0 }).push { cls := .type "zip", data := .fields #[.none, .bool false, .bool false, .ref (hp.objs.size + L.length), .ref (hp.objs.size + L.length + 1)] })
      (by rw [← n3]; exact Heap.get?_push_size _ rfl) (Heap.get?_push_of_some _ (Heap.get?_push_of_some _ (by rw [← hsz]; exact Heap.get?_push_size _ rfl))) ⟨a0, Heap.get?_push_of_some _ (by rw [← n2]; exact Heap.get?_push_size _ rfl), la⟩
      (fun j l e => (hi j l e).at fun o q => Heap.get?_push_of_some _ (Heap.get?_push_of_some _ (Heap.get?_push_of_some _ q))) (fun c o q => Heap.get?_push_of_some _ (Heap.get?_push_of_some _ (Heap.get?_push_of_some _ (hk c o q))))
    have hsz' : h1.objs.size = hp.objs.size + L.length := hsz
    show R (.ok (.ret (.ref (((h1.push { cls := .type "tuple", data := .seq (refsOf hp.objs.size L.length).toArray }).push { cls := .type "tuple", data := .seq a0 }).objs.size)))) ⟨((h1.push { cls := .type "tuple", data := .seq (refsOf hp.objs.size L.length).toArray }).push { cls := .type "tuple", data := .seq a0 }).push { cls := .type "zip", data := .fields #[.none, .bool false, .bool false, .ref h1.objs.size, .ref (h1.push { cls := .type "tuple", data := .seq (refsOf hp.objs.size L.length).toArray }).objs.size] }, g, d, tk, os⟩
    rw [n3, n2, hsz']
    exact key
end
section
variable {prog : Program} {w : World} {A : Around} {E : Value → Shared → Prop} {s : Shared}
/-- the parts of a zip of the lists L, all iterators at i -/
structure ZAt (L : List Addr) (b i : Nat) (h : Heap) : Prop where
  z : ∃ f0 c, ZRec h (b + L.length + 2) (b + L.length) (b + L.length + 1) f0 c ∧ (f0 = .none ∨ ∃ T : Nat, f0 = rawInt T)
  ti : STup h (b + L.length) (refsOf b L.length).toArray
  to : ∃ a, STup h (b + L.length + 1) a ∧ a.size = L.length
  its : ∀ j l, L[j]? = some l → h.IsListIter (b + j) l i
def Zpart (L : List Addr) (b : Nat) (c : Addr) : Prop := c = b + L.length + 2 ∨ c = b + L.length + 1 ∨ ∃ j, j < L.length ∧ c = b + j
theorem za1 (b n : Nat) : b + n ≠ b + n + 2 := by omega
theorem za2 (b n : Nat) : b + n + 1 ≠ b + n + 2 := by omega
theorem za3 {b n j : Nat} (h : j < n) : b + j ≠ b + n + 2 := by omega
theorem za4 {b n j : Nat} (h : j < n) : b + j ≠ b + n + 1 := by omega
theorem za5 {b n l : Nat} (h : l < b) : l ≠ b + n + 2 := by omega
theorem za6 {b n l : Nat} (h : l < b) : l ≠ b + n + 1 := by omega
theorem za7 {b j l : Nat} (h : l < b) : l ≠ b + j := by omega
theorem za8 (b n : Nat) : b + n ≠ b + n + 1 := by omega
theorem za9 {b n j : Nat} (h : j < n) : b + n ≠ b + j := by omega
theorem zb1 {b n j : Nat} (h : j < n) : b + n + 1 ≠ b + j := by omega
theorem zb2 {b n j : Nat} (h : j < n) : b + n + 2 ≠ b + j := by omega
theorem zb3 {b j k : Nat} (h : j ≠ k) : b + j ≠ b + k := by omega
theorem low_not {L : List Addr} {b c : Nat} (h : c < b) : ¬ Zpart L b c := by
  rintro (e | e | ⟨j, _, e⟩)
  · exact za5 h e
  · exact za6 h e
  · exact za7 h e
theorem ti_not {L : List Addr} {b : Nat} : ¬ Zpart L b (b + L.length) := by
  rintro (e | e | ⟨j, h, e⟩)
  · exact za1 _ _ e
  · exact za8 _ _ e
  · exact za9 h e
theorem alive_any {a : Addr} {Q : Option Obj → Shared → Prop} (h : Q (s.heap.get? a) s) : wpAny (model prog w) A (loadIfAlive a) Q E s := fun _ _ _ => h
theorem owned_ask {z TI TO : Addr} {f0 : Value} {c0 : Bool} {Q : Bool → Shared → Prop} (hz : ZRec s.heap z TI TO f0 c0) (hf : f0 = .none ∨ ∃ T : Nat, f0 = rawInt T)
    (hQ : ∀ r h' c', ZRec h' z TI TO f0 c' → Heap.SameBut z s.heap h' → Q r { s with heap := h' }) : wpAny (model prog w) A (Builtin.SmallTypes.ownedTupleIsFree (.ref z)) Q E s := by
  unfold Builtin.SmallTypes.ownedTupleIsFree
  rcases hf with rfl | ⟨T, rfl⟩
  · exact wpAny_bind (wpAny_field hz rfl (x := .none) rfl (wpAny_pure (hQ true s.heap c0 hz (Heap.SameBut.refl _ _))))
  · refine wpAny_bind (wpAny_field hz rfl (x := rawInt T) rfl ?_)
    show wpAny _ _ (loadIfAlive ((T : Int).toNat) >>= _) _ _ _
    rw [Int.toNat_natCast]
    refine wpAny_bind (alive_any ?_)
    cases s.heap.get? T with
    | none =>
      simp only [Option.isNone_none, if_true]
      exact wpAny_pure (hQ true s.heap c0 hz (Heap.SameBut.refl _ _))
    | some oT =>
      simp only [Option.isNone_some, Bool.false_eq_true, if_false]
      refine wpAny_bind (wpAny_field hz rfl (x := .bool c0) rfl ?_)
      cases c0 with
      | true =>
        rw [if_neg (show ¬ ((Value.bool true != Value.bool true) = true) from Bool.false_ne_true)]
        exact wpAny_pure (hQ false s.heap true hz (Heap.SameBut.refl _ _))
      | false =>
        rw [if_pos (show (Value.bool false != Value.bool true) = true from rfl)]
        exact wpAny_bind (wpAny_setField_rec hz (by simp) fun h₁ hz₁ hs₁ => wpAny_pure (hQ false h₁ true hz₁ hs₁))
theorem refs_at {b n j : Nat} {x : Value} (h : (refsOf b n)[j]? = some x) : j < n ∧ x = .ref (b + j) := by
  unfold refsOf at h
  rw [List.getElem?_map] at h
  by_cases c : j < n
  · rw [List.getElem?_range c] at h
    exact ⟨c, (Option.some.inj h).symm⟩
  · rw [List.getElem?_eq_none (by rw [List.length_range]; omega)] at h
    cases h
theorem zipN_next {L : List Addr} {b i : Nat} {col : Nat → Value} {Q : Value → Shared → Prop} (hn : L.length ≤ sizeLine) (h0 : L ≠ []) (hlow : ∀ l ∈ L, l < b) (Z : ZAt L b i s.heap)
    (hl : ∀ j l, L[j]? = some l → ∃ xs, s.heap.IsList l xs ∧ xs[i]? = some (col j))
    (hQ : ∀ h', ZAt L b (i + 1) h' → STup h' s.heap.objs.size ((List.range L.length).map col).toArray → (∀ c o, ¬ Zpart L b c → s.heap.get? c = some o → h'.get? c = some o) → Q (.ref s.heap.objs.size) { s with heap := h' }) :
    wpAny (model prog w) A (Builtin.«zip.__next__» ⟨[.ref (b + L.length + 2)], []⟩) (fun fin s' => ∃ v, fin = .done (.ret v) ∧ Q v s') E s := by
  obtain ⟨⟨f0, c0, hz, hf⟩, ti, to, its⟩ := Z
  have n0 : 0 < L.length := List.length_pos_iff.mpr h0
  show wpAny _ _ (field (.ref _) 2 >>= _) _ _ _
  refine wpAny_bind (wpAny_field hz rfl (x := .bool false) rfl ?_)
  show wpAny _ _ (field (.ref _) 3 >>= _) _ _ _
  refine wpAny_bind (wpAny_field hz rfl (x := .ref (b + L.length)) rfl (wpAny_bind (wpAny_seqItems ti rfl ?_)))
  have he : (refsOf b L.length).toArray.isEmpty = false := by
    unfold refsOf
    simp
    omega
  show wpAny (model prog w) A (if (refsOf b L.length).toArray.isEmpty = true then _ else _) _ E s
  rw [if_neg (by rw [he]; exact Bool.false_ne_true)]
  refine wpAny_bind (owned_ask hz hf fun r h1 c1 hz1 sb1 => ?_)
  have e1 := sb1.extBut
  have ti1 : STup h1 (b + L.length) (refsOf b L.length).toArray := e1 _ _ (za1 _ _) ti
  obtain ⟨a0, to0, la0⟩ := to
  have to1 : STup h1 (b + L.length + 1) a0 := e1 _ _ (za2 _ _) to0
  have its1 : ∀ j l, L[j]? = some l → h1.IsListIter (b + j) l i := fun j l h => (its j l h).extBut e1 (za3 (List.getElem?_eq_some_iff.mp h).1)
  have k1 : ∀ c o, ¬ Zpart L b c → s.heap.get? c = some o → h1.get? c = some o := fun c o n q => e1 _ _ (fun e => n (.inl e)) q
  cases r with
  | true =>
    rw [if_pos rfl]
    refine wpAny_bind (wpAny_rule (wpAny_bind (wpAny_field (s := { s with heap := h1 }) hz1 rfl (x := .ref (b + L.length + 1)) rfl (wpAny_bind (wpAny_setField_rec (s := { s with heap := h1 }) hz1 (by simp) fun h2 hz2 sb2 => ?_)))))
    replace hz2 : ZRec h2 (b + L.length + 2) (b + L.length) (b + L.length + 1) .ellipsis c1 := hz2
    replace sb2 : Heap.SameBut (b + L.length + 2) h1 h2 := sb2
    have e2 := sb2.extBut
    have nsz : h2.objs.size = s.heap.objs.size := by rw [sb2.1, sb1.1]
    refine wpAny_bind (wp_for (fun k (bb : Option PySem.Fin × Unit) s' => ∃ h' a, s' = { s with heap := h' } ∧ bb = (none, ()) ∧ h'.objs.size = s.heap.objs.size ∧ ZRec h' (b + L.length + 2) (b + L.length) (b + L.length + 1) .ellipsis c1 ∧ STup h' (b + L.length + 1) a ∧ a.size = L.length ∧ (∀ j, j < k → a[j]? = some (col j)) ∧
      (∀ (j : Nat) (l : Addr), L[j]? = some l → h'.IsListIter (b + j) l (if j < k then i + 1 else i)) ∧ (∀ c o, ¬ Zpart L b c → s.heap.get? c = some o → h'.get? c = some o)) _ 0 _ _ ?_ ?_ ?_)
    · rintro j ⟨it, kk⟩ bb s' hx ⟨h', a, rfl, rfl, hsz, hzz, hto, la, hc, hit, hkp⟩
      rw [Nat.zero_add] at hc hit ⊢
      rw [List.getElem?_zipIdx] at hx
      obtain ⟨it2, hx1, hx2⟩ := Option.map_eq_some_iff.mp hx
      cases hx2
      obtain ⟨hj, rfl⟩ := refs_at hx1
      have hL : L[j]? = some (L[j]) := List.getElem?_eq_getElem hj
      obtain ⟨xs, hls, hxs⟩ := hl j _ hL
      have hls' : h'.IsList L[j] xs := by
        obtain ⟨o, ho, r⟩ := hls
        exact ⟨o, hkp _ _ (low_not (hlow _ (List.getElem_mem hj))) ho, r⟩
      have hi' := hit j _ hL
      rw [if_neg (Nat.lt_irrefl j)] at hi'
      refine wpAny_bind (wpAny_onRaise ?_)
      show wpAny _ _ (Builtin.SmallTypes.nextOf (.ref (b + j)) >>= _) _ _ _
      refine wpAny_bind (wpAny_nextOf_list_item (s := { s with heap := h' }) hi' hls' hxs fun g2 p2 s2 => wpAny_pure ?_)
      replace s2 : Heap.SameBut (b + j) h' g2 := s2
      have c2 := s2.extBut
      have t2 : STup g2 (b + L.length + 1) a := c2 _ _ (zb1 hj) hto
      refine wpAny_bind (wpAny_seqItems (s := { s with heap := g2 }) t2 rfl (wpAny_bind (wpAny_updateSeq (s := { s with heap := g2 }) t2 rfl ?_ (by rw [la]; exact hn) (by rw [Array.size_setIfInBounds, la]; omega))))
      have s3 : Heap.SameBut (b + L.length + 1) g2 (g2.update (b + L.length + 1) (Obj.mapSeq fun x => x.setIfInBounds (0 + j) (col j))) := Heap.SameBut.update ..
      have t3 : STup (g2.update (b + L.length + 1) (Obj.mapSeq fun x => x.setIfInBounds (0 + j) (col j))) (b + L.length + 1) (a.setIfInBounds (0 + j) (col j)) := by
        show Heap.get? _ _ = _
        rw [Heap.get?_update_self _ t2 rfl]
        simp [Obj.mapSeq]
      have c3 := s3.extBut
      refine wpAny_bind (wpAny_letGo (wpAny_pure ⟨_, rfl, _, (a.setIfInBounds (0 + j) (col j)), rfl, rfl, ?_, ?_, t3, ?_, ?_, ?_, ?_⟩))
      · show (Heap.objs _).size = _
        rw [s3.1, s2.1, hsz]
      · exact c3 _ _ (za2 _ _).symm (c2 _ _ (zb2 hj) hzz)
      · rw [Array.size_setIfInBounds, la]
      · intro j2 h2
        rw [Nat.zero_add, Array.getElem?_setIfInBounds]
        by_cases e : j = j2
        · subst e
          rw [if_pos rfl, if_pos (by rw [la]; exact hj)]
        · rw [if_neg e]
          exact hc j2 (by omega)
      · intro j2 l2 h2
        by_cases e : j2 = j
        · subst e
          rw [if_pos (Nat.lt_succ_self _)]
          rw [hL] at h2
          cases h2
          exact p2.extBut c3 (za4 hj)
        · have q := ((hit j2 l2 h2).extBut c2 (zb3 e)).extBut c3 (za4 (List.getElem?_eq_some_iff.mp h2).1)
          by_cases e2 : j2 < j
          · rw [if_pos e2] at q
            rw [if_pos (by omega)]
            exact q
          · rw [if_neg e2] at q
            rw [if_neg (by omega)]
            exact q
      · intro c o n q
        exact c3 _ _ (fun e => n (.inr (.inl e))) (c2 _ _ (fun e => n (.inr (.inr ⟨j, hj, e⟩))) (hkp c o n q))
    · refine ⟨h2, a0, rfl, rfl, nsz, hz2, e2 _ _ (za2 _ _) to1, la0, fun j z => absurd z (Nat.not_lt_zero _), fun j l h => ?_, fun c o n q => e2 _ _ (fun e => n (.inl e)) (k1 c o n q)⟩
      rw [if_neg (Nat.not_lt_zero _)]
      exact (its1 j l h).extBut e2 (za3 (List.getElem?_eq_some_iff.mp h).1)
    · rintro bb s' ⟨h', a, rfl, rfl, hsz, hzz, hto, la, hc, hit, hkp⟩
      have ll : (refsOf b L.length).toArray.toList.zipIdx.length = L.length := by
        unfold refsOf
        simp
      rw [ll, Nat.zero_add] at hc hit
      have ea : a = ((List.range L.length).map col).toArray := by
        refine Array.ext_getElem? fun j => ?_
        by_cases c : j < L.length
        · rw [hc j c]
          simp [c]
        · rw [Array.getElem?_eq_none (by rw [la]; omega), Array.getElem?_eq_none (by simp; omega)]
      subst ea
      refine wpAny_bind (wpAny_seqItems (s := { s with heap := h' }) hto rfl (wpAny_bind (wpAny_newTuple ?_ (by simpa using hn))))
      show wpAny _ _ (Builtin.SmallTypes.ownedTupleHandOut (.ref _) (.ref h'.objs.size) >>= _) _ _ ⟨h'.push { cls := .type "tuple", data := .seq ((List.range L.length).map col).toArray }, s.gens, s.drawn, s.toks, s.os⟩
      unfold Builtin.SmallTypes.ownedTupleHandOut
      have y6 : ZRec (h'.push { cls := .type "tuple", data := .seq ((List.range L.length).map col).toArray }) (b + L.length + 2) (b + L.length) (b + L.length + 1) .ellipsis c1 := Heap.get?_push_of_some _ hzz
      refine wpAny_bind (wpAny_bind (wpAny_setField_rec (s := ⟨h'.push { cls := .type "tuple", data := .seq ((List.range L.length).map col).toArray }, s.gens, s.drawn, s.toks, s.os⟩) y6 (by simp) fun g7 y7 s7 => ?_))
      replace y7 : ZRec g7 (b + L.length + 2) (b + L.length) (b + L.length + 1) (rawInt h'.objs.size) c1 := y7
      refine wpAny_setField_rec (s := ⟨g7, s.gens, s.drawn, s.toks, s.os⟩) y7 (by simp) fun g8 y8 s8 => ?_
      replace y8 : ZRec g8 (b + L.length + 2) (b + L.length) (b + L.length + 1) (rawInt h'.objs.size) false := y8
      have up : ∀ c o, c ≠ b + L.length + 2 → h'.get? c = some o → g8.get? c = some o := fun c o n p => s8.extBut _ _ n (s7.extBut _ _ n (Heap.get?_push_of_some _ p))
      have zl : b + L.length + 2 < h'.objs.size := Heap.lt_size hzz
      have new : STup g8 h'.objs.size ((List.range L.length).map col).toArray := s8.extBut _ _ (Nat.ne_of_gt zl) (s7.extBut _ _ (Nat.ne_of_gt zl) (Heap.get?_push_size _ rfl))
      rw [hsz] at new
      refine wpAny_pure ⟨_, rfl, ?_⟩
      show Q (.ref h'.objs.size) _
      rw [hsz]
      refine hQ g8 ⟨⟨_, _, y8, .inr ⟨_, rfl⟩⟩, up _ _ (za1 _ _) (hkp _ _ ti_not ti), ⟨_, up _ _ (za2 _ _) hto, by simp⟩, fun j l h => ?_⟩ new fun c o n q => up _ _ (fun e => n (.inl e)) (hkp c o n q)
      have q := hit j l h
      rw [if_pos (List.getElem?_eq_some_iff.mp h).1] at q
      exact q.at fun o e => up _ o (za3 (List.getElem?_eq_some_iff.mp h).1) e
  | false =>
    rw [if_neg Bool.false_ne_true]
    dsimp only
    rw [← Array.forIn_toList]
    refine wpAny_bind (wp_for (fun k (bb : Option PySem.Fin × Array Value) s' => ∃ h' a, s' = { s with heap := h' } ∧ bb = (none, a) ∧ h'.objs.size = s.heap.objs.size ∧ ZRec h' (b + L.length + 2) (b + L.length) (b + L.length + 1) f0 c1 ∧ a.toList = (List.range k).map col ∧
      (∀ (j : Nat) (l : Addr), L[j]? = some l → h'.IsListIter (b + j) l (if j < k then i + 1 else i)) ∧ (∀ c o, (¬ Zpart L b c ∨ c = b + L.length + 1) → s.heap.get? c = some o → h'.get? c = some o)) _ 0 _ _ ?_ ?_ ?_)
    · rintro j it bb s' hx ⟨h', a, rfl, rfl, hsz, hzz, hto, hit, hkp⟩
      rw [Nat.zero_add] at hto hit ⊢
      have hx1 : (refsOf b L.length)[j]? = some it := by simpa using hx
      obtain ⟨hj, rfl⟩ := refs_at hx1
      have hL : L[j]? = some (L[j]) := List.getElem?_eq_getElem hj
      obtain ⟨xs, hls, hxs⟩ := hl j _ hL
      have hls' : h'.IsList L[j] xs := by
        obtain ⟨o, ho, r⟩ := hls
        exact ⟨o, hkp _ _ (.inl (low_not (hlow _ (List.getElem_mem hj)))) ho, r⟩
      have hi' := hit j _ hL
      rw [if_neg (Nat.lt_irrefl j)] at hi'
      refine wpAny_bind (wpAny_holding ?_)
      show wpAny _ _ (Builtin.SmallTypes.nextOf (.ref (b + j)) >>= _) _ _ _
      refine wpAny_bind (wpAny_nextOf_list_item (s := { s with heap := h' }) hi' hls' hxs fun g2 p2 s2 => wpAny_pure (wpAny_pure ?_))
      replace s2 : Heap.SameBut (b + j) h' g2 := s2
      have c2 := s2.extBut
      refine ⟨_, rfl, _, _, rfl, rfl, ?_, c2 _ _ (zb2 hj) hzz, ?_, ?_, ?_⟩
      · rw [s2.1, hsz]
      · rw [Array.toList_push, hto, List.range_succ, List.map_append]
        rfl
      · intro j2 l2 h2
        by_cases e : j2 = j
        · subst e
          rw [if_pos (Nat.lt_succ_self _)]
          rw [hL] at h2
          cases h2
          exact p2
        · have q := (hit j2 l2 h2).extBut c2 (zb3 e)
          by_cases e2 : j2 < j
          · rw [if_pos e2] at q
            rw [if_pos (by omega)]
            exact q
          · rw [if_neg e2] at q
            rw [if_neg (by omega)]
            exact q
      · intro c o n q
        refine c2 _ _ (fun e => ?_) (hkp c o n q)
        rcases n with n | n
        · exact n (.inr (.inr ⟨j, hj, e⟩))
        · exact zb1 hj (n.symm.trans e)
    · refine ⟨h1, #[], rfl, rfl, sb1.1, hz1, rfl, fun j l h => ?_, fun c o n q => e1 _ _ (fun e => ?_) q⟩
      · rw [if_neg (Nat.not_lt_zero _)]
        exact its1 j l h
      · rcases n with n | n
        · exact n (.inl e)
        · exact za2 _ _ (n.symm.trans e)
    · rintro bb s' ⟨h', a, rfl, rfl, hsz, hzz, hto, hit, hkp⟩
      have ll : (refsOf b L.length).toArray.toList.length = L.length := by
        unfold refsOf
        simp
      rw [ll, Nat.zero_add] at hto hit
      have ea : a = ((List.range L.length).map col).toArray := by rw [← hto]
      subst ea
      refine wpAny_bind (wpAny_newTuple ?_ (by simpa using hn))
      have zl : b + L.length + 2 < h'.objs.size := Heap.lt_size hzz
      have up : ∀ c o, h'.get? c = some o → (h'.push { cls := .type "tuple", data := .seq ((List.range L.length).map col).toArray }).get? c = some o := fun c o p => Heap.get?_push_of_some _ p
      have new : STup (h'.push { cls := .type "tuple", data := .seq ((List.range L.length).map col).toArray }) h'.objs.size ((List.range L.length).map col).toArray := Heap.get?_push_size _ rfl
      refine wpAny_pure ⟨_, rfl, ?_⟩
      show Q (.ref h'.objs.size) _
      rw [hsz] at new ⊢
      refine hQ _ ⟨⟨_, _, up _ _ hzz, hf⟩, up _ _ (hkp _ _ (.inl ti_not) ti), ⟨_, up _ _ (hkp _ _ (.inr rfl) to0), la0⟩, fun j l h => ?_⟩ new fun c o n q => up _ _ (hkp c o (.inl n) q)
      have q := hit j l h
      rw [if_pos (List.getElem?_eq_some_iff.mp h).1] at q
      exact q.at fun o e => up _ o e
theorem zipN_end {L : List Addr} {b i : Nat} {l0 : Addr} {xs0 : Array Value} {Q : Value → Shared → Prop} (hh : A.handled = none) (h0 : L[0]? = some l0) (hlow : ∀ l ∈ L, l < b) (Z : ZAt L b i s.heap)
    (hl : s.heap.IsList l0 xs0) (hx : xs0[i]? = none)
    (hE : ∀ h' e, (∀ c o, ¬ Zpart L b c → s.heap.get? c = some o → h'.get? c = some o) → (∃ o, h'.get? e = some o ∧ o.cls = .type "StopIteration") → E (.ref e) { s with heap := h' }) :
    wpAny (model prog w) A (Builtin.«zip.__next__» ⟨[.ref (b + L.length + 2)], []⟩) (fun fin s' => ∃ v, fin = .done (.ret v) ∧ Q v s') E s := by
  obtain ⟨⟨f0, c0, hz, hf⟩, ti, to, its⟩ := Z
  have n0 : 0 < L.length := (List.getElem?_eq_some_iff.mp h0).1
  show wpAny _ _ (field (.ref _) 2 >>= _) _ _ _
  refine wpAny_bind (wpAny_field hz rfl (x := .bool false) rfl ?_)
  show wpAny _ _ (field (.ref _) 3 >>= _) _ _ _
  refine wpAny_bind (wpAny_field hz rfl (x := .ref (b + L.length)) rfl (wpAny_bind (wpAny_seqItems ti rfl ?_)))
  have he : (refsOf b L.length).toArray.isEmpty = false := by
    unfold refsOf
    simp
    intro e
    subst e
    exact absurd n0 (Nat.lt_irrefl 0)
  have hr : ∃ r, refsOf b L.length = .ref (b + 0) :: r := by
    unfold refsOf
    obtain ⟨m, e⟩ : ∃ m, L.length = m + 1 := ⟨L.length - 1, by omega⟩
    rw [e, List.range_succ_eq_map]
    exact ⟨_, rfl⟩
  obtain ⟨rr, er⟩ := hr
  have l0b : l0 < b := hlow l0 (List.mem_of_getElem? h0)
  show wpAny (model prog w) A (if (refsOf b L.length).toArray.isEmpty = true then _ else _) _ E s
  rw [if_neg (by rw [he]; exact Bool.false_ne_true)]
  refine wpAny_bind (owned_ask hz hf fun r h1 c1 hz1 sb1 => ?_)
  have e1 := sb1.extBut
  have it1 : h1.IsListIter (b + 0) l0 i := (its 0 l0 h0).extBut e1 (za3 n0)
  have hl1 : h1.IsList l0 xs0 := hl.extBut e1 (za5 l0b)
  cases r with
  | true =>
    rw [if_pos rfl]
    refine wpAny_bind (wpAny_rule (wpAny_bind (wpAny_field (s := { s with heap := h1 }) hz1 rfl (x := .ref (b + L.length + 1)) rfl (wpAny_bind (wpAny_setField_rec (s := { s with heap := h1 }) hz1 (by simp) fun h2 hz2 sb2 => ?_)))))
    replace hz2 : ZRec h2 (b + L.length + 2) (b + L.length) (b + L.length + 1) .ellipsis c1 := hz2
    replace sb2 : Heap.SameBut (b + L.length + 2) h1 h2 := sb2
    have e2 := sb2.extBut
    have eL : (refsOf b L.length).toArray.toList.zipIdx = (.ref (b + 0), 0) :: rr.zipIdx 1 := by
      rw [List.toList_toArray, er]
      rfl
    rw [eL, List.forIn_cons]
    refine wpAny_bind (wpAny_bind (wpAny_bind (wpAny_onRaise ?_)))
    show wpAny _ _ (Builtin.SmallTypes.nextOf (.ref (b + 0)) >>= _) _ _ _
    refine wpAny_bind (wpAny_nextOf_list_end (s := { s with heap := h2 }) hh (it1.extBut e2 (za3 n0)) (hl1.extBut e2 (za5 l0b)) hx fun g2 e s2 he => ?_)
    replace s2 : Heap.ExtBut (b + 0) h2 g2 := s2
    have z2 : ZRec g2 (b + L.length + 2) (b + L.length) (b + L.length + 1) .ellipsis c1 := s2 _ _ (zb2 n0) hz2
    obtain ⟨o, ho, hc⟩ := he
    have n : e ≠ b + L.length + 2 := fun x => by subst x; rw [z2] at ho; cases ho; simp at hc
    refine wpAny_setField_rec (s := { s with heap := g2 }) z2 (by simp) fun h' _ sb => ?_
    replace sb : Heap.SameBut (b + L.length + 2) g2 h' := sb
    exact hE h' e (fun c o n q => sb.extBut _ _ (fun e => n (.inl e)) (s2 _ _ (fun e => n (.inr (.inr ⟨0, n0, e⟩))) (e2 _ _ (fun e => n (.inl e)) (e1 _ _ (fun e => n (.inl e)) q)))) ⟨o, sb.extBut _ _ n ho, hc⟩
  | false =>
    rw [if_neg Bool.false_ne_true]
    dsimp only
    rw [← Array.forIn_toList]
    have eL : (refsOf b L.length).toArray.toList = .ref (b + 0) :: rr := by rw [List.toList_toArray, er]
    rw [eL, List.forIn_cons]
    refine wpAny_bind (wpAny_bind (wpAny_bind (wpAny_holding ?_)))
    show wpAny _ _ (Builtin.SmallTypes.nextOf (.ref (b + 0)) >>= _) _ _ _
    refine wpAny_bind (wpAny_nextOf_list_end (s := { s with heap := h1 }) hh it1 hl1 hx fun g2 e s2 he => ?_)
    exact hE g2 e (fun c o n q => s2 _ _ (fun e => n (.inr (.inr ⟨0, n0, e⟩))) (e1 _ _ (fun e => n (.inl e)) q)) he
theorem zipN_ask {L : List Addr} {b i : Nat} {col : Nat → Value} {Q : Option Value → Shared → Prop} (hn : L.length ≤ sizeLine) (h0 : L ≠ []) (hlow : ∀ l ∈ L, l < b) (Z : ZAt L b i s.heap)
    (hl : ∀ j l, L[j]? = some l → ∃ xs, s.heap.IsList l xs ∧ xs[i]? = some (col j))
    (hQ : ∀ h', ZAt L b (i + 1) h' → STup h' s.heap.objs.size ((List.range L.length).map col).toArray → (∀ c o, ¬ Zpart L b c → s.heap.get? c = some o → h'.get? c = some o) → Q (some (.ref s.heap.objs.size)) { s with heap := h' }) :
    wpAny (model prog w) A (pyNext (.ref (b + L.length + 2))) Q E s := by
  obtain ⟨f0, c0, hz, _⟩ := Z.z
  have hT : s.TypeIs (.ref (b + L.length + 2)) "zip" := ⟨_, hz, rfl⟩
  unfold pyNext
  exact wpAny_bind (wpAny_attempt (wpAny_callSpecial?_slot (name := Str.ofString "__next__") hT F.slot_zip_next (wpAny_call_entry F.slot_zip_next hT F.entry_zip_next
    (zipN_next hn h0 hlow Z hl fun h' a1 a2 a3 => wpAny_pure (hQ h' a1 a2 a3)) (F.args_zip_next_1 _))))
theorem zipN_stop {L : List Addr} {b i : Nat} {l0 : Addr} {xs0 : Array Value} {Q : Option Value → Shared → Prop} (hh : A.handled = none) (h0 : L[0]? = some l0) (hlow : ∀ l ∈ L, l < b) (Z : ZAt L b i s.heap)
    (hl : s.heap.IsList l0 xs0) (hx : xs0[i]? = none) (hE : ∀ h', (∀ c o, ¬ Zpart L b c → s.heap.get? c = some o → h'.get? c = some o) → Q none { s with heap := h' }) :
    wpAny (model prog w) A (pyNext (.ref (b + L.length + 2))) Q E s := by
  obtain ⟨f0, c0, hz, _⟩ := Z.z
  have hT : s.TypeIs (.ref (b + L.length + 2)) "zip" := ⟨_, hz, rfl⟩
  unfold pyNext
  refine wpAny_bind (wpAny_attempt (wpAny_callSpecial?_slot (name := Str.ofString "__next__") hT F.slot_zip_next (wpAny_call_entry F.slot_zip_next hT F.entry_zip_next
    (zipN_end hh h0 hlow Z hl hx fun h' e lf he => ?_) (F.args_zip_next_1 _))))
  obtain ⟨o, ho, hc⟩ := he
  exact wpAny_bind (wpAny_isInstance (T := "StopIteration") (b := true) ⟨o, ho, hc⟩ isSubtype_stop (wpAny_pure (hE h' lf)))
theorem call_zipN {L : List Addr} {Q : Value → Shared → Prop} (hn : L.length ≤ sizeLine) (h0 : L ≠ []) (hl : ∀ l ∈ L, ∃ xs, s.heap.IsList l xs)
    (h : ∀ h', ZAt L s.heap.objs.size 0 h' → (∀ c o, s.heap.get? c = some o → h'.get? c = some o) → Q (.ref (s.heap.objs.size + L.length + 2)) { s with heap := h' }) :
    wpAny (model prog w) A (call (.type "zip") (L.map .ref)) Q E s := by
  cases L with
  | nil => exact absurd rfl h0
  | cons l L =>
    refine callType_new F.called_zip (by decide) (typeCall_zip _) (newCall_zip _ _) (fun obj => args_init_any obj _) F.entry_zip_new (meets_zip_n (l :: L) hn) ⟨hl, fun h' hz ti to hi hk => ?_⟩
    exact ⟨⟨_, hz, rfl⟩, h h' ⟨⟨_, _, hz, .inl rfl⟩, ti, to, hi⟩ hk⟩
end
end My

set_option Elab.async false
set_option linter.all false
set_option maxRecDepth 100000
set_option maxHeartbeats 4000000
/-! ### written tuples of ints, dicts of the module from ints to objects -/
namespace My
open PySem PySem.Spec PyProof.Rows L2
def intsB : List Value → List Int → Bool
  | [], [] => true
  | .int i _ :: vs, j :: xs => (i == j) && intsB vs xs
  | _, _ => false
def tupB (K : PySem.W.Frag) (a : Addr) (xs : List Int) : Bool :=
  match K.lookup a with
  | some ⟨.type s, none, .seq its _, _⟩ => s == "tuple" && Nat.ble its.size 1000 && intsB its.toList xs
  | _ => false
theorem intsB_ok : ∀ {vs : List Value} {xs : List Int}, intsB vs xs = true → Vals (xs.map V.int) vs
  | [], [], _ => .nil
  | .int i t :: vs, j :: xs, h => by
    have h' : ((i == j) && intsB vs xs) = true := h
    rw [Bool.and_eq_true] at h'
    have e : i = j := by simpa using h'.1
    subst e
    exact .cons ⟨t, rfl⟩ (intsB_ok h'.2)
theorem tupB_ok {K : PySem.W.Frag} {a : Addr} {xs : List Int} {H : Hp} (h : tupB K a xs = true) : SqT K H a (xs.map V.int) := by
  unfold tupB at h
  split at h
  · next s its n _ e =>
    rw [Bool.and_eq_true, Bool.and_eq_true] at h
    have es : s = "tuple" := by simpa using h.1.1
    subst es
    exact .inr ⟨_, its, n, e, rfl, rfl, Nat.le_trans (Nat.le_of_ble_eq_true h.1.2) (by decide), intsB_ok h.2⟩
  · cases h
theorem tupB_ty {K : PySem.W.Frag} {a : Addr} {xs : List Int} (h : tupB K a xs = true) : ∃ o, K.lookup a = some o ∧ o.cls = .type "tuple" ∧ o.dict = none := by
  unfold tupB at h
  split at h
  · next s its n _ e =>
    rw [Bool.and_eq_true, Bool.and_eq_true] at h
    have es : s = "tuple" := by simpa using h.1.1
    subst es
    exact ⟨_, e, rfl, rfl⟩
  · cases h
inductive EntR : List DictEntry → List (Int × Addr) → Prop where
  | nil : EntR [] []
  | cons {k : Int} {v : Addr} {t : Tok} {es : List DictEntry} {kvs : List (Int × Addr)} (h : EntR es kvs) (hk : hashInt k = k := by decide +kernel) : EntR (⟨k, .int k t, .ref v⟩ :: es) ((k, v) :: kvs)
def KRef (K : PySem.W.Frag) (d : Addr) (kvs : List (Int × Addr)) : Prop :=
  ∃ (es : Array DictEntry) (n : Nat), K.lookup d = some ⟨.type "dict", none, .dict es n, #[]⟩ ∧ EntR es.toList kvs ∧ (d == sysModules) = false
theorem EntR.all {es : List DictEntry} {kvs : List (Int × Addr)} (h : EntR es kvs) : ∀ e ∈ es, ∃ k t, e.key = .int k t ∧ e.hash = hashInt k := by
  induction h with
  | nil => intro e he; cases he
  | cons h hk ih =>
    intro e he
    cases he with
    | head => exact ⟨_, _, rfl, hk.symm⟩
    | tail _ m => exact ih e m
def getA (k : Int) : List (Int × Addr) → Option Addr
  | [] => none
  | (k', v) :: r => if k' = k then some v else getA k r
theorem EntR.find {es : List DictEntry} {kvs : List (Int × Addr)} (h : EntR es kvs) (k : Int) :
    (getA k kvs = none → findBy Value.isInt es.toArray k = none) ∧ (∀ v, getA k kvs = some v → findBy Value.isInt es.toArray k = some (.ref v)) := by
  unfold findBy
  rw [List.find?_toArray]
  induction h with
  | nil => exact ⟨fun _ => rfl, fun v z => by cases z⟩
  | @cons k' v t es kvs h hk ih =>
    rw [List.find?_cons]
    by_cases e : k' = k
    · have q : Value.isInt k (Value.int k' t) = true := by show (k' == k) = true; simp [e]
      simp only [q]
      refine ⟨fun z => ?_, fun v' z => ?_⟩
      · unfold getA at z; rw [if_pos e] at z; cases z
      · unfold getA at z; rw [if_pos e] at z; cases z; rfl
    · have q : Value.isInt k (Value.int k' t) = false := by show (k' == k) = false; simp [e]
      simp only [q]
      unfold getA
      rw [if_neg e]
      exact ih
section
variable {X : Cx} {d : Addr} {kvs : List (Int × Addr)}
theorem mapInt_R {prog : Program} {w : World} {K : PySem.W.Frag} {h : Heap} {es : Array DictEntry} {n : Nat} (X : K.In h) (hl : K.lookup d = some ⟨.type "dict", none, .dict es n, #[]⟩) (hk : EntR es.toList kvs) :
    h.MapOf (intKind prog w) d (fun k => findBy Value.isInt es k) :=
  ⟨_, es, n, X _ _ hl, ⟨rfl, rfl, rfl⟩, rfl, fun e he => by
    obtain ⟨x, t, e1, e2⟩ := hk.all e (Array.mem_toList_iff.mpr he)
    exact ⟨x, by rw [e1]; exact intKind_is prog w x t, e2⟩, fun _ => rfl⟩
/-- d[k] -/
def rKR (d : Addr) (kvs : List (Int × Addr)) : R2 := fun x y H Q => ∃ k v, x = .ref d ∧ y = .int k ∧ getA k kvs = some v ∧ Q (.ref v) H
theorem ix_kref (D : KRef X.K d kvs) : IxR X (rKR d kvs) := by
  intro value slice pins s σ H x y v u Q I rx ry h hs
  obtain ⟨k, r, rfl, rfl, e, q⟩ := h
  obtain ⟨es, n, hl, hk, hd⟩ := D
  obtain rfl : v = Value.ref d := rx
  obtain ⟨t, rfl⟩ := ry
  have hm := mapInt_R (prog := X.prog) (w := X.w) I.kIn hl hk
  have eu := (hk.find k).2 r e
  exact tail_any hm.typeIs slot_dict_getitem.lookup (wpAny_getItem_of (intKind_is X.prog X.w k t) hm eu ⟨.ref r, H, I.tok _, rfl, q⟩) hs
end
end My

set_option Elab.async false
set_option linter.all false
set_option maxRecDepth 100000
set_option maxHeartbeats 4000000
/-! ### the program's tables of powers and exponents -/
namespace My
open PySem PySem.Spec PyProof.Rows L2
def E4 : List Int := [0, 0, 1, 12, 2, 9, 13, 7, 3, 4, 10, 5, 14, 11, 8, 6]
def E8 : List Int := [0, 0, 1, 231, 2, 207, 232, 59, 3, 35, 208, 154, 233, 20, 60, 183, 4, 159, 36, 66, 209, 118, 155, 251, 234, 245, 21, 11, 61, 130, 184, 146, 5, 122, 160, 79, 37, 113, 67, 106, 210, 224, 119, 221, 156, 242, 252, 32, 235, 213, 246, 135, 22, 42, 12, 140, 62, 227, 131, 75, 185, 191, 147, 94, 6, 70, 123, 195, 161, 53, 80, 167, 38, 109, 114, 203, 68, 51, 107, 49, 211, 40, 225, 189, 120, 111, 222, 240, 157, 116, 243, 128, 253, 205, 33, 18, 236, 163, 214, 98, 247, 55, 136, 102, 23, 82, 43, 177, 13, 169, 141, 89, 63, 8, 228, 151, 132, 72, 76, 218, 186, 125, 192, 200, 148, 197, 95, 174, 7, 150, 71, 217, 124, 199, 196, 173, 162, 97, 54, 101, 81, 176, 168, 88, 39, 188, 110, 239, 115, 127, 204, 17, 69, 194, 52, 166, 108, 202, 50, 48, 212, 134, 41, 139, 226, 74, 190, 93, 121, 78, 112, 105, 223, 220, 241, 31, 158, 65, 117, 250, 244, 10, 129, 145, 254, 230, 206, 58, 34, 153, 19, 182, 237, 15, 164, 46, 215, 171, 99, 86, 248, 143, 56, 180, 137, 91, 103, 29, 24, 25, 83, 26, 44, 84, 178, 27, 14, 45, 170, 85, 142, 179, 90, 28, 64, 249, 9, 144, 229, 57, 152, 181, 133, 138, 73, 92, 77, 104, 219, 30, 187, 238, 126, 16, 193, 165, 201, 47, 149, 216, 198, 172, 96, 100, 175, 87]
def P4 : List Int := [1, 2, 4, 8, 9, 11, 15, 7, 14, 5, 10, 13, 3, 6, 12]
def P8 : List Int := [1, 2, 4, 8, 16, 32, 64, 128, 113, 226, 181, 27, 54, 108, 216, 193, 243, 151, 95, 190, 13, 26, 52, 104, 208, 209, 211, 215, 223, 207, 239, 175, 47, 94, 188, 9, 18, 36, 72, 144, 81, 162, 53, 106, 212, 217, 195, 247, 159, 79, 158, 77, 154, 69, 138, 101, 202, 229, 187, 7, 14, 28, 56, 112, 224, 177, 19, 38, 76, 152, 65, 130, 117, 234, 165, 59, 118, 236, 169, 35, 70, 140, 105, 210, 213, 219, 199, 255, 143, 111, 222, 205, 235, 167, 63, 126, 252, 137, 99, 198, 253, 139, 103, 206, 237, 171, 39, 78, 156, 73, 146, 85, 170, 37, 74, 148, 89, 178, 21, 42, 84, 168, 33, 66, 132, 121, 242, 149, 91, 182, 29, 58, 116, 232, 161, 51, 102, 204, 233, 163, 55, 110, 220, 201, 227, 183, 31, 62, 124, 248, 129, 115, 230, 189, 11, 22, 44, 88, 176, 17, 34, 68, 136, 97, 194, 245, 155, 71, 142, 109, 218, 197, 251, 135, 127, 254, 141, 107, 214, 221, 203, 231, 191, 15, 30, 60, 120, 240, 145, 83, 166, 61, 122, 244, 153, 67, 134, 125, 250, 133, 123, 246, 157, 75, 150, 93, 186, 5, 10, 20, 40, 80, 160, 49, 98, 196, 249, 131, 119, 238, 173, 43, 86, 172, 41, 82, 164, 57, 114, 228, 185, 3, 6, 12, 24, 48, 96, 192, 241, 147, 87, 174, 45, 90, 180, 25, 50, 100, 200, 225, 179, 23, 46, 92, 184]
def tabE (b : Nat) : List Int := cond (Nat.beq b 4) E4 E8
def tabP (b : Nat) : List Int := cond (Nat.beq b 4) P4 P8
theorem lgpw' {b i : Nat} (hb : Wd b) (h : i < turn b) : lg b (pw b i) = i := by
  have q : ((List.range (turn b)).all fun i => Nat.beq (lg b (pw b i)) i) = true := by rcases hb with rfl | rfl <;> decide +kernel
  exact Nat.eq_of_beq_eq_true (List.all_eq_true.mp q i (List.mem_range.mpr h))
def goodE (b : Nat) (x : Nat) : Bool := match (tabE b)[x]? with
  | some (Int.ofNat e) => Nat.beq x 0 || (Nat.blt e (turn b) && Nat.beq (pw b e) x)
  | _ => false
theorem goodE_all {b : Nat} (hb : Wd b) : ((List.range (span b)).all (goodE b)) = true := by rcases hb with rfl | rfl <;> decide +kernel
theorem tabE_at {b x : Nat} (hb : Wd b) (hx : x < span b) (h0 : x ≠ 0) : (tabE b)[x]? = some (lg b x : Int) := by
  have h := List.all_eq_true.mp (goodE_all hb) x (List.mem_range.mpr hx)
  unfold goodE at h
  split at h
  · next e he =>
    rcases (Bool.or_eq_true _ _).mp h with z | z
    · exact absurd (Nat.eq_of_beq_eq_true z) h0
    · rw [Bool.and_eq_true] at z
      have h1 : e < turn b := by
        have := z.1
        rw [Nat.blt_eq] at this
        exact this
      have h2 := Nat.eq_of_beq_eq_true z.2
      rw [he, ← h2, lgpw' hb h1]
      rfl
  · cases h
theorem tabE_len {b : Nat} (hb : Wd b) : (tabE b).length = span b := by rcases hb with rfl | rfl <;> decide +kernel
theorem tabP_is {b : Nat} (hb : Wd b) : tabP b = (pws b).map (fun n : Nat => (n : Int)) := by rcases hb with rfl | rfl <;> decide +kernel
theorem tabP_len {b : Nat} (hb : Wd b) : (tabP b).length = turn b := by rw [tabP_is hb, List.length_map, pws_len]
theorem tabP_at {b i : Nat} (hb : Wd b) (h : i < turn b) : (tabP b)[i]? = some (pw b i : Int) := by
  rw [tabP_is hb, List.getElem?_map, pws_at h]
  rfl
end My

set_option Elab.async false
set_option linter.all false
set_option maxRecDepth 100000
set_option maxHeartbeats 4000000
/-! ### polynomials over the field -/
namespace My
theorem span_eq' {b : Nat} (hb : Wd b) : span b = turn b + 1 := by rcases hb with rfl | rfl <;> rfl
theorem turn_pos {b : Nat} (hb : Wd b) : 0 < turn b := by rcases hb with rfl | rfl <;> decide
/-- the quotient: the word whose product with y is x -/
def quo (b x y : Nat) : Nat := mul b x (pw b (lg b y * (turn b - 1)))
theorem quo_mul {b x y : Nat} (hb : Wd b) (hx : x < span b) (hy : y < span b) (h1 : y ≠ 0) : quo b (mul b x y) y = x := by
  unfold quo
  by_cases h0 : x = 0
  · subst h0
    have e : mul b 0 y = 0 := zero_mulF hb _ _
    rw [e]
    exact zero_mulF hb _ _
  · have ex := pw_lg hb hx h0
    have ey := pw_lg hb hy h1
    have e : mul b x y = pw b (lg b x + lg b y) := by rw [← pw_mul hb, ex, ey]
    rw [e, pw_mul hb]
    have h := pw_add_mul hb (lg b x) (lg b y)
    have e2 : lg b x + lg b y + lg b y * (turn b - 1) = lg b x + lg b y * turn b := by
      have ht := turn_pos hb
      have : lg b y * turn b = lg b y * (turn b - 1) + lg b y := by
        rw [← Nat.mul_succ]
        rw [show (turn b - 1).succ = turn b by omega]
      omega
    rw [e2, h, ex]
theorem mul_quo {b x y : Nat} (hb : Wd b) (hx : x < span b) (hy : y < span b) (h1 : y ≠ 0) : mul b (quo b x y) y = x := by
  unfold quo
  by_cases h0 : x = 0
  · subst h0
    have e : mul b 0 (pw b (lg b y * (turn b - 1))) = 0 := zero_mulF hb _ _
    rw [e]
    exact zero_mulF hb _ _
  · have ex := pw_lg hb hx h0
    have ey := pw_lg hb hy h1
    have e : mul b x (pw b (lg b y * (turn b - 1))) = pw b (lg b x + lg b y * (turn b - 1)) := by rw [← pw_mul hb, ex]
    have e3 : mul b (pw b (lg b x + lg b y * (turn b - 1))) y = pw b (lg b x + lg b y * (turn b - 1) + lg b y) := by
      rw [← pw_mul hb _ (lg b x + lg b y * (turn b - 1)), ey]
    rw [e, e3]
    have h := pw_add_mul hb (lg b x) (lg b y)
    have e2 : lg b x + lg b y * (turn b - 1) + lg b y = lg b x + lg b y * turn b := by
      have ht := turn_pos hb
      have : lg b y * turn b = lg b y * (turn b - 1) + lg b y := by
        rw [← Nat.mul_succ]
        rw [show (turn b - 1).succ = turn b by omega]
      omega
    rw [e2, h, ex]
theorem mul_zero {b x : Nat} : mul b x 0 = 0 := mulF_zero 0 _ _
theorem zero_mul {b y : Nat} (hb : Wd b) : mul b 0 y = 0 := zero_mulF hb _ _
theorem span_pos {b : Nat} (hb : Wd b) : 1 < span b := by rcases hb with rfl | rfl <;> decide
theorem mul_one {b x : Nat} (hb : Wd b) (hx : x < span b) : mul b x 1 = x := by
  rw [mul_comm hb hx (span_pos hb)]
  exact one_mul hb hx
theorem mul_xor_l {b x z y : Nat} (hb : Wd b) (hx : x < span b) (hz : z < span b) : mul b (x ^^^ z) y = mul b x y ^^^ mul b z y := mulF_lin hb _ _ _ _ hx hz
theorem mul_xor_r {b x z y : Nat} (hb : Wd b) (hx : x < span b) (hz : z < span b) (hy : y < span b) : mul b y (x ^^^ z) = mul b y x ^^^ mul b y z := by
  rw [mul_comm hb hy (xor_lt hb hx hz), mul_xor_l hb hx hz, mul_comm hb hx hy, mul_comm hb hz hy]
theorem mul_assoc {b x y z : Nat} (hb : Wd b) (hx : x < span b) (hy : y < span b) (hz : z < span b) : mul b (mul b x y) z = mul b x (mul b y z) := by
  by_cases h1 : x = 0
  · subst h1
    rw [zero_mul hb, zero_mul hb, zero_mul hb]
  · by_cases h2 : y = 0
    · subst h2
      rw [mul_zero, zero_mul hb, mul_zero]
    · by_cases h3 : z = 0
      · subst h3
        rw [mul_zero, mul_zero, mul_zero]
      · rw [← pw_lg hb hx h1, ← pw_lg hb hy h2, ← pw_lg hb hz h3, pw_mul hb, pw_mul hb, pw_mul hb, pw_mul hb, Nat.add_assoc]
/-- a row of words of so many bits -/
def Ws (b : Nat) (ws : List Nat) : Prop := ∀ w ∈ ws, w < span b
def evF (b t : Nat) (acc : Nat) (ws : List Nat) : Nat := ws.foldl (fun acc w => mul b acc t ^^^ w) acc
def evl (b t : Nat) (ws : List Nat) : Nat := evF b t 0 ws
def powT (b t : Nat) : Nat → Nat
  | 0 => 1
  | n + 1 => mul b (powT b t n) t
theorem powT_lt {b t : Nat} (hb : Wd b) : ∀ n, powT b t n < span b
  | 0 => span_pos hb
  | n + 1 => mul_lt hb (powT_lt hb n)
theorem evF_lt {b t : Nat} (hb : Wd b) : ∀ (ws : List Nat) (acc : Nat), acc < span b → Ws b ws → evF b t acc ws < span b
  | [], _, h, _ => h
  | w :: r, acc, h, hw => evF_lt hb r _ (xor_lt hb (mul_lt hb h) (hw w (List.mem_cons_self ..))) fun x hx => hw x (List.mem_cons_of_mem _ hx)
theorem evl_lt {b t : Nat} {ws : List Nat} (hb : Wd b) (h : Ws b ws) : evl b t ws < span b := evF_lt hb ws 0 (by have := span_pos hb; omega) h
theorem evF_xor {b t : Nat} (hb : Wd b) (ht : t < span b) : ∀ (ws : List Nat) (acc : Nat), acc < span b → Ws b ws → evF b t acc ws = mul b acc (powT b t ws.length) ^^^ evl b t ws
  | [], acc, h, _ => by
    show acc = mul b acc 1 ^^^ 0
    rw [mul_one hb h, Nat.xor_zero]
  | w :: r, acc, h, hw => by
    have hr : Ws b r := fun x hx => hw x (List.mem_cons_of_mem _ hx)
    have hw0 := hw w (List.mem_cons_self ..)
    have hz : (0 : Nat) < span b := by have := span_pos hb; omega
    show evF b t (mul b acc t ^^^ w) r = mul b acc (mul b (powT b t r.length) t) ^^^ evF b t (mul b 0 t ^^^ w) r
    rw [evF_xor hb ht r _ (xor_lt hb (mul_lt hb h) hw0) hr, evF_xor hb ht r _ (xor_lt hb (mul_lt hb hz) hw0) hr, zero_mul hb, Nat.zero_xor, mul_xor_l hb (mul_lt hb h) hw0,
      mul_assoc hb h ht (powT_lt hb _), mul_comm hb ht (powT_lt hb _), Nat.xor_assoc]
theorem evl_cons {b t w : Nat} {r : List Nat} (hb : Wd b) (ht : t < span b) (hw : w < span b) (hr : Ws b r) : evl b t (w :: r) = mul b w (powT b t r.length) ^^^ evl b t r := by
  show evF b t (mul b 0 t ^^^ w) r = _
  rw [zero_mul hb, Nat.zero_xor]
  exact evF_xor hb ht r w hw hr
theorem evl_snoc {b t w : Nat} {r : List Nat} : evl b t (r ++ [w]) = mul b (evl b t r) t ^^^ w := by
  show (r ++ [w]).foldl _ 0 = _
  rw [List.foldl_append]
  rfl
theorem evl_zeros {b t : Nat} (hb : Wd b) : ∀ n, evl b t (List.replicate n 0) = 0
  | 0 => rfl
  | n + 1 => by
    rw [List.replicate_succ', evl_snoc, evl_zeros hb n, zero_mul hb]
    rfl
theorem evl_pad {b t : Nat} (hb : Wd b) (n : Nat) (ws : List Nat) : evl b t (List.replicate n 0 ++ ws) = evl b t ws := by
  show (List.replicate n 0 ++ ws).foldl _ 0 = _
  rw [List.foldl_append]
  have h := evl_zeros (t := t) hb n
  unfold evl evF at h
  rw [h]
  rfl
/-- sums, word by word, by the places below n -/
def xsum (n : Nat) (f : Nat → Nat) : Nat := (List.range n).foldl (fun acc i => acc ^^^ f i) 0
theorem xsum_succ (n : Nat) (f : Nat → Nat) : xsum (n + 1) f = xsum n f ^^^ f n := by
  unfold xsum
  rw [List.range_succ, List.foldl_append]
  rfl
theorem xsum_congr {n : Nat} {f g : Nat → Nat} (h : ∀ i, i < n → f i = g i) : xsum n f = xsum n g := by
  induction n with
  | zero => rfl
  | succ n ih => rw [xsum_succ, xsum_succ, ih fun i hi => h i (by omega), h n (by omega)]
theorem xsum_lt {b n : Nat} {f : Nat → Nat} (hb : Wd b) (h : ∀ i, i < n → f i < span b) : xsum n f < span b := by
  induction n with
  | zero => have := span_pos hb; show 0 < span b; omega
  | succ n ih =>
    rw [xsum_succ]
    exact xor_lt hb (ih fun i hi => h i (by omega)) (h n (by omega))
/-- the i-th word times the (k - i)-th word of the other -/
def term (b : Nat) (f g : Nat → Nat) (k i : Nat) : Nat := if i ≤ k then mul b (f i) (g (k - i)) else 0
def gd (ws : List Nat) (i : Nat) : Nat := ws.getD i 0
theorem gd_lt {b : Nat} {ws : List Nat} (hb : Wd b) (h : Ws b ws) (i : Nat) : gd ws i < span b := by
  unfold gd
  by_cases hi : i < ws.length
  · rw [List.getD_eq_getElem?_getD, List.getElem?_eq_getElem hi]
    exact h _ (List.getElem_mem hi)
  · rw [List.getD_eq_getElem?_getD, List.getElem?_eq_none (by omega)]
    have := span_pos hb
    show 0 < span b
    omega
theorem gd_out {ws : List Nat} {i : Nat} (h : ws.length ≤ i) : gd ws i = 0 := by
  unfold gd
  rw [List.getD_eq_getElem?_getD, List.getElem?_eq_none h]
  rfl
theorem gd_in {ws : List Nat} {i : Nat} (h : i < ws.length) : ws[i]? = some (gd ws i) := by
  unfold gd
  rw [List.getD_eq_getElem?_getD, List.getElem?_eq_getElem h]
  rfl
theorem gd_list (ws : List Nat) : (List.range ws.length).map (gd ws) = ws := by
  refine List.ext_getElem? fun i => ?_
  by_cases h : i < ws.length
  · rw [gd_in h]
    simp [h]
  · rw [List.getElem?_eq_none (by simp; omega), List.getElem?_eq_none (by omega)]
def cf (b : Nat) (xs ys : List Nat) (k : Nat) : Nat := xsum xs.length (term b (gd xs) (gd ys) k)
/-- the product -/
def conv (b : Nat) (xs ys : List Nat) : List Nat := if xs = [] ∨ ys = [] then [] else (List.range (xs.length + ys.length - 1)).map (cf b xs ys)
theorem term_lt {b : Nat} {f g : Nat → Nat} {k i : Nat} (hb : Wd b) (h : f i < span b) : term b f g k i < span b := by
  unfold term
  split
  · exact mul_lt hb h
  · have := span_pos hb; omega
theorem cf_lt {b k : Nat} {xs ys : List Nat} (hb : Wd b) (hx : Ws b xs) : cf b xs ys k < span b := xsum_lt hb fun i _ => term_lt hb (gd_lt hb hx i)
theorem conv_ws {b : Nat} {xs ys : List Nat} (hb : Wd b) (hx : Ws b xs) : Ws b (conv b xs ys) := by
  intro w hw
  unfold conv at hw
  split at hw
  · cases hw
  · obtain ⟨k, _, rfl⟩ := List.mem_map.mp hw
    exact cf_lt hb hx
/-- sums of two rows of one length -/
def zx (xs ys : List Nat) : List Nat := (List.range xs.length).map fun k => gd xs k ^^^ gd ys k
theorem evl_fn {b t : Nat} (hb : Wd b) (ht : t < span b) (f g : Nat → Nat) (hf : ∀ i, f i < span b) (hg : ∀ i, g i < span b) : ∀ n, evl b t ((List.range n).map fun k => f k ^^^ g k) = evl b t ((List.range n).map f) ^^^ evl b t ((List.range n).map g)
  | 0 => by
    show (0 : Nat) = 0 ^^^ 0
    rfl
  | n + 1 => by
    have w1 : Ws b ((List.range n).map f) := fun w hw => by obtain ⟨k, _, rfl⟩ := List.mem_map.mp hw; exact hf k
    have w2 : Ws b ((List.range n).map g) := fun w hw => by obtain ⟨k, _, rfl⟩ := List.mem_map.mp hw; exact hg k
    rw [List.range_succ, List.map_append, List.map_append, List.map_append]
    show evl b t (_ ++ [f n ^^^ g n]) = evl b t (_ ++ [_]) ^^^ evl b t (_ ++ [_])
    rw [evl_snoc, evl_snoc, evl_snoc, evl_fn hb ht f g hf hg n, mul_xor_l hb (evl_lt hb w1) (evl_lt hb w2)]
    generalize mul b (evl b t (List.map f (List.range n))) t = u
    generalize mul b (evl b t (List.map g (List.range n))) t = v
    generalize f n = c
    generalize g n = d
    ac_rfl
theorem evl_scale {b t x : Nat} (hb : Wd b) (ht : t < span b) (hx : x < span b) (g : Nat → Nat) (hg : ∀ i, g i < span b) : ∀ n, evl b t ((List.range n).map fun k => mul b x (g k)) = mul b x (evl b t ((List.range n).map g))
  | 0 => mul_zero.symm
  | n + 1 => by
    have w2 : Ws b ((List.range n).map g) := fun w hw => by obtain ⟨k, _, rfl⟩ := List.mem_map.mp hw; exact hg k
    rw [List.range_succ, List.map_append, List.map_append]
    show evl b t (_ ++ [_]) = mul b x (evl b t (_ ++ [_]))
    rw [evl_snoc, evl_snoc, evl_scale hb ht hx g hg n, mul_xor_r hb (mul_lt hb (evl_lt hb w2)) (hg n) hx, mul_assoc hb hx (evl_lt hb w2) ht]
/-- the value of a product -/
theorem evl_sum {b t : Nat} (hb : Wd b) (ht : t < span b) (f g : Nat → Nat) (hf : ∀ i, f i < span b) (hg : ∀ i, g i < span b) (m : Nat) (hm : 0 < m) (hout : ∀ i, m ≤ i → g i = 0) :
    ∀ n, evl b t ((List.range (n + m - 1)).map fun k => xsum n (term b f g k)) = mul b (evl b t ((List.range n).map f)) (evl b t ((List.range m).map g))
  | 0 => by
    show evl b t ((List.range (0 + m - 1)).map fun k => 0) = mul b 0 _
    rw [zero_mul hb]
    have e : (List.range (0 + m - 1)).map (fun _ => 0) = List.replicate (0 + m - 1) 0 := by
      rw [List.map_const', List.length_range]
    rw [e, evl_zeros hb]
  | n + 1 => by
    have ih := evl_sum hb ht f g hf hg m hm hout n
    have w1 : Ws b ((List.range n).map f) := fun w hw => by obtain ⟨k, _, rfl⟩ := List.mem_map.mp hw; exact hf k
    have w2 : Ws b ((List.range m).map g) := fun w hw => by obtain ⟨k, _, rfl⟩ := List.mem_map.mp hw; exact hg k
    have e1 : (List.range (n + 1 + m - 1)).map (fun k => xsum (n + 1) (term b f g k)) = (List.range (n + 1 + m - 1)).map fun k => xsum n (term b f g k) ^^^ term b f g k n := by
      refine List.map_congr_left fun k _ => xsum_succ _ _
    have t1 : ∀ k, xsum n (term b f g k) < span b := fun k => xsum_lt hb fun i _ => term_lt hb (hf i)
    rw [e1, evl_fn hb ht _ _ t1 (fun k => term_lt hb (hf n))]
    have e2 : evl b t ((List.range (n + 1 + m - 1)).map fun k => xsum n (term b f g k)) = mul b (mul b (evl b t ((List.range n).map f)) (evl b t ((List.range m).map g))) t := by
      rw [show n + 1 + m - 1 = (n + m - 1) + 1 by omega, List.range_succ, List.map_append]
      show evl b t (_ ++ [_]) = _
      rw [evl_snoc, ih]
      show _ ^^^ xsum n (term b f g (n + m - 1)) = _
      have z : xsum n (term b f g (n + m - 1)) = 0 := by
        have : xsum n (term b f g (n + m - 1)) = xsum n fun _ => 0 := by
          refine xsum_congr fun i hi => ?_
          unfold term
          rw [if_pos (by omega), hout _ (by omega), mul_zero]
        rw [this]
        clear this ih e1 w1 t1
        induction n with
        | zero => rfl
        | succ n ih => rw [xsum_succ, ih]; rfl
      rw [z, Nat.xor_zero]
    have e3 : evl b t ((List.range (n + 1 + m - 1)).map fun k => term b f g k n) = mul b (f n) (evl b t ((List.range m).map g)) := by
      rw [show n + 1 + m - 1 = n + m by omega, List.range_add, List.map_append]
      have z : (List.range n).map (fun k => term b f g k n) = List.replicate n 0 := by
        refine List.ext_getElem? fun i => ?_
        by_cases h : i < n
        · simp [h, term]
          omega
        · rw [List.getElem?_eq_none (by simp; omega), List.getElem?_eq_none (by simp; omega)]
      rw [z, evl_pad hb, List.map_map]
      have z2 : (List.range m).map ((fun k => term b f g k n) ∘ (n + ·)) = (List.range m).map fun k => mul b (f n) (g k) := by
        refine List.map_congr_left fun k _ => ?_
        show term b f g (n + k) n = _
        unfold term
        rw [if_pos (by omega), show n + k - n = k by omega]
      rw [z2, evl_scale hb ht (hf n) g hg]
    rw [e2, e3, List.range_succ, List.map_append]
    show _ = mul b (evl b t (_ ++ [f n])) _
    rw [evl_snoc, mul_xor_l hb (mul_lt hb (evl_lt hb w1)) (hf n)]
    congr 1
    rw [mul_assoc hb (evl_lt hb w1) (evl_lt hb w2) ht, mul_comm hb (evl_lt hb w2) ht, ← mul_assoc hb (evl_lt hb w1) ht (evl_lt hb w2)]
theorem evl_conv {b t : Nat} {xs ys : List Nat} (hb : Wd b) (ht : t < span b) (hx : Ws b xs) (hy : Ws b ys) (h0 : xs ≠ []) (h1 : ys ≠ []) : evl b t (conv b xs ys) = mul b (evl b t xs) (evl b t ys) := by
  have hl : 0 < ys.length := by cases ys with | nil => exact absurd rfl h1 | cons _ _ => simp
  unfold conv
  rw [if_neg (by simp [h0, h1])]
  have h := evl_sum hb ht (gd xs) (gd ys) (gd_lt hb hx) (gd_lt hb hy) ys.length hl (fun i hi => gd_out hi) xs.length
  rw [gd_list, gd_list] at h
  exact h
/-! ### the quotient and the remainder -/
def divStep (b : Nat) (c : Nat → Nat) (m : Nat) (r : Nat → Nat) (s : Nat) : Nat → Nat := fun k => if k = s then quo b (r s) (c 0) else if s < k ∧ k < s + m then r k ^^^ mul b (quo b (r s) (c 0)) (c (k - s)) else r k
def dvN (b : Nat) (c : Nat → Nat) (m : Nat) (w : Nat → Nat) : Nat → Nat → Nat
  | 0 => w
  | s + 1 => divStep b c m (dvN b c m w s) s
theorem quo_lt' {b x y : Nat} (hb : Wd b) (hx : x < span b) : quo b x y < span b := mul_lt hb hx
theorem dvN_lt {b : Nat} {c w : Nat → Nat} {m : Nat} (hb : Wd b) (hw : ∀ k, w k < span b) : ∀ s k, dvN b c m w s k < span b
  | 0, k => hw k
  | s + 1, k => by
    show divStep b c m (dvN b c m w s) s k < span b
    unfold divStep
    have h := dvN_lt (c := c) (m := m) hb hw s
    split
    · exact quo_lt' hb (h s)
    · split
      · exact xor_lt hb (h k) (mul_lt hb (quo_lt' hb (h s)))
      · exact h k
theorem dvN_keep {b : Nat} {c w : Nat → Nat} {m : Nat} {i : Nat} : ∀ s j, i < s → dvN b c m w (s + j) i = dvN b c m w s i
  | s, 0, _ => rfl
  | s, j + 1, h => by
    show divStep b c m (dvN b c m w (s + j)) (s + j) i = _
    unfold divStep
    rw [if_neg (by omega), if_neg (by omega)]
    exact dvN_keep s j h
theorem div_spec {b : Nat} {c w : Nat → Nat} {m : Nat} (hb : Wd b) (hw : ∀ k, w k < span b) (hc : ∀ k, c k < span b) (h0 : c 0 ≠ 0) (hout : ∀ k, m ≤ k → c k = 0) :
    ∀ s k, w k = xsum s (term b (dvN b c m w s) c k) ^^^ (if k < s then 0 else dvN b c m w s k)
  | 0, k => by
    show w k = 0 ^^^ w k
    rw [Nat.zero_xor]
  | s + 1, k => by
    have ih := div_spec hb hw hc h0 hout s k
    have e1 : xsum s (term b (dvN b c m w (s + 1)) c k) = xsum s (term b (dvN b c m w s) c k) := by
      refine xsum_congr fun i hi => ?_
      unfold term
      rw [dvN_keep s 1 hi]
    rw [xsum_succ, e1]
    have hr := dvN_lt (c := c) (m := m) hb hw s
    have eq : dvN b c m w (s + 1) s = quo b (dvN b c m w s s) (c 0) := by
      show divStep b c m (dvN b c m w s) s s = _
      unfold divStep
      rw [if_pos rfl]
    by_cases h1 : k < s
    · rw [if_pos h1, Nat.xor_zero] at ih
      rw [if_pos (by omega), Nat.xor_zero, ← ih]
      unfold term
      rw [if_neg (by omega), Nat.xor_zero]
    · rw [if_neg h1] at ih
      by_cases h2 : k = s
      · subst h2
        rw [if_pos (by omega), Nat.xor_zero, ih]
        unfold term
        rw [if_pos (Nat.le_refl _), eq, Nat.sub_self, mul_quo hb (hr _) (hc 0) h0]
      · rw [if_neg (by omega), ih]
        have et : term b (dvN b c m w (s + 1)) c k s = mul b (quo b (dvN b c m w s s) (c 0)) (c (k - s)) := by
          unfold term
          rw [if_pos (by omega), eq]
        have ed : dvN b c m w (s + 1) k = dvN b c m w s k ^^^ mul b (quo b (dvN b c m w s s) (c 0)) (c (k - s)) := by
          show divStep b c m (dvN b c m w s) s k = _
          unfold divStep
          rw [if_neg h2]
          by_cases h3 : k < s + m
          · rw [if_pos ⟨by omega, h3⟩]
          · rw [if_neg (by omega), hout (k - s) (by omega), mul_zero, Nat.xor_zero]
        rw [et, ed]
        generalize xsum s (term b (dvN b c m w s) c k) = u
        generalize dvN b c m w s k = v
        generalize mul b (quo b (dvN b c m w s s) (c 0)) (c (k - s)) = z
        rw [Nat.xor_assoc, ← Nat.xor_assoc z v z, Nat.xor_comm z v, Nat.xor_assoc v z z, Nat.xor_self, Nat.xor_zero]
/-- quotient and remainder, as lists -/
def steps (ws os : List Nat) : Nat := ws.length + 1 - os.length
def quoL (b : Nat) (ws os : List Nat) : List Nat := (List.range (steps ws os)).map (dvN b (gd os) os.length (gd ws) (steps ws os))
def remL (b : Nat) (ws os : List Nat) : List Nat := (List.range (ws.length - steps ws os)).map fun j => dvN b (gd os) os.length (gd ws) (steps ws os) (steps ws os + j)
/-- what lies behind the law's sum: other * quotient and the remainder, padded -/
def pad (n : Nat) (ws : List Nat) : List Nat := List.replicate n 0 ++ ws
theorem gd_pad {n k : Nat} {ws : List Nat} : gd (pad n ws) k = if k < n then 0 else gd ws (k - n) := by
  unfold gd pad
  rw [List.getD_eq_getElem?_getD, List.getD_eq_getElem?_getD, List.getElem?_append]
  by_cases h : k < n
  · simp [h]
  · simp [h]
theorem gd_map {n k : Nat} {f : Nat → Nat} : gd ((List.range n).map f) k = if k < n then f k else 0 := by
  unfold gd
  rw [List.getD_eq_getElem?_getD]
  by_cases h : k < n
  · simp [h]
  · simp [h]
theorem div_lists {b : Nat} {ws os : List Nat} (hb : Wd b) (hw : Ws b ws) (ho : Ws b os) (h0 : gd os 0 ≠ 0) (hl : os.length ≤ ws.length) (hp : 0 < os.length) :
    (List.range ws.length).map (fun k => gd (conv b (quoL b ws os) os) k ^^^ gd (pad (steps ws os) (remL b ws os)) k) = ws := by
  have hs : 0 < steps ws os := by unfold steps; omega
  have hs2 : steps ws os + os.length - 1 = ws.length := by unfold steps; omega
  have hq : quoL b ws os ≠ [] := by
    intro z
    have := congrArg List.length z
    unfold quoL at this
    simp at this
    omega
  have hon : os ≠ [] := by intro z; rw [z] at hp; simp at hp
  have hql : (quoL b ws os).length = steps ws os := by unfold quoL; simp
  refine Eq.trans (List.map_congr_left fun k hk => ?_) (gd_list ws)
  have hk' : k < ws.length := List.mem_range.mp hk
  have spec := div_spec (c := gd os) (w := gd ws) (m := os.length) hb (gd_lt hb hw) (gd_lt hb ho) h0 (fun i hi => gd_out hi) (steps ws os) k
  refine Eq.trans ?_ spec.symm
  have e1 : gd (conv b (quoL b ws os) os) k = xsum (steps ws os) (term b (dvN b (gd os) os.length (gd ws) (steps ws os)) (gd os) k) := by
    unfold conv
    rw [if_neg (by simp [hq, hon]), gd_map, hql, if_pos (by omega)]
    unfold cf
    rw [hql]
    refine xsum_congr fun i hi => ?_
    unfold term
    have : gd (quoL b ws os) i = dvN b (gd os) os.length (gd ws) (steps ws os) i := by
      unfold quoL
      rw [gd_map, if_pos hi]
    rw [this]
  have e2 : gd (pad (steps ws os) (remL b ws os)) k = if k < steps ws os then 0 else dvN b (gd os) os.length (gd ws) (steps ws os) k := by
    rw [gd_pad]
    by_cases h : k < steps ws os
    · rw [if_pos h, if_pos h]
    · rw [if_neg h, if_neg h]
      unfold remL
      rw [gd_map, if_pos (by omega), show steps ws os + (k - steps ws os) = k by omega]
  rw [e1, e2]
end My

set_option Elab.async false
set_option linter.all false
set_option maxRecDepth 100000
set_option maxHeartbeats 4000000
/-! ### f(k = v, ..) without positional arguments -/
namespace My
open PySem PySem.Spec PyProof.Rows L2
def tCallZ (m : Nat) (sp : Sp) (gV : List V → List V) (E : XK) (tk : TA) : TE := fun σ H Q => tk σ H fun zs H2 => zs.length = m ∧ sp (gV zs) H2 Q E
section
variable {X : Cx} {CX : CXT} {k : Nat} {f : Addr} {fd : FuncData} {ps ks : List Str} {sp : Sp} {E : XK} {x : Str} {p pos : Pos} {kws : List Keyword} {tk : TA} {g : List Value → List Value} {gV : List V → List V}
theorem pe_callZ (F : FnOk X.prog X.w X.K X.mg X.base CX k f fd ps sp) (hr : Room k X.A) (hg : Gl X x) (hm : X.mg x = some (.ref f)) (hk : PySem.W.keepIn X.K (.ref f) = true) (hb : KBn X.K fd ps 0 ks (fun _ ws => g ws) (fun _ zs => gV zs)) (hx : Passes CX X E)
    (hkw : PK X kws tk) (hall : (backToKw pos (keywordEach kws X.env)).all (·.1.isSome) = true := by rfl) (hks : (backToKw pos (keywordEach kws X.env)).filterMap (·.1) = ks := by rfl)
    (hdb : (x == ("__debug__" : Str)) = false := by decide)
    (hpl : ((backTo pos (starEach [] X.env)).any (·.1) || (backToKw pos (keywordEach kws X.env)).any (·.1.isNone)) = false := by rfl) :
    PE X (.Call (.Name x p) [] kws pos) (tCallZ ks.length sp gV E tk) := by
  refine ⟨fun pins s σ H Q I h => ?_⟩
  refine wpAny_Call_Name_kw (ld_glob I hg hm ?_ hdb)
  refine PySem.W.callWith_KW0 (h₀ := X.base) I.ok.mod.kin hk hall (thn (hkw.run pos pins s σ H _ I h) fun ws s2 ⟨zs, H2, I2, rz, l2, q2⟩ => ⟨I2.kIn, ?_⟩) hpl
  rw [hks]
  exact run_fnN (us := []) (vs := []) F hr hb hx I2 .nil rz rfl l2 q2
end
theorem kb0 {K : PySem.W.Frag} {x qual : Str} {st : Stmt} {f : Addr} {fd : FuncData} {ps ks : List Str} (F : Fun K x qual st f fd) (g : {α : Type} → List α → List α)
    (hrel : ∀ {zs : List V} {ws : List Value}, Vals zs ws → Vals (g zs) (g ws))
    (h : ∀ (kV doc pm : Value) (an : Option Addr) (cdv ct : Value) (ws : List Value), ws.length = ks.length → bindArgs (PySem.W.fnOf x qual (defArgs st) (defBody st) (defScope st) .none kV doc pm an cdv ct) ⟨[], ks.zip ws⟩ = pure (ps.zip (g ws))) :
    KBn K fd ps 0 ks (fun _ ws => g ws) (fun _ zs => g zs) := by
  obtain ⟨oc, od, kV, doc, pm, an, cdv, ct, osl, rfl, lk, hcd⟩ := F.ex
  refine ⟨fun s us ws X l1 l2 => ?_, fun _ r2 => hrel r2⟩
  have e : us = [] := List.length_eq_zero_iff.mp l1
  subst e
  exact .of_eq (h kV doc pm an cdv ct ws l2)
/-- three values the other way round -/
def rev3 {α : Type} : List α → List α
  | [a, b, c] => [c, b, a]
  | l => l
theorem rev3_rel {zs : List V} {ws : List Value} (r : Vals zs ws) : Vals (rev3 zs) (rev3 ws) := by
  cases r with
  | nil => exact .nil
  | cons r1 r =>
    cases r with
    | nil => exact .cons r1 .nil
    | cons r2 r =>
      cases r with
      | nil => exact .cons r1 (.cons r2 .nil)
      | cons r3 r =>
        cases r with
        | nil => exact .cons r3 (.cons r2 (.cons r1 .nil))
        | cons r4 r => exact .cons r1 (.cons r2 (.cons r3 (.cons r4 r)))
end My

set_option Elab.async false
set_option linter.all false
set_option maxRecDepth 100000
set_option maxHeartbeats 4000000
/-! ### lists of words, compared -/
namespace My
open PySem PySem.Spec PyProof.Rows L2
theorem same_upd {H : Hp} {p : Addr} {o : HO} (h : H p = none) : Same H (upd H p o) := fun b x e => by
  rw [upd_ne (ne_of_none e h)]
  exact e
/-- a word as a value -/
def vN (n : Nat) : V := .int (n : Int)
def dI (n : Nat) : PyData := .int (n : Int)
def dN (ws : List Nat) : PyData := .list (ws.map dI)
theorem lay_all : ∀ ws : List Nat, PyData.canLayAll0 (ws.map dI) = true
  | [] => rfl
  | w :: r => by
    show (PyData.canLay0 (dI w) && PyData.canLayAll0 (r.map dI)) = true
    rw [lay_all r]
    rfl
theorem depth_all : ∀ ws : List Nat, PyData.depthAll (ws.map dI) = 0
  | [] => rfl
  | w :: r => by
    show max (PyData.depth (dI w)) (PyData.depthAll (r.map dI)) = 0
    rw [depth_all r]
    rfl
theorem dN_lay (ws : List Nat) : (dN ws).canLay0 = true := lay_all ws
theorem dN_depth (ws : List Nat) : (dN ws).depth = 1 := by
  show PyData.depthAll (ws.map dI) + 1 = 1
  rw [depth_all]
theorem dN_shaped (ws : List Nat) : SeqAt.shaped (dN ws) = true := by
  unfold SeqAt.shaped
  rw [dN_lay, dN_depth]
  rfl
theorem eqv_all : ∀ xs ys : List Nat, PyData.eqvAll (xs.map dI) (ys.map dI) = decide (xs = ys)
  | [], [] => rfl
  | [], _ :: _ => by simp [PyData.eqvAll]
  | _ :: _, [] => by simp [PyData.eqvAll]
  | x :: r, y :: t => by
    show (PyData.eqv (dI x) (dI y) && PyData.eqvAll (r.map dI) (t.map dI)) = decide (x :: r = y :: t)
    rw [eqv_all r t]
    have e : PyData.eqv (dI x) (dI y) = decide (x = y) := by
      show ((x : Int) == (y : Int)) = decide (x = y)
      by_cases h : x = y
      · subst h; simp
      · simp [h]
        omega
    rw [e]
    by_cases h : x = y
    · by_cases h2 : r = t
      · simp [h, h2]
      · simp [h, h2]
    · simp [h]
theorem dN_eqv (xs ys : List Nat) : PyData.eqv (dN xs) (dN ys) = decide (xs = ys) := eqv_all xs ys
theorem dp_all {K : PySem.W.Frag} {H : Hp} : ∀ ws : List Nat, DpAll K H (ws.map vN) (ws.map dI)
  | [] => .nil
  | w :: r => .cons (.int _) (dp_all r)
theorem dN_dp {K : PySem.W.Frag} {H : Hp} {a : Addr} {ws : List Nat} (h : SqL K H a (ws.map vN)) : Dp K H (.ref a) (dN ws) := .lst h (dp_all ws)
end My

set_option Elab.async false
set_option linter.all false
set_option maxRecDepth 100000
set_option maxHeartbeats 4000000
/-! ### slices of rows, lists (true) or tuples (false); the powers twice -/
namespace My
open PySem PySem.Spec PyProof.Rows L2
section
variable {X : Cx}
def rSlB (K : PySem.W.Frag) : V → Option Int → Option Int → Hp → VK → Prop := fun x lo hi H Q => ∃ a xs k, x = .ref a ∧ SqB k K H a xs ∧ ∀ p H', Same H H' → SqB k K H' p (cutV xs lo hi) → Q (.ref p) H'
theorem sl_rowB : SlR X (rSlB X.K) := by
  intro pins s σ H x v vl vu lo hi sl Q I rx hs pl pu h
  obtain ⟨a, xs, k, rfl, hx, q⟩ := h
  cases k
  · refine sl_tupA pins s σ H _ v vl vu lo hi sl Q I rx hs pl pu ⟨a, xs, rfl, hx, fun hw => q a H (Same.refl _) ?_, fun _ p hp => q p _ (same_upd hp) (.inl (.inl upd_same))⟩
    have e : cutV xs lo hi = xs := by
      unfold cutV
      rw [hw.1, hw.2]
      simp
    rw [e]
    exact hx
  · exact sl_list pins s σ H _ v vl vu lo hi sl Q I rx hs pl pu ⟨a, xs, rfl, hx, fun p hp => q p _ (same_upd hp) (.inl (.inl upd_same))⟩
end
theorem turn_pos' {b : Nat} (hb : Wd b) : 0 < turn b := by rcases hb with rfl | rfl <;> decide
/-- the powers, twice -/
def PP (b : Nat) : List V := (List.replicate (2 : Int).toNat ((tabP b).map V.int)).flatten
theorem PP_is (b : Nat) : PP b = (tabP b).map V.int ++ (tabP b).map V.int := by
  unfold PP
  show (List.replicate 2 _).flatten = _
  simp [List.replicate]
theorem PP_at {b i : Nat} (hb : Wd b) (h : i < 2 * turn b) : (PP b)[i]? = some (V.int (pw b i : Int)) := by
  have hl : ((tabP b).map V.int).length = turn b := by rw [List.length_map, tabP_len hb]
  rw [PP_is]
  by_cases h1 : i < turn b
  · rw [List.getElem?_append_left (by rw [hl]; exact h1), List.getElem?_map, tabP_at hb h1]
    rfl
  · rw [List.getElem?_append_right (by rw [hl]; omega), hl, List.getElem?_map, tabP_at hb (by omega)]
    have e : pw b i = pw b (i - turn b) := by
      rw [← pw_add_turn hb (i - turn b), show i - turn b + turn b = i by omega]
    rw [e]
    rfl
theorem PP_len {b : Nat} (hb : Wd b) : (PP b).length = 2 * turn b := by
  rw [PP_is, List.length_append, List.length_map, tabP_len hb]
  omega
theorem tabP_small {b : Nat} (hb : Wd b) : ((tabP b).map V.int).length ≤ 1000 ∧ (tabP b).map V.int ≠ [] := by
  have e := tabP_len hb
  have t := turn_pos' hb
  refine ⟨?_, fun z => ?_⟩
  · rw [List.length_map, e]
    rcases hb with rfl | rfl <;> decide
  · have := congrArg List.length z
    rw [List.length_map, e] at this
    simp at this
    omega
theorem sum_at {b x y : Nat} (hb : Wd b) (hx : x < span b) (hy : y < span b) (h0 : x ≠ 0) (h1 : y ≠ 0) : atI (PP b) ((lg b x : Int) + (lg b y : Int)) = some (V.int (mul b x y : Int)) := by
  have l1 := lg_lt hb hx h0
  have l2 := lg_lt hb hy h1
  rw [show (lg b x : Int) + (lg b y : Int) = ((lg b x + lg b y : Nat) : Int) by omega]
  refine atI_nat ?_
  rw [PP_at hb (by omega), ← pw_mul hb, pw_lg hb hx h0, pw_lg hb hy h1]
theorem diff_at {b x y : Nat} (hb : Wd b) (hx : x < span b) (hy : y < span b) (h0 : x ≠ 0) (h1 : y ≠ 0) : atI (PP b) ((lg b x : Int) - (lg b y : Int) + (turn b : Int)) = some (V.int (quo b x y : Int)) := by
  have l1 := lg_lt hb hx h0
  have l2 := lg_lt hb hy h1
  rw [show (lg b x : Int) - (lg b y : Int) + (turn b : Int) = ((lg b x + (turn b - lg b y) : Nat) : Int) by omega]
  refine atI_nat ?_
  rw [PP_at hb (by omega)]
  unfold quo
  have e : pw b (lg b y * (turn b - 1)) = pw b (turn b - lg b y) := by
    have h := pw_add_mul hb (turn b - lg b y) (lg b y)
    have h2 := pw_add_turn hb (lg b y * (turn b - 1))
    have h3 : turn b - lg b y + lg b y * turn b = lg b y * (turn b - 1) + turn b := by
      have h4 : lg b y * turn b = lg b y * (turn b - 1) + lg b y := by
        rw [← Nat.mul_succ]
        rw [show (turn b - 1).succ = turn b by omega]
      omega
    rw [h3] at h
    rw [← h2, h]
  rw [e, ← pw_mul hb, pw_lg hb hx h0]
end My
namespace My
open PySem PySem.Spec PyProof.Rows L2
theorem ix_rowBK {X : Cx} {K : PySem.W.Frag} (h : X.K = K) : IxR X (rIxB K) := by
  subst h
  exact ix_rowB
end My
namespace My
open PySem PySem.Spec PyProof.Rows L2
theorem pe_ifName {X : Cx} {K : PySem.W.Frag} {x : Str} {p : Pos} {a b : Expr} {pos : Pos} {tc ta tb : TE} (h : X.K = K) (hc : PE X (.Name x p) tc) (ha : PE X a ta) (hb : PE X b tb) :
    PE X (.IfExp (.Name x p) a b pos) (tIf (fun σ H Q => tc σ H fun x H' => ∃ k, TruV K x H' k ∧ Q k H') ta tb) := by
  subst h
  exact pe_ifExp (pt_truth hc (fun _ => rfl)) ha hb
end My

set_option Elab.async false
set_option linter.all false
set_option maxRecDepth 100000
set_option maxHeartbeats 1000000
/-! ### zip(*rows), in a comprehension -/
namespace My
open PySem PySem.Spec PyProof.Rows L2
/-- the lists of rows -/
def RowsL (K : PySem.W.Frag) (H : Hp) (L : List Addr) (rows : List (List V)) : Prop := L.length = rows.length ∧ ∀ (j : Nat) (l : Addr) (r : List V), L[j]? = some l → rows[j]? = some r → SqL K H l r
theorem Same.rows {K : PySem.W.Frag} {H H' : Hp} {L : List Addr} {rows : List (List V)} (s : Same H H') (h : RowsL K H L rows) : RowsL K H' L rows := ⟨h.1, fun j l r e1 e2 => s.seq (h.2 j l r e1 e2)⟩
def colAt (rows : List (List V)) (i : Nat) : List V := rows.map fun r => r.getD i .non
def ItZs (K : PySem.W.Frag) (L : List Addr) : It :=
  ⟨fun i H => ∃ rows, RowsL K H L rows ∧ ∀ r ∈ rows, i < r.length,
    fun i H v H' => ∃ T, ∃ xs : List V, v = .ref T ∧ H T = none ∧ H' = upd H T (.tup xs) ∧ ∀ rows, RowsL K H L rows → xs = colAt rows i,
    fun i H => ∃ (rows : List (List V)) (r : List V), RowsL K H L rows ∧ rows[0]? = some r ∧ r.length ≤ i⟩
/-- a new tuple of the i-th of each row -/
def YCol (rows : List (List V)) : Nat → Hp → V → Hp → Prop := fun i H v H' => ∃ T, v = .ref T ∧ H T = none ∧ H' = upd H T (.tup (colAt rows i))
theorem walk_zipS {K : PySem.W.Frag} {L : List Addr} {rows : List (List V)} {n : Nat} (h0 : rows ≠ []) (hn : ∀ r ∈ rows, r.length = n) : Walk (ItZs K L) n (fun H => RowsL K H L rows) (YCol rows) where
  goes i _ hi q := ⟨rows, q, fun r hr => by rw [hn r hr]; exact hi⟩
  stops _ q := by
    cases rows with
    | nil => exact absurd rfl h0
    | cons r rs => exact ⟨r :: rs, r, q, rfl, Nat.le_of_eq (hn r (by simp))⟩
  yields i H v H' _ q y := by
    obtain ⟨T, xs, h1, h2, h3, h4⟩ := y
    rw [h4 rows q] at h3
    exact ⟨T, h1, h2, h3⟩
section
variable {prog : Program} {w : World} {A : Around} {E : Value → Shared → Prop} {s : Shared}
theorem iter_zs {L : List Addr} {b i : Nat} {Q : Value → Shared → Prop} (Z : ZAt L b i s.heap) (h : Q (.ref (b + L.length + 2)) s) : wpAny (model prog w) A (pyIter (.ref (b + L.length + 2))) Q E s := by
  obtain ⟨f0, c0, hz, _⟩ := Z.z
  have hT : s.TypeIs (.ref (b + L.length + 2)) "zip" := ⟨_, hz, rfl⟩
  refine wpAny_pyIter_slot hT F.slot_zip_iter (wpAny_call_entry F.slot_zip_iter hT F.entry_zip_iter ?_ (F.args_zip_iter_1 _))
  show wpAny _ _ (ret (.ref _)) _ _ s
  exact wpAny_pure ⟨_, rfl, "zip", _, hT, F.slot_zip_next.lookup, h⟩
end
def zfp (L : List Addr) (b : Nat) : List Addr := (List.range (L.length + 3)).map fun j => b + j
theorem zfp_part {L : List Addr} {b c : Nat} (h : c ∉ zfp L b) : ¬ Zpart L b c := by
  unfold zfp at h
  intro z
  refine h (List.mem_map.mpr ?_)
  rcases z with e | e | ⟨j, hj, e⟩
  · exact ⟨L.length + 2, List.mem_range.mpr (by omega), by rw [e]; rfl⟩
  · exact ⟨L.length + 1, List.mem_range.mpr (by omega), by rw [e]; rfl⟩
  · exact ⟨j, List.mem_range.mpr (by omega), by rw [e]⟩
theorem zfp_in {L : List Addr} {b : Nat} (j : Nat) (h : j < L.length + 3) : b + j ∈ zfp L b := List.mem_map.mpr ⟨j, List.mem_range.mpr h, rfl⟩
theorem zfp_2 {L : List Addr} {b : Nat} : b + L.length + 2 ∈ zfp L b := zfp_in (L.length + 2) (by omega)
theorem zfp_1 {L : List Addr} {b : Nat} : b + L.length + 1 ∈ zfp L b := zfp_in (L.length + 1) (by omega)
theorem zfp_0 {L : List Addr} {b : Nat} : b + L.length ∈ zfp L b := zfp_in (L.length) (by omega)
theorem near4 {j n : Nat} (h : j < n + 3) : j < n ∨ j = n ∨ j = n + 1 ∨ j = n + 2 := by omega
theorem lt3 {j n : Nat} (h : j < n) : j < n + 3 := by omega
theorem ZAt.keep {L : List Addr} {b i : Nat} {h h' : Heap} (Z : ZAt L b i h) (k : ∀ c ∈ zfp L b, ∀ o, h.get? c = some o → h'.get? c = some o) : ZAt L b i h' := by
  obtain ⟨⟨f0, c0, hz, hf⟩, ti, ⟨a, to, la⟩, its⟩ := Z
  exact ⟨⟨f0, c0, k _ zfp_2 _ hz, hf⟩, k _ zfp_0 _ ti, ⟨a, k _ zfp_1 _ to, la⟩, fun j l e => (its j l e).at fun o q => k _ (zfp_in j (lt3 (List.getElem?_eq_some_iff.mp e).1)) o q⟩
theorem ZAt.obj {L : List Addr} {b i : Nat} {h : Heap} (Z : ZAt L b i h) : ∀ c ∈ zfp L b, ∃ o, h.get? c = some o ∧ ∀ v, o.data ≠ .cell v := by
  obtain ⟨⟨f0, c0, hz, hf⟩, ti, ⟨a, to, la⟩, its⟩ := Z
  intro c hc
  obtain ⟨j, hj, rfl⟩ := List.mem_map.mp hc
  rcases near4 (List.mem_range.mp hj) with c1 | rfl | rfl | rfl
  · obtain ⟨o, ho, _, hd⟩ := its j _ (List.getElem?_eq_getElem c1)
    exact ⟨o, ho, fun v q => by rw [hd] at q; cases q⟩
  · exact ⟨_, ti, fun v q => nomatch q⟩
  · exact ⟨_, to, fun v q => nomatch q⟩
  · exact ⟨_, hz, fun v q => nomatch q⟩
theorem vals_from {f : Nat → Value} : ∀ (xs : List V) (k : Nat), (∀ (j : Nat) (x : V), xs[j]? = some x → RelV x (f (k + j))) → Vals xs ((List.range' k xs.length).map f)
  | [], k, _ => .nil
  | x :: xs, k, h => by
    rw [List.length_cons, List.range'_succ, List.map_cons]
    exact .cons (h 0 x rfl) (vals_from xs (k + 1) fun j y e => by
      have q := h (j + 1) y (by simpa using e)
      rwa [show k + (j + 1) = k + 1 + j by omega] at q)
theorem rows_inj {X : Cx} {pins : List (Addr × Obj)} {σ : L2.St} {H : Hp} {s : Shared} {L : List Addr} {r1 r2 : List (List V)} (I : Inv X pins σ H s) (h1 : RowsL X.K H L r1) (h2 : RowsL X.K H L r2) : r1 = r2 := by
  refine List.ext_getElem? fun j => ?_
  have l1 := h1.1
  have l2 := h2.1
  by_cases c : j < L.length
  · have e1 : r1[j]? = some (r1[j]'(by omega)) := List.getElem?_eq_getElem _
    have e2 : r2[j]? = some (r2[j]'(by omega)) := List.getElem?_eq_getElem _
    have q := I.list_inj (h1.2 j _ _ (List.getElem?_eq_getElem c) e1) (h2.2 j _ _ (List.getElem?_eq_getElem c) e2)
    rw [e1, e2, q]
  · rw [List.getElem?_eq_none (by omega), List.getElem?_eq_none (by omega)]
theorem turn_zipS {P : Program} {w : World} {K : PySem.W.Frag} {x : Str} {xp : Pos} {L : List Addr} {b : Nat} (hn : L.length ≤ sizeLine) (h0 : L ≠ []) (hlow : ∀ l ∈ L, l < b) :
    Turn P w K (.Name x xp) (ItZs K L) (zfp L b) (b + L.length + 2) (fun i h => ZAt L b i h) where
  mem := zfp_2
  obj := fun i h st => st.obj
  keep := fun i h h' st k => st.keep k
  item := by
    intro X hP hw hK hc i pins s σ H E I hf st hg
    subst hP hw hK
    obtain ⟨rows, hr, hi⟩ := hg
    have each : ∀ j : Nat, ∃ u : Value, ∀ l, L[j]? = some l → (∃ xs, s.heap.IsList l xs ∧ xs[i]? = some u) ∧ (∀ r, rows[j]? = some r → RelV (r.getD i .non) u) := fun j => by
      cases e1 : L[j]? with
      | none => exact ⟨.none, fun l z => by cases z⟩
      | some l =>
        have hj : j < rows.length := by rw [← hr.1]; exact (List.getElem?_eq_some_iff.mp e1).1
        have e2 : rows[j]? = some rows[j] := List.getElem?_eq_getElem hj
        have hq := hr.2 j l _ e1 e2
        obtain ⟨its, rv, p, hz⟩ := I.list hq
        have hij : i < rows[j].length := hi _ (List.getElem_mem hj)
        obtain ⟨u, hu, ru⟩ := rv.get (List.getElem?_eq_getElem hij)
        refine ⟨u, fun l2 z => ?_⟩
        cases z
        refine ⟨⟨_, p.isList, by simpa using hu⟩, fun r z => ?_⟩
        rw [e2] at z
        cases z
        rw [List.getD_eq_getElem?_getD, List.getElem?_eq_getElem hij]
        exact ru
    let col : Nat → Value := fun j => Classical.choose (each j)
    have hcol : ∀ j l, L[j]? = some l → (∃ xs, s.heap.IsList l xs ∧ xs[i]? = some (col j)) ∧ (∀ r, rows[j]? = some r → RelV (r.getD i .non) (col j)) := fun j => Classical.choose_spec (each j)
    refine zipN_ask hn h0 hlow st (fun j l e => (hcol j l e).1) fun h' Z' hT lf => ?_
    refine ⟨_, rfl, wpAny_pure ?_⟩
    have rel : Vals (colAt rows i) ((List.range L.length).map col) := by
      have q := vals_from (f := col) (colAt rows i) 0 fun j x e => by
        unfold colAt at e
        rw [List.getElem?_map] at e
        obtain ⟨r, e1, e2⟩ := Option.map_eq_some_iff.mp e
        subst e2
        have hj : j < L.length := by rw [hr.1]; exact (List.getElem?_eq_some_iff.mp e1).1
        rw [Nat.zero_add]
        exact (hcol j _ (List.getElem?_eq_getElem hj)).2 r e1
      have el : (colAt rows i).length = L.length := by unfold colAt; rw [List.length_map, hr.1]
      rw [el, ← List.range_eq_range'] at q
      exact q
    have new : ObjOk X.prog X.w (upd H s.heap.objs.size (.tup (colAt rows i))) h' s.heap.objs.size (.tup (colAt rows i)) :=
      ⟨by show (colAt rows i).length ≤ sizeLine; unfold colAt; rw [List.length_map, ← hr.1]; exact hn, _, rel, ⟨_, hT, rfl, _, rfl⟩⟩
    have I1 : Inv X pins σ (upd H s.heap.objs.size (.tup (colAt rows i))) { s with heap := h' } := I.turnedNew (t' := s.toks) (ch := zfp L b) (fun c o hb q => lf c o (zfp_part hb) q) hf (Nat.le_refl _) new
    refine ⟨.ref s.heap.objs.size, _, I1, rfl, ⟨_, _, rfl, I.hok.fresh (Nat.le_refl _), rfl, fun rows2 h2 => ?_⟩, Z', fun c hcm => ?_⟩
    · rw [rows_inj I h2 hr]
    · obtain ⟨o, ho, _⟩ := st.obj c hcm
      rw [upd_ne (Nat.ne_of_lt (Heap.lt_size ho))]
      exact (hf c hcm).1
  done := by
    intro X hP hw hK hc i pins s σ H E I hf st hg
    subst hP hw hK
    obtain ⟨rows, r, hr, e0, hend⟩ := hg
    have n0 : 0 < L.length := by rw [hr.1]; exact (List.getElem?_eq_some_iff.mp e0).1
    have e1 : L[0]? = some L[0] := List.getElem?_eq_getElem n0
    obtain ⟨its, rv, p, hz⟩ := I.list (hr.2 0 _ _ e1 e0)
    have hl := rv.length
    exact zipN_stop (I.ok.hd hc) e1 hlow st p.isList (by simp; omega) fun h' lf => ⟨rfl, I.turnedL (t' := s.toks) (ch := zfp L b) (fun c o hb q => lf c o (zfp_part hb) q) hf⟩
  self := fun A i s Q E st h => iter_zs st h
def iZipS (K : PySem.W.Frag) (te : TE) : TI := fun σ H R => te σ H fun v H1 => ∃ (a : Addr) (L : List Addr) (rows : List (List V)), v = .ref a ∧ SqL K H1 a (L.map V.ref) ∧ RowsL K H1 L rows ∧ L ≠ [] ∧ R (ItZs K L) H1
theorem refs_vals : ∀ {L : List Addr} {us : List Value}, Vals (L.map V.ref) us → us = L.map Value.ref
  | [], _, .nil => rfl
  | l :: L, u :: us, .cons r t => by
    rw [refs_vals t, List.map_cons]
    cases r
    rfl
theorem pi_zipS {X : Cx} {e : Expr} {te : TE} {x : Str} {xp p sp pos : Pos} (hg : Gl X "zip") (hm : X.mg "zip" = none) (he : PE X e te)
    (hst : starEach [.Starred e sp] X.env = [(true, eval e X.env)] := by rfl) :
    PI X (.Name x xp) (.Call (.Name "zip" p) [.Starred e sp] [] pos) (iZipS X.K te) := by
  refine ⟨fun pins s σ H R I h => ?_⟩
  refine Call_ (ld_blt I hg hm PyProof.Rows.boot_zip ?_)
  rw [hst]
  refine PySem.W.ks_call (P := fun _ => True) rfl (fun h _ => ⟨.machine, .inr (.inl rfl), PySem.W.Looks.of_pure rfl⟩) (PySem.W.ks_lone (thn (he.run pins s σ H _ I h) fun v s1 ⟨y, H1, I1, ry, a, L, rows, ey, hq, hr, h0, q⟩ => ?_))
  subst ey
  obtain rfl : v = Value.ref a := ry
  refine StX.star_any I1 (.inr hq) fun us s2 I2 rv => ⟨trivial, ?_⟩
  obtain rfl := refs_vals rv
  have hn : L.length ≤ sizeLine := by
    obtain ⟨its, rv2, p2, hz⟩ := I2.list hq
    rw [List.length_map] at hz
    exact hz
  have each : ∀ l ∈ L, ∃ xs, s2.heap.IsList l xs ∧ l < s2.heap.objs.size := fun l hl => by
    obtain ⟨j, hj, rfl⟩ := List.mem_iff_getElem.mp hl
    obtain ⟨its, rv2, p2, hz⟩ := I2.list (hr.2 j _ _ (List.getElem?_eq_getElem hj) (List.getElem?_eq_getElem (by rw [← hr.1]; exact hj)))
    obtain ⟨o, ho, r⟩ := p2.isList
    exact ⟨_, ⟨o, ho, r⟩, Heap.lt_size ho⟩
  show wpAny _ _ (call (.type "zip") (L.map .ref)) _ _ _
  refine call_zipN hn h0 (fun l hl => let ⟨xs, h1, _⟩ := each l hl; ⟨xs, h1⟩) fun h' Z hk => iter_zs (s := { s2 with heap := h' }) Z ?_
  have I3 : Inv X pins σ H1 { s2 with heap := h' } := I2.kept (t' := s2.toks) hk
  refine ⟨s2.heap.objs.size + L.length + 2, zfp L s2.heap.objs.size, _, _, H1, rfl, I3, turn_zipS hn h0 (fun l hl => (each l hl).choose_spec.2), Z, fun c hcm => ?_, q⟩
  obtain ⟨j, hj, rfl⟩ := List.mem_map.mp hcm
  exact I2.fpOk (Nat.le_add_right _ _) (I2.hok.fresh (Nat.le_add_right _ _))
end My

set_option Elab.async false
set_option linter.all false
set_option maxRecDepth 100000
set_option maxHeartbeats 1000000
/-! ### rows, lists or tuples, from the end to the front; the index of a number in a tuple -/
namespace My
open PySem PyProof.Rows HT
open PySem.Sem (wp)
section
variable {prog : Program} {w : World} {A : Around} {E : Value → Shared → Prop} {s : Shared}
theorem adjust_back (n : Nat) : Builtin.Slice.sliceAdjust none none (-1) (n : Int) = ((n : Int) - 1, -1) := by
  unfold Builtin.Slice.sliceAdjust
  simp
theorem places_back (n : Nat) : Builtin.Slice.slicePlaces ((n : Int) - 1) (-1) (-1) = n := by
  unfold Builtin.Slice.slicePlaces
  rw [if_neg (by decide)]
  by_cases h : (n : Int) - 1 > -1
  · rw [if_pos h, show (- -1 : Int) = 1 by decide, Int.ediv_one]
    omega
  · rw [if_neg h]
    omega
theorem fm_congr {α β : Type} {f g : α → Option β} : ∀ {l : List α}, (∀ x ∈ l, f x = g x) → l.filterMap f = l.filterMap g
  | [], _ => rfl
  | x :: l, h => by
    rw [List.filterMap_cons, List.filterMap_cons, h x (by simp), fm_congr fun y hy => h y (List.mem_cons_of_mem _ hy)]
theorem sliceApplied_back {sl : Addr} {vl vu vs : Value} {n : Nat} {Q : Int × Int × Nat → Shared → Prop} (hs : s.heap.IsSliceOf sl vl vu vs) (pl : IsPart vl none) (pu : IsPart vu none) (ps : IsPart vs (some (-1)))
    (h : Q ((n : Int) - 1, -1, n) s) : wpAny (model prog w) A (Builtin.Slice.sliceApplied (.ref sl) (pure (n : Int))) Q E s := by
  obtain ⟨os, hos, hcs, hds⟩ := id hs
  unfold Builtin.Slice.sliceApplied Builtin.Slice.sliceFields
  refine wpAny_bind (wpAny_bind (wpAny_field hos hds (x := vl) rfl (wpAny_bind (wpAny_field hos hds (x := vu) rfl (wpAny_bind (wpAny_field hos hds (x := vs) rfl (wpAny_pure ?_)))))))
  refine wpAny_bind (slicePart_ ps ?_)
  show wpAny _ _ (if ((-1 : Int) == 0) = true then _ else _) _ _ s
  rw [if_neg (by decide)]
  refine wpAny_bind (slicePart_ pl (wpAny_bind (slicePart_ pu (wpAny_bind (wpAny_pure ?_)))))
  show wpAny _ _ (match Builtin.Slice.sliceAdjust none none (-1) (n : Int) with | (lo, hi) => pure (lo, (-1 : Int), Builtin.Slice.slicePlaces lo hi (-1))) _ _ s
  rw [adjust_back n]
  show wpAny _ _ (pure ((n : Int) - 1, (-1 : Int), Builtin.Slice.slicePlaces ((n : Int) - 1) (-1) (-1))) _ _ s
  rw [places_back]
  exact wpAny_pure h
theorem pick_back (xs : Array Value) : ((List.range xs.size).filterMap fun (m : Nat) => xs[(((xs.size : Int) - 1) + (m : Int) * (-1)).toNat]?).toArray = xs.toList.reverse.toArray := by
  have e : (List.range xs.size).filterMap (fun (m : Nat) => xs[(((xs.size : Int) - 1) + (m : Int) * (-1)).toNat]?) = ((List.range xs.size).map fun k => xs.size - 1 - k).filterMap (xs[·]?) := by
    rw [List.filterMap_map]
    refine fm_congr fun m hm => ?_
    have hm := List.mem_range.mp hm
    have : (((xs.size : Int) - 1) + (m : Int) * (-1)).toNat = xs.size - 1 - m := by omega
    simp only [Function.comp, this]
  rw [e, PySem.W.krv_range, List.filterMap_reverse, PySem.W.krv_all]
theorem getItem_tuple_back {t sl : Addr} {items : Array Value} {vl vu vs : Value} {Q : Value → Shared → Prop} (ht : IsTup s.heap t items) (hs : s.heap.IsSliceOf sl vl vu vs) (pl : IsPart vl none) (pu : IsPart vu none) (ps : IsPart vs (some (-1)))
    (h : Q (.ref s.heap.objs.size) { s with heap := s.heap.push { cls := .type "tuple", data := .seq items.toList.reverse.toArray } })
    (hsz : items.size ≤ sizeLine) : wpAny (model prog w) A (getItem (.ref t) (.ref sl)) Q E s := by
  have htake : sizeOk (.seq items.toList.reverse.toArray) := by
    show (items.toList.reverse.toArray).size ≤ sizeLine
    simpa using hsz
  obtain ⟨os, hos, hcs, hds⟩ := id hs
  have hTs : s.TypeIs (.ref sl) "slice" := ⟨os, hos, hcs⟩
  unfold getItem
  try with_reducible refine wpAny_holding ?_
  first | refine wpAny_bind (wpAny_pure ?_) | skip
  refine wpAny_bind (wpAny_sequenceKey ht.typeIs (by decide) ?_)
  refine wpAny_bind (wpAny_callSpecial?_slot (name := Str.ofString "__getitem__") ht.typeIs PyProof.Rows.slot_tuple_getitem
    (wpAny_call_entry PyProof.Rows.slot_tuple_getitem ht.typeIs entry_tuple_getitem ?_ (args_tuple_getitem _ _)))
  show wpAny _ _ (Builtin.Tuple.tupleItemsOf (.ref t) >>= _) _ _ s
  refine wpAny_bind (tupleItemsOf_ ht ?_)
  refine wpAny_bind (wpAny_typeOf hTs ?_)
  rw [if_pos (by decide)]
  refine wpAny_bind (sliceApplied_back hs pl pu ps ?_)
  have hno : ¬ ((((items.size : Int) - 1) == 0 && (-1 : Int) == 1 && items.size == items.size) = true) := by
    simp
  show wpAny _ _ (if (((items.size : Int) - 1) == 0 && (-1 : Int) == 1 && items.size == items.size) = true then _ else _) _ _ s
  rw [if_neg hno, pick_back]
  first
    | exact wpAny_bind (m := Builtin.Tuple.tupleExact _) (wpAny_newObj_type (wpAny_pure ⟨_, rfl, wpAny_pure h⟩) htake)
    | exact wpAny_bind (m := Builtin.Tuple.tupleExact _) (wpAny_newObj_type (wpAny_bind (wpAny_pure (wpAny_pure ⟨_, rfl, wpAny_pure h⟩))) htake)
    | exact wpAny_bind (wpAny_bind (m := Builtin.Tuple.tupleExact _) (wpAny_newObj_type (wpAny_pure (wpAny_pure ⟨_, rfl, wpAny_pure h⟩)) htake))
    | exact wpAny_bind (wpAny_bind (m := Builtin.Tuple.tupleExact _) (wpAny_newObj_type (wpAny_pure ⟨_, rfl, wpAny_pure h⟩) htake))
end
end My
namespace My
open PySem PySem.Spec PyProof.Rows L2
/-- xs[::-1] of a list or a tuple -/
def tRevB (K : PySem.W.Frag) (te : TE) : TE := fun σ H Q => te σ H fun x H1 => ∃ a xs b, x = .ref a ∧ SqB b K H1 a xs ∧ ∀ p H2, Same H1 H2 → H1 p = none → H2 p = some (if b = true then .lst xs.reverse else .tup xs.reverse) → Q (.ref p) H2
theorem pe_revB {X : Cx} {K : PySem.W.Frag} {e : Expr} {te : TE} {k : Nat} {p1 p2 p3 pos : Pos} (hK : X.K = K) (he : PE X e te) : PE X (.Subscript e (.Slice none none (some (.UnaryOp .USub (.Constant (.int 1) k p1) p2)) p3) pos) (tRevB K te) := by
  subst hK
  refine ⟨fun pins s σ H Q I h => ?_⟩
  refine Subscript_ (thn (he.run pins s σ H _ I h) fun v s1 ⟨x, H1, I1, r1, q1⟩ => ?_)
  obtain ⟨a, xs, b, ex, hx, q⟩ := q1
  subst ex
  cases r1
  have hst : PO X (some (.UnaryOp .USub (.Constant (.int 1) k p1) p2)) (tPart (tUn (rU fun i => .int (-i)) (tC (.int 1)))) := po_some (pe_un un_neg pe_int)
  refine wpAny_Slice (thn (po_none.run pins s1 σ H1 (fun o H2 => o = none ∧ H2 = H1) I1 ⟨rfl, rfl⟩) fun vl s2 ⟨l, H2, I2, pl, el, e2⟩ => ?_)
  subst el e2
  refine thn (po_none.run pins s2 σ H2 (fun o H3 => o = none ∧ H3 = H2) I2 ⟨rfl, rfl⟩) fun vu s3 ⟨u, H3, I3, pu, eu, e3⟩ => ?_
  subst eu e3
  refine thn (hst.run pins s3 σ H3 (fun o H4 => o = some (-1) ∧ H4 = H3) I3 ⟨1, rfl, -1, rfl, rfl, rfl⟩) fun vs s4 ⟨o, H4, I4, ps, eo, e4⟩ => ?_
  subst eo e4
  have I5 : Inv X pins σ H4 { s4 with heap := s4.heap.push { cls := .type "slice", data := .fields #[vl, vu, vs] } } := I4.kept (t' := s4.toks) fun b ob q => Heap.get?_push_of_some _ q
  cases b with
  | true =>
    obtain ⟨its, r, ht, hz⟩ := I5.list hx
    have hlen := r.length
    show wpAny (model X.prog X.w) X.A (subscriptTail e (.Slice none none (some (.UnaryOp .USub (.Constant (.int 1) k p1) p2)) p3) (.ref a) (.ref s4.heap.objs.size)) (EP X pins σ Q) X.xe { s4 with heap := s4.heap.push { cls := .type "slice", data := .fields #[vl, vu, vs] } }
    refine tail_any (ops := [.ref a, .ref s4.heap.objs.size]) ht.isList.typeIs (PySem.slot_list_getitem.lookup) ?_ (by with_unfolding_all rfl)
    refine wpAny_getItem_list_slice ht.isList (Heap.IsSliceOf.new _ vl vu vs) pl pu ps (by decide) ?_ (by rw [List.size_toArray]; omega)
    rw [PySem.W.krv_pick]
    refine ⟨.ref _, _, I5.laid (t' := s4.toks) (o := .lst xs.reverse) (fun b ob q => Heap.get?_push_of_some _ q) (Nat.le_refl _) ?_, rfl, q _ _ (same_upd (I5.hok.fresh (Nat.le_refl _))) (I5.hok.fresh (Nat.le_refl _)) upd_same⟩
    exact ⟨by rw [List.length_reverse]; exact hz, _, 0, r.reverse, Heap.get?_push_size _ rfl⟩
  | false =>
    obtain ⟨its, r, ht, hz⟩ := I5.tuple hx
    have hlen := r.length
    show wpAny (model X.prog X.w) X.A (subscriptTail e (.Slice none none (some (.UnaryOp .USub (.Constant (.int 1) k p1) p2)) p3) (.ref a) (.ref s4.heap.objs.size)) (EP X pins σ Q) X.xe { s4 with heap := s4.heap.push { cls := .type "slice", data := .fields #[vl, vu, vs] } }
    refine tail_any (ops := [.ref a, .ref s4.heap.objs.size]) ht.typeIs (PyProof.Rows.slot_tuple_getitem.lookup) ?_ (by with_unfolding_all rfl)
    refine getItem_tuple_back ht (Heap.IsSliceOf.new _ vl vu vs) pl pu ps ?_ (by rw [List.size_toArray]; omega)
    refine ⟨.ref _, _, I5.laid (t' := s4.toks) (o := .tup xs.reverse) (fun b ob q => Heap.get?_push_of_some _ q) (Nat.le_refl _) ?_, rfl, q _ _ (same_upd (I5.hok.fresh (Nat.le_refl _))) (I5.hok.fresh (Nat.le_refl _)) upd_same⟩
    exact ⟨by rw [List.length_reverse]; exact hz, _, r.reverse, IsTup.new _ _⟩
theorem flat_ints (ys : List Int) : (ys.map V.int).all flatV = true := by
  rw [List.all_map]
  exact List.all_eq_true.mpr fun _ _ => rfl
/-- t.index(n), the first place -/
def rTupIx (K : PySem.W.Frag) : V → List V → Hp → VK → Prop := fun x xs H Q => ∃ (p : Addr) (ys : List Int) (z : Int) (j : Nat), x = V.ref p ∧ xs = [.int z] ∧ SqT K H p (ys.map V.int) ∧ ys[j]? = some z ∧ (∀ m, m < j → ys[m]? ≠ some z) ∧ Q (.int (j : Nat)) H
theorem mt_tup_ixI {X : Cx} : MtR X "tuple.index" (rTupIx X.K) := by
  intro pins s σ H x xs v us Q I rx rs h
  obtain ⟨p, ys, z, j, rfl, rfl, hq, hy, hno, q⟩ := h
  cases rx
  obtain ⟨u, rfl, t, rfl⟩ := vals1 rs
  obtain ⟨its, r, pl, hz⟩ := I.tuple hq
  obtain ⟨⟨cls, dd, dt, sl⟩, ho, hc, n, hd⟩ := pl
  simp only at hc hd
  subst hc
  subst hd
  have hl : its.toArray.size = ys.length := by rw [List.size_toArray, ← r.length, List.length_map]
  have hj : j < its.toArray.size := by rw [hl]; exact (List.getElem?_eq_some_iff.mp hy).1
  have at' : ∀ (m : Nat) (hm : m < its.toArray.size), ∃ y t', ys[m]? = some y ∧ its.toArray[m] = Value.int y t' := fun m hm => by
    have hm' : m < ys.length := by rw [← hl]; exact hm
    obtain ⟨w, hw, t', hw'⟩ := r.get (i := m) (x := .int ys[m]) (by simp [hm'])
    refine ⟨ys[m], t', List.getElem?_eq_getElem hm', ?_⟩
    have e := (List.getElem?_eq_some_iff.mp hw).2
    rw [← hw', ← e]
    simp
  refine call_meets PySem.F.slot_tuple_index ⟨_, ho, rfl⟩ PySem.F.entry_tuple_index (PySem.F.args_tuple_index_2 _ _) (TI.tuple_indexAt p its.toArray n dd sl (.int z t) (eqU (.int z)) j hj ?_ ?_)
    ⟨ho, fun w hw => mem_eqAt (x := .int z) ⟨t, rfl⟩ rfl r (flat_ints ys) w (by simpa using hw), ⟨.int (j : Nat), H, I.tok _, ⟨_, rfl⟩, q⟩⟩
  · obtain ⟨y, t', h1, h2⟩ := at' j hj
    rw [hy] at h1
    cases h1
    rw [h2]
    show (z == z) = true
    exact beq_self_eq_true z
  · intro m hm hmj
    obtain ⟨y, t', h1, h2⟩ := at' m hm
    rw [h2]
    show (y == z) = false
    exact beq_eq_false_iff_ne.mpr fun e => hno m hmj (e ▸ h1)
end My

set_option Elab.async false
set_option linter.all false
set_option maxRecDepth 100000
set_option maxHeartbeats 1000000
/-! ### grids of dots: rows of 0, 1, none; turned, mirrored; as they lie on the heap -/
namespace My
open PySem PySem.Spec PyProof.Rows L2
abbrev Grid := List (List (Option Nat))
def vG : Option Nat → V
  | none => .non
  | some n => vN n
def dG : Option Nat → PyData
  | none => .none
  | some n => dI n
def DotOk (o : Option Nat) : Prop := o = none ∨ o = some 0 ∨ o = some 1
structure Sq (n : Nat) (g : Grid) : Prop where
  len : g.length = n
  row : ∀ r ∈ g, r.length = n
  dot : ∀ r ∈ g, ∀ o ∈ r, DotOk o
def SideOk (n : Nat) : Prop := n = 8 ∨ n = 12 ∨ n = 16 ∨ n = 20 ∨ n = 24
def cell (g : Grid) (i j : Nat) : Option Nat := (g.getD i []).getD j none
def rot (g : Grid) : Grid := (List.range g.length).map fun i => g.reverse.map fun r => r.getD i none
def rotK : Nat → Grid → Grid
  | 0, g => g
  | k + 1, g => rot (rotK k g)
def mir (g : Grid) : Grid := g.map List.reverse
theorem getD_in {α : Type} {l : List α} {i : Nat} {d : α} (h : i < l.length) : l.getD i d = l[i] := by
  rw [List.getD_eq_getElem?_getD, List.getElem?_eq_getElem h]
  rfl
theorem getD_mem {α : Type} {l : List α} {i : Nat} {d : α} (h : i < l.length) : l.getD i d ∈ l := by
  rw [getD_in h]
  exact List.getElem_mem h
theorem dot_getD {r : List (Option Nat)} {i : Nat} (h : ∀ o ∈ r, DotOk o) : DotOk (r.getD i none) := by
  by_cases c : i < r.length
  · exact h _ (getD_mem c)
  · rw [List.getD_eq_getElem?_getD, List.getElem?_eq_none (by omega)]
    exact .inl rfl
theorem rot_sq {n : Nat} {g : Grid} (h : Sq n g) : Sq n (rot g) where
  len := by unfold rot; rw [List.length_map, List.length_range, h.len]
  row r hr := by
    obtain ⟨i, _, rfl⟩ := List.mem_map.mp hr
    rw [List.length_map, List.length_reverse, h.len]
  dot r hr o ho := by
    obtain ⟨i, _, rfl⟩ := List.mem_map.mp hr
    obtain ⟨q, hq, rfl⟩ := List.mem_map.mp ho
    exact dot_getD (h.dot q (List.mem_reverse.mp hq))
theorem mir_sq {n : Nat} {g : Grid} (h : Sq n g) : Sq n (mir g) where
  len := by unfold mir; rw [List.length_map, h.len]
  row r hr := by
    obtain ⟨q, hq, rfl⟩ := List.mem_map.mp hr
    rw [List.length_reverse, h.row q hq]
  dot r hr o ho := by
    obtain ⟨q, hq, rfl⟩ := List.mem_map.mp hr
    exact h.dot q hq o (List.mem_reverse.mp ho)
theorem rotK_sq {n : Nat} {g : Grid} (h : Sq n g) : ∀ k, Sq n (rotK k g)
  | 0 => h
  | k + 1 => rot_sq (rotK_sq h k)
theorem mir_mir (g : Grid) : mir (mir g) = g := by
  unfold mir
  rw [List.map_map]
  have e : (List.reverse ∘ List.reverse : List (Option Nat) → List (Option Nat)) = id := funext fun l => List.reverse_reverse l
  rw [e, List.map_id]
theorem grid_ext {n : Nat} {g h : Grid} (a : Sq n g) (b : Sq n h) (e : ∀ i j, i < n → j < n → cell g i j = cell h i j) : g = h := by
  have l1 := a.len
  have l2 := b.len
  refine List.ext_getElem (by rw [l1, l2]) fun i h1 h2 => ?_
  have r1 := a.row _ (List.getElem_mem h1)
  have r2 := b.row _ (List.getElem_mem h2)
  refine List.ext_getElem (by rw [r1, r2]) fun j h3 h4 => ?_
  have q := e i j (by omega) (by omega)
  unfold cell at q
  rw [getD_in h1, getD_in h2, getD_in h3, getD_in h4] at q
  exact q
theorem cell_rot {n : Nat} {g : Grid} (h : Sq n g) {i j : Nat} (hi : i < n) (hj : j < n) : cell (rot g) i j = cell g (n - 1 - j) i := by
  have l := h.len
  have lr : (rot g).length = n := (rot_sq h).len
  unfold cell
  rw [getD_in (l := rot g) (by omega)]
  have e : (rot g)[i]'(by omega) = g.reverse.map fun r => r.getD i none := by
    unfold rot
    rw [List.getElem_map, List.getElem_range]
  rw [e, getD_in (l := g.reverse.map _) (by rw [List.length_map, List.length_reverse]; omega), List.getElem_map, List.getElem_reverse, getD_in (l := g) (by omega)]
  simp only [l]
theorem rotK_add (a b : Nat) (g : Grid) : rotK (a + b) g = rotK a (rotK b g) := by
  induction a with
  | zero => rw [Nat.zero_add]; rfl
  | succ a ih =>
    rw [show a + 1 + b = (a + b) + 1 by omega]
    show rot (rotK (a + b) g) = rot (rotK a (rotK b g))
    rw [ih]
theorem rot4 {n : Nat} {g : Grid} (h : Sq n g) : rotK 4 g = g := by
  refine grid_ext (rotK_sq h 4) h fun i j hi hj => ?_
  show cell (rot (rotK 3 g)) i j = _
  rw [cell_rot (rotK_sq h 3) hi hj]
  show cell (rot (rotK 2 g)) (n - 1 - j) i = _
  rw [cell_rot (rotK_sq h 2) (by omega) hi]
  show cell (rot (rotK 1 g)) (n - 1 - i) (n - 1 - j) = _
  rw [cell_rot (rotK_sq h 1) (by omega) (by omega)]
  show cell (rot g) (n - 1 - (n - 1 - j)) (n - 1 - i) = _
  rw [cell_rot h (by omega) (by omega)]
  congr 1 <;> omega
def posedG (g : Grid) (t : Nat) (f : Bool) : Grid := rotK t (if f then mir g else g)
def unposedG (g : Grid) (t : Nat) (f : Bool) : Grid := if f then mir (rotK ((4 - t) % 4) g) else rotK ((4 - t) % 4) g
theorem rot_back {n t : Nat} {g : Grid} (h : Sq n g) (ht : t < 4) : rotK ((4 - t) % 4) (rotK t g) = g ∧ rotK t (rotK ((4 - t) % 4) g) = g := by
  rw [← rotK_add, ← rotK_add]
  by_cases c : t = 0
  · subst c
    exact ⟨rfl, rfl⟩
  · have e1 : (4 - t) % 4 + t = 4 := by omega
    have e2 : t + (4 - t) % 4 = 4 := by omega
    rw [e1, e2]
    exact ⟨rot4 h, rot4 h⟩
theorem unposed_posed {n t : Nat} {f : Bool} {g : Grid} (h : Sq n g) (ht : t < 4) : unposedG (posedG g t f) t f = g := by
  unfold unposedG posedG
  cases f
  · exact (rot_back h ht).1
  · simp only [if_true]
    rw [(rot_back (mir_sq h) ht).1, mir_mir]
theorem posed_unposed {n t : Nat} {f : Bool} {g : Grid} (h : Sq n g) (ht : t < 4) : posedG (unposedG g t f) t f = g := by
  unfold unposedG posedG
  cases f
  · exact (rot_back h ht).2
  · simp only [if_true]
    rw [mir_mir, (rot_back h ht).2]
theorem posed_sq {n t : Nat} {f : Bool} {g : Grid} (h : Sq n g) : Sq n (posedG g t f) := by
  unfold posedG
  cases f
  · exact rotK_sq h t
  · exact rotK_sq (mir_sq h) t
theorem unposed_sq {n t : Nat} {f : Bool} {g : Grid} (h : Sq n g) : Sq n (unposedG g t f) := by
  unfold unposedG
  cases f
  · exact rotK_sq h _
  · exact mir_sq (rotK_sq h _)
/-! ### on the heap -/
structure GrB (k : Bool) (K : PySem.W.Frag) (H : Hp) (a : Addr) (g : Grid) : Prop where
  ex : ∃ L : List Addr, SqB k K H a (L.map V.ref) ∧ L.length = g.length ∧ ∀ (j : Nat) (l : Addr) (r : List (Option Nat)), L[j]? = some l → g[j]? = some r → SqB k K H l (r.map vG)
theorem GrB.same {k : Bool} {K : PySem.W.Frag} {H H' : Hp} {a : Addr} {g : Grid} (h : GrB k K H a g) (s : Same H H') : GrB k K H' a g := by
  obtain ⟨L, h1, h2, h3⟩ := h.ex
  exact ⟨L, Same.sqb s h1, h2, fun j l r e1 e2 => Same.sqb s (h3 j l r e1 e2)⟩
structure FrI (H H' : Hp) (D : Addr) (L : List Addr) (g : Grid) (i : Nat) : Prop where
  same : Same H H'
  out : H' D = some (.lst (L.map V.ref))
  len : L.length = i
  row : ∀ (j : Nat) (l : Addr) (r : List (Option Nat)), L[j]? = some l → g[j]? = some r → H l = none ∧ l ≠ D ∧ H' l = some (.lst (r.map vG))
theorem FrI.start {H : Hp} {D : Addr} {g : Grid} (h : H D = none) : FrI H (upd H D (.lst [])) D [] g 0 := ⟨same_upd h, upd_same, rfl, fun j l r e => by cases e⟩
theorem FrI.step {H H' H2 : Hp} {D c : Addr} {L : List Addr} {g : Grid} {i : Nat} {r : List (Option Nat)} (F : FrI H H' D L g i) (hD : H D = none) (hr : g[i]? = some r) (s : Same H' H2) (hc : H' c = none) (e : H2 c = some (.lst (r.map vG))) :
    FrI H (upd H2 D (.lst (L.map V.ref ++ [V.ref c]))) D (L ++ [c]) g (i + 1) := by
  obtain ⟨s0, out, len, row⟩ := F
  have ncD : c ≠ D := fun z => by rw [z, out] at hc; cases hc
  refine ⟨fun b o hb => ?_, ?_, by rw [List.length_append, len]; rfl, fun j l q e1 e2 => ?_⟩
  · rw [upd_ne (ne_of_none hb hD)]
    exact s _ _ (s0 _ _ hb)
  · rw [upd_same, List.map_append]
    rfl
  · by_cases cj : j < i
    · rw [List.getElem?_append_left (by rw [len]; exact cj)] at e1
      obtain ⟨q1, q2, q3⟩ := row j l q e1 e2
      exact ⟨q1, q2, by rw [upd_ne q2]; exact s _ _ q3⟩
    · have hl := (List.getElem?_eq_some_iff.mp e1).1
      rw [List.length_append, len] at hl
      have ej : j = i := by simp at hl; omega
      subst ej
      rw [List.getElem?_append_right (by rw [len]; exact Nat.le_refl _), len, Nat.sub_self] at e1
      cases e1
      rw [hr] at e2
      cases e2
      exact ⟨Same.free s0 hc, ncD, by rw [upd_ne ncD]; exact e⟩
/-- a new grid of new rows -/
def Fr (H H' : Hp) (D : Addr) (g : Grid) : Prop := H D = none ∧ ∃ L, FrI H H' D L g g.length
theorem Fr.same0 {H H' : Hp} {D : Addr} {g : Grid} (h : Fr H H' D g) : Same H H' := let ⟨_, _, F⟩ := h; F.same
theorem Fr.ext {H H' H2 : Hp} {D : Addr} {g : Grid} (h : Fr H H' D g) (s : Same H' H2) : Fr H H2 D g := by
  obtain ⟨hD, L, F⟩ := h
  exact ⟨hD, L, F.same.trans s, s _ _ F.out, F.len, fun j l r e1 e2 => let ⟨q1, q2, q3⟩ := F.row j l r e1 e2; ⟨q1, q2, s _ _ q3⟩⟩
theorem Fr.back {H0 H H' : Hp} {D : Addr} {g : Grid} (h : Fr H H' D g) (s : Same H0 H) : Fr H0 H' D g := by
  obtain ⟨hD, L, F⟩ := h
  exact ⟨Same.free s hD, L, s.trans F.same, F.out, F.len, fun j l r e1 e2 => let ⟨q1, q2, q3⟩ := F.row j l r e1 e2; ⟨Same.free s q1, q2, q3⟩⟩
theorem Fr.gr {K : PySem.W.Frag} {H H' : Hp} {D : Addr} {g : Grid} (h : Fr H H' D g) : GrB true K H' D g := by
  obtain ⟨_, L, F⟩ := h
  exact ⟨L, .lst F.out, F.len, fun j l r e1 e2 => .lst (F.row j l r e1 e2).2.2⟩
/-! ### compared -/
def dRow (r : List (Option Nat)) : PyData := .list (r.map dG)
def dGr (g : Grid) : PyData := .list (g.map dRow)
theorem dG_lay : ∀ row : List (Option Nat), PyData.canLayAll0 (row.map dG) = true
  | [] => rfl
  | o :: r => by
    show (PyData.canLay0 (dG o) && PyData.canLayAll0 (r.map dG)) = true
    rw [dG_lay r]
    cases o <;> rfl
theorem dG_depth : ∀ row : List (Option Nat), PyData.depthAll (row.map dG) = 0
  | [] => rfl
  | o :: r => by
    show max (PyData.depth (dG o)) (PyData.depthAll (r.map dG)) = 0
    rw [dG_depth r]
    cases o <;> rfl
theorem dRow_lay : ∀ g : Grid, PyData.canLayAll0 (g.map dRow) = true
  | [] => rfl
  | r :: g => by
    show (PyData.canLay0 (dRow r) && PyData.canLayAll0 (g.map dRow)) = true
    rw [dRow_lay g, Bool.and_true]
    exact dG_lay r
theorem dRow_depth : ∀ g : Grid, PyData.depthAll (g.map dRow) ≤ 1
  | [] => Nat.zero_le _
  | r :: g => by
    show max (PyData.depthAll (r.map dG) + 1) (PyData.depthAll (g.map dRow)) ≤ 1
    have := dRow_depth g
    rw [dG_depth r]
    omega
theorem dGr_shaped (g : Grid) : SeqAt.shaped (dGr g) = true := by
  unfold SeqAt.shaped
  have h1 : (dGr g).canLay0 = true := dRow_lay g
  have h2 : (dGr g).depth ≤ 64 := by
    show PyData.depthAll (g.map dRow) + 1 ≤ 64
    have := dRow_depth g
    omega
  rw [h1, Bool.true_and]
  exact decide_eq_true h2
theorem dGr_eq (g : Grid) : PyData.eqv (dGr g) (dGr g) = true := SeqAt.eqv_refl _ (dRow_lay g)
theorem dG_all {K : PySem.W.Frag} {H : Hp} : ∀ row : List (Option Nat), DpAll K H (row.map vG) (row.map dG)
  | [] => .nil
  | none :: r => .cons .non (dG_all r)
  | some n :: r => .cons (.int _) (dG_all r)
theorem rows_dp {K : PySem.W.Frag} {H : Hp} : ∀ (L : List Addr) (g : Grid), L.length = g.length → (∀ (j : Nat) (l : Addr) (r : List (Option Nat)), L[j]? = some l → g[j]? = some r → SqL K H l (r.map vG)) → DpAll K H (L.map V.ref) (g.map dRow)
  | [], [], _, _ => .nil
  | [], _ :: _, h, _ => by cases h
  | _ :: _, [], h, _ => by cases h
  | l :: L, r :: g, h, f => .cons (.lst (f 0 l r rfl rfl) (dG_all r)) (rows_dp L g (Nat.succ.inj h) fun j l' r' e1 e2 => f (j + 1) l' r' e1 e2)
theorem GrB.dp {K : PySem.W.Frag} {H : Hp} {a : Addr} {g : Grid} (h : GrB true K H a g) : Dp K H (.ref a) (dGr g) := by
  obtain ⟨L, h1, h2, h3⟩ := h.ex
  exact .lst h1 (rows_dp L g h2 h3)
end My

set_option Elab.async false
set_option linter.all false
set_option maxRecDepth 100000
set_option maxHeartbeats 4000000
/-! ### rows of plain words; values of polynomials by exponents -/
namespace My
open PySem PySem.Spec PyProof.Rows L2
theorem pt_truthK {X : Cx} {K : PySem.W.Frag} {a : Expr} {ta : TE} (h : X.K = K) (ha : PE X a ta) (he : ∀ whole, isTrue a X.env whole = (do let v ← whole; standAt a.pos; holding [v] (truthy v))) :
    PT X a (fun σ H Q => ta σ H fun x H' => ∃ k, TruV K x H' k ∧ Q k H') := by
  subst h
  exact pt_truth ha he
theorem SqB.truB {b : Bool} {K : PySem.W.Frag} {H : Hp} {a : Addr} {xs : List V} (h : SqB b K H a xs) : TruV K (.ref a) H (!xs.isEmpty) := by
  cases b
  · exact .inr (.inl ⟨xs, h, rfl⟩)
  · exact .inl ⟨xs, h, rfl⟩
theorem word_shr {b x : Nat} (hb : Wd b) (hx : x < span b) : ((x : Int) / 2 ^ ((b : Int)).toNat != 0) = false := by
  have e : ((x : Int) / 2 ^ ((b : Int)).toNat) = ((x / 2 ^ b : Nat) : Int) := by
    rw [Int.toNat_natCast]
    norm_cast
  rw [e, Nat.div_eq_of_lt (by rw [← span_pow hb]; exact hx)]
  rfl
theorem evl_at0 {b : Nat} (ws : List Nat) : evl b 0 ws = ws.getLastD 0 := by
  rcases List.eq_nil_or_concat ws with rfl | ⟨r, w, rfl⟩
  · rfl
  · rw [List.concat_eq_append, evl_snoc, mul_zero, Nat.zero_xor]
    simp
end My

set_option Elab.async false
set_option linter.all false
set_option maxRecDepth 100000
set_option maxHeartbeats 1000000
/-! ### rules that name K, for comprehensions; type() of a dot; a second for of a comprehension -/
namespace My
open PySem PySem.Spec PyProof.Rows L2
theorem call_len_seqG {X : Cx} {K : PySem.W.Frag} (h : X.K = K) : CallR X (.builtin "len") (fun xs H Q => ∃ p ys, xs = [V.ref p] ∧ (SqL K H p ys ∨ SqT K H p ys) ∧ Q (.int (ys.length : Nat)) H) := by
  subst h
  exact call_len_seq
theorem pe_tupleOfK {X : Cx} {K : PySem.W.Frag} {a : Expr} {ta : TE} {p pos : Pos} (hK : X.K = K) (hg : Gl X "tuple") (hm : X.mg "tuple" = none) (ha : PE X a ta) (na : starEach [a] X.env = (false, eval a X.env) :: starEach [] X.env := by rfl) :
    PE X (.Call (.Name "tuple" p) [a] [] pos) (tThen ta (kTup K)) := by
  subst hK
  exact pe_tupleOf hg hm ha na
theorem call_listOfK {X : Cx} {K : PySem.W.Frag} (h : X.K = K) : CallR X (.type "list") (fun xs H Q => ∃ p ys, xs = [.ref p] ∧ (SqL K H p ys ∨ SqT K H p ys) ∧ ∀ l, H l = none → Q (.ref l) (upd H l (.lst ys))) := by
  subst h
  exact call_list_of
theorem call_isiTK {X : Cx} {K : PySem.W.Frag} (h : X.K = K) : CallR X (.builtin "isinstance") (rIsiT K) := by
  subst h
  exact call_isiT
theorem pi_seqK {X : Cx} {K : PySem.W.Frag} {tg : Expr} {l : Expr} {tl : TE} (h : X.K = K) (hl : PE X l tl) : PI X tg l (iSeq K tl) := by
  subst h
  exact pi_seq hl
theorem pt_never {X : Cx} {e : Expr} : PT X e (fun _ _ _ => False) := ⟨fun _ _ _ _ _ _ h => h.elim⟩
def sidesI : List Int := [8, 12, 16, 20, 24]
theorem side_at {n : Nat} (h : SideOk n) : ∃ i : Nat, i < 5 ∧ sidesI[i]? = some (n : Int) ∧ ∀ m, m < i → sidesI[m]? ≠ some (n : Int) := by
  rcases h with rfl | rfl | rfl | rfl | rfl
  · exact ⟨0, by decide, rfl, by decide⟩
  · exact ⟨1, by decide, rfl, by decide⟩
  · exact ⟨2, by decide, rfl, by decide⟩
  · exact ⟨3, by decide, rfl, by decide⟩
  · exact ⟨4, by decide, rfl, by decide⟩
theorem side_in {n : Nat} (h : SideOk n) : inV (vN n) (sidesI.map V.int) = true := by
  rcases h with rfl | rfl | rfl | rfl | rfl <;> decide
theorem side_le {n : Nat} (h : SideOk n) : 8 ≤ n ∧ n ≤ 24 := by
  rcases h with rfl | rfl | rfl | rfl | rfl <;> decide
def tyG : Option Nat → String
  | none => "NoneType"
  | some _ => "int"
def rTyG : List V → Hp → VK → Prop := fun xs H Q => ∃ o : Option Nat, xs = [vG o] ∧ Q (.ty (tyG o)) H
theorem call_typeG {X : Cx} : CallR X (.type "type") rTyG := by
  intro pins s σ H xs us Q I r h
  obtain ⟨o, rfl, q⟩ := h
  obtain ⟨u, rfl, rx⟩ := vals1 r
  cases o with
  | none =>
    cases (show u = Value.none from rx)
    exact call_type_of (Tx := "NoneType") rfl (by decide +kernel) ⟨.ty "NoneType", H, I, rfl, q⟩
  | some n =>
    obtain ⟨t, rfl⟩ := (show ∃ t, u = Value.int n t from rx)
    exact call_type_of (Tx := "int") rfl (by decide +kernel) ⟨.ty "int", H, I, rfl, q⟩
section
variable {J : It} {n : Nat} {G : Hp → Prop} {Y : Nat → Hp → V → Hp → Prop}
/-- the turns of a first for that holds a second one -/
theorem lc2_it (w : Walk J n G Y) {g g1 : TG} {tt tt1 : TT} {wi1 : TI} {te : TE} {vs vs1 : List Nat} {σ : L2.St} {H1 : Hp} {D : Addr} {Qd : Hp → Prop} (Pv : Nat → Hp → Prop) (h0 : Pv 0 (upd H1 D (.lst []))) (hG : ∀ i H, i ≤ n → Pv i H → G H)
    (hs : ∀ i x H H', i < n → Pv i H → Y i H x H' → g x (wipe σ vs) H' fun σ2 H2 => wipe σ2 vs = wipe σ vs ∧ tt σ2 H2 fun b H3 =>
      if b = true then wi1 σ2 H3 fun J1 H4 => ∃ W1 : Nat → Nat → Hp → Prop, (∃ m, W1 0 m H4) ∧ ∀ j k H, W1 j k H →
        (J1.stop j H ∧ Pv (i + 1) H) ∨ (J1.go j H ∧ ∃ Nx1 : Hp → Prop, (∀ H', Nx1 H' → ∃ k', k' < k ∧ W1 (j + 1) k' H') ∧ ∀ x H', J1.yld j H x H' → g1 x (wipe σ2 vs1) H' fun σ3 H5 => wipe σ3 vs1 = wipe σ2 vs1 ∧ tt1 σ3 H5 fun b H6 =>
          if b = true then te σ3 H6 fun y H7 => ∃ acc, H7 D = some (.lst acc) ∧ acc.length < sizeLine ∧ Nx1 (upd H7 D (.lst (acc ++ [y]))) else Nx1 H6)
      else Pv (i + 1) H3) (hd : ∀ H, Pv n H → Qd H) :
    ∃ W : Nat → Nat → Hp → Prop, (∃ m, W 0 m (upd H1 D (.lst []))) ∧ ∀ i m H, W i m H →
      (J.stop i H ∧ Qd H) ∨ (J.go i H ∧ ∃ Nx : Hp → Prop, (∀ H', Nx H' → ∃ m', m' < m ∧ W (i + 1) m' H') ∧ ∀ x H', J.yld i H x H' → g x (wipe σ vs) H' fun σ2 H2 => wipe σ2 vs = wipe σ vs ∧ tt σ2 H2 fun b H3 =>
        if b = true then wi1 σ2 H3 fun J1 H4 => ∃ W1 : Nat → Nat → Hp → Prop, (∃ m, W1 0 m H4) ∧ ∀ j k H, W1 j k H →
          (J1.stop j H ∧ Nx H) ∨ (J1.go j H ∧ ∃ Nx1 : Hp → Prop, (∀ H', Nx1 H' → ∃ k', k' < k ∧ W1 (j + 1) k' H') ∧ ∀ x H', J1.yld j H x H' → g1 x (wipe σ2 vs1) H' fun σ3 H5 => wipe σ3 vs1 = wipe σ2 vs1 ∧ tt1 σ3 H5 fun b H6 =>
            if b = true then te σ3 H6 fun y H7 => ∃ acc, H7 D = some (.lst acc) ∧ acc.length < sizeLine ∧ Nx1 (upd H7 D (.lst (acc ++ [y]))) else Nx1 H6)
        else Nx H3) := by
  refine ⟨fun i m H => m = n - i ∧ i ≤ n ∧ Pv i H, ⟨n, by simp, Nat.zero_le _, h0⟩, ?_⟩
  rintro i m H ⟨rfl, hi, p⟩
  have q := hG i H hi p
  by_cases hlt : i < n
  · exact .inr ⟨w.goes i H hlt q, Pv (i + 1), fun H' p' => ⟨n - (i + 1), by omega, rfl, hlt, p'⟩, fun x H' y => hs i x H H' hlt p (w.yields i H x H' hlt q y)⟩
  · have e : i = n := by omega
    subst e
    exact .inl ⟨w.stops H q, hd H p⟩
/-- the turns of a second for -/
theorem lc_in (w : Walk J n G Y) {g : TG} {tt : TT} {te : TE} {vs : List Nat} {σ : L2.St} {H1 : Hp} {D : Addr} {Qd : Hp → Prop} (Pv : Nat → Hp → Prop) (h0 : Pv 0 H1) (hG : ∀ i H, i ≤ n → Pv i H → G H)
    (hs : ∀ i x H H', i < n → Pv i H → Y i H x H' → g x (wipe σ vs) H' fun σ2 H2 => wipe σ2 vs = wipe σ vs ∧ tt σ2 H2 fun b H3 =>
      if b = true then te σ2 H3 fun y H4 => ∃ acc, H4 D = some (.lst acc) ∧ acc.length < sizeLine ∧ Pv (i + 1) (upd H4 D (.lst (acc ++ [y]))) else Pv (i + 1) H3) (hd : ∀ H, Pv n H → Qd H) :
    ∃ W : Nat → Nat → Hp → Prop, (∃ m, W 0 m H1) ∧ ∀ i m H, W i m H →
      (J.stop i H ∧ Qd H) ∨ (J.go i H ∧ ∃ Nx : Hp → Prop, (∀ H', Nx H' → ∃ m', m' < m ∧ W (i + 1) m' H') ∧ ∀ x H', J.yld i H x H' → g x (wipe σ vs) H' fun σ2 H2 => wipe σ2 vs = wipe σ vs ∧ tt σ2 H2 fun b H3 =>
        if b = true then te σ2 H3 fun y H4 => ∃ acc, H4 D = some (.lst acc) ∧ acc.length < sizeLine ∧ Nx (upd H4 D (.lst (acc ++ [y]))) else Nx H3) := by
  refine ⟨fun i m H => m = n - i ∧ i ≤ n ∧ Pv i H, ⟨n, by simp, Nat.zero_le _, h0⟩, ?_⟩
  rintro i m H ⟨rfl, hi, p⟩
  have q := hG i H hi p
  by_cases hlt : i < n
  · exact .inr ⟨w.goes i H hlt q, Pv (i + 1), fun H' p' => ⟨n - (i + 1), by omega, rfl, hlt, p'⟩, fun x H' y => hs i x H H' hlt p (w.yields i H x H' hlt q y)⟩
  · have e : i = n := by omega
    subst e
    exact .inl ⟨w.stops H q, hd H p⟩
end
end My

set_option Elab.async false
set_option linter.all false
set_option maxRecDepth 100000
set_option maxHeartbeats 1000000
/-! ### a module's tuples of tuples; min of a tuple; list(range(a, b, c)); sum of lists -/
namespace My
open PySem PySem.Spec PyProof.Rows L2
def KTupR (K : PySem.W.Frag) (a : Addr) (cs : List Addr) : Prop := ∃ (n : Nat) (sl : Array (Option Value)), K.lookup a = some ⟨.type "tuple", none, .seq (cs.map Value.ref).toArray n, sl⟩
theorem refs_of : ∀ cs : List Addr, Vals (cs.map V.ref) (cs.map Value.ref)
  | [] => .nil
  | c :: cs => .cons rfl (refs_of cs)
theorem KTupR.sq {K : PySem.W.Frag} {a : Addr} {cs : List Addr} {H : Hp} (h : KTupR K a cs) (hz : cs.length ≤ 1000 := by decide) : SqT K H a (cs.map V.ref) := by
  obtain ⟨n, sl, e⟩ := h
  exact .inr ⟨_, (cs.map Value.ref).toArray, n, e, rfl, rfl, by rw [List.size_toArray, List.length_map]; exact Nat.le_trans hz (by decide), by simpa using refs_of cs⟩
section
variable {prog : Program} {w : World} {A : Around} {E : Value → Shared → Prop} {s : Shared} {l : Addr} {xs : Array (Int × Tok)}
theorem min_intTuple {Q : Value → Shared → Prop} (hh : A.handled = none) (hl : s.heap.IsTuple l (intItems xs)) (hne : 0 < xs.size)
    (h : ∀ v h' tk, (intItems xs)[argBest (fun i j => decide (numAt xs i < numAt xs j)) (xs.size - 1)]? = some v → (∀ b o, s.heap.get? b = some o → h'.get? b = some o) → Q v { s with heap := h', toks := tk }) :
    wpAny (model prog w) A (call (.builtin "min") [.ref l]) Q E s := by
  have hlt : l < s.heap.objs.size := by obtain ⟨o, e, _⟩ := hl; exact Heap.lt_size e
  refine call_min_walk (wpAny_pyIter_tuple hl ?_)
  refine ⟨_, [_, l], [_], _, _, _, _, rfl, Walks.tuple (A := A.in1) hh _ l (Nat.ne_of_lt hlt) (intItems xs),
    ⟨⟨_, Heap.get?_push_size _ rfl, rfl, rfl⟩, hl.push _⟩, fun c hc => ?_, by simpa [intItems] using hne, CmpOf.ints_lt (numAt xs) (fun _ _ => intItems_at), fun v h' tk hP hk => ?_⟩
  · show c < (s.heap.push _).objs.size
    rw [Heap.size_push]
    rcases List.mem_cons.mp hc with rfl | hc
    · exact Nat.lt_succ_self _
    · rw [List.mem_singleton.mp hc]
      exact Nat.lt_succ_of_lt hlt
  · refine h v h' tk (by simpa [intItems] using hP) fun b o e => hk b o ?_ (Heap.get?_push_of_some _ e)
    intro hb
    rw [List.mem_singleton.mp hb] at e
    exact absurd (Heap.lt_size e) (Nat.lt_irrefl _)
end
end My
namespace My
open PySem PySem.Spec PyProof.Rows L2
section
variable {X : Cx}
/-- min(t) of a tuple of ints -/
def rMinT (K : PySem.W.Frag) : List V → Hp → VK → Prop := fun vs H Q => ∃ (a : Addr) (ns : List Int), vs = [V.ref a] ∧ SqT K H a (ns.map V.int) ∧ 0 < ns.length ∧ ∀ m, m ∈ ns → (∀ y, y ∈ ns → m ≤ y) → Q (.int m) H
theorem cr_minT (hc : X.calm = true) : CallR X (.builtin "min") (rMinT X.K) := by
  intro pins s σ H vs us Q I r h
  obtain ⟨a, ns, rfl, hs, hne, q⟩ := h
  obtain ⟨its, rv, hl, _⟩ := I.tuple hs
  rw [Vals.ref1 r]
  have hi := rv.ints
  obtain ⟨xs, e⟩ := hi.allInts.items
  have hn : numsOf (intItems xs).toList = ns := by rw [← e]; exact hi.numsOf
  rw [nums_intItems] at hn
  subst hn
  have hl' : s.heap.IsTuple a (intItems xs) := by rw [← e]; exact hl
  have hsz : 0 < xs.size := by simpa using hne
  refine min_intTuple (I.ok.hd hc) hl' hsz fun v h' tk hv hk => ?_
  obtain ⟨t, rfl⟩ := intItems_at hv
  obtain ⟨h1, h2⟩ := argBest_lt (numAt xs) (xs.size - 1)
  refine ⟨.int _, H, I.kept hk, ⟨_, rfl⟩, q _ ?_ fun b hb => ?_⟩
  · rw [numAt_eq]; exact PySem.getD_mem (by rw [List.length_map, Array.length_toList]; omega)
  · obtain ⟨j, hj, rfl⟩ := mem_getD hb
    rw [List.length_map, Array.length_toList] at hj
    rw [← numAt_eq]; exact h2 j (by omega)
/-- a range object with a step -/
def RngO (r : Addr) (i j c : Int) : HO := .ext fun h => ∃ t u v, h.get? r = some { cls := .type "range", dict := none, data := .fields #[.int i t, .int j u, .int c v], slots := #[] }
def rRange3 : List V → Hp → VK → Prop := fun vs H Q => ∃ (i j c : Int) (n : Nat), vs = [.int i, .int j, .int c] ∧ RgC i j c n ∧ ∀ p, H p = none → Q (.ref p) (upd H p (RngO p i j c))
theorem cr_range3 : CallR X (.type "range") rRange3 := by
  intro pins s σ H vs us Q I r h
  obtain ⟨i, j, k, n, rfl, ⟨c0, c1, c2, c3⟩, q⟩ := h
  cases r with
  | cons r rr =>
    cases rr with
    | cons r' rr =>
      cases rr with
      | cons r'' rr =>
        cases rr
        obtain ⟨t, rfl⟩ := r
        obtain ⟨t', rfl⟩ := r'
        obtain ⟨t'', rfl⟩ := r''
        refine call_range_3 c0 ?_ (.inl (PyProof.noPylong_small c1))
        refine ⟨.ref s.heap.objs.size, _, I.laid (t' := s.toks) (o := RngO s.heap.objs.size i j k) (fun b o e => Heap.get?_push_of_some _ e) (Nat.le_refl _) ?_, rfl, q _ (I.hok.fresh (Nat.le_refl _))⟩
        refine ⟨⟨t, t', t'', Heap.get?_push_size _ rfl⟩, ⟨_, Heap.get?_push_size _ rfl⟩, fun h1 h2 ⟨a, b, c, e⟩ k => ⟨a, b, c, k _ e⟩⟩
def rngL (i c : Int) (n : Nat) : List Int := (List.range n).map fun (k : Nat) => i + (k : Int) * c
def rListR : List V → Hp → VK → Prop := fun vs H Q => ∃ (p : Addr) (i j c : Int) (n : Nat), vs = [.ref p] ∧ H p = some (RngO p i j c) ∧ RgC i j c n ∧ n ≤ 1000 ∧ ∀ l, H l = none → Q (.ref l) (upd H l (.lst ((rngL i c n).map V.int)))
theorem cr_listR (hc : X.calm = true) : CallR X (.type "list") rListR := by
  intro pins s σ H vs us Q I r h
  obtain ⟨p, i, j, k, n, rfl, hp, ⟨c0, c1, c2, c3⟩, hn, q⟩ := h
  rw [Vals.ref1 r]
  obtain ⟨⟨t, u, v, e⟩, _, _⟩ := I.hok p _ hp
  refine call_list_range (I.ok.hd hc) e c2 c3 (Nat.le_trans hn (by decide)) fun h' tk acc c' hk hl hi => ?_
  have lr : (rngL i k n).length = n := by unfold rngL; rw [List.length_map, List.length_range]
  refine ⟨.ref s.heap.objs.size, _, I.laid (t' := tk) (o := .lst ((rngL i k n).map V.int)) hk (Nat.le_refl _) ?_, rfl, q _ (I.hok.fresh (Nat.le_refl _))⟩
  refine ⟨by rw [List.length_map, lr]; exact Nat.le_trans hn (by decide), acc.toList, c', ?_, by rw [Array.toArray_toList]; exact hl⟩
  refine vals_of_idx _ _ (by rw [List.length_map, lr, Array.length_toList]; exact hi.1) fun j w hj => ?_
  obtain ⟨tt, rfl⟩ := hi.2 j w (by rw [← Array.getElem?_toList]; exact hj)
  have hjn : j < n := by
    have := (List.getElem?_eq_some_iff.mp hj).1
    rw [Array.length_toList, hi.1] at this
    exact this
  refine ⟨.int (i + (j : Int) * k), ?_, ⟨_, rfl⟩⟩
  unfold rngL
  rw [List.getElem?_map, List.getElem?_map, List.getElem?_range hjn]
  rfl
end
end My
namespace PySem.F
theorem args_sum2 (a b : Value) : argsOk "sum" ⟨[a, b], []⟩ := by unfold argsOk; kernel_rfl
end PySem.F
namespace My
open PySem PySem.Spec PyProof.Rows L2
open PySem.Sem (wp)
section
variable {prog : Program} {w : World} {A : Around} {E : Value → Shared → Prop} {s : Shared}
def LstO (h : Heap) (a : Addr) (vs : List Value) : Prop := ∃ c : Nat, h.get? a = some { cls := .type "list", dict := none, data := .seq vs.toArray c, slots := #[] }
theorem LstO.at {h h' : Heap} {a : Addr} {vs : List Value} (x : LstO h a vs) (k : ∀ o, h.get? a = some o → h'.get? a = some o) : LstO h' a vs := let ⟨c, e⟩ := x; ⟨c, k _ e⟩
/-- the sum of lists, as it goes on -/
theorem sum_lists_loop (hh : A.handled = none) {R : Result → Shared → Prop} {I l S : Addr} {Ls : List Addr} {X : Nat → List Value} (hIl : l ≠ I) (hSI : S ≠ I) (hSl : S ≠ l) (hsz : ((List.range Ls.length).map X).flatten.length ≤ sizeLine) :
    ∀ (k i : Nat) (s : Shared) (T : Addr) (c : Nat), Ls.length - i = k → i ≤ Ls.length → (s.heap.IsListIter I l i ∧ s.heap.IsList l (Ls.map Value.ref).toArray) → T ≠ I → T ≠ S →
      (∀ (j : Nat) (a : Addr), Ls[j]? = some a → a ≠ I ∧ a ≠ S ∧ s.heap.IsList a (X j).toArray) →
      s.heap.get? S = some { cls := .type "list", dict := none, data := .seq #[.ref T] c, slots := #[] } → LstO s.heap T (((List.range i).map X).flatten) →
      (∀ h' tk T', (∀ b o, b ≠ I → b ≠ S → s.heap.get? b = some o → h'.get? b = some o) → LstO h' T' (((List.range Ls.length).map X).flatten) → (T' = T ∨ s.heap.get? T' = none) → R (.ok (.ret (.ref T'))) { s with heap := h', toks := tk }) →
      codeAny (model prog w) A (.builtin "sum.loop" ⟨[.ref I, .ref S, rawInt 2, rawInt 0], []⟩) R s := by
  intro k
  induction k with
  | zero =>
    intro i s T c hk hi hst hTI hTS hL hS hT hR
    have W := Walks.list (prog := prog) (w := w) (A := A.in1) hh I l hIl (Ls.map Value.ref).toArray
    have hin : i = Ls.length := by omega
    subst hin
    refine codeAny_builtin F.entry_sum_loop ?_
    rw [Around.under_plainId F.plain_sum_loop _]
    show wpAny _ A.in1 (seqItems? (.ref S) >>= _) _ _ s
    refine wpAny_bind (wpAny_seqItems hS rfl ?_)
    show wpAny _ A.in1 (tryCatch (pyNext (.ref I)) _ >>= _) _ _ s
    refine wpAny_bind (wpAny_tryCatch (W.done s _ _ (by simpa using hst) fun h' tk hk' => ?_))
    refine wpAny_pure (hR h' tk T (fun b o hbw _ e => hk' b o (by simpa using hbw) e) ?_ (.inl rfl))
    exact hT.at fun o e => hk' _ _ (by simpa using hTI) e
  | succ k ih =>
    intro i s T c hk hi hst hTI hTS hL hS hT hR
    have W := Walks.list (prog := prog) (w := w) (A := A.in1) hh I l hIl (Ls.map Value.ref).toArray
    have hlt : i < Ls.length := by omega
    refine codeAny_builtin F.entry_sum_loop ?_
    rw [Around.under_plainId F.plain_sum_loop _]
    show wpAny _ A.in1 (seqItems? (.ref S) >>= _) _ _ s
    refine wpAny_bind (wpAny_seqItems hS rfl ?_)
    show wpAny _ A.in1 (tryCatch (pyNext (.ref I)) _ >>= _) _ _ s
    refine wpAny_bind (wpAny_tryCatch (W.item i s _ _ (by simpa using hlt) hst fun v h' tk hPi hst' hk' => ?_))
    have e1 : Ls[i]? = some Ls[i] := List.getElem?_eq_getElem hlt
    have hv : v = .ref Ls[i] := by
      have : (Ls.map Value.ref).toArray[i]? = some v := hPi
      rw [List.getElem?_toArray, List.getElem?_map, e1] at this
      exact (Option.some.inj this).symm
    subst hv
    have kk : ∀ b o, b ≠ I → s.heap.get? b = some o → h'.get? b = some o := fun b o n e => hk' b o (by simpa using n) e
    have hS' := kk S _ hSI hS
    obtain ⟨a1, a2, ⟨⟨cls, dd, data, sl⟩, ho, hc, nn, hd⟩⟩ := hL i _ e1
    obtain ⟨nn2, ho2⟩ := hT
    simp only at hc hd
    subst hc hd
    have ho' := kk _ _ a1 ho
    have ho2' := kk _ _ hTI ho2
    have er : ((List.range (i + 1)).map X).flatten = ((List.range i).map X).flatten ++ X i := by rw [List.range_succ, List.map_append, List.flatten_append]; simp
    have hle : ((List.range (i + 1)).map X).flatten.length ≤ sizeLine := by
      refine Nat.le_trans ?_ hsz
      have es : List.range Ls.length = List.range (i + 1) ++ (List.range' (i + 1) (Ls.length - (i + 1))) := by
        have h := List.range'_append_1 (s := 0) (m := i + 1) (n := Ls.length - (i + 1))
        rw [Nat.zero_add] at h
        rw [List.range_eq_range', List.range_eq_range', h]
        congr 1
        omega
      rw [es, List.map_append, List.flatten_append, List.length_append]
      omega
    show wpAny _ A.in1 ((holding [.ref Ls[i]] (binaryOp .Add (.ref T) (.ref Ls[i]))).attempt >>= _) _ _ _
    refine wpAny_bind (wpAny_attempt (wpAny_holding (concat_meets ⟨_, ho2', rfl⟩ ⟨_, ho', rfl⟩ noFill_list_add seq_list_add PySem.F.slot_list_add PySem.F.entry_list_add (PySem.F.args_list_add_2 _ _) (list_addW T Ls[i] _ _ nn2 nn none dd #[] sl (by
      rw [er, List.length_append] at hle
      simpa using hle)) ⟨ho2', ho', ?_⟩)))
    have hI' : I < h'.objs.size := by obtain ⟨o, e, _⟩ := hst'.1; exact Heap.lt_size e
    have hSs : S < h'.objs.size := Heap.lt_size hS'
    have hll : l < h'.objs.size := by obtain ⟨o, e, _⟩ := hst'.2; exact Heap.lt_size e
    have up : ∀ b o, h'.get? b = some o → (h'.push { cls := .type "list", data := .seq ((((List.range i).map X).flatten).toArray ++ (X i).toArray) }).get? b = some o := fun b o e => Heap.get?_push_of_some _ e
    have gT : (h'.push { cls := .type "list", data := .seq ((((List.range i).map X).flatten).toArray ++ (X i).toArray) }).get? h'.objs.size = some { cls := .type "list", data := .seq ((((List.range i).map X).flatten).toArray ++ (X i).toArray) } := Heap.get?_push_size _ rfl
    have eT : (((List.range i).map X).flatten).toArray ++ (X i).toArray = (((List.range (i + 1)).map X).flatten).toArray := by rw [er]; simp
    rw [eT] at up gT
    have hS2 := up _ _ hS'
    rw [eT]
    generalize (h'.push { cls := .type "list", data := .seq (((List.range (i + 1)).map X).flatten).toArray }) = h2 at up gT hS2 ⊢
    show wpAny _ A.in1 (updateSeq S (fun _ => #[.ref h'.objs.size]) >>= _) _ _ ⟨h2, s.gens, s.drawn, tk, s.os⟩
    refine wpAny_bind (wpAny_updateSeq hS2 rfl ?_)
    refine wpAny_bind (wpAny_letGo ?_)
    have hS3 : (h2.update S (Obj.mapSeq fun _ => #[.ref h'.objs.size])).get? S = some { cls := .type "list", dict := none, data := .seq #[.ref h'.objs.size] c, slots := #[] } := Heap.get?_update_self (Obj.mapSeq fun _ => #[.ref h'.objs.size]) hS2 rfl
    have s3 : Heap.SameBut S h2 (h2.update S (Obj.mapSeq fun _ => #[.ref h'.objs.size])) := Heap.SameBut.update ..
    generalize (h2.update S (Obj.mapSeq fun _ => #[.ref h'.objs.size])) = h3 at hS3 s3 ⊢
    show wpAny _ A.in1 (updateSeq S (fun _ => #[.ref h'.objs.size]) >>= _) _ _ ⟨h3, s.gens, s.drawn, tk, s.os⟩
    refine wpAny_bind (wpAny_updateSeq hS3 rfl ?_)
    have hS4 : (h3.update S (Obj.mapSeq fun _ => #[.ref h'.objs.size])).get? S = some { cls := .type "list", dict := none, data := .seq #[.ref h'.objs.size] c, slots := #[] } := Heap.get?_update_self (Obj.mapSeq fun _ => #[.ref h'.objs.size]) hS3 rfl
    have s4 : Heap.SameBut S h3 (h3.update S (Obj.mapSeq fun _ => #[.ref h'.objs.size])) := Heap.SameBut.update ..
    generalize (h3.update S (Obj.mapSeq fun _ => #[.ref h'.objs.size])) = h4 at hS4 s4 ⊢
    have all : ∀ b o, b ≠ S → h'.get? b = some o → h4.get? b = some o := fun b o n e => s4.extBut _ _ n (s3.extBut _ _ n (up _ _ e))
    have nTI : h'.objs.size ≠ I := Nat.ne_of_gt hI'
    have nTS : h'.objs.size ≠ S := Nat.ne_of_gt hSs
    refine wpAny_pure ⟨plainId_quiet F.plain_sum_loop _, ih (i + 1) ⟨h4, s.gens, s.drawn, tk, s.os⟩ h'.objs.size c (by omega) hlt ⟨hst'.1.at fun o e => all _ _ hSI.symm e, ?_⟩ nTI nTS (fun j a e => ?_) hS4 ?_ fun h5 tk5 T5 k5 hT5 hf5 => ?_⟩
    · exact hst'.2.at fun o e => all _ _ hSl.symm e
    · obtain ⟨b1, b2, b3⟩ := hL j a e
      exact ⟨b1, b2, b3.at fun o e => all _ _ b2 (kk _ _ b1 e)⟩
    · exact ⟨0, s4.extBut _ _ nTS (s3.extBut _ _ nTS gT)⟩
    · refine hR h5 tk5 T5 (fun b o n1 n2 e => k5 b o n1 n2 (all _ _ n2 (kk _ _ n1 e))) hT5 (.inr ?_)
      cases hx : s.heap.get? T5 with
      | none => rfl
      | some o =>
        exfalso
        by_cases n1 : T5 = I
        · rcases hf5 with z | z
          · exact nTI (z.symm.trans n1)
          · have := all _ _ hSI.symm (hst'.1.choose_spec.1)
            rw [n1] at z
            rw [z] at this
            cases this
        · by_cases n2 : T5 = S
          · rcases hf5 with z | z
            · exact nTS (z.symm.trans n2)
            · rw [n2, show Heap.get? h4 S = some _ from hS4] at z
              cases z
          · have h4x := all _ _ n2 (kk _ _ n1 hx)
            rcases hf5 with z | z
            · rw [z] at hx
              exact absurd (Heap.lt_size (kk _ _ nTI hx)) (Nat.lt_irrefl _)
            · rw [show Heap.get? h4 T5 = none from z] at h4x
              cases h4x
theorem call_sum_lists {l T : Addr} {Ls : List Addr} {X : Nat → List Value} {Q : Value → Shared → Prop} (hh : A.handled = none) (hl : s.heap.IsList l (Ls.map Value.ref).toArray) (hT : LstO s.heap T []) (hL : ∀ (j : Nat) (a : Addr), Ls[j]? = some a → s.heap.IsList a (X j).toArray)
    (hsz : ((List.range Ls.length).map X).flatten.length ≤ sizeLine)
    (h : ∀ h' tk T', (∀ b o, s.heap.get? b = some o → h'.get? b = some o) → LstO h' T' (((List.range Ls.length).map X).flatten) → (T' = T ∨ s.heap.get? T' = none) → Q (.ref T') { s with heap := h', toks := tk }) :
    wpAny (model prog w) A (call (.builtin "sum") [.ref l, .ref T]) Q E s := by
  have hll : l < s.heap.objs.size := by obtain ⟨o, e, _⟩ := hl; exact Heap.lt_size e
  have hTl : T < s.heap.objs.size := by obtain ⟨c, e⟩ := hT; exact Heap.lt_size e
  refine call_function_tree F.kind_sum F.plain_sum F.entry_sum (F.args_sum2 _ _) ?_
  unfold Builtin.«sum»
  simp only [List.length_cons, List.length_nil]
  rw [if_neg (by decide)]
  refine wpAny_bind (wpAny_of_eq (show Builtin.Builtins.bindParams "sum" ["start"] 0 ⟨[.ref T], []⟩ = pure [some (.ref T)] from rfl) ?_)
  refine wpAny_bind (wpAny_pyIter_list hl ?_)
  have k1 : ∀ b o, s.heap.get? b = some o → (s.heap.push { cls := .type "list_iterator", data := .fields #[.ref l, .int 0 0] }).get? b = some o := fun b o e => Heap.get?_push_of_some _ e
  have hit : (s.heap.push { cls := .type "list_iterator", data := .fields #[.ref l, .int 0 0] }).IsListIter s.heap.objs.size l 0 := ⟨_, Heap.get?_push_size _ rfl, rfl, rfl⟩
  have z1 : (s.heap.push { cls := .type "list_iterator", data := .fields #[.ref l, .int 0 0] }).objs.size = s.heap.objs.size + 1 := Heap.size_push ..
  generalize (s.heap.push { cls := .type "list_iterator", data := .fields #[.ref l, .int 0 0] }) = h1 at k1 hit z1 ⊢
  have hT1 : h1.IsList T #[] := let ⟨c, e⟩ := hT; ⟨_, k1 _ _ e, rfl, c, rfl⟩
  have hl1 := hl.at (k1 l)
  show wpAny _ A.in1 ((pure (.ref T, (2 : Int)) : Sem (Value × Int)) >>= _) _ _ _
  refine wpAny_bind (wpAny_pure ?_)
  simp only [List.forIn_cons, List.forIn_nil]
  refine wpAny_bind (wpAny_bind (wpAny_bind (wpAny_isInstance (s := { s with heap := h1 }) (T := "list") (b := false) hT1.typeIs F.sub_list_str ?_)))
  simp only [Bool.false_eq_true, if_false]
  refine wpAny_pure (wpAny_bind (wpAny_bind (wpAny_isInstance (s := { s with heap := h1 }) (T := "list") (b := false) hT1.typeIs F.sub_list_bytes ?_)))
  simp only [Bool.false_eq_true, if_false]
  refine wpAny_pure (wpAny_bind (wpAny_bind (wpAny_isInstance (s := { s with heap := h1 }) (T := "list") (b := false) hT1.typeIs F.sub_list_bytearray ?_)))
  simp only [Bool.false_eq_true, if_false]
  refine wpAny_pure (wpAny_pure ?_)
  refine wpAny_bind (wpAny_newObj_type ?_)
  have k2 : ∀ b o, h1.get? b = some o → (h1.push { cls := .type "list", data := .seq #[.ref T] }).get? b = some o := fun b o e => Heap.get?_push_of_some _ e
  have hS : (h1.push { cls := .type "list", data := .seq #[.ref T] }).get? h1.objs.size = some { cls := .type "list", data := .seq #[.ref T] } := Heap.get?_push_size _ rfl
  generalize (h1.push { cls := .type "list", data := .seq #[.ref T] }) = h2 at k2 hS ⊢
  have old : ∀ b o, s.heap.get? b = some o → h2.get? b = some o := fun b o e => k2 _ _ (k1 _ _ e)
  have lt1 : ∀ b, b < s.heap.objs.size → b ≠ s.heap.objs.size ∧ b ≠ h1.objs.size := fun b hb => ⟨Nat.ne_of_lt hb, Nat.ne_of_lt (Nat.lt_of_lt_of_le hb (by rw [z1]; exact Nat.le_succ _))⟩
  refine wpAny_pure ⟨plainId_quiet F.plain_sum_loop _, sum_lists_loop (X := X) (Ls := Ls) (l := l) hh (lt1 l hll).1 ?_ (lt1 l hll).2.symm hsz Ls.length 0 ⟨h2, s.gens, s.drawn, s.toks, s.os⟩ T 0 (by omega) (Nat.zero_le _) ⟨hit.at fun o e => k2 _ _ e, hl.at fun o e => old _ _ e⟩ (lt1 T hTl).1 (lt1 T hTl).2 (fun j a e => ?_) hS ?_ fun h' tk T' k3 hT' hf => ?_⟩
  · rw [z1]
    exact Nat.succ_ne_self _
  · have ha := hL j a e
    have hal : a < s.heap.objs.size := by obtain ⟨o, e, _⟩ := ha; exact Heap.lt_size e
    exact ⟨(lt1 a hal).1, (lt1 a hal).2, ha.at fun o e => old _ _ e⟩
  · exact hT.at fun o e => old _ _ e
  · refine h h' tk T' (fun b o e => k3 b o (lt1 b (Heap.lt_size e)).1 (lt1 b (Heap.lt_size e)).2 (old _ _ e)) hT' ?_
    rcases hf with z | z
    · exact .inl z
    · right
      cases hx : s.heap.get? T' with
      | none => rfl
      | some o =>
        have := old _ _ hx
        rw [show h2.get? T' = none from z] at this
        cases this
end
end My
namespace My
open PySem PySem.Spec PyProof.Rows L2
section
variable {X : Cx}
/-- sum(xs, []) of lists -/
def rSumL (K : PySem.W.Frag) : List V → Hp → VK → Prop := fun vs H Q => ∃ (l T : Addr) (Ls : List Addr) (rows : List (List V)), vs = [.ref l, .ref T] ∧ SqL K H l (Ls.map V.ref) ∧ H T = some (.lst []) ∧ RowsL K H Ls rows ∧ rows.flatten.length ≤ 1000 ∧ rows ≠ [] ∧
  ∀ p H', Same H H' → H' p = some (.lst rows.flatten) → Q (.ref p) H'
theorem cr_sumL (hc : X.calm = true) : CallR X (.builtin "sum") (rSumL X.K) := by
  intro pins s σ H vs us Q I r h
  obtain ⟨l, T, Ls, rows, rfl, hl, hT, hr, hz, h0, q⟩ := h
  cases r with
  | cons r rr =>
    cases rr with
    | cons r' rr =>
      cases rr
      cases r
      cases r'
      obtain ⟨its, rv, p1, _⟩ := I.list hl
      obtain rfl := refs_vals rv
      have hT2 := I.hok T _ hT
      obtain ⟨_, itsT, cT, rvT, eT⟩ := hT2
      cases rvT
      have each : ∀ j : Nat, ∃ u : List Value, ∀ a, Ls[j]? = some a → s.heap.IsList a u.toArray ∧ ∀ r, rows[j]? = some r → Vals r u := fun j => by
        cases e1 : Ls[j]? with
        | none => exact ⟨[], fun a z => by cases z⟩
        | some a =>
          have hj : j < rows.length := by rw [← hr.1]; exact (List.getElem?_eq_some_iff.mp e1).1
          have e2 : rows[j]? = some rows[j] := List.getElem?_eq_getElem hj
          obtain ⟨its2, rv2, p2, _⟩ := I.list (hr.2 j a _ e1 e2)
          refine ⟨its2, fun a2 z => ?_⟩
          cases z
          refine ⟨p2.isList, fun r z => ?_⟩
          rw [e2] at z
          cases z
          exact rv2
      let X2 : Nat → List Value := fun j => Classical.choose (each j)
      have hX : ∀ j a, Ls[j]? = some a → s.heap.IsList a (X2 j).toArray ∧ ∀ r, rows[j]? = some r → Vals r (X2 j) := fun j => Classical.choose_spec (each j)
      have rel : ∀ n, n ≤ rows.length → Vals ((rows.take n).flatten) ((List.range n).map X2).flatten := fun n => by
        induction n with
        | zero => exact fun _ => .nil
        | succ n ih =>
          intro hn
          have e2 : rows[n]? = some (rows[n]'(by omega)) := List.getElem?_eq_getElem _
          have e1 : Ls[n]? = some (Ls[n]'(by rw [hr.1]; omega)) := List.getElem?_eq_getElem _
          rw [List.take_add_one, e2, List.range_succ, List.map_append, List.flatten_append, List.flatten_append]
          simp only [Option.toList_some, List.flatten_cons, List.flatten_nil, List.append_nil, List.map_cons, List.map_nil]
          exact (ih (by omega)).append ((hX n _ e1).2 _ e2)
      have relA : Vals rows.flatten ((List.range Ls.length).map X2).flatten := by
        have := rel rows.length (Nat.le_refl _)
        rw [List.take_length] at this
        rw [hr.1]
        exact this
      have len := relA.length
      refine call_sum_lists (X := X2) (I.ok.hd hc) p1.isList ⟨cT, eT⟩ (fun j a e => (hX j a e).1) (by rw [← len]; exact Nat.le_trans hz (by decide)) fun h' tk T' k ⟨c', e'⟩ hf => ?_
      rcases hf with rfl | hn
      · have eN : ((List.range Ls.length).map X2).flatten = [] := by
          have := k _ _ eT
          rw [e'] at this
          have h2 : (((List.range Ls.length).map X2).flatten).toArray = #[] := by
            have h3 := congrArg Obj.data (Option.some.inj this)
            exact (Data.seq.inj h3).1
          simpa using congrArg Array.toList h2
        have eR : rows.flatten = [] := by rw [eN] at len; exact List.eq_nil_of_length_eq_zero len
        refine ⟨.ref T', H, I.kept (t' := tk) k, rfl, q T' H (Same.refl _) ?_⟩
        rw [eR]
        exact hT
      · have hN : H T' = none := I.hok.gone hn
        refine ⟨.ref T', upd H T' (.lst rows.flatten), I.laidN (t' := tk) k hn hN ?_, rfl, q T' _ (same_upd hN) upd_same⟩
        exact ⟨Nat.le_trans hz (by decide), _, c', relA, e'⟩
end
end My

set_option Elab.async false
set_option linter.all false
set_option maxRecDepth 100000
set_option maxHeartbeats 1000000
/-! ### a module's tuples of tuples of tuples of whole numbers, and its tuples of functions, checked by one question -/
namespace My
open PySem PySem.Spec PyProof.Rows L2
def refsB : List Value → Option (List Addr)
  | [] => some []
  | .ref a :: vs => (refsB vs).map (a :: ·)
  | _ :: _ => none
theorem refsB_ok : ∀ {vs : List Value} {cs : List Addr}, refsB vs = some cs → vs = cs.map Value.ref
  | [], cs, h => by cases h; rfl
  | .ref a :: vs, cs, h => by
    obtain ⟨r, e, rfl⟩ := Option.map_eq_some_iff.mp (show (refsB vs).map (a :: ·) = some cs from h)
    rw [refsB_ok e]
    rfl
/-- the addresses that a tuple of the written part holds -/
def tupRefs (K : PySem.W.Frag) (a : Addr) : Option (List Addr) :=
  match K.lookup a with
  | some ⟨.type s, none, .seq its _, _⟩ => if s == "tuple" && Nat.ble its.size 1000 then refsB its.toList else none
  | _ => none
theorem tupRefs_ok {K : PySem.W.Frag} {a : Addr} {cs : List Addr} (h : tupRefs K a = some cs) : KTupR K a cs ∧ cs.length ≤ 1000 := by
  unfold tupRefs at h
  split at h
  · next s its n sl e =>
    split at h
    · next c =>
      rw [Bool.and_eq_true] at c
      have es : s = "tuple" := by simpa using c.1
      subst es
      have ev := refsB_ok h
      have hl : cs.length = its.size := by rw [← Array.length_toList, ev, List.length_map]
      refine ⟨⟨n, sl, ?_⟩, by rw [hl]; exact Nat.le_of_ble_eq_true c.2⟩
      rw [e, ← ev]
    · cases h
  · cases h
def tup2B (K : PySem.W.Frag) (a : Addr) (d : List (List Int)) : Bool :=
  match tupRefs K a with
  | some cs => Nat.beq cs.length d.length && (cs.zip d).all fun p => tupB K p.1 p.2
  | none => false
def tup3B (K : PySem.W.Frag) (a : Addr) (d : List (List (List Int))) : Bool :=
  match tupRefs K a with
  | some cs => Nat.beq cs.length d.length && (cs.zip d).all fun p => tup2B K p.1 p.2
  | none => false
theorem zip_mem {α β : Type} {xs : List α} {ys : List β} {i : Nat} {x : α} {y : β} (h1 : xs[i]? = some x) (h2 : ys[i]? = some y) : (x, y) ∈ xs.zip ys :=
  List.mem_of_getElem? (i := i) (List.getElem?_zip_eq_some.mpr ⟨h1, h2⟩)
theorem tup2B_ok {K : PySem.W.Frag} {a : Addr} {d : List (List Int)} (h : tup2B K a d = true) : ∃ cs, KTupR K a cs ∧ cs.length ≤ 1000 ∧ cs.length = d.length ∧ ∀ (i : Nat) (c : Addr) (r : List Int), cs[i]? = some c → d[i]? = some r → tupB K c r = true := by
  unfold tup2B at h
  split at h
  · next cs e =>
    rw [Bool.and_eq_true] at h
    obtain ⟨k, l⟩ := tupRefs_ok e
    exact ⟨cs, k, l, Nat.eq_of_beq_eq_true h.1, fun i c r e1 e2 => List.all_eq_true.mp h.2 (c, r) (zip_mem e1 e2)⟩
  · cases h
theorem tup3B_ok {K : PySem.W.Frag} {a : Addr} {d : List (List (List Int))} (h : tup3B K a d = true) : ∃ cs, KTupR K a cs ∧ cs.length ≤ 1000 ∧ cs.length = d.length ∧ ∀ (i : Nat) (c : Addr) (r : List (List Int)), cs[i]? = some c → d[i]? = some r → tup2B K c r = true := by
  unfold tup3B at h
  split at h
  · next cs e =>
    rw [Bool.and_eq_true] at h
    obtain ⟨k, l⟩ := tupRefs_ok e
    exact ⟨cs, k, l, Nat.eq_of_beq_eq_true h.1, fun i c r e1 e2 => List.all_eq_true.mp h.2 (c, r) (zip_mem e1 e2)⟩
  · cases h
/-- a row of a table of three: the tuple of its rows, each a tuple of whole numbers -/
theorem tup3_at {K : PySem.W.Frag} {a : Addr} {d : List (List (List Int))} {i : Nat} {r : List (List Int)} (h : tup3B K a d = true) (e : d[i]? = some r) : ∃ cs : List Addr, (∀ H, SqT K H a (cs.map V.ref)) ∧ ∃ c : Addr, atI (cs.map V.ref) (i : Int) = some (.ref c) ∧
    ∃ bs : List Addr, (∀ H, SqT K H c (bs.map V.ref)) ∧ bs.length = r.length ∧ ∀ (j : Nat) (b : Addr) (q : List Int), bs[j]? = some b → r[j]? = some q → ∀ H, SqT K H b (q.map V.int) := by
  obtain ⟨cs, k, l, n, f⟩ := tup3B_ok h
  have hi : i < cs.length := by rw [n]; exact (List.getElem?_eq_some_iff.mp e).1
  have ec : cs[i]? = some cs[i] := List.getElem?_eq_getElem hi
  obtain ⟨bs, k2, l2, n2, f2⟩ := tup2B_ok (f i _ r ec e)
  exact ⟨cs, fun H => k.sq l, cs[i], atI_nat (by rw [List.getElem?_map, ec]; rfl), bs, fun H => k2.sq l2, n2, fun j b q e1 e2 H => tupB_ok (f2 j b q e1 e2)⟩
theorem op_catTK {X : Cx} {K : PySem.W.Frag} (h : X.K = K) : OpR X (binaryOp .Add) (rCatT K) := by
  subst h
  exact op_catT
/-- the bits of a word, the highest first -/
def bitsW (b w : Nat) : List Nat := (List.range b).map fun i => w / 2 ^ (b - 1 - i) % 2
def wordsB (b : Nat) (ws : List Nat) : List Nat := ws.flatMap (bitsW b)
def quadsD : List (List Nat) := (List.range 16).map (bitsW 4)
theorem bits8 {w : Nat} (h : w < 256) : bitsW 8 w = bitsW 4 (w / 16) ++ bitsW 4 (w % 16) := by
  have q : ((List.range 256).all fun w => bitsW 8 w == bitsW 4 (w / 16) ++ bitsW 4 (w % 16)) = true := by decide +kernel
  exact eq_of_beq (List.all_eq_true.mp q w (List.mem_range.mpr h))
theorem bitsW_len (b w : Nat) : (bitsW b w).length = b := by
  unfold bitsW
  rw [List.length_map, List.length_range]
theorem wordsB_snoc (b : Nat) (ws : List Nat) (w : Nat) : wordsB b (ws ++ [w]) = wordsB b ws ++ bitsW b w := by
  unfold wordsB
  rw [List.flatMap_append]
  simp
theorem wordsB_len (b : Nat) : ∀ ws : List Nat, (wordsB b ws).length = b * ws.length
  | [] => rfl
  | w :: ws => by
    show (bitsW b w ++ wordsB b ws).length = b * (ws.length + 1)
    rw [List.length_append, bitsW_len, wordsB_len b ws, Nat.mul_succ, Nat.add_comm]
end My

set_option Elab.async false
set_option linter.all false
set_option maxRecDepth 100000
set_option maxHeartbeats 4000000
/-! ### sorted tuples of ints, any number of them -/
namespace SrtO
open PySem PyProof.Rows Srt
section
variable {prog : Program} {w : World} {A : Around} {E : Value → Shared → Prop} {s : Shared}
theorem swo_rank (r : Value → Int) : Swo fun v u => decide (r v < r u) := by
  refine ⟨fun x y h => ?_, fun x y z h1 h2 => ?_⟩
  · have a := of_decide_eq_true h
    exact decide_eq_false (by omega)
  · have a := of_decide_eq_false h1
    have b := of_decide_eq_false h2
    exact decide_eq_false (by omega)
theorem tups_cmp {vs : List Value} {d : Nat} {B : Int} {r : Value → Int} (x : TS.TupsOk s.heap d B vs) (hr : ∀ v ∈ vs, ∀ ns, TS.TupInts s.heap v ns → r v = TS.code B ns) :
    Cmp prog w A s (tuples' true) (fun p => p.1 ∈ vs) (lt2 fun v u => decide (r v < r u)) := by
  intro p q hm hm'
  show wpAny (model prog w) A (keyLt' (tuples' true) p.1 q.1) (fun b s' => s' = s ∧ b = decide (r p.1 < r q.1)) (fun _ _ => False) s
  obtain ⟨ns, tp, lp, bp⟩ := x _ hm
  obtain ⟨ms, tq, lq, bq⟩ := x _ hm'
  rw [hr _ hm _ tp, hr _ hm' _ tq]
  obtain ⟨a, xs, e1, ⟨o, ho, hc, n, hdt⟩, i⟩ := tp
  obtain ⟨a', ys, e2, ⟨o', ho', hc', n', hdt'⟩, i'⟩ := tq
  rw [e1, e2]
  refine PySem.W.kat_lt ho hdt ho' hdt' ?_
  have sz : decide (xs.size < ys.size) = false := by
    have l1 := i.length
    have l2 := i'.length
    rw [Array.length_toList] at l1 l2
    exact decide_eq_false (by omega)
  rw [sz]
  exact TS.lex_ints 0 i i' (by omega) bp bq ⟨rfl, rfl⟩
theorem tups_sortableO {a : Addr} {vs : List Value} {d : Nat} {B : Int} {r : Value → Int} (hd : 1 ≤ d) (h0 : 0 < vs.length) (x : TS.TupsOk s.heap d B vs) (hr : ∀ v ∈ vs, ∀ ns, TS.TupInts s.heap v ns → r v = TS.code B ns)
    (ha : ∀ o, s.heap.get? a = some o → o.cls ≠ .type "tuple") : SortableO prog w A s a vs fun v u => decide (r v < r u) := by
  intro h' keep
  have kk : ∀ b o, s.heap.get? b = some o → o.cls = .type "tuple" → h'.get? b = some o := fun b o e c => keep b o (fun z => by subst z; exact ha o e c) e
  have x' : TS.TupsOk h' d B vs := x.keeps kk
  have hr' : ∀ v ∈ vs, ∀ ns, TS.TupInts h' v ns → r v = TS.code B ns := fun v hv ns t => by
    obtain ⟨ns0, t0, _⟩ := x v hv
    have e : ns = ns0 := t.ints.symm.trans (t0.keeps kk).ints
    rw [e]
    exact hr v hv ns0 t0
  obtain ⟨fs, h1, h2, h3⟩ := TS.firsts_of hd vs x'
  refine ⟨tuples' true, fun Q E hq => ?_, tups_cmp (s := { s with heap := h' }) x' hr'⟩
  refine PySem.W.kat_kind (T := .type "int") h1 (by omega) (fun f hm => ?_) (by rfl) ?_
  · obtain ⟨x, t, rfl⟩ := h3 f hm
    exact PySem.W.Looks.now
  · have e : (Value.type "int" != Value.type "tuple") = true := by first | decide +kernel | rfl | decide
    rw [e]
    exact hq
end
end SrtO
namespace My
open PySem PySem.Spec PyProof.Rows L2
/-- sorted(xs), xs a list of tuples of d ints in [0, B), any number of them: a new list of the same, ascending by code B -/
def rSortN (K : PySem.W.Frag) : List V → Hp → VK → Prop := fun vs H Q => ∃ (a : Addr) (xs : List V) (d : Nat) (B : Int), vs = [V.ref a] ∧ SqL K H a xs ∧ 1 ≤ d ∧ (∀ x ∈ xs, ∃ ns, TupI K H x ns ∧ ns.length = d ∧ TS.Bd B ns) ∧
  ∀ (ys : List V) (p : Addr), ys.Perm xs → ys.Pairwise (fun x y => ∀ n m, TupI K H x n → TupI K H y m → TS.code B n ≤ TS.code B m) → H p = none → Q (.ref p) (upd H p (.lst ys))
theorem cr_sortN {X : Cx} {K : PySem.W.Frag} (hK : X.K = K) : CallR X (.builtin "sorted") (rSortN K) := by
  subst hK
  intro pins s σ H vs us Q I r h
  obtain ⟨a, xs, d, B, rfl, hs, hd, hx, q⟩ := h
  obtain ⟨its, rv, hl, hz⟩ := I.list hs
  rw [Vals.ref1 r]
  obtain ⟨e1, e2⟩ := bkV_refs rv fun x m => by
    obtain ⟨ns, ⟨t, e, _⟩, _⟩ := hx x m
    exact ⟨t, e⟩
  have ok : TS.TupsOk s.heap d B its := fun v hv => by
    obtain ⟨t, rfl⟩ := e2 v hv
    have hm : V.ref t ∈ xs := by
      rw [e1]
      exact List.mem_map.mpr ⟨_, hv, rfl⟩
    obtain ⟨ns, ⟨t', e, ht⟩, hn, hb⟩ := hx _ hm
    cases e
    exact ⟨ns, tupI_raw I ht, hn, hb⟩
  refine SrtO.sorted_ord (SrtO.swo_rank fun v => TS.code B (TS.intsOf s.heap v)) hl.isList (by rw [← rv.length]; exact hz) (fun h2 h₁ a' ha kk => ?_) fun out hsr hst => ?_
  · refine SrtO.tups_sortableO (s := { s with heap := h₁ }) (d := d) (B := B) hd (by omega) (ok.keeps fun b o e _ => (kk b o e).2) (fun v hv ns t => ?_) fun o e => ?_
    · obtain ⟨ns0, t0, _⟩ := ok v hv
      have e : ns = ns0 := t.ints.symm.trans (t0.keeps fun b o e _ => (kk b o e).2).ints
      rw [e]
      show TS.code B (TS.intsOf s.heap v) = _
      rw [t0.ints]
    · have e' : some o = some (seqObj "list" its.toArray 0) := e.symm.trans ha
      cases e'
      intro c
      exact absurd (Value.type.inj c) (by decide)
  · obtain ⟨ep, he'⟩ := PyProof.Rows.sortedAll_at s.heap its out.toArray
    have h3 : ∀ u ∈ out, ∃ a, u = Value.ref a := fun u hu => e2 u (hst.perm.mem_iff.mp hu)
    have hp : (out.map bkV).Perm xs := by
      rw [e1]
      exact hst.perm.map bkV
    have hlen : (out.map bkV).length ≤ sizeLine := by
      rw [hp.length_eq]
      exact hz
    refine ⟨.ref _, upd H (s.heap.objs.size + 1) (.lst (out.map bkV)), I.laid (t' := s.toks) (fun _ _ => PyProof.Rows.sortedAll_old) (Nat.le_succ _) ⟨hlen, out, ep, bkV_vals h3, he'⟩, rfl, q _ _ hp ?_ (I.hok.fresh (Nat.le_succ _))⟩
    rw [List.pairwise_map]
    refine List.Pairwise.imp (fun {u v} huv n m hn hm => ?_) hsr
    obtain ⟨t, et, ht⟩ := hn
    obtain ⟨t', et', ht'⟩ := hm
    have eu := bkV_ref et
    have ev := bkV_ref et'
    have i1 : TS.intsOf s.heap u = n := by
      rw [eu]
      exact (tupI_raw I ht).ints
    have i2 : TS.intsOf s.heap v = m := by
      rw [ev]
      exact (tupI_raw I ht').ints
    have h5 := of_decide_eq_false huv
    rw [← i1, ← i2]
    omega
end My

set_option Elab.async false
set_option linter.all false
set_option maxRecDepth 100000
set_option maxHeartbeats 4000000
/-! ### zip of two sequences, each a list or a tuple -/
namespace My
open PySem
section heap
/-- an iterator over a list (true) or a tuple -/
def It1 : Bool → Heap → Addr → Addr → Nat → Prop
  | true => Heap.IsListIter
  | false => Heap.IsTupleIter
def Sq1 : Bool → Heap → Addr → Array Value → Prop
  | true => Heap.IsList
  | false => Heap.IsTuple
theorem It1.but : ∀ {k : Bool} {h h' : Heap} {a b l : Addr} {i : Nat}, It1 k h a l i → Heap.ExtBut b h h' → a ≠ b → It1 k h' a l i
  | true, _, _, _, _, _, _, x, e, n => Heap.IsListIter.extBut x e n
  | false, _, _, _, _, _, _, x, e, n => Heap.IsTupleIter.extBut x e n
theorem It1.at : ∀ {k : Bool} {h h' : Heap} {a l : Addr} {i : Nat}, It1 k h a l i → (∀ o, h.get? a = some o → h'.get? a = some o) → It1 k h' a l i
  | true, _, _, _, _, _, x, e => Heap.IsListIter.at x e
  | false, _, _, _, _, _, x, e => Heap.IsTupleIter.at x e
theorem It1.obj : ∀ {k : Bool} {h : Heap} {a l : Addr} {i : Nat}, It1 k h a l i → ∃ o, h.get? a = some o ∧ ∃ xs, o.data = .fields xs
  | true, _, _, _, _, ⟨o, e, _, d⟩ => ⟨o, e, _, d⟩
  | false, _, _, _, _, ⟨o, e, _, d⟩ => ⟨o, e, _, d⟩
theorem It1.lt {k : Bool} {h : Heap} {a l : Addr} {i : Nat} (x : It1 k h a l i) : a < h.objs.size := by
  obtain ⟨o, e, _⟩ := x.obj
  exact Heap.lt_size e
theorem Sq1.but : ∀ {k : Bool} {h h' : Heap} {l b : Addr} {xs : Array Value}, Sq1 k h l xs → Heap.ExtBut b h h' → l ≠ b → Sq1 k h' l xs
  | true, _, _, _, _, _, x, e, n => Heap.IsList.extBut x e n
  | false, _, _, _, _, _, x, e, n => Heap.IsTuple.extBut x e n
end heap
section
variable {prog : Program} {w : World} {A : Around} {E : Value → Shared → Prop} {s : Shared}
theorem next1 {it l : Addr} {i : Nat} {xs : Array Value} {x : Value} {Q : Value → Shared → Prop} : ∀ {k : Bool}, It1 k s.heap it l i → Sq1 k s.heap l xs → xs[i]? = some x →
    (∀ h', It1 k h' it l (i + 1) → Heap.SameBut it s.heap h' → Q x { s with heap := h' }) → wpAny (model prog w) A (Builtin.SmallTypes.nextOf (.ref it)) Q E s
  | true, h1, h2, hx, q => wpAny_nextOf_list_item h1 h2 hx q
  | false, h1, h2, hx, q => RZ.nextOf_tuple_item h1 h2 hx q
theorem end1 {it l : Addr} {i : Nat} {xs : Array Value} {Q : Value → Shared → Prop} (hh : A.handled = none) : ∀ {k : Bool}, It1 k s.heap it l i → Sq1 k s.heap l xs → xs[i]? = none →
    (∀ h' e, Heap.ExtBut it s.heap h' → (∃ o, h'.get? e = some o ∧ o.cls = .type "StopIteration") → E (.ref e) { s with heap := h' }) → wpAny (model prog w) A (Builtin.SmallTypes.nextOf (.ref it)) Q E s
  | true, h1, h2, hx, q => wpAny_nextOf_list_end hh h1 h2 hx q
  | false, h1, h2, hx, q => RZ.nextOf_tuple_end hh h1 h2 hx q
/-- all but the zip's own parts stay -/
def Lft (z TO i1 i2 : Addr) (h h' : Heap) : Prop := ∀ c o, c ≠ z → c ≠ TO → c ≠ i1 → c ≠ i2 → h.get? c = some o → h'.get? c = some o
/-- one turn of a zip of two: a new pair, or the end -/
theorem zip_turn {ka kb : Bool} {z TI TO i1 i2 l1 l2 : Addr} {k1 k2 : Nat} {xs ys : Array Value} {a b : Value} {Q : Value → Shared → Prop} (hh : A.handled = none) (D : ZipApart z TI TO i1 i2 l1 l2)
    (hz : IsZip s.heap z TI TO .none) (hTI : IsPair s.heap TI (.ref i1) (.ref i2)) (hTO : IsPair s.heap TO a b)
    (h1 : It1 ka s.heap i1 l1 k1) (h2 : It1 kb s.heap i2 l2 k2) (q1 : Sq1 ka s.heap l1 xs) (q2 : Sq1 kb s.heap l2 ys)
    (hI : ∀ x y, xs[k1]? = some x → ys[k2]? = some y → ∀ h', IsZip h' z TI TO (rawInt s.heap.objs.size) → IsPair h' TO x y → It1 ka h' i1 l1 (k1 + 1) → It1 kb h' i2 l2 (k2 + 1) → IsPair h' s.heap.objs.size x y → Lft z TO i1 i2 s.heap h' → Q (.ref s.heap.objs.size) { s with heap := h' })
    (hE : (xs[k1]? = none ∨ ys[k2]? = none) → ∀ h' e, Lft z TO i1 i2 s.heap h' → (∃ o, h'.get? e = some o ∧ o.cls = .type "StopIteration") → E (.ref e) { s with heap := h' }) :
    wpAny (model prog w) A (Builtin.«zip.__next__» ⟨[.ref z], []⟩) (fun fin s' => ∃ v, fin = .done (.ret v) ∧ Q v s') E s := by
  show wpAny _ _ (field (.ref z) 2 >>= _) _ _ _
  refine wpAny_bind (wpAny_field hz rfl (x := .bool false) rfl ?_)
  show wpAny _ _ (field (.ref z) 3 >>= _) _ _ _
  refine wpAny_bind (wpAny_field hz rfl (x := .ref TI) rfl (wpAny_bind (wpAny_seqItems hTI rfl ?_)))
  show wpAny _ _ (Builtin.SmallTypes.ownedTupleIsFree (.ref z) >>= _) _ _ _
  unfold Builtin.SmallTypes.ownedTupleIsFree
  refine wpAny_bind (wpAny_bind (wpAny_field hz rfl (x := .none) rfl (wpAny_pure ?_)))
  simp only [if_true]
  refine wpAny_bind (wpAny_rule (wpAny_bind (wpAny_field hz rfl (x := .ref TO) rfl (wpAny_bind (wpAny_setField_rec hz (by simp) fun g1 y1 s1 => ?_)))))
  have c1 := s1.extBut
  replace y1 : IsZip g1 z TI TO .ellipsis := y1
  simp only [List.zipIdx_cons, List.zipIdx_nil, List.forIn_cons, List.forIn_nil]
  refine wpAny_bind (wpAny_bind (wpAny_bind (wpAny_onRaise ?_)))
  show wpAny _ _ (Builtin.SmallTypes.nextOf (.ref i1) >>= _) _ _ _
  have stop : ∀ (g : Heap) (e : Addr) (st : Shared) {R : PUnit → Shared → Prop}, st = { s with heap := g } → IsZip g z TI TO .ellipsis → (∃ o, g.get? e = some o ∧ o.cls = .type "StopIteration") → (∀ h', Heap.SameBut z g h' → (∃ o, h'.get? e = some o ∧ o.cls = .type "StopIteration") → R () { s with heap := h' }) →
      wpAny (model prog w) A (setField (.ref z) 0 .none) R E st := fun g e st R es yz he r => by
    subst es
    obtain ⟨o, ho, hc⟩ := he
    have n : e ≠ z := fun x => by subst x; rw [yz] at ho; cases ho; simp at hc
    exact wpAny_setField_rec (s := { s with heap := g }) yz (by simp) fun h' _ sb => r h' sb ⟨o, sb.extBut _ _ n ho, hc⟩
  cases hx : xs[k1]? with
  | none =>
    refine wpAny_bind (end1 hh (h1.but c1 D.i1z) (q1.but c1 D.l1z) hx fun g2 e s2 he => ?_)
    refine stop g2 e _ rfl (s2 _ _ D.i1z.symm y1) he fun h' sb he' => hE (.inl hx) h' e (fun c o n1 _ n3 _ p => sb.extBut _ _ n1 (s2 _ _ n3 (c1 _ _ n1 p))) he'
  | some x =>
    refine wpAny_bind (next1 (h1.but c1 D.i1z) (q1.but c1 D.l1z) hx fun g2 p2 s2 => wpAny_pure ?_)
    have c2 := s2.extBut
    have t2 : IsPair g2 TO a b := c2 _ _ D.TOi1 (c1 _ _ D.TOz hTO)
    refine wpAny_bind (wpAny_seqItems t2 rfl (wpAny_bind (wpAny_updateSeq_pair t2 fun g3 t3 s3 => wpAny_bind (wpAny_letGo (wpAny_pure ?_)))))
    have c3 := s3.extBut
    replace t3 : IsPair g3 TO x b := t3
    have h2' := ((h2.but c1 D.i2z).but c2 D.i12.symm).but c3 D.TOi2.symm
    have q2' := ((q2.but c1 D.l2z).but c2 D.l2i1).but c3 D.l2TO
    have y3 : IsZip g3 z TI TO .ellipsis := c3 _ _ D.TOz.symm (c2 _ _ D.i1z.symm y1)
    refine wpAny_bind (wpAny_bind (wpAny_onRaise ?_))
    show wpAny _ _ (Builtin.SmallTypes.nextOf (.ref i2) >>= _) _ _ _
    cases hy : ys[k2]? with
    | none =>
      refine wpAny_bind (end1 hh h2' q2' hy fun g4 e s4 he => ?_)
      refine stop g4 e _ rfl (s4 _ _ D.i2z.symm y3) he fun h' sb he' => hE (.inr hy) h' e (fun c o n1 n2 n3 n4 p => sb.extBut _ _ n1 (s4 _ _ n4 (c3 _ _ n2 (c2 _ _ n3 (c1 _ _ n1 p))))) he'
    | some y =>
      refine wpAny_bind (next1 h2' q2' hy fun g4 p4 s4 => wpAny_pure ?_)
      have c4 := s4.extBut
      have t4 : IsPair g4 TO x b := c4 _ _ D.TOi2 t3
      refine wpAny_bind (wpAny_seqItems t4 rfl (wpAny_bind (wpAny_updateSeq_pair t4 fun g5 t5 s5 => wpAny_bind (wpAny_letGo (wpAny_pure (wpAny_pure ?_))))))
      have c5 := s5.extBut
      replace t5 : IsPair g5 TO x y := t5
      refine wpAny_bind (wpAny_seqItems t5 rfl (wpAny_bind (wpAny_newTuple ?_)))
      have sz : g5.objs.size = s.heap.objs.size := by rw [s5.1, s4.1, s3.1, s2.1, s1.1]
      have y5 : IsZip g5 z TI TO .ellipsis := c5 _ _ D.TOz.symm (c4 _ _ D.i2z.symm y3)
      have old : Lft z TO i1 i2 s.heap g5 := fun c o n1 n2 n3 n4 p => c5 _ _ n2 (c4 _ _ n4 (c3 _ _ n2 (c2 _ _ n3 (c1 _ _ n1 p))))
      have p1 : It1 ka g5 i1 l1 (k1 + 1) := ((p2.but c3 D.TOi1.symm).but c4 D.i12).but c5 D.TOi1.symm
      have p5 : It1 kb g5 i2 l2 (k2 + 1) := p4.but c5 D.TOi2.symm
      have zl : z < g5.objs.size := Heap.lt_size y5
      show wpAny _ _ (Builtin.SmallTypes.ownedTupleHandOut (.ref z) (.ref g5.objs.size) >>= _) _ _ _
      unfold Builtin.SmallTypes.ownedTupleHandOut
      have y6 : IsZip (g5.push { cls := .type "tuple", data := .seq #[x, y] }) z TI TO .ellipsis := Heap.get?_push_of_some _ y5
      refine wpAny_bind (wpAny_bind (wpAny_setField_rec y6 (by simp) fun g7 y7 s7 => ?_))
      replace y7 : IsZip g7 z TI TO (rawInt g5.objs.size) := y7
      refine wpAny_setField_rec y7 (by simp) fun g8 y8 s8 => ?_
      replace y8 : IsZip g8 z TI TO (rawInt g5.objs.size) := y8
      have up : ∀ c o, c ≠ z → g5.get? c = some o → g8.get? c = some o := fun c o n p => s8.extBut _ _ n (s7.extBut _ _ n (Heap.get?_push_of_some _ p))
      have new : IsPair g8 g5.objs.size x y := s8.extBut _ _ (Nat.ne_of_gt zl) (s7.extBut _ _ (Nat.ne_of_gt zl) (Heap.get?_push_size _ rfl))
      rw [sz] at y8 new
      refine wpAny_pure ⟨_, rfl, ?_⟩
      show Q (.ref g5.objs.size) _
      rw [sz]
      exact hI x y hx hy g8 y8 (up _ _ D.TOz t5) (p1.at fun o e => up _ o D.i1z e) (p5.at fun o e => up _ o D.i2z e) new fun c o n1 n2 n3 n4 p => up c o n1 (old c o n1 n2 n3 n4 p)
theorem zip_ask {ka kb : Bool} {z TI TO i1 i2 l1 l2 : Addr} {k1 k2 : Nat} {xs ys : Array Value} {a b : Value} {Q : Option Value → Shared → Prop} (hh : A.handled = none) (D : ZipApart z TI TO i1 i2 l1 l2)
    (hz : IsZip s.heap z TI TO .none) (hTI : IsPair s.heap TI (.ref i1) (.ref i2)) (hTO : IsPair s.heap TO a b)
    (h1 : It1 ka s.heap i1 l1 k1) (h2 : It1 kb s.heap i2 l2 k2) (q1 : Sq1 ka s.heap l1 xs) (q2 : Sq1 kb s.heap l2 ys)
    (hI : ∀ x y, xs[k1]? = some x → ys[k2]? = some y → ∀ h', IsZip h' z TI TO (rawInt s.heap.objs.size) → IsPair h' TO x y → It1 ka h' i1 l1 (k1 + 1) → It1 kb h' i2 l2 (k2 + 1) → IsPair h' s.heap.objs.size x y → Lft z TO i1 i2 s.heap h' → Q (some (.ref s.heap.objs.size)) { s with heap := h' })
    (hE : (xs[k1]? = none ∨ ys[k2]? = none) → ∀ h', Lft z TO i1 i2 s.heap h' → Q none { s with heap := h' }) : wpAny (model prog w) A (pyNext (.ref z)) Q E s := by
  have hT : s.TypeIs (.ref z) "zip" := ⟨_, hz, rfl⟩
  unfold pyNext
  refine wpAny_bind (wpAny_attempt (wpAny_callSpecial?_slot (name := Str.ofString "__next__") hT F.slot_zip_next (wpAny_call_entry F.slot_zip_next hT F.entry_zip_next
    (zip_turn hh D hz hTI hTO h1 h2 q1 q2 (fun x y hx hy h' a1 a2 a3 a4 a5 a6 => wpAny_pure (hI x y hx hy h' a1 a2 a3 a4 a5 a6)) fun hn h' e lf he => ?_) (F.args_zip_next_1 _))))
  obtain ⟨o, ho, hc⟩ := he
  exact wpAny_bind (wpAny_isInstance (T := "StopIteration") (b := true) ⟨o, ho, hc⟩ isSubtype_stop (wpAny_pure (hE hn h' lf)))
end
end My
namespace My
open PySem PySem.Spec PyProof.Rows L2
section
variable {X : Cx} {pins : List (Addr × Obj)} {σ : L2.St} {H : Hp} {s : Shared}
theorem inv_sq (I : Inv X pins σ H s) : ∀ {k : Bool} {a : Addr} {xs : List V}, SqB k X.K H a xs → ∃ its, Vals xs its ∧ Sq1 k s.heap a its.toArray
  | true, a, xs, h => by
    obtain ⟨its, rv, p, _⟩ := I.list h
    exact ⟨its, rv, p.isList⟩
  | false, a, xs, h => by
    obtain ⟨its, rv, p, _⟩ := I.tuple h
    exact ⟨its, rv, p⟩
theorem inv_sq_inj (I : Inv X pins σ H s) : ∀ {k : Bool} {a : Addr} {xs ys : List V}, SqB k X.K H a xs → SqB k X.K H a ys → xs = ys
  | true, a, xs, ys, h1, h2 => I.list_inj h1 h2
  | false, a, xs, ys, h1, h2 => I.tuple_inj h1 h2
theorem Sq1.lt : ∀ {k : Bool} {h : Heap} {l : Addr} {xs : Array Value}, Sq1 k h l xs → l < h.objs.size
  | true, _, _, _, ⟨o, e, _⟩ => Heap.lt_size e
  | false, _, _, _, ⟨o, e, _⟩ => Heap.lt_size e
end
/-- the two sequences as they stand at each turn, the items in new pairs -/
def ItzB (ka kb : Bool) (K : PySem.W.Frag) (a b : Addr) : It :=
  ⟨fun i H => ∃ (xs ys : List V) (x y : V), SqB ka K H a xs ∧ SqB kb K H b ys ∧ xs[i]? = some x ∧ ys[i]? = some y,
    fun i H v H' => ∃ T x y, v = .ref T ∧ H T = none ∧ H' = upd H T (.tup [x, y]) ∧ (∀ xs, SqB ka K H a xs → xs[i]? = some x) ∧ ∀ ys, SqB kb K H b ys → ys[i]? = some y,
    fun i H => ∃ xs ys : List V, SqB ka K H a xs ∧ SqB kb K H b ys ∧ (xs.length ≤ i ∨ ys.length ≤ i)⟩
theorem walk_zipB {ka kb : Bool} {K : PySem.W.Frag} {a b : Addr} {xs ys : List V} {n : Nat} (hn : n = min xs.length ys.length) : Walk (ItzB ka kb K a b) n (fun H => SqB ka K H a xs ∧ SqB kb K H b ys) (YPair (fun i => xs[i]?) (fun i => ys[i]?)) where
  goes i _ hi q := ⟨xs, ys, xs[i]'(by omega), ys[i]'(by omega), q.1, q.2, List.getElem?_eq_getElem _, List.getElem?_eq_getElem _⟩
  stops _ q := ⟨xs, ys, q.1, q.2, by omega⟩
  yields i H v H' _ q y := by
    obtain ⟨T, x, z, h1, h2, h3, h4, h5⟩ := y
    exact ⟨T, x, z, h1, h2, h3, h4 xs q.1, h5 ys q.2⟩
theorem turn_zipB {ka kb : Bool} {P : Program} {w : World} {K : PySem.W.Frag} {elts : List Expr} {kk : Nat} {tpos : Pos} {a b z TI TO i1 i2 : Addr} (D : ZipApart z TI TO i1 i2 a b) :
    Turn P w K (.Tuple elts kk tpos) (ItzB ka kb K a b) [z, TI, TO, i1, i2] z (fun i h => IsZip h z TI TO .none ∧ IsPair h TI (.ref i1) (.ref i2) ∧ (∃ x y, IsPair h TO x y) ∧ It1 ka h i1 a i ∧ It1 kb h i2 b i) where
  mem := by simp
  obj := fun i h st c hc => by
    obtain ⟨hz, hTI, ⟨x, y, hTO⟩, h1, h2⟩ := st
    obtain ⟨o1, e1, f1, d1⟩ := h1.obj
    obtain ⟨o2, e2, f2, d2⟩ := h2.obj
    simp only [List.mem_cons, List.not_mem_nil, or_false] at hc
    rcases hc with q | q | q | q | q
    · exact q ▸ ⟨_, hz, fun v q => nomatch q⟩
    · exact q ▸ ⟨_, hTI, fun v q => nomatch q⟩
    · exact q ▸ ⟨_, hTO, fun v q => nomatch q⟩
    · exact q ▸ ⟨o1, e1, fun v q => by rw [d1] at q; cases q⟩
    · exact q ▸ ⟨o2, e2, fun v q => by rw [d2] at q; cases q⟩
  keep := fun i h h' st k => by
    obtain ⟨hz, hTI, ⟨x, y, hTO⟩, h1, h2⟩ := st
    exact ⟨k z (by simp) _ hz, k TI (by simp) _ hTI, ⟨x, y, k TO (by simp) _ hTO⟩, h1.at fun o q => k i1 (by simp) o q, h2.at fun o q => k i2 (by simp) o q⟩
  item := by
    intro X hP hw hK hc i pins s σ H E I hf st hg
    subst hP hw hK
    obtain ⟨hz, hTI, ⟨x0, y0, hTO⟩, h1, h2⟩ := st
    obtain ⟨xs, ys, x, y, hqx, hqy, hx, hy⟩ := hg
    obtain ⟨its, rv, p⟩ := inv_sq I hqx
    obtain ⟨its2, rv2, p2⟩ := inv_sq I hqy
    obtain ⟨u, hu, ru⟩ := rv.get hx
    obtain ⟨u2, hu2, ru2⟩ := rv2.get hy
    have hzl : z < s.heap.objs.size := Heap.lt_size hz
    have hx' : its.toArray[i]? = some u := by simpa using hu
    have hy' : its2.toArray[i]? = some u2 := by simpa using hu2
    refine zip_ask (I.ok.hd hc) D hz hTI hTO h1 h2 p p2 (fun x1 y1 e1 e2 h' z' TO' h1' h2' hT lf => ?_) (fun hn => ?_)
    · rw [hx'] at e1
      rw [hy'] at e2
      cases e1
      cases e2
      refine ⟨_, rfl, wpAny_letOwnedTupleGo_zip (s := { s with heap := h' }) z' fun h'' z'' sb => ?_⟩
      have hT2 : IsPair h'' s.heap.objs.size u u2 := (sb.2 _ (Nat.ne_of_gt hzl)).trans hT
      have new : ObjOk X.prog X.w (upd H s.heap.objs.size (.tup [x, y])) h'' s.heap.objs.size (.tup [x, y]) :=
        ⟨by show 2 ≤ sizeLine; decide, [u, u2], .cons ru (.cons ru2 .nil), ⟨_, hT2, rfl, _, rfl⟩⟩
      have old : ∀ c o, c ∉ [z, TI, TO, i1, i2] → s.heap.get? c = some o → h''.get? c = some o := fun c o hb q => by
        simp only [List.mem_cons, List.not_mem_nil, or_false, not_or] at hb
        exact (sb.2 c hb.1).trans (lf c o hb.1 hb.2.2.1 hb.2.2.2.1 hb.2.2.2.2 q)
      have I1 : Inv X pins σ (upd H s.heap.objs.size (.tup [x, y])) { s with heap := h'' } := I.turnedNew (t' := s.toks) (ch := [z, TI, TO, i1, i2]) old hf (Nat.le_refl _) new
      refine ⟨.ref s.heap.objs.size, _, I1, rfl, ⟨_, x, y, rfl, I.hok.fresh (Nat.le_refl _), rfl, fun l hl => by rw [inv_sq_inj I hl hqx]; exact hx, fun l hl => by rw [inv_sq_inj I hl hqy]; exact hy⟩, ⟨z'', ?_, ⟨u, u2, ?_⟩, ?_, ?_⟩, fun c hcm => ?_⟩
      · exact (sb.2 _ D.TIz).trans (lf _ _ D.TIz D.TITO D.TIi1 D.TIi2 hTI)
      · exact (sb.2 _ D.TOz).trans TO'
      · exact h1'.at fun o q => (sb.2 _ D.i1z).trans q
      · exact h2'.at fun o q => (sb.2 _ D.i2z).trans q
      · have hlt : c < s.heap.objs.size := by
          simp only [List.mem_cons, List.not_mem_nil, or_false] at hcm
          rcases hcm with q | q | q | q | q
          · exact q ▸ hzl
          · exact q ▸ Heap.lt_size hTI
          · exact q ▸ Heap.lt_size hTO
          · exact q ▸ h1.lt
          · exact q ▸ h2.lt
        rw [upd_ne (Nat.ne_of_lt hlt)]
        exact (hf c hcm).1
    · rw [hx', hy'] at hn
      rcases hn with h | h <;> cases h
  done := by
    intro X hP hw hK hc i pins s σ H E I hf st hg
    subst hP hw hK
    obtain ⟨hz, hTI, ⟨x0, y0, hTO⟩, h1, h2⟩ := st
    obtain ⟨xs, ys, hqx, hqy, hend⟩ := hg
    obtain ⟨its, rv, p⟩ := inv_sq I hqx
    obtain ⟨its2, rv2, p2⟩ := inv_sq I hqy
    have l1 := rv.length
    have l2 := rv2.length
    refine zip_ask (I.ok.hd hc) D hz hTI hTO h1 h2 p p2 (fun x1 y1 e1 e2 => ?_) (fun _ h' lf => ⟨rfl, I.turnedL (t' := s.toks) (ch := [z, TI, TO, i1, i2]) (fun c o hb q => ?_) hf⟩)
    · have g1 : i < its.length := by
        have := (Array.getElem?_eq_some_iff.mp e1).1
        simpa using this
      have g2 : i < its2.length := by
        have := (Array.getElem?_eq_some_iff.mp e2).1
        simpa using this
      omega
    · simp only [List.mem_cons, List.not_mem_nil, or_false, not_or] at hb
      exact lf c o hb.1 hb.2.2.1 hb.2.2.2.1 hb.2.2.2.2 q
  self := fun A i s Q E st h => wpAny_pyIter_zip st.1 h
end My

set_option Elab.async false
set_option linter.all false
set_option maxRecDepth 100000
set_option maxHeartbeats 400000
/-! ### zip of a list and a tuple, called -/
namespace My
open PySem
open PySem.Sem (wp)
abbrev zA (h : Heap) (l1 : Addr) : Heap := h.push { cls := .type "list_iterator", data := .fields #[.ref l1, .int 0 0] }
abbrev zB (h : Heap) (l1 l2 : Addr) : Heap := (zA h l1).push { cls := .type "tuple_iterator", data := .fields #[.ref l2, .int 0 0] }
abbrev zC (h : Heap) (l1 l2 : Addr) : Heap := (zB h l1 l2).push { cls := .type "tuple", data := .seq #[.ref h.objs.size, .ref (zA h l1).objs.size] }
abbrev zD (h : Heap) (l1 l2 : Addr) : Heap := (zC h l1 l2).push { cls := .type "tuple", data := .seq #[.none, .none] }
abbrev zE (h : Heap) (l1 l2 : Addr) : Heap := (zD h l1 l2).push { cls := .type "zip", data := .fields #[.none, .bool false, .bool false, .ref (zB h l1 l2).objs.size, .ref (zC h l1 l2).objs.size] }
theorem meets_zipLT (l1 l2 : Addr) (xs ys : Array Value) :
    Meets (Builtin.«zip.__new__» ⟨[.type "zip", .ref l1, .ref l2], []⟩) (fun _ R s => s.heap.IsList l1 xs ∧ s.heap.IsTuple l2 ys ∧
      R (.ok (.ret (.ref (zD s.heap l1 l2).objs.size))) { s with heap := zE s.heap l1 l2 }) :=
  .of_wp fun prog w A R s h => by
    obtain ⟨hp, g, d, tk, os⟩ := s
    obtain ⟨hl1, hl2, h⟩ := h
    have hsub := sub_zip
    have hL1 : Heap.IsList (Shared.heap ⟨hp, g, d, tk, os⟩) l1 xs := hl1
    have hL2 : Heap.IsTuple (Shared.heap ⟨hp.push { cls := .type "list_iterator", data := .fields #[.ref l1, .int 0 0] }, g, d, tk, os⟩) l2 ys := Heap.IsTuple.push hl2 _
    wp_walk using wpAny_pyIter_list hL1, wpAny_pyIter_tuple hL2
    exact ⟨_, rfl, h⟩
section
variable {prog : Program} {w : World} {A : Around} {E : Value → Shared → Prop} {s : Shared}
theorem call_zipLT {l1 l2 : Addr} {xs ys : Array Value} {Q : Value → Shared → Prop} (hl1 : s.heap.IsList l1 xs) (hl2 : s.heap.IsTuple l2 ys)
    (h : ∀ h', IsZip h' (s.heap.objs.size + 4) (s.heap.objs.size + 2) (s.heap.objs.size + 3) .none → IsPair h' (s.heap.objs.size + 2) (.ref s.heap.objs.size) (.ref (s.heap.objs.size + 1)) →
      IsPair h' (s.heap.objs.size + 3) .none .none → h'.IsListIter s.heap.objs.size l1 0 → h'.IsTupleIter (s.heap.objs.size + 1) l2 0 → (∀ c o, s.heap.get? c = some o → h'.get? c = some o) → Q (.ref (s.heap.objs.size + 4)) { s with heap := h' }) :
    wpAny (model prog w) A (call (.type "zip") [.ref l1, .ref l2]) Q E s := by
  refine callType_new F.called_zip (by decide) (F.typeCall_zip_2 _ _) (F.newCall_zip_2 _ _) (fun obj => F.args_object_init_3 obj _ _) F.entry_zip_new (meets_zipLT l1 l2 xs ys) ⟨hl1, hl2, ?_⟩
  have n1 : (zA s.heap l1).objs.size = s.heap.objs.size + 1 := Heap.size_push ..
  have n2 : (zB s.heap l1 l2).objs.size = s.heap.objs.size + 2 := (Heap.size_push ..).trans (congrArg (· + 1) n1)
  have n3 : (zC s.heap l1 l2).objs.size = s.heap.objs.size + 3 := (Heap.size_push ..).trans (congrArg (· + 1) n2)
  have n4 : (zD s.heap l1 l2).objs.size = s.heap.objs.size + 4 := (Heap.size_push ..).trans (congrArg (· + 1) n3)
  have g5 : (zE s.heap l1 l2).get? (zD s.heap l1 l2).objs.size = some _ := Heap.get?_push_size _ rfl
  have g4 : (zE s.heap l1 l2).get? (zC s.heap l1 l2).objs.size = some _ := Heap.get?_push_of_some _ (Heap.get?_push_size _ rfl)
  have g3 : (zE s.heap l1 l2).get? (zB s.heap l1 l2).objs.size = some _ := Heap.get?_push_of_some _ (Heap.get?_push_of_some _ (Heap.get?_push_size _ rfl))
  have g2 : (zE s.heap l1 l2).get? (zA s.heap l1).objs.size = some _ := Heap.get?_push_of_some _ (Heap.get?_push_of_some _ (Heap.get?_push_of_some _ (Heap.get?_push_size _ rfl)))
  have g1 : (zE s.heap l1 l2).get? s.heap.objs.size = some _ := Heap.get?_push_of_some _ (Heap.get?_push_of_some _ (Heap.get?_push_of_some _ (Heap.get?_push_of_some _ (Heap.get?_push_size _ rfl))))
  show _ ∧ _
  rw [n2, n3, n4] at g5
  rw [n3] at g4
  rw [n1, n2] at g3
  rw [n1] at g2
  rw [n4]
  exact ⟨⟨_, g5, rfl⟩, h _ g5 g3 g4 ⟨_, g1, rfl, rfl⟩ ⟨_, g2, rfl, rfl⟩ fun c o x => Heap.get?_push_of_some _ (Heap.get?_push_of_some _ (Heap.get?_push_of_some _ (Heap.get?_push_of_some _ (Heap.get?_push_of_some _ x))))⟩
end
end My
namespace My
open PySem PySem.Spec PyProof.Rows L2
/-- zip of a list and a tuple -/
def iZipLT (K : PySem.W.Frag) (ta : TA) : TI := fun σ H R => ta σ H fun vs H1 => ∃ a b xs ys, vs = [.ref a, .ref b] ∧ SqB true K H1 a xs ∧ SqB false K H1 b ys ∧ R (ItzB true false K a b) H1
theorem pi_zipLT {X : Cx} {K : PySem.W.Frag} {e e2 : Expr} {ta : TA} {p pos tpos : Pos} {elts : List Expr} {kk : Nat} (hK : X.K = K) (hg : Gl X "zip") (hm : X.mg "zip" = none) (ha : PA X [e, e2] ta)
    (hs : starEach [e, e2] X.env = (false, eval e X.env) :: starEach [e2] X.env := by rfl) (hpl : (backTo pos (starEach [e2] X.env)).any (·.1) = false := by rfl) :
    PI X (.Tuple elts kk tpos) (.Call (.Name "zip" p) [e, e2] [] pos) (iZipLT K ta) := by
  subst hK
  refine ⟨fun pins s σ H R I h => ?_⟩
  refine Call_ (ld_blt I hg hm PyProof.Rows.boot_zip (PyProof.Rows.callWith_type1 (thn (ha.run pos pins s σ H _ I h) fun us s1 ⟨vs, H1, I1, r1, q1⟩ => ?_) hs hpl))
  obtain ⟨a, b, xs, ys, ex, hqx, hqy, q⟩ := q1
  subst ex
  obtain ⟨its, rv, p1⟩ := inv_sq I1 hqx
  obtain ⟨its2, rv2, p2⟩ := inv_sq I1 hqy
  cases r1 with
  | cons r rr =>
    cases rr with
    | cons r' rr =>
      cases rr
      cases r
      cases r'
      have fr : ∀ c, s1.heap.objs.size ≤ c → FpOk X pins H1 c := fun c hle => I1.fpOk hle (I1.hok.fresh hle)
      have fr5 : ∀ c, c ∈ [s1.heap.objs.size + 4, s1.heap.objs.size + 2, s1.heap.objs.size + 3, s1.heap.objs.size, s1.heap.objs.size + 1] → FpOk X pins H1 c := fun c hcm => by
        refine fr c ?_
        have e' : c = s1.heap.objs.size + 4 ∨ c = s1.heap.objs.size + 2 ∨ c = s1.heap.objs.size + 3 ∨ c = s1.heap.objs.size ∨ c = s1.heap.objs.size + 1 := by simpa using hcm
        rcases e' with z | z | z | z | z
        · rw [z]; exact Nat.le_add_right _ _
        · rw [z]; exact Nat.le_add_right _ _
        · rw [z]; exact Nat.le_add_right _ _
        · rw [z]; exact Nat.le_refl _
        · rw [z]; exact Nat.le_add_right _ _
      refine call_zipLT p1 p2 fun h' hz hTI hTO h1 h2 hk => wpAny_pyIter_zip hz ?_
      have I2 : Inv X pins σ H1 { s1 with heap := h' } := I1.kept (t' := s1.toks) hk
      have T : Turn X.prog X.w X.K (.Tuple elts kk tpos) (ItzB true false X.K a b) _ _ _ := turn_zipB (PySem.W.ktu_apart s1.heap.objs.size a b (Sq1.lt p1) (Sq1.lt p2))
      exact ⟨s1.heap.objs.size + 4, [s1.heap.objs.size + 4, s1.heap.objs.size + 2, s1.heap.objs.size + 3, s1.heap.objs.size, s1.heap.objs.size + 1], _, _, H1, rfl, I2, T, ⟨hz, hTI, ⟨_, _, hTO⟩, h1, h2⟩, fr5, q⟩
end My

set_option Elab.async false
set_option linter.all false
set_option maxRecDepth 100000
set_option maxHeartbeats 400000
/-! ### zip of a list and a row, list or tuple -/
namespace My
open PySem PySem.Spec PyProof.Rows L2
def iZipB (K : PySem.W.Frag) (ta : TA) : TI := fun σ H R => ta σ H fun vs H1 => ∃ (a b : Addr) (xs ys : List V) (k : Bool), vs = [.ref a, .ref b] ∧ SqB true K H1 a xs ∧ SqB k K H1 b ys ∧ R (ItzB true k K a b) H1
theorem pi_zipB {X : Cx} {K : PySem.W.Frag} {e e2 : Expr} {ta : TA} {p pos tpos : Pos} {elts : List Expr} {kk : Nat} (hK : X.K = K) (hg : Gl X "zip") (hm : X.mg "zip" = none) (ha : PA X [e, e2] ta)
    (hs : starEach [e, e2] X.env = (false, eval e X.env) :: starEach [e2] X.env := by rfl) (hpl : (backTo pos (starEach [e2] X.env)).any (·.1) = false := by rfl) :
    PI X (.Tuple elts kk tpos) (.Call (.Name "zip" p) [e, e2] [] pos) (iZipB K ta) := by
  subst hK
  refine ⟨fun pins s σ H R I h => ?_⟩
  refine Call_ (ld_blt I hg hm PyProof.Rows.boot_zip (PyProof.Rows.callWith_type1 (thn (ha.run pos pins s σ H _ I h) fun us s1 ⟨vs, H1, I1, r1, q1⟩ => ?_) hs hpl))
  obtain ⟨a, b, xs, ys, k, ex, hqx, hqy, q⟩ := q1
  subst ex
  obtain ⟨its, rv, p1⟩ := inv_sq I1 hqx
  obtain ⟨its2, rv2, p2⟩ := inv_sq I1 hqy
  cases r1 with
  | cons r rr =>
    cases rr with
    | cons r' rr =>
      cases rr
      cases r
      cases r'
      have fr : ∀ c, s1.heap.objs.size ≤ c → FpOk X pins H1 c := fun c hle => I1.fpOk hle (I1.hok.fresh hle)
      have fr5 : ∀ c, c ∈ [s1.heap.objs.size + 4, s1.heap.objs.size + 2, s1.heap.objs.size + 3, s1.heap.objs.size, s1.heap.objs.size + 1] → FpOk X pins H1 c := fun c hcm => by
        refine fr c ?_
        have e' : c = s1.heap.objs.size + 4 ∨ c = s1.heap.objs.size + 2 ∨ c = s1.heap.objs.size + 3 ∨ c = s1.heap.objs.size ∨ c = s1.heap.objs.size + 1 := by simpa using hcm
        rcases e' with z | z | z | z | z
        · rw [z]; exact Nat.le_add_right _ _
        · rw [z]; exact Nat.le_add_right _ _
        · rw [z]; exact Nat.le_add_right _ _
        · rw [z]; exact Nat.le_refl _
        · rw [z]; exact Nat.le_add_right _ _
      cases k with
      | false =>
        refine call_zipLT p1 p2 fun h' hz hTI hTO h1 h2 hk => wpAny_pyIter_zip hz ?_
        have I2 : Inv X pins σ H1 { s1 with heap := h' } := I1.kept (t' := s1.toks) hk
        have T : Turn X.prog X.w X.K (.Tuple elts kk tpos) (ItzB true false X.K a b) _ _ _ := turn_zipB (PySem.W.ktu_apart s1.heap.objs.size a b (Sq1.lt p1) (Sq1.lt p2))
        exact ⟨s1.heap.objs.size + 4, [s1.heap.objs.size + 4, s1.heap.objs.size + 2, s1.heap.objs.size + 3, s1.heap.objs.size, s1.heap.objs.size + 1], _, _, H1, rfl, I2, T, ⟨hz, hTI, ⟨_, _, hTO⟩, h1, h2⟩, fr5, q⟩
      | true =>
        refine call_zip_2 p1 p2 fun h' hz hTI hTO h1 h2 hsz hk => wpAny_pyIter_zip hz ?_
        have I2 : Inv X pins σ H1 { s1 with heap := h' } := I1.kept (t' := s1.toks) hk
        have T : Turn X.prog X.w X.K (.Tuple elts kk tpos) (ItzB true true X.K a b) _ _ _ := turn_zipB (PySem.W.ktu_apart s1.heap.objs.size a b (Sq1.lt p1) (Sq1.lt p2))
        exact ⟨s1.heap.objs.size + 4, [s1.heap.objs.size + 4, s1.heap.objs.size + 2, s1.heap.objs.size + 3, s1.heap.objs.size, s1.heap.objs.size + 1], _, _, H1, rfl, I2, T, ⟨hz, hTI, ⟨_, _, hTO⟩, h1, h2⟩, fr5, q⟩
end My

set_option Elab.async false
set_option linter.all false
set_option maxRecDepth 100000
set_option maxHeartbeats 4000000
/-! ### defs that show lists: they do their work where nothing is being shown -/
namespace My
open PySem PySem.Spec PyProof.Rows L2
/-- nothing is being shown around -/
def Still (A : Around) : Prop := A.guards = some []
theorem still_caller : Still callerA := rfl
theorem Still.in1 {A : Around} (g : Still A) : Still A.in1 := g
theorem Still.deeper {A : Around} {env : Env} (g : Still A) : Still (A.deeper env) := g
/-- FnOk for such an around -/
structure FnG (Pr : Program) (wd : World) (K : PySem.W.Frag) (mg : Str → Option Value) (base : Heap) (CX : CXT)
    (k : Nat) (f : Addr) (fd : FuncData) (ps : List Str) (sp : Sp) : Prop where
  len : ∀ xs H Q E, sp xs H Q E → xs.length = ps.length
  run : ∀ (A : Around) (out : List Env) (s : Shared) (H : Hp) (ar : Args) (us : List Value) (xs : List V) (Q : VK) (E : XK),
    Still A → Room k A → Env0 Pr wd K mg base A out s H → BindsTo s fd ar (ps.zip us) → Vals xs us → sp xs H Q E →
    codeAny (model Pr wd) A (.call (.ref f) ar)
      (CR CX out Pr wd H s Q E) s
theorem FnG.of {Pr : Program} {wd : World} {K : PySem.W.Frag} {mg : Str → Option Value} {base : Heap} {CX : CXT} {k : Nat} {f : Addr} {fd : FuncData} {ps : List Str} {sp : Sp}
    (F : FnOk Pr wd K mg base CX k f fd ps sp) : FnG Pr wd K mg base CX k f fd ps sp :=
  ⟨F.len, fun A out s H ar us xs Q E _ => F.run A out s H ar us xs Q E⟩
section
variable {X : Cx}
/-- repr of plain data -/
def rRepr (K : PySem.W.Frag) : List V → Hp → VK → Prop := fun xs H Q => ∃ (a : Addr) (d : PyData), xs = [.ref a] ∧ Dp K H (.ref a) d ∧ d.showable = true ∧ d.hasDict = false ∧ d.depth ≤ 60 ∧ d.shown.length ≤ sizeLine ∧ Q (.str d.shown) H
theorem call_reprD (g : Still X.A) (hu : X.A.units + 64 < cLine) : CallR X (.builtin "repr") (rRepr X.K) := by
  intro pins s σ H xs us Q I r h
  obtain ⟨a, d, rfl, hd, hs, hn, hp, hz, q⟩ := h
  cases r with
  | @cons _ u _ ur ra rr =>
    cases rr
    obtain ⟨as, rd⟩ := Dp.reads I d _ u hd ra
    cases (show u = Value.ref a from ra)
    refine repr_of_reads' rd hs (fun z => by rw [hn] at z; cases z) g (by omega) (fun _ _ e => e) (fun h' v tk hk => ?_) hz
    exact ⟨.str d.shown, H, I.kept hk, ⟨v, rfl⟩, q⟩
/-- f(e, ..) of such a def -/
theorem callG {CX : CXT} {f : Addr} {fd : FuncData} {ps : List Str} {sp : Sp} {E : XK} {k : Nat} {ds : List Value} {dvs : List V} (F : FnG X.prog X.w X.K X.mg X.base CX k f fd ps sp) (g : Still X.A) (hr : Room k X.A) (hb : Binds X.K fd ps ds) (hd : Vals dvs ds) (hx : Passes CX X E)
    {pins : List (Addr × Obj)} {σ : L2.St} {H : Hp} {s : Shared} {Q : VK} {us : List Value} {vs : List V} (I : Inv X pins σ H s) (r : Vals vs us) (h : sp (vs ++ dvs) H Q E) :
    wpAny (model X.prog X.w) X.A (call (.ref f) us) (EP X pins σ Q) X.xe s := by
  have rr : Vals (vs ++ dvs) (us ++ ds) := r.append hd
  have n : (us ++ ds).length = ps.length := rr.length.symm.trans (F.len _ _ _ _ h)
  have z := F.run X.A X.stack s H ⟨us, []⟩ (us ++ ds) (vs ++ dvs) Q E g hr I.env0 (hb s us I.kIn n) rr h
  refine wpAny_call (codeAny_mono z fun res s' q => ?_)
  match res, q with
  | .error e, q => exact hx pins σ H s e s' I q
  | .ok (.ret u), q => exact I.after q
  | .ok .next, q => exact False.elim q
  | .ok .brk, q => exact False.elim q
  | .ok .cont, q => exact False.elim q
theorem pe_callG {CX : CXT} {f : Addr} {fd : FuncData} {ps : List Str} {sp : Sp} {E : XK} {k : Nat} {ds : List Value} {dvs : List V} {x : Str} {e : Expr} {es : List Expr} {t : TA} {p pos : Pos} (F : FnG X.prog X.w X.K X.mg X.base CX k f fd ps sp) (g : Still X.A) (hr : Room k X.A) (hg : Gl X x) (hm : X.mg x = some (.ref f))
    (hk : PySem.W.keepIn X.K (.ref f) = true) (hb : Binds X.K fd ps ds) (hd : Vals dvs ds) (hx : Passes CX X E) (ha : PA X (e :: es) t)
    (hdb : (x == ("__debug__" : Str)) = false := by decide) (he : starEach (e :: es) X.env = (false, eval e X.env) :: starEach es X.env := by rfl) (hpl : (backTo pos (starEach es X.env)).any (·.1) = false := by rfl) :
    PE X (.Call (.Name x p) (e :: es) [] pos) (tCall sp dvs E t) :=
  ⟨fun pins s σ H Q I h => wpAny_Call_Name_kw (ld_glob I hg hm (PySem.W.callWith_K (h₀ := X.base) I.ok.mod.kin hk
    (thn (ha.run pos pins s σ H _ I h) fun us s1 z => by
      obtain ⟨vs, H1, I1, r, q⟩ := z
      exact ⟨I1.kIn, callG F g hr hb hd hx I1 r q⟩) he hpl) hdb)⟩
end
section
variable {Pr : Program} {wd : World} {K : PySem.W.Frag} {mg : Str → Option Value} {base : Heap}
/-- such a def by its body -/
theorem okStill {x qual : Str} {st : Stmt} {f : Addr} {fd : FuncData} {N ps : List Str} {k : Nat} {sp : Sp} (F : Fun K x qual st f fd) (S : FnScope N ps (defScope st)) (len : ∀ xs H Q E, sp xs H Q E → xs.length = ps.length)
    (body : ∀ (cdv : Value) (A : Around) (out : List Env) (s : Shared) (H : Hp) (xs : List V) (Q : VK) (E : XK), Still A → Room k (A.deeper (envOfC qual (defScope st) s.heap.objs.size f cdv)) → sp xs H Q E →
      ∃ t, PSs (cxOf CX0 Pr wd K mg base N qual (defScope st) f cdv A out s H E).nox (defBody st) t ∧ t { nx := fun _ H' => Q .non H', rt := Q } (start N xs) H) :
    FnG Pr wd K mg base CX0 (k + 1) f fd ps sp := by
  obtain ⟨oc, od, kV, doc, pm, an, cdv, ct, osl, rfl, lk, hcd⟩ := F.ex
  refine ⟨len, fun A out s H ar us xs Q E g hr e0 hb r h => ?_⟩
  have old : ∀ b o, base.get? b = some o → s.heap.get? b = some o := fun b o e => (e0.bs b o e).1
  have inK := e0.mod.kin.keeps old
  have kinds : ∀ y ∈ ps.zip us, (defScope st).names.lookup y.1 = some .local ∨
      ((defScope st).names.lookup y.1 = some .cell ∧ ((cellsFrom (s.heap.objs.size + 1) (defScope st).names []).lookup y.1).isSome = true) := by
    rintro ⟨y, z⟩ hy
    exact (S.par y (List.of_mem_zip hy).1).imp id fun c => ⟨c, PySem.W.cellsFrom_some _ _ _ (.inl c)⟩
  refine codeAny_call_function hr.depth (inK _ _ lk) rfl S.co S.gen rfl (PySem.W.codeRec_of inK hcd) (hb _ _ _ _ (wpAny_newFunctionEnv_cells S.kind kinds fun en he s1 y => ?_))
  subst he
  refine ⟨(e0.mod.nolimit.keeps old).keeps y.toInCall.keep, codeAny_func ?_⟩
  obtain ⟨t, ht, q⟩ := body cdv A out s H xs Q E g (hr.deeper _) h
  have I : Inv (cxOf CX0 Pr wd K mg base N qual (defScope st) f cdv A out s H E) [] (start N xs) H s1 :=
    inv_start S hr.hd e0 (len _ _ _ _ h) r y
  refine wpAny_mono (ht.nox.run [] s1 (start N xs) H _ I q) (fun fl s' z => ?_) fun _ _ z => z
  match fl, z with
  | .ret u, ⟨v, σ', H', J, rv, qv⟩ => exact ⟨v, H', J.os, J.bare, J.base, J.hok, rv, qv⟩
  | .next, ⟨σ', H', J, qv⟩ => exact ⟨.non, H', J.os, J.bare, J.base, J.hok, rfl, qv⟩
  | .brk, ⟨_, _, _, no⟩ => exact False.elim no
  | .cont, ⟨_, _, _, no⟩ => exact False.elim no
end
end My

set_option Elab.async false
set_option linter.all false
set_option maxRecDepth 100000
set_option maxHeartbeats 4000000
/-! ### the way in from the claim's caller, around whom nothing is being shown -/
namespace My
open PySem PySem.Spec PyProof.Rows L2
theorem lawG {Pr : Program} {wd : World} {K : PySem.W.Frag} {mg mb : Str → Option Value} {CX : CXT} {k : Nat} {fa a : Addr} {fd : FuncData} {x : Str} {sp : Sp} {s1 : Shared} {us : List Value} {ns : List Int}
    (kin : K.In s1.heap) (hns : s1.heap.Ns mainGlobals mg) (hbn : s1.heap.Ns builtinsNs mb) (hbt : ∀ y : Str, y ≠ "__name__" → mb y = bootBuiltins y) (nol : s1.heap.NoLimit) (gen0 : s1.gens = #[])
    (ha : s1.heap.get? a = some { cls := .type "list", data := .seq us.toArray }) (hints : IntsAre us ns) (len : ns.length ≤ sizeLine) (room : Room k callerA)
    (F : ∀ B : Heap, K.In B → B.Ns mainGlobals mg → FnG Pr wd K mg B CX k fa fd [x] sp) (bind : ∀ (s : Shared) (u : Value), BindsTo s fd ⟨[u], []⟩ [(x, u)])
    (keeps : ∀ H : Hp, Only H → SqL K H a (ns.map V.int) → sp [.ref a] H (fun v _ => v = .bl true) fun _ _ _ => False)
    (calm : ∀ H e s', CX [] H s1 (fun _ _ _ => False) e s' → False) :
    codeAny (model Pr wd) callerA (.call (.ref fa) ⟨[.ref a], []⟩)
      (fun r s' => r = .ok (.ret (.bool true)) ∧ OldK s1.heap s'.heap ∧ s'.os = s1.os ∧ AllBare s'.gens) s1 := by
  have rel := vals_ints hints
  -- from a heap of words in which at most the script stands, and only where it is not of the written part
  have go : ∀ H : Hp, Only H → SqL K H a (ns.map V.int) → HOk Pr wd H s1.heap → (∀ b, H b ≠ none → b = a ∧ K.lookup a = none) →
      codeAny (model Pr wd) callerA (.call (.ref fa) ⟨[.ref a], []⟩)
        (fun r s' => r = .ok (.ret (.bool true)) ∧ OldK s1.heap s'.heap ∧ s'.os = s1.os ∧ AllBare s'.gens) s1 := by
    intro H only sq ok few
    have away : ∀ {b : Addr}, ¬ (b = a ∧ K.lookup a = none) → H b = none := fun {b} z => Classical.byContradiction fun y => z (few b y)
    have kin' : K.In (hidT s1.heap H) := fun b o e => hidT_get (kin b o e) (away fun z => by
      obtain ⟨rfl, y⟩ := z
      rw [y] at e
      cases e)
    have ns' : ∀ {b : Addr} {m : Str → Option Value}, s1.heap.Ns b m → (hidT s1.heap H).Ns b m := by
      rintro b m ⟨o, es, ep, e, d, r⟩
      refine ⟨o, es, ep, hidT_get e (away ?_), d, r⟩
      rintro ⟨rfl, _⟩
      cases ha.symm.trans e
      cases d
    obtain ⟨mc, l1, l2⟩ := nol
    have env : Env0 Pr wd K mg (hidT s1.heap H) callerA [] s1 H :=
      ⟨rfl, ⟨kin', ns' hns, ⟨mb, ns' hbn, hbt⟩, mc, ns' l1, l2⟩, fun b o e => of_hidT e, Nat.le_of_eq (hidT_size _ _), trivial, fun b z => (nomatch (show b ∈ ([] : List Addr) from z)), ok, .of_eq gen0⟩
    have run := (F _ kin' (ns' hns)).run callerA [] s1 H ⟨[.ref a], []⟩ [.ref a] [.ref a] _ _ still_caller room env (bind s1 (.ref a)) (.cons rfl .nil) (keeps H only sq)
    refine codeAny_mono run fun res s' z => ?_
    match res, z with
    | .error e, z => exact (calm H e s' z).elim
    | .ok .next, z => exact False.elim z
    | .ok .brk, z => exact False.elim z
    | .ok .cont, z => exact False.elim z
    | .ok (.ret u), ⟨v, H', os, bare, un, ok', rv, qv⟩ =>
      cases (show v = .bl true from qv)
      cases (show u = Value.bool true from rv)
      refine ⟨rfl, OldK.of_keep fun b o e => ?_, os, bare⟩
      rcases only b with n | ⟨ob, ys, n⟩
      · exact un.keep b o e n (fun z => nomatch (show b ∈ ([] : List Addr) from z)) (fun z => nomatch z)
      · have e1 := (ok b _ n).1
        have e2 := (ok' b _ (un.frzs b ob _ n)).1
        cases e.symm.trans e1
        exact e2
  cases hk : K.lookup a with
  | some o =>
    cases ha.symm.trans (kin a o hk)
    refine go (fun _ => none) (fun _ => .inl rfl) (.inr ⟨_, us.toArray, _, hk, rfl, rfl, rfl, ?_, by simpa using rel⟩) (fun b u z => nomatch (show (none : Option HO) = some u from z)) fun b z => absurd rfl z
    rw [List.size_toArray, hints.length]
    exact len
  | none =>
    have here : (fun b => if b = a then some (HO.frz { cls := .type "list", data := .seq us.toArray } (.lst (ns.map V.int))) else none : Hp) a = some (HO.frz { cls := .type "list", data := .seq us.toArray } (.lst (ns.map V.int))) := if_pos rfl
    have there : ∀ {b : Addr}, b ≠ a → (fun b => if b = a then some (HO.frz { cls := .type "list", data := .seq us.toArray } (.lst (ns.map V.int))) else none : Hp) b = none := fun n => if_neg n
    generalize (fun b => if b = a then some (HO.frz { cls := .type "list", data := .seq us.toArray } (.lst (ns.map V.int))) else none : Hp) = H at here there
    have two : ∀ b : Addr, b = a ∨ H b = none := fun b => (Classical.em (b = a)).imp id there
    refine go H (fun b => ?_) (.inl (.inr ⟨_, here⟩)) (fun b u z => ?_) fun b z => ⟨(two b).resolve_right z, hk⟩
    · rcases two b with rfl | n
      · exact .inr ⟨_, _, here⟩
      · exact .inl n
    · rcases two b with rfl | n
      · cases here.symm.trans z
        exact ⟨ha, by rw [List.length_map]; exact len, us, _, rel, ha⟩
      · cases n.symm.trans z
theorem walkG {l : PySem.W.OpenLaw} {n k : Nat} {q : Program} {loose : List Str} {XP : (Str → Option Value) → Heap → Prop} {YP : World → Heap → Prop} {d : DefRec} {K : Params → PySem.W.Frag} {CX : World → CXT} {sp : World → Sp} {x : Str}
    (most : l.most = some n) (nl : n ≤ sizeLine) (nod : d.params.defaults = []) (room : Room k callerA) (hY : ∀ (wd : World) (h : Heap), YP wd h → (K wd.params).In h)
    (F : ∀ (wd : World) (mg : Str → Option Value) (fa : Addr) (h : Heap), (K wd.params).In h → h.Ns mainGlobals mg → mg d.name = some (.ref fa) →
      ∃ fd : FuncData, (∀ (s : Shared) (u : Value), BindsTo s fd ⟨[u], []⟩ [(x, u)]) ∧ ∀ B : Heap, (K wd.params).In B → B.Ns mainGlobals mg → FnG l.prog wd (K wd.params) mg B (CX wd) k fa fd [x] (sp wd))
    (keeps : ∀ (wd : World) (H : Hp) (a : Addr) (ns : List Int), ns.length ≤ n → Only H → SqL (K wd.params) H a (ns.map V.int) → sp wd [.ref a] H (fun v _ => v = .bl true) fun _ _ _ => False)
    (calm : ∀ (wd : World) (H : Hp) (s : Shared) (e : Value) (s' : Shared), CX wd [] H s (fun _ _ _ => False) e s' → False) :
    PySem.W.WalkO q loose XP YP l.row.toRowW d [] (fun f vs => PySem.call f vs) :=
  Att.attach_call most nod fun wd s0 s1 mg mb fa o pm cd doc a us ns G Y ho hd hcd hmg hobj hints len gen0 => by
    obtain ⟨fd, hb, hF⟩ := F wd mg fa _ (hY wd _ Y) G.T.g hmg
    exact lawG (hY wd _ Y) G.T.g G.T.b G.T.builtins G.T.nolimit gen0 hobj hints (Nat.le_trans len nl) room hF hb (fun H => keeps wd H a ns len) fun H e s' => calm wd H s1 e s'
end My

set_option Elab.async false
set_option linter.all false
set_option maxRecDepth 100000
set_option maxHeartbeats 1000000
/-! ### sizes, levels, blocks; how words are dealt -/
namespace My
open PySem PySem.Spec PyProof.Rows L2
def sideL : List Nat := [8, 12, 16, 20, 24]
def bitsL : List Nat := [4, 4, 8, 8, 8]
def blksL : List (List Nat) := [[4], [10, 10], [22], [19, 19], [20, 19, 19]]
def cksL : List (List Nat) := [[1, 2, 3, 3], [2, 4, 6, 8], [4, 8, 10, 12], [4, 8, 10, 12], [4, 8, 10, 12]]
def offL : List (List Nat) := [[0, 1, 3, 6], [0, 2, 6, 3], [0, 60, 120, 180], [0, 60, 120, 180], [0, 60, 120, 180]]
def bitsF (s : Nat) : Nat := bitsL.getD s 4
def blkF (s : Nat) : List Nat := blksL.getD s []
def ckF (s l : Nat) : Nat := (cksL.getD s []).getD l 0
def totF (s : Nat) : Nat := (blkF s).sum
def minF (s : Nat) : Nat := (blkF s).foldl Nat.min 1000
def ownF (s l : Nat) : Nat := minF s - ckF s l
def longF (s : Nat) : List Nat := (List.range (blkF s).length).filter fun b => decide (minF s < (blkF s).getD b 0)
def stepsF (a n c : Nat) : List Nat := (List.range n).map fun k => a + k * c
/-- the indexes of the words of a block -/
def placeF (s l b : Nat) : List Nat :=
  let many := (blkF s).length
  stepsF b (ownF s l) many ++ (if b ∈ longF s then [many * ownF s l + b] else []) ++ stepsF (many * ownF s l + (longF s).length + b) (ckF s l) many
def placesF (s l : Nat) : List (List Nat) := (List.range (blkF s).length).map (placeF s l)
/-- block and place of a word -/
def spotF (s l i : Nat) : Nat × Nat :=
  let many := (blkF s).length
  if i < many * ownF s l then (i % many, i / many)
  else if i < many * ownF s l + (longF s).length then ((longF s).getD (i - many * ownF s l) 0, ownF s l)
  else ((i - (many * ownF s l + (longF s).length)) % many, (blkF s).getD ((i - (many * ownF s l + (longF s).length)) % many) 0 - ckF s l + (i - (many * ownF s l + (longF s).length)) / many)
/-- block and place of each word, in their order -/
def orderF (s l : Nat) : List (Nat × Nat) := (List.range (totF s)).map (spotF s l)
theorem bits_wd {s : Nat} (h : s < 5) : Wd (bitsF s) := by
  have : s = 0 ∨ s = 1 ∨ s = 2 ∨ s = 3 ∨ s = 4 := by omega
  rcases this with rfl | rfl | rfl | rfl | rfl
  · exact .inl rfl
  · exact .inl rfl
  · exact .inr rfl
  · exact .inr rfl
  · exact .inr rfl
theorem blk_some {s : Nat} (h : s < 5) : blksL[s]? = some (blkF s) := by
  unfold blkF
  rw [List.getD_eq_getElem?_getD, List.getElem?_eq_getElem (by exact h)]
  rfl
theorem all20 {P : Nat → Nat → Bool} (h : ((List.range 5).all fun s => (List.range 4).all fun l => P s l) = true) {s l : Nat} (hs : s < 5) (hl : l < 4) : P s l = true :=
  List.all_eq_true.mp (List.all_eq_true.mp h s (List.mem_range.mpr hs)) l (List.mem_range.mpr hl)
theorem all5 {P : Nat → Bool} (h : ((List.range 5).all P) = true) {s : Nat} (hs : s < 5) : P s = true := List.all_eq_true.mp h s (List.mem_range.mpr hs)
theorem cr_minTK {X : Cx} {K : PySem.W.Frag} (hK : X.K = K) (hc : X.calm = true) : CallR X (.builtin "min") (rMinT K) := by
  subst hK
  exact cr_minT hc
def ofN (r : List Nat) : List (Option Nat) := r.map some
theorem ofN_v (r : List Nat) : (ofN r).map vG = r.map vN := by
  unfold ofN
  rw [List.map_map]
  rfl
def gridN (g : List (List Nat)) : Grid := g.map ofN
theorem order_at {s l i : Nat} (h : i < totF s) : (orderF s l)[i]? = some (spotF s l i) := by
  unfold orderF
  rw [List.getElem?_map, List.getElem?_range h]
  rfl
theorem order_len (s l : Nat) : (orderF s l).length = totF s := by
  unfold orderF
  rw [List.length_map, List.length_range]
def okPlaces (s l : Nat) : Bool := (List.range (blkF s).length).all fun b => (placeF s l b).length == (blkF s).getD b 0 && (List.range ((blkF s).getD b 0)).all fun c => decide ((placeF s l b).getD c 0 < totF s) && spotF s l ((placeF s l b).getD c 0) == (b, c)
def okSpots (s l : Nat) : Bool := (List.range (totF s)).all fun i => decide ((spotF s l i).1 < (blkF s).length) && decide ((spotF s l i).2 < (blkF s).getD (spotF s l i).1 0) && (placeF s l (spotF s l i).1).getD (spotF s l i).2 0 == i
theorem places_ok {s l : Nat} (hs : s < 5) (hl : l < 4) : okPlaces s l = true := all20 (P := okPlaces) (by decide +kernel) hs hl
theorem spots_ok {s l : Nat} (hs : s < 5) (hl : l < 4) : okSpots s l = true := all20 (P := okSpots) (by decide +kernel) hs hl
theorem place_len {s l b : Nat} (hs : s < 5) (hl : l < 4) (hb : b < (blkF s).length) : (placeF s l b).length = (blkF s).getD b 0 := by
  have h := List.all_eq_true.mp (places_ok hs hl) b (List.mem_range.mpr hb)
  rw [Bool.and_eq_true] at h
  exact eq_of_beq h.1
theorem place_in {s l b c : Nat} (hs : s < 5) (hl : l < 4) (hb : b < (blkF s).length) (hc : c < (blkF s).getD b 0) : (placeF s l b).getD c 0 < totF s ∧ spotF s l ((placeF s l b).getD c 0) = (b, c) := by
  have h := List.all_eq_true.mp (places_ok hs hl) b (List.mem_range.mpr hb)
  rw [Bool.and_eq_true] at h
  have h2 := List.all_eq_true.mp h.2 c (List.mem_range.mpr hc)
  rw [Bool.and_eq_true] at h2
  exact ⟨of_decide_eq_true h2.1, eq_of_beq h2.2⟩
theorem spot_in {s l i : Nat} (hs : s < 5) (hl : l < 4) (hi : i < totF s) : (spotF s l i).1 < (blkF s).length ∧ (spotF s l i).2 < (blkF s).getD (spotF s l i).1 0 ∧ (placeF s l (spotF s l i).1).getD (spotF s l i).2 0 = i := by
  have h := List.all_eq_true.mp (spots_ok hs hl) i (List.mem_range.mpr hi)
  rw [Bool.and_eq_true, Bool.and_eq_true] at h
  exact ⟨of_decide_eq_true h.1.1, of_decide_eq_true h.1.2, eq_of_beq h.2⟩
/-- the words of all blocks, in the order that they are dealt in -/
def dueF (s l : Nat) (rows : List (List Nat)) : List Nat := (orderF s l).map fun q => (rows.getD q.1 []).getD q.2 0
def RowsOk (s : Nat) (rows : List (List Nat)) : Prop := rows.map List.length = blkF s ∧ ∀ r ∈ rows, ∀ x ∈ r, x < span (bitsF s)
theorem RowsOk.len {s : Nat} {rows : List (List Nat)} (h : RowsOk s rows) : rows.length = (blkF s).length := by rw [← h.1, List.length_map]
theorem RowsOk.row {s b : Nat} {rows : List (List Nat)} (h : RowsOk s rows) (hb : b < (blkF s).length) : ∃ r, rows[b]? = some r ∧ r.length = (blkF s).getD b 0 ∧ rows.getD b [] = r ∧ ∀ x ∈ r, x < span (bitsF s) := by
  have hb2 : b < rows.length := by rw [h.len]; exact hb
  refine ⟨rows[b], List.getElem?_eq_getElem hb2, ?_, getD_in hb2, h.2 _ (List.getElem_mem hb2)⟩
  have : (blkF s)[b]? = some rows[b].length := by rw [← h.1, List.getElem?_map, List.getElem?_eq_getElem hb2]; rfl
  rw [List.getD_eq_getElem?_getD, this]
  rfl
/-- the words as far as they are dealt -/
structure DealtW (s l : Nat) (rows : List (List Nat)) (i j : Nat) (W : List (Option Nat)) : Prop where
  len : W.length = totF s
  at' : ∀ b c, (b < i ∨ (b = i ∧ c < j)) → b < (blkF s).length → c < (blkF s).getD b 0 → W[(placeF s l b).getD c 0]? = some (some ((rows.getD b []).getD c 0))
theorem DealtW.start (s l : Nat) (rows : List (List Nat)) : DealtW s l rows 0 0 (List.replicate (totF s) none) where
  len := List.length_replicate
  at' b c h := by omega
theorem DealtW.step {s l i j : Nat} {rows : List (List Nat)} {W : List (Option Nat)} (hs : s < 5) (hl : l < 4) (hi : i < (blkF s).length) (hj : j < (blkF s).getD i 0) (h : DealtW s l rows i j W) :
    DealtW s l rows i (j + 1) (W.set ((placeF s l i).getD j 0) (some ((rows.getD i []).getD j 0))) where
  len := by rw [List.length_set]; exact h.len
  at' b c hh hb hc := by
    have p1 := place_in hs hl hi hj
    have p2 := place_in hs hl hb hc
    by_cases e : (placeF s l i).getD j 0 = (placeF s l b).getD c 0
    · have e2 : (i, j) = (b, c) := by rw [← p1.2, ← p2.2, e]
      cases e2
      rw [List.getElem?_set_self (by rw [h.len]; exact p1.1)]
    · rw [List.getElem?_set_ne e]
      refine h.at' b c ?_ hb hc
      rcases hh with q | ⟨rfl, q⟩
      · exact .inl q
      · by_cases ec : c = j
        · subst ec
          exact absurd rfl e
        · exact .inr ⟨rfl, by omega⟩
theorem DealtW.next {s l i j : Nat} {rows : List (List Nat)} {W : List (Option Nat)} (hj : (blkF s).getD i 0 ≤ j) (h : DealtW s l rows i j W) : DealtW s l rows (i + 1) 0 W where
  len := h.len
  at' b c hh hb hc := by
    refine h.at' b c ?_ hb hc
    rcases hh with q | ⟨rfl, q⟩
    · by_cases e : b = i
      · subst e
        exact .inr ⟨rfl, by omega⟩
      · exact .inl (by omega)
    · omega
theorem DealtW.done {s l : Nat} {rows : List (List Nat)} {W : List (Option Nat)} (hs : s < 5) (hl : l < 4) (h : DealtW s l rows (blkF s).length 0 W) : W = ofN (dueF s l rows) := by
  refine List.ext_getElem? fun i => ?_
  by_cases hi : i < totF s
  · obtain ⟨q1, q2, q3⟩ := spot_in hs hl hi
    have := h.at' _ _ (.inl q1) q1 q2
    rw [q3] at this
    rw [this]
    unfold ofN dueF
    rw [List.getElem?_map, List.getElem?_map, order_at hi]
    rfl
  · rw [List.getElem?_eq_none (by rw [h.len]; omega), List.getElem?_eq_none]
    unfold ofN dueF
    rw [List.length_map, List.length_map, order_len]
    omega
theorem rep1 {α : Type} (v : α) : ∀ n : Nat, (List.replicate n [v]).flatten = List.replicate n v
  | 0 => rfl
  | n + 1 => by
    rw [List.replicate_succ, List.flatten_cons, rep1 v n]
    rfl
theorem refs_ne {L : List Addr} {n : Nat} (h : 0 < n) : L.map V.ref ≠ List.replicate n V.non := by
  intro e
  cases n with
  | zero => omega
  | succ n =>
    cases L with
    | nil => cases e
    | cons a L => exact nomatch (List.cons.inj e).1
theorem words_ne {r : List Nat} {n : Nat} (h : 0 < n) : r.map vN ≠ List.replicate n V.non := by
  intro e
  cases n with
  | zero => omega
  | succ n =>
    cases r with
    | nil => cases e
    | cons a L => exact nomatch (List.cons.inj e).1
theorem tot_pos {s : Nat} (hs : s < 5) : 0 < totF s := of_decide_eq_true (all5 (P := fun s => decide (0 < totF s)) (by decide +kernel) hs)
theorem pi_enumK {X : Cx} {K : PySem.W.Frag} {e : Expr} {ta : TA} {p pos tpos : Pos} {elts : List Expr} {kk : Nat} (hK : X.K = K) (hg : Gl X "enumerate") (hm : X.mg "enumerate" = none) (ha : PA X [e] ta) (hs : starEach [e] X.env = [(false, eval e X.env)] := by rfl) :
    PI X (.Tuple elts kk tpos) (.Call (.Name "enumerate" p) [e] [] pos) (iEnumS K ta) := by
  subst hK
  exact pi_enumS hg hm ha hs
end My

set_option Elab.async false
set_option linter.all false
set_option maxRecDepth 100000
set_option maxHeartbeats 1000000
/-! ### the law's order of all places, by sorted() -/
namespace My
open PySem PySem.Spec PyProof.Rows L2
def chkI (s l : Nat) (q : Nat × Nat) : Int := if decide (((blkF s).getD q.1 0 : Int) - (ckF s l : Int) ≤ (q.2 : Int)) = true then 1 else 0
def keyI (s l : Nat) (q : Nat × Nat) : List Int := [chkI s l q, (q.2 : Int) - (((blkF s).getD q.1 0 : Int) - (ckF s l : Int)) * chkI s l q, (q.1 : Int), (q.2 : Int)]
/-- the places of the first blocks, block by block -/
def genP (s : Nat) : Nat → List (Nat × Nat)
  | 0 => []
  | i + 1 => genP s i ++ (List.range ((blkF s).getD i 0)).map fun j => (i, j)
def allP (s : Nat) : List (Nat × Nat) := genP s (blkF s).length
def okOrder (s l : Nat) : Bool := (orderF s l).isPerm (allP s) && decide ((orderF s l).Pairwise fun a b => TS.code 64 (keyI s l a) ≤ TS.code 64 (keyI s l b)) && (allP s).all fun q => decide (q.1 < 3) && decide (q.2 < 22) && (keyI s l q).all fun m => decide (0 ≤ m) && decide (m < 64)
theorem order_ok {s l : Nat} (hs : s < 5) (hl : l < 4) : okOrder s l = true := all20 (P := okOrder) (by decide +kernel) hs hl
theorem code_eq {s l : Nat} {a b : Nat × Nat} (a1 : a.1 < 3) (a2 : a.2 < 22) (b1 : b.1 < 3) (b2 : b.2 < 22) (h : TS.code 64 (keyI s l a) = TS.code 64 (keyI s l b)) : a = b := by
  obtain ⟨x, y⟩ := a
  obtain ⟨u, v⟩ := b
  unfold keyI TS.code TS.code TS.code TS.code TS.code at h
  generalize chkI s l (x, y) = c1 at h
  generalize chkI s l (u, v) = c2 at h
  generalize ((x, y).2 : Int) - (((blkF s).getD (x, y).1 0 : Int) - (ckF s l : Int)) * c1 = d1 at h
  generalize ((u, v).2 : Int) - (((blkF s).getD (u, v).1 0 : Int) - (ckF s l : Int)) * c2 = d2 at h
  simp at h a1 a2 b1 b2
  have e1 : x = u := by omega
  have e2 : y = v := by omega
  rw [e1, e2]
structure KeysAt (H : Hp) (ts : List Addr) (s l : Nat) (qs : List (Nat × Nat)) : Prop where
  len : ts.length = qs.length
  at' : ∀ (k : Nat) (t : Addr) (q : Nat × Nat), ts[k]? = some t → qs[k]? = some q → H t = some (.tup ((keyI s l q).map V.int))
theorem key_inj {s l : Nat} {a b : Nat × Nat} (h : (keyI s l a).map V.int = (keyI s l b).map V.int) : a = b := by
  obtain ⟨x, y⟩ := a
  obtain ⟨u, v⟩ := b
  unfold keyI at h
  simp at h
  obtain ⟨_, _, h1, h2⟩ := h
  rw [Int.ofNat.inj h1, Int.ofNat.inj h2]
theorem order_mem {s l : Nat} (hs : s < 5) (hl : l < 4) {q : Nat × Nat} (h : q ∈ allP s) : q.1 < 3 ∧ q.2 < 22 ∧ TS.Bd 64 (keyI s l q) := by
  have o := order_ok hs hl
  unfold okOrder at o
  rw [Bool.and_eq_true, Bool.and_eq_true] at o
  have h2 := List.all_eq_true.mp o.2 q h
  rw [Bool.and_eq_true, Bool.and_eq_true] at h2
  refine ⟨of_decide_eq_true h2.1.1, of_decide_eq_true h2.1.2, fun m hm => ?_⟩
  have h3 := List.all_eq_true.mp h2.2 m hm
  rw [Bool.and_eq_true] at h3
  exact ⟨of_decide_eq_true h3.1, of_decide_eq_true h3.2⟩
open Classical in
theorem sorted_is {K : PySem.W.Frag} {H : Hp} {ts : List Addr} {s l : Nat} {ys : List V} (hs : s < 5) (hl : l < 4) (h : KeysAt H ts s l (allP s)) (hp : ys.Perm (ts.map V.ref))
    (hw : ys.Pairwise fun x y => ∀ n m, TupI K H x n → TupI K H y m → TS.code 64 n ≤ TS.code 64 m) :
    ys.length = totF s ∧ ∀ i, i < totF s → ∃ t, ys[i]? = some (V.ref t) ∧ H t = some (.tup ((keyI s l (spotF s l i)).map V.int)) := by
  have o := order_ok hs hl
  unfold okOrder at o
  rw [Bool.and_eq_true, Bool.and_eq_true] at o
  have o1 : (orderF s l).Perm (allP s) := List.isPerm_iff.mp o.1.1
  have o2 := of_decide_eq_true o.1.2
  let Good : V → Nat × Nat → Prop := fun y q => q ∈ allP s ∧ ∃ t, y = V.ref t ∧ H t = some (.tup ((keyI s l q).map V.int))
  have uniq : ∀ y a b, Good y a → Good y b → a = b := by
    rintro y a b ⟨_, t, rfl, h1⟩ ⟨_, t', e, h2⟩
    cases e
    rw [h1] at h2
    exact key_inj (HO.tup.inj (Option.some.inj h2))
  have good : ∀ (k : Nat) (t : Addr), ts[k]? = some t → ∃ q, (allP s)[k]? = some q ∧ Good (V.ref t) q := fun k t e => by
    have hk := (List.getElem?_eq_some_iff.mp e).1
    rw [h.len] at hk
    have e2 : (allP s)[k]? = some (allP s)[k] := List.getElem?_eq_getElem hk
    exact ⟨_, e2, List.getElem_mem hk, t, rfl, h.at' k t _ e e2⟩
  let f : V → Nat × Nat := fun y => if c : ∃ q, Good y q then choose c else (0, 0)
  have hf : ∀ y, (∃ q, Good y q) → Good y (f y) := fun y c => by
    show Good y (if c : ∃ q, Good y q then choose c else (0, 0))
    rw [dif_pos c]
    exact choose_spec c
  have hin : ∀ y, y ∈ ys → Good y (f y) := fun y hy => by
    obtain ⟨t, ht, rfl⟩ := List.mem_map.mp (hp.mem_iff.mp hy)
    obtain ⟨k, hk, e⟩ := List.getElem_of_mem ht
    obtain ⟨q, _, g⟩ := good k t (by rw [List.getElem?_eq_getElem hk, e])
    exact hf _ ⟨q, g⟩
  have hfm : (ts.map V.ref).map f = allP s := by
    refine List.ext_getElem? fun k => ?_
    rw [List.getElem?_map, List.getElem?_map]
    cases e : ts[k]? with
    | none =>
      have hk := List.getElem?_eq_none_iff.mp e
      rw [List.getElem?_eq_none (by rw [← h.len]; exact hk)]
      rfl
    | some t =>
      obtain ⟨q, e2, g⟩ := good k t e
      rw [e2]
      exact congrArg some (uniq _ _ _ (hf _ ⟨q, g⟩) g)
  have p1 : (ys.map f).Perm (allP s) := by
    rw [← hfm]
    exact hp.map f
  have w1 : (ys.map f).Pairwise fun a b => TS.code 64 (keyI s l a) ≤ TS.code 64 (keyI s l b) := by
    rw [List.pairwise_map]
    refine List.Pairwise.imp_of_mem (fun {x y} hx hy q => ?_) hw
    obtain ⟨_, t, ex, gx⟩ := hin x hx
    obtain ⟨_, u, ey, gy⟩ := hin y hy
    exact q _ _ ⟨t, ex, .inl (.inl gx)⟩ ⟨u, ey, .inl (.inl gy)⟩
  have eq : ys.map f = orderF s l := by
    refine List.Perm.eq_of_pairwise (fun a b ha hb h1 h2 => ?_) w1 o2 (p1.trans o1.symm)
    have ma := order_mem hs hl (p1.mem_iff.mp ha)
    have mb := order_mem hs hl (o1.mem_iff.mp hb)
    exact code_eq ma.1 ma.2.1 mb.1 mb.2.1 (Int.le_antisymm h1 h2)
  have len : ys.length = totF s := by
    have := congrArg List.length eq
    rw [List.length_map, order_len] at this
    exact this
  refine ⟨len, fun i hi => ?_⟩
  have e1 : ys[i]? = some (ys[i]'(by omega)) := List.getElem?_eq_getElem _
  have e2 : (ys.map f)[i]? = some (spotF s l i) := by
    rw [eq]
    exact order_at hi
  rw [List.getElem?_map, e1] at e2
  have e3 : f (ys[i]'(by omega)) = spotF s l i := Option.some.inj e2
  obtain ⟨_, t, ey, gy⟩ := hin _ (List.getElem_mem (by omega : i < ys.length))
  rw [e3] at gy
  exact ⟨t, by rw [e1, ey], gy⟩
theorem gen_len (s : Nat) : ∀ i, (genP s (i + 1)).length = (genP s i).length + (blkF s).getD i 0 := fun i => by
  show (genP s i ++ _).length = _
  rw [List.length_append, List.length_map, List.length_range]
theorem all_len {s : Nat} (hs : s < 5) : (allP s).length ≤ 58 := of_decide_eq_true (all5 (P := fun s => decide ((allP s).length ≤ 58)) (by decide +kernel) hs)
theorem gen_le {s : Nat} : ∀ {i j : Nat}, i ≤ j → (genP s i).length ≤ (genP s j).length
  | i, 0, h => by
    have : i = 0 := by omega
    subst this
    exact Nat.le_refl _
  | i, j + 1, h => by
    by_cases e : i = j + 1
    · subst e; exact Nat.le_refl _
    · have := gen_le (s := s) (i := i) (j := j) (by omega)
      rw [gen_len]
      omega
theorem KeysAt.push {H H2 : Hp} {ts : List Addr} {s l : Nat} {qs : List (Nat × Nat)} {q : Nat × Nat} {F u : Addr} {xs : List V} {o : HO} (h : KeysAt H ts s l qs) (sm : Same H H2) (gF : H2 F = some (.lst xs)) (gu : H2 u = some (.tup ((keyI s l q).map V.int))) :
    KeysAt (upd H2 F o) (ts ++ [u]) s l (qs ++ [q]) where
  len := by rw [List.length_append, List.length_append, h.len]; rfl
  at' k t r e1 e2 := by
    have tn : ∀ {t : Addr} {ys : List V}, H2 t = some (.tup ys) → t ≠ F := fun e z => by rw [z, gF] at e; cases e
    by_cases c : k < ts.length
    · rw [List.getElem?_append_left c] at e1
      rw [List.getElem?_append_left (by rw [← h.len]; exact c)] at e2
      have g := sm _ _ (h.at' k t r e1 e2)
      rw [upd_ne (tn g)]
      exact g
    · have hk := (List.getElem?_eq_some_iff.mp e1).1
      rw [List.length_append] at hk
      have ek : k = ts.length := by simp at hk; omega
      subst ek
      rw [List.getElem?_append_right (Nat.le_refl _), Nat.sub_self] at e1
      rw [h.len, List.getElem?_append_right (Nat.le_refl _), Nat.sub_self] at e2
      cases e1
      cases e2
      rw [upd_ne (tn gu)]
      exact gu
theorem KeysAt.same {H H2 : Hp} {ts : List Addr} {s l : Nat} {qs : List (Nat × Nat)} (h : KeysAt H ts s l qs) (sm : Same H H2) : KeysAt H2 ts s l qs := ⟨h.len, fun k t q e1 e2 => sm _ _ (h.at' k t q e1 e2)⟩
/-- four values the other way round -/
def rev4 {α : Type} : List α → List α
  | [a, b, c, d] => [d, c, b, a]
  | l => l
theorem rev4_rel {zs : List V} {ws : List Value} (r : Vals zs ws) : Vals (rev4 zs) (rev4 ws) := by
  cases r with
  | nil => exact .nil
  | cons r1 r =>
    cases r with
    | nil => exact .cons r1 .nil
    | cons r2 r =>
      cases r with
      | nil => exact .cons r1 (.cons r2 .nil)
      | cons r3 r =>
        cases r with
        | nil => exact .cons r1 (.cons r2 (.cons r3 .nil))
        | cons r4 r =>
          cases r with
          | nil => exact .cons r4 (.cons r3 (.cons r2 (.cons r1 .nil)))
          | cons r5 r => exact .cons r1 (.cons r2 (.cons r3 (.cons r4 (.cons r5 r))))
theorem text_le : ∀ (ts : List Str) (k : Nat) (acc : Str), (textFrom k acc ts).length ≤ acc.length + (ts.map fun t => t.length + 2).sum
  | [], _, acc => Nat.le_refl _
  | t :: r, k, acc => by
    have h := text_le r (k + 1) (acc ++ (if k > 0 then ", " else "" : String) ++ t)
    have e : (acc ++ (if k > 0 then ", " else "" : String) ++ t).length = acc.length + (if k > 0 then 2 else 0) + t.length := by
      rw [strLen_append, strLen_append]
      split <;> rfl
    rw [e] at h
    have d : (if k > 0 then 2 else 0 : Nat) ≤ 2 := by split <;> decide
    show (textFrom (k + 1) _ r).length ≤ acc.length + (List.map (fun t => t.length + 2) (t :: r)).sum
    rw [List.map_cons, List.sum_cons]
    omega
theorem list_le {ts : List Str} {m : Nat} (h : ∀ t ∈ ts, t.length ≤ m) : (listText ts).length ≤ 2 + ts.length * (m + 2) := by
  unfold listText
  rw [strLen_append]
  have h1 := text_le ts 0 "["
  have h2 : (ts.map fun t => t.length + 2).sum ≤ ts.length * (m + 2) := by
    clear h1
    induction ts with
    | nil => exact Nat.zero_le _
    | cons t r ih =>
      rw [List.map_cons, List.sum_cons, List.length_cons, Nat.succ_mul]
      have a := h t (List.mem_cons_self ..)
      have b := ih fun u hu => h u (List.mem_cons_of_mem _ hu)
      omega
  have h3 : (Str.ofString "[").length = 1 := rfl
  have h4 : (Str.ofString "]").length = 1 := rfl
  omega
theorem shownAll_map : ∀ ds : List PyData, PyData.shownAll ds = ds.map PyData.shown
  | [] => rfl
  | d :: r => by
    show PyData.shown d :: PyData.shownAll r = _
    rw [shownAll_map r]
    rfl
theorem int_shown {n : Nat} (h : n < 256) : (PyData.shown (dI n)).length ≤ 3 := by
  have q : ((List.range 256).all fun n => decide ((PyData.shown (dI n)).length ≤ 3)) = true := by decide +kernel
  exact of_decide_eq_true (List.all_eq_true.mp q n (List.mem_range.mpr h))
theorem grid_shown {rows : List (List Nat)} (h3 : rows.length ≤ 3) (h : ∀ r ∈ rows, r.length ≤ 22 ∧ ∀ x ∈ r, x < 256) : (PyData.shown (dGr (gridN rows))).length ≤ 400 := by
  have e : PyData.shown (dGr (gridN rows)) = listText (((gridN rows).map dRow).map PyData.shown) := by
    rw [← shownAll_map]
    rfl
  rw [e]
  have l : ∀ t ∈ ((gridN rows).map dRow).map PyData.shown, t.length ≤ 112 := by
    intro t ht
    obtain ⟨d, hd, rfl⟩ := List.mem_map.mp ht
    obtain ⟨g, hg, rfl⟩ := List.mem_map.mp hd
    obtain ⟨r, hr, rfl⟩ := List.mem_map.mp hg
    have hh := h r hr
    have e2 : PyData.shown (dRow (ofN r)) = listText (((ofN r).map dG).map PyData.shown) := by
      rw [← shownAll_map]
      rfl
    rw [e2]
    have l2 := list_le (ts := ((ofN r).map dG).map PyData.shown) (m := 3) fun t ht => by
      obtain ⟨d, hd, rfl⟩ := List.mem_map.mp ht
      obtain ⟨o, ho, rfl⟩ := List.mem_map.mp hd
      obtain ⟨x, hx, rfl⟩ := List.mem_map.mp ho
      exact int_shown (hh.2 x hx)
    unfold ofN at l2 ⊢
    rw [List.length_map, List.length_map, List.length_map] at l2
    omega
  have l3 := list_le l
  unfold gridN at l3 ⊢
  rw [List.length_map, List.length_map, List.length_map] at l3
  omega
theorem dRow_show : ∀ r : List Nat, (∀ x ∈ r, x < 256) → PyData.showableAll ((ofN r).map dG) = true
  | [], _ => rfl
  | x :: r, h => by
    have hx := h x (List.mem_cons_self ..)
    have q : ((List.range 256).all fun n => (dI n).showable) = true := by decide +kernel
    have q2 : (dI x).showable = true := List.all_eq_true.mp q x (List.mem_range.mpr hx)
    show ((dI x).showable && PyData.showableAll ((ofN r).map dG)) = true
    rw [q2, dRow_show r fun y hy => h y (List.mem_cons_of_mem _ hy)]
    rfl
theorem dGr_show : ∀ rows : List (List Nat), (∀ r ∈ rows, ∀ x ∈ r, x < 256) → PyData.showableAll ((gridN rows).map dRow) = true
  | [], _ => rfl
  | r :: rows, h => by
    show (PyData.showableAll ((ofN r).map dG) && PyData.showableAll ((gridN rows).map dRow)) = true
    rw [dRow_show r (h r (List.mem_cons_self ..)), dGr_show rows fun q hq => h q (List.mem_cons_of_mem _ hq)]
    rfl
theorem dRow_dict : ∀ r : List (Option Nat), PyData.hasDictAll (r.map dG) = false
  | [] => rfl
  | o :: r => by
    show (PyData.hasDict (dG o) || PyData.hasDictAll (r.map dG)) = false
    rw [dRow_dict r]
    cases o <;> rfl
theorem dGr_dict : ∀ g : Grid, PyData.hasDictAll (g.map dRow) = false
  | [] => rfl
  | r :: g => by
    show (PyData.hasDictAll (r.map dG) || PyData.hasDictAll (g.map dRow)) = false
    rw [dRow_dict r, dGr_dict g]
    rfl
theorem grid_reprs {K : PySem.W.Frag} {H : Hp} {a : Addr} {rows : List (List Nat)} (g : GrB true K H a (gridN rows)) (h3 : rows.length ≤ 3) (h : ∀ r ∈ rows, r.length ≤ 22 ∧ ∀ x ∈ r, x < 256) :
    Dp K H (.ref a) (dGr (gridN rows)) ∧ (dGr (gridN rows)).showable = true ∧ (dGr (gridN rows)).hasDict = false ∧ (dGr (gridN rows)).depth ≤ 60 ∧ (dGr (gridN rows)).shown.length ≤ sizeLine := by
  refine ⟨g.dp, dGr_show rows fun r hr => (h r hr).2, dGr_dict _, ?_, Nat.le_trans (grid_shown h3 h) (by decide)⟩
  have := dRow_depth (gridN rows)
  show PyData.depthAll ((gridN rows).map dRow) + 1 ≤ 60
  omega
end My

set_option Elab.async false
set_option linter.all false
set_option maxRecDepth 100000
set_option maxHeartbeats 1000000
/-! ### the way through the word dots; grids with dots turned -/
namespace My
open PySem PySem.Spec PyProof.Rows L2
def spA (m a : Nat) : Nat × Nat := (1 + a / (m - 2), 1 + a % (m - 2))
def spB (m a : Nat) : Nat × Nat := (m - 2 - a % (m - 2), 1 + a / (m - 2))
def ribA (m i : Nat) : List (Nat × Nat) := ((List.range i).map (spA m)).take 10
def ribB (m i : Nat) : List (Nat × Nat) := (((List.range i).map (spB m)).filter fun q => !(ribA m ((m - 2) * (m - 2))).contains q).take 10
/-- the dots of the ribbons -/
def usedF (m : Nat) : List (Nat × Nat) := ribA m ((m - 2) * (m - 2)) ++ ribB m ((m - 2) * (m - 2))
def rowW (m b k : Nat) : Nat := if b % 2 = 0 then m - 2 - k else 1 + k
def cellsW (u : List (Nat × Nat)) (m b k : Nat) : List (Nat × Nat) := [(rowW m b k, m - 2 - 2 * b), (rowW m b k, m - 3 - 2 * b)].filter fun q => !u.contains q
def wayTo (u : List (Nat × Nat)) (m b k : Nat) : List (Nat × Nat) := ((List.range b).flatMap fun b => (List.range (m - 2)).flatMap (cellsW u m b)) ++ (List.range k).flatMap (cellsW u m b)
def wayF (m : Nat) : List (Nat × Nat) := wayTo (usedF m) m ((m - 2) / 2) 0
def sdF (s : Nat) : Nat := sideL.getD s 0
def ptF (s : Nat) : Nat := [16, 80, 176, 304, 464].getD s 0
def usedL : List (List (Nat × Nat)) := [[(1, 1), (1, 2), (1, 3), (1, 4), (1, 5), (1, 6), (2, 1), (2, 2), (2, 3), (2, 4), (6, 1), (5, 1), (4, 1), (3, 1), (6, 2), (5, 2), (4, 2), (3, 2), (6, 3), (5, 3)], [(1, 1), (1, 2), (1, 3), (1, 4), (1, 5), (1, 6), (1, 7), (1, 8), (1, 9), (1, 10), (10, 1), (9, 1), (8, 1), (7, 1), (6, 1), (5, 1), (4, 1), (3, 1), (2, 1), (10, 2)], [(1, 1), (1, 2), (1, 3), (1, 4), (1, 5), (1, 6), (1, 7), (1, 8), (1, 9), (1, 10), (14, 1), (13, 1), (12, 1), (11, 1), (10, 1), (9, 1), (8, 1), (7, 1), (6, 1), (5, 1)], [(1, 1), (1, 2), (1, 3), (1, 4), (1, 5), (1, 6), (1, 7), (1, 8), (1, 9), (1, 10), (18, 1), (17, 1), (16, 1), (15, 1), (14, 1), (13, 1), (12, 1), (11, 1), (10, 1), (9, 1)], [(1, 1), (1, 2), (1, 3), (1, 4), (1, 5), (1, 6), (1, 7), (1, 8), (1, 9), (1, 10), (22, 1), (21, 1), (20, 1), (19, 1), (18, 1), (17, 1), (16, 1), (15, 1), (14, 1), (13, 1)]]
def wayL : List (List (Nat × Nat)) := [[(6, 6), (6, 5), (5, 6), (5, 5), (4, 6), (4, 5), (3, 6), (3, 5), (2, 6), (2, 5), (3, 4), (3, 3), (4, 4), (4, 3), (5, 4), (6, 4)], [(10, 10), (10, 9), (9, 10), (9, 9), (8, 10), (8, 9), (7, 10), (7, 9), (6, 10), (6, 9), (5, 10), (5, 9), (4, 10), (4, 9), (3, 10), (3, 9), (2, 10), (2, 9), (2, 8), (2, 7), (3, 8), (3, 7), (4, 8), (4, 7), (5, 8), (5, 7), (6, 8), (6, 7), (7, 8), (7, 7), (8, 8), (8, 7), (9, 8), (9, 7), (10, 8), (10, 7), (10, 6), (10, 5), (9, 6), (9, 5), (8, 6), (8, 5), (7, 6), (7, 5), (6, 6), (6, 5), (5, 6), (5, 5), (4, 6), (4, 5), (3, 6), (3, 5), (2, 6), (2, 5), (2, 4), (2, 3), (3, 4), (3, 3), (4, 4), (4, 3), (5, 4), (5, 3), (6, 4), (6, 3), (7, 4), (7, 3), (8, 4), (8, 3), (9, 4), (9, 3), (10, 4), (10, 3), (9, 2), (8, 2), (7, 2), (6, 2), (5, 2), (4, 2), (3, 2), (2, 2)], [(14, 14), (14, 13), (13, 14), (13, 13), (12, 14), (12, 13), (11, 14), (11, 13), (10, 14), (10, 13), (9, 14), (9, 13), (8, 14), (8, 13), (7, 14), (7, 13), (6, 14), (6, 13), (5, 14), (5, 13), (4, 14), (4, 13), (3, 14), (3, 13), (2, 14), (2, 13), (1, 14), (1, 13), (1, 12), (1, 11), (2, 12), (2, 11), (3, 12), (3, 11), (4, 12), (4, 11), (5, 12), (5, 11), (6, 12), (6, 11), (7, 12), (7, 11), (8, 12), (8, 11), (9, 12), (9, 11), (10, 12), (10, 11), (11, 12), (11, 11), (12, 12), (12, 11), (13, 12), (13, 11), (14, 12), (14, 11), (14, 10), (14, 9), (13, 10), (13, 9), (12, 10), (12, 9), (11, 10), (11, 9), (10, 10), (10, 9), (9, 10), (9, 9), (8, 10), (8, 9), (7, 10), (7, 9), (6, 10), (6, 9), (5, 10), (5, 9), (4, 10), (4, 9), (3, 10), (3, 9), (2, 10), (2, 9), (2, 8), (2, 7), (3, 8), (3, 7), (4, 8), (4, 7), (5, 8), (5, 7), (6, 8), (6, 7), (7, 8), (7, 7), (8, 8), (8, 7), (9, 8), (9, 7), (10, 8), (10, 7), (11, 8), (11, 7), (12, 8), (12, 7), (13, 8), (13, 7), (14, 8), (14, 7), (14, 6), (14, 5), (13, 6), (13, 5), (12, 6), (12, 5), (11, 6), (11, 5), (10, 6), (10, 5), (9, 6), (9, 5), (8, 6), (8, 5), (7, 6), (7, 5), (6, 6), (6, 5), (5, 6), (5, 5), (4, 6), (4, 5), (3, 6), (3, 5), (2, 6), (2, 5), (2, 4), (2, 3), (3, 4), (3, 3), (4, 4), (4, 3), (5, 4), (5, 3), (6, 4), (6, 3), (7, 4), (7, 3), (8, 4), (8, 3), (9, 4), (9, 3), (10, 4), (10, 3), (11, 4), (11, 3), (12, 4), (12, 3), (13, 4), (13, 3), (14, 4), (14, 3), (14, 2), (13, 2), (12, 2), (11, 2), (10, 2), (9, 2), (8, 2), (7, 2), (6, 2), (5, 2), (4, 2), (4, 1), (3, 2), (3, 1), (2, 2), (2, 1)], [(18, 18), (18, 17), (17, 18), (17, 17), (16, 18), (16, 17), (15, 18), (15, 17), (14, 18), (14, 17), (13, 18), (13, 17), (12, 18), (12, 17), (11, 18), (11, 17), (10, 18), (10, 17), (9, 18), (9, 17), (8, 18), (8, 17), (7, 18), (7, 17), (6, 18), (6, 17), (5, 18), (5, 17), (4, 18), (4, 17), (3, 18), (3, 17), (2, 18), (2, 17), (1, 18), (1, 17), (1, 16), (1, 15), (2, 16), (2, 15), (3, 16), (3, 15), (4, 16), (4, 15), (5, 16), (5, 15), (6, 16), (6, 15), (7, 16), (7, 15), (8, 16), (8, 15), (9, 16), (9, 15), (10, 16), (10, 15), (11, 16), (11, 15), (12, 16), (12, 15), (13, 16), (13, 15), (14, 16), (14, 15), (15, 16), (15, 15), (16, 16), (16, 15), (17, 16), (17, 15), (18, 16), (18, 15), (18, 14), (18, 13), (17, 14), (17, 13), (16, 14), (16, 13), (15, 14), (15, 13), (14, 14), (14, 13), (13, 14), (13, 13), (12, 14), (12, 13), (11, 14), (11, 13), (10, 14), (10, 13), (9, 14), (9, 13), (8, 14), (8, 13), (7, 14), (7, 13), (6, 14), (6, 13), (5, 14), (5, 13), (4, 14), (4, 13), (3, 14), (3, 13), (2, 14), (2, 13), (1, 14), (1, 13), (1, 12), (1, 11), (2, 12), (2, 11), (3, 12), (3, 11), (4, 12), (4, 11), (5, 12), (5, 11), (6, 12), (6, 11), (7, 12), (7, 11), (8, 12), (8, 11), (9, 12), (9, 11), (10, 12), (10, 11), (11, 12), (11, 11), (12, 12), (12, 11), (13, 12), (13, 11), (14, 12), (14, 11), (15, 12), (15, 11), (16, 12), (16, 11), (17, 12), (17, 11), (18, 12), (18, 11), (18, 10), (18, 9), (17, 10), (17, 9), (16, 10), (16, 9), (15, 10), (15, 9), (14, 10), (14, 9), (13, 10), (13, 9), (12, 10), (12, 9), (11, 10), (11, 9), (10, 10), (10, 9), (9, 10), (9, 9), (8, 10), (8, 9), (7, 10), (7, 9), (6, 10), (6, 9), (5, 10), (5, 9), (4, 10), (4, 9), (3, 10), (3, 9), (2, 10), (2, 9), (2, 8), (2, 7), (3, 8), (3, 7), (4, 8), (4, 7), (5, 8), (5, 7), (6, 8), (6, 7), (7, 8), (7, 7), (8, 8), (8, 7), (9, 8), (9, 7), (10, 8), (10, 7), (11, 8), (11, 7), (12, 8), (12, 7), (13, 8), (13, 7), (14, 8), (14, 7), (15, 8), (15, 7), (16, 8), (16, 7), (17, 8), (17, 7), (18, 8), (18, 7), (18, 6), (18, 5), (17, 6), (17, 5), (16, 6), (16, 5), (15, 6), (15, 5), (14, 6), (14, 5), (13, 6), (13, 5), (12, 6), (12, 5), (11, 6), (11, 5), (10, 6), (10, 5), (9, 6), (9, 5), (8, 6), (8, 5), (7, 6), (7, 5), (6, 6), (6, 5), (5, 6), (5, 5), (4, 6), (4, 5), (3, 6), (3, 5), (2, 6), (2, 5), (2, 4), (2, 3), (3, 4), (3, 3), (4, 4), (4, 3), (5, 4), (5, 3), (6, 4), (6, 3), (7, 4), (7, 3), (8, 4), (8, 3), (9, 4), (9, 3), (10, 4), (10, 3), (11, 4), (11, 3), (12, 4), (12, 3), (13, 4), (13, 3), (14, 4), (14, 3), (15, 4), (15, 3), (16, 4), (16, 3), (17, 4), (17, 3), (18, 4), (18, 3), (18, 2), (17, 2), (16, 2), (15, 2), (14, 2), (13, 2), (12, 2), (11, 2), (10, 2), (9, 2), (8, 2), (8, 1), (7, 2), (7, 1), (6, 2), (6, 1), (5, 2), (5, 1), (4, 2), (4, 1), (3, 2), (3, 1), (2, 2), (2, 1)], [(22, 22), (22, 21), (21, 22), (21, 21), (20, 22), (20, 21), (19, 22), (19, 21), (18, 22), (18, 21), (17, 22), (17, 21), (16, 22), (16, 21), (15, 22), (15, 21), (14, 22), (14, 21), (13, 22), (13, 21), (12, 22), (12, 21), (11, 22), (11, 21), (10, 22), (10, 21), (9, 22), (9, 21), (8, 22), (8, 21), (7, 22), (7, 21), (6, 22), (6, 21), (5, 22), (5, 21), (4, 22), (4, 21), (3, 22), (3, 21), (2, 22), (2, 21), (1, 22), (1, 21), (1, 20), (1, 19), (2, 20), (2, 19), (3, 20), (3, 19), (4, 20), (4, 19), (5, 20), (5, 19), (6, 20), (6, 19), (7, 20), (7, 19), (8, 20), (8, 19), (9, 20), (9, 19), (10, 20), (10, 19), (11, 20), (11, 19), (12, 20), (12, 19), (13, 20), (13, 19), (14, 20), (14, 19), (15, 20), (15, 19), (16, 20), (16, 19), (17, 20), (17, 19), (18, 20), (18, 19), (19, 20), (19, 19), (20, 20), (20, 19), (21, 20), (21, 19), (22, 20), (22, 19), (22, 18), (22, 17), (21, 18), (21, 17), (20, 18), (20, 17), (19, 18), (19, 17), (18, 18), (18, 17), (17, 18), (17, 17), (16, 18), (16, 17), (15, 18), (15, 17), (14, 18), (14, 17), (13, 18), (13, 17), (12, 18), (12, 17), (11, 18), (11, 17), (10, 18), (10, 17), (9, 18), (9, 17), (8, 18), (8, 17), (7, 18), (7, 17), (6, 18), (6, 17), (5, 18), (5, 17), (4, 18), (4, 17), (3, 18), (3, 17), (2, 18), (2, 17), (1, 18), (1, 17), (1, 16), (1, 15), (2, 16), (2, 15), (3, 16), (3, 15), (4, 16), (4, 15), (5, 16), (5, 15), (6, 16), (6, 15), (7, 16), (7, 15), (8, 16), (8, 15), (9, 16), (9, 15), (10, 16), (10, 15), (11, 16), (11, 15), (12, 16), (12, 15), (13, 16), (13, 15), (14, 16), (14, 15), (15, 16), (15, 15), (16, 16), (16, 15), (17, 16), (17, 15), (18, 16), (18, 15), (19, 16), (19, 15), (20, 16), (20, 15), (21, 16), (21, 15), (22, 16), (22, 15), (22, 14), (22, 13), (21, 14), (21, 13), (20, 14), (20, 13), (19, 14), (19, 13), (18, 14), (18, 13), (17, 14), (17, 13), (16, 14), (16, 13), (15, 14), (15, 13), (14, 14), (14, 13), (13, 14), (13, 13), (12, 14), (12, 13), (11, 14), (11, 13), (10, 14), (10, 13), (9, 14), (9, 13), (8, 14), (8, 13), (7, 14), (7, 13), (6, 14), (6, 13), (5, 14), (5, 13), (4, 14), (4, 13), (3, 14), (3, 13), (2, 14), (2, 13), (1, 14), (1, 13), (1, 12), (1, 11), (2, 12), (2, 11), (3, 12), (3, 11), (4, 12), (4, 11), (5, 12), (5, 11), (6, 12), (6, 11), (7, 12), (7, 11), (8, 12), (8, 11), (9, 12), (9, 11), (10, 12), (10, 11), (11, 12), (11, 11), (12, 12), (12, 11), (13, 12), (13, 11), (14, 12), (14, 11), (15, 12), (15, 11), (16, 12), (16, 11), (17, 12), (17, 11), (18, 12), (18, 11), (19, 12), (19, 11), (20, 12), (20, 11), (21, 12), (21, 11), (22, 12), (22, 11), (22, 10), (22, 9), (21, 10), (21, 9), (20, 10), (20, 9), (19, 10), (19, 9), (18, 10), (18, 9), (17, 10), (17, 9), (16, 10), (16, 9), (15, 10), (15, 9), (14, 10), (14, 9), (13, 10), (13, 9), (12, 10), (12, 9), (11, 10), (11, 9), (10, 10), (10, 9), (9, 10), (9, 9), (8, 10), (8, 9), (7, 10), (7, 9), (6, 10), (6, 9), (5, 10), (5, 9), (4, 10), (4, 9), (3, 10), (3, 9), (2, 10), (2, 9), (2, 8), (2, 7), (3, 8), (3, 7), (4, 8), (4, 7), (5, 8), (5, 7), (6, 8), (6, 7), (7, 8), (7, 7), (8, 8), (8, 7), (9, 8), (9, 7), (10, 8), (10, 7), (11, 8), (11, 7), (12, 8), (12, 7), (13, 8), (13, 7), (14, 8), (14, 7), (15, 8), (15, 7), (16, 8), (16, 7), (17, 8), (17, 7), (18, 8), (18, 7), (19, 8), (19, 7), (20, 8), (20, 7), (21, 8), (21, 7), (22, 8), (22, 7), (22, 6), (22, 5), (21, 6), (21, 5), (20, 6), (20, 5), (19, 6), (19, 5), (18, 6), (18, 5), (17, 6), (17, 5), (16, 6), (16, 5), (15, 6), (15, 5), (14, 6), (14, 5), (13, 6), (13, 5), (12, 6), (12, 5), (11, 6), (11, 5), (10, 6), (10, 5), (9, 6), (9, 5), (8, 6), (8, 5), (7, 6), (7, 5), (6, 6), (6, 5), (5, 6), (5, 5), (4, 6), (4, 5), (3, 6), (3, 5), (2, 6), (2, 5), (2, 4), (2, 3), (3, 4), (3, 3), (4, 4), (4, 3), (5, 4), (5, 3), (6, 4), (6, 3), (7, 4), (7, 3), (8, 4), (8, 3), (9, 4), (9, 3), (10, 4), (10, 3), (11, 4), (11, 3), (12, 4), (12, 3), (13, 4), (13, 3), (14, 4), (14, 3), (15, 4), (15, 3), (16, 4), (16, 3), (17, 4), (17, 3), (18, 4), (18, 3), (19, 4), (19, 3), (20, 4), (20, 3), (21, 4), (21, 3), (22, 4), (22, 3), (22, 2), (21, 2), (20, 2), (19, 2), (18, 2), (17, 2), (16, 2), (15, 2), (14, 2), (13, 2), (12, 2), (12, 1), (11, 2), (11, 1), (10, 2), (10, 1), (9, 2), (9, 1), (8, 2), (8, 1), (7, 2), (7, 1), (6, 2), (6, 1), (5, 2), (5, 1), (4, 2), (4, 1), (3, 2), (3, 1), (2, 2), (2, 1)]]
theorem used_at {s : Nat} (hs : s < 5) : usedF (sdF s) = usedL.getD s [] := eq_of_beq (all5 (P := fun s => usedF (sdF s) == usedL.getD s []) (by decide +kernel) hs)
theorem way_at {s : Nat} (hs : s < 5) : wayF (sdF s) = wayL.getD s [] := by
  unfold wayF
  rw [used_at hs]
  exact eq_of_beq (all5 (P := fun s => wayTo (usedL.getD s []) (sdF s) ((sdF s - 2) / 2) 0 == wayL.getD s []) (by decide +kernel) hs)
theorem way_len {s : Nat} (hs : s < 5) : (wayF (sdF s)).length = ptF s := by
  rw [way_at hs]
  exact of_decide_eq_true (all5 (P := fun s => decide ((wayL.getD s []).length = ptF s)) (by decide +kernel) hs)
theorem way_in {s : Nat} (hs : s < 5) {q : Nat × Nat} (h : q ∈ wayF (sdF s)) : q.1 < sdF s ∧ q.2 < sdF s := by
  rw [way_at hs] at h
  have z := List.all_eq_true.mp (all5 (P := fun s => (wayL.getD s []).all fun q => decide (q.1 < sdF s) && decide (q.2 < sdF s)) (by decide +kernel) hs) q h
  rw [Bool.and_eq_true] at z
  exact ⟨of_decide_eq_true z.1, of_decide_eq_true z.2⟩
theorem sd_ok {s : Nat} (hs : s < 5) : SideOk (sdF s) := by
  have : s = 0 ∨ s = 1 ∨ s = 2 ∨ s = 3 ∨ s = 4 := by omega
  rcases this with rfl | rfl | rfl | rfl | rfl
  · exact .inl rfl
  · exact .inr (.inl rfl)
  · exact .inr (.inr (.inl rfl))
  · exact .inr (.inr (.inr (.inl rfl)))
  · exact .inr (.inr (.inr (.inr rfl)))
theorem sd_side {s : Nat} (hs : s < 5) : sidesI[s]? = some (sdF s : Int) := by
  have : s = 0 ∨ s = 1 ∨ s = 2 ∨ s = 3 ∨ s = 4 := by omega
  rcases this with rfl | rfl | rfl | rfl | rfl <;> rfl
theorem take_step {α : Type} (l : List α) (x : α) : (l ++ [x]).take 10 = if (l.take 10).length < 10 then l.take 10 ++ [x] else l.take 10 := by
  rw [List.length_take]
  split
  · next c =>
    have h : l.length < 10 := by omega
    have h2 : (l ++ [x]).length ≤ 10 := by
      rw [List.length_append]
      show l.length + 1 ≤ 10
      omega
    rw [List.take_of_length_le h2, List.take_of_length_le (show l.length ≤ 10 by omega)]
  · next c => rw [List.take_append_of_le_length (by omega)]
theorem ribA_step (m i : Nat) : ribA m (i + 1) = if (ribA m i).length < 10 then ribA m i ++ [spA m i] else ribA m i := by
  unfold ribA
  rw [List.range_succ, List.map_append]
  exact take_step _ _
theorem ribB_step (m i : Nat) : ribB m (i + 1) = if (ribB m i).length < 10 ∧ spB m i ∉ ribA m ((m - 2) * (m - 2)) then ribB m i ++ [spB m i] else ribB m i := by
  unfold ribB
  rw [List.range_succ, List.map_append, List.filter_append]
  by_cases c : spB m i ∈ ribA m ((m - 2) * (m - 2))
  · rw [if_neg (fun h => h.2 c)]
    have e : ([spB m i].filter fun q => !(ribA m ((m - 2) * (m - 2))).contains q) = [] := by simp [c]
    show List.take 10 (_ ++ ([spB m i].filter fun q => !(ribA m ((m - 2) * (m - 2))).contains q)) = _
    rw [e, List.append_nil]
  · have e : ([spB m i].filter fun q => !(ribA m ((m - 2) * (m - 2))).contains q) = [spB m i] := by simp [c]
    show List.take 10 (_ ++ ([spB m i].filter fun q => !(ribA m ((m - 2) * (m - 2))).contains q)) = _
    rw [e, take_step]
    simp only [c, not_false_eq_true, and_true]
theorem way_step (u : List (Nat × Nat)) (m b k : Nat) : wayTo u m b (k + 1) = wayTo u m b k ++ cellsW u m b k := by
  unfold wayTo
  rw [List.range_succ, List.flatMap_append, List.append_assoc]
  simp
theorem way_next (u : List (Nat × Nat)) (m b : Nat) : wayTo u m (b + 1) 0 = wayTo u m b (m - 2) := by
  unfold wayTo
  rw [List.range_succ, List.flatMap_append]
  simp
/-! ### dots turned -/
def flipO : Option Nat → Option Nat
  | none => none
  | some x => some (1 - x)
/-- the grid with the dots turned for which b holds -/
def turnG (b : Nat → Nat → Bool) (g : Grid) : Grid := g.mapIdx fun r row => row.mapIdx fun c o => if b r c = true then flipO o else o
theorem flip_ok {o : Option Nat} (h : DotOk o) : DotOk (flipO o) := by
  rcases h with rfl | rfl | rfl
  · exact .inl rfl
  · exact .inr (.inr rfl)
  · exact .inr (.inl rfl)
theorem flip_flip {o : Option Nat} (h : DotOk o) : flipO (flipO o) = o := by
  rcases h with rfl | rfl | rfl <;> rfl
theorem turn_row {b : Nat → Nat → Bool} {g : Grid} {i : Nat} {r : List (Option Nat)} (e : g[i]? = some r) : (turnG b g)[i]? = some (r.mapIdx fun c o => if b i c = true then flipO o else o) := by
  unfold turnG
  rw [List.getElem?_mapIdx, e]
  rfl
theorem turnG_sq {n : Nat} {b : Nat → Nat → Bool} {g : Grid} (h : Sq n g) : Sq n (turnG b g) where
  len := by unfold turnG; rw [List.length_mapIdx, h.len]
  row r hr := by
    obtain ⟨i, hi, rfl⟩ := List.mem_mapIdx.mp hr
    rw [List.length_mapIdx]
    exact h.row _ (List.getElem_mem hi)
  dot r hr o ho := by
    obtain ⟨i, hi, rfl⟩ := List.mem_mapIdx.mp hr
    obtain ⟨j, hj, rfl⟩ := List.mem_mapIdx.mp ho
    have z := h.dot _ (List.getElem_mem hi) _ (List.getElem_mem hj)
    split
    · exact flip_ok z
    · exact z
theorem cell_turn {n : Nat} {b : Nat → Nat → Bool} {g : Grid} (h : Sq n g) {i j : Nat} (hi : i < n) (hj : j < n) : cell (turnG b g) i j = if b i j = true then flipO (cell g i j) else cell g i j := by
  have l := h.len
  have l2 := (turnG_sq (b := b) h).len
  unfold cell
  have e : g[i]? = some (g[i]'(by omega)) := List.getElem?_eq_getElem _
  have r1 := h.row _ (List.getElem_mem (show i < g.length by omega))
  rw [List.getD_eq_getElem?_getD (l := turnG b g), turn_row e, List.getD_eq_getElem?_getD (l := g), e]
  simp only [Option.getD_some]
  rw [List.getD_eq_getElem?_getD, List.getElem?_mapIdx, List.getElem?_eq_getElem (by omega), List.getD_eq_getElem?_getD, List.getElem?_eq_getElem (by omega)]
  rfl
theorem turn_turn {n : Nat} {b : Nat → Nat → Bool} {g : Grid} (h : Sq n g) : turnG b (turnG b g) = g := by
  refine grid_ext (turnG_sq (turnG_sq h)) h fun i j hi hj => ?_
  rw [cell_turn (turnG_sq h) hi hj, cell_turn h hi hj]
  have l := h.len
  have r1 := h.row _ (getD_mem (d := []) (show i < g.length by omega))
  have z : DotOk (cell g i j) := dot_getD (h.dot _ (getD_mem (by omega)))
  split
  · exact flip_flip z
  · rfl
theorem turn_congr {n : Nat} {b b' : Nat → Nat → Bool} {g : Grid} (h : Sq n g) (e : ∀ i j, i < n → j < n → b i j = b' i j) : turnG b g = turnG b' g := by
  refine grid_ext (turnG_sq h) (turnG_sq h) fun i j hi hj => ?_
  rw [cell_turn h hi hj, cell_turn h hi hj, e i j hi hj]
theorem turn_none {n : Nat} {g : Grid} (h : Sq n g) : turnG (fun _ _ => false) g = g := by
  refine grid_ext (turnG_sq h) h fun i j hi hj => ?_
  rw [cell_turn h hi hj]
  rfl
/-- a dot put into a grid -/
def putG (g : Grid) (i j : Nat) (o : Option Nat) : Grid := g.set i ((g.getD i []).set j o)
theorem putG_sq {n : Nat} {g : Grid} {i j : Nat} {o : Option Nat} (h : Sq n g) (hi : i < n) (ho : DotOk o) : Sq n (putG g i j o) where
  len := by unfold putG; rw [List.length_set, h.len]
  row r hr := by
    have l := h.len
    rcases List.mem_or_eq_of_mem_set hr with h1 | rfl
    · exact h.row r h1
    · rw [List.length_set]
      exact h.row _ (getD_mem (by omega))
  dot r hr x hx := by
    have l := h.len
    rcases List.mem_or_eq_of_mem_set hr with h1 | rfl
    · exact h.dot r h1 x hx
    · rcases List.mem_or_eq_of_mem_set hx with h2 | rfl
      · exact h.dot _ (getD_mem (by omega)) x h2
      · exact ho
theorem cell_put {n : Nat} {g : Grid} {i j a b : Nat} {o : Option Nat} (h : Sq n g) (hi : i < n) (hj : j < n) (ha : a < n) (hb : b < n) : cell (putG g i j o) a b = if a = i ∧ b = j then o else cell g a b := by
  have l := h.len
  have r1 := h.row _ (getD_mem (d := []) (show i < g.length by omega))
  unfold cell putG
  by_cases c : a = i
  · subst c
    rw [List.getD_eq_getElem?_getD (l := g.set a _), List.getElem?_set_self (by omega)]
    simp only [Option.getD_some, true_and]
    by_cases d : b = j
    · subst d
      rw [if_pos rfl, List.getD_eq_getElem?_getD, List.getElem?_set_self (by omega)]
      rfl
    · rw [if_neg d, List.getD_eq_getElem?_getD, List.getElem?_set_ne (by omega), ← List.getD_eq_getElem?_getD]
  · rw [if_neg (fun z => c z.1), List.getD_eq_getElem?_getD (l := g.set i _), List.getElem?_set_ne (by omega), ← List.getD_eq_getElem?_getD]
/-- one more dot turned -/
theorem turn_put {n : Nat} {b b' : Nat → Nat → Bool} {g : Grid} {i j : Nat} (h : Sq n g) (hi : i < n) (hj : j < n) (h0 : b i j = false) (h1 : b' i j = true) (e : ∀ x y, x < n → y < n → ¬(x = i ∧ y = j) → b' x y = b x y) : putG (turnG b g) i j (flipO (cell g i j)) = turnG b' g := by
  have l := h.len
  have z : DotOk (cell g i j) := dot_getD (h.dot _ (getD_mem (by omega)))
  refine grid_ext (putG_sq (turnG_sq h) hi (flip_ok z)) (turnG_sq h) fun x y hx hy => ?_
  rw [cell_put (turnG_sq h) hi hj hx hy]
  by_cases c : x = i ∧ y = j
  · obtain ⟨rfl, rfl⟩ := c
    rw [if_pos ⟨rfl, rfl⟩, cell_turn h hx hy, h1]
    rfl
  · rw [if_neg c, cell_turn h hx hy, cell_turn h hx hy, e x y hx hy c]
theorem turn_keep {n : Nat} {b b' : Nat → Nat → Bool} {g : Grid} {i j : Nat} (h : Sq n g) (hi : i < n) (hj : j < n) (hn : cell g i j = none ∨ b' i j = b i j) (e : ∀ x y, x < n → y < n → ¬(x = i ∧ y = j) → b' x y = b x y) : turnG b g = turnG b' g := by
  refine grid_ext (turnG_sq h) (turnG_sq h) fun x y hx hy => ?_
  rw [cell_turn h hx hy, cell_turn h hx hy]
  by_cases c : x = i ∧ y = j
  · obtain ⟨rfl, rfl⟩ := c
    rcases hn with hn | hn
    · rw [hn]
      split <;> split <;> rfl
    · rw [hn]
  · rw [e x y hx hy c]
end My

set_option Elab.async false
set_option linter.all false
set_option maxRecDepth 100000
set_option maxHeartbeats 400000
/-! ### zip of a row, list or tuple, and a tuple -/
namespace My
open PySem PySem.Spec PyProof.Rows L2
def iZipRT (K : PySem.W.Frag) (ta : TA) : TI := fun σ H R => ta σ H fun vs H1 => ∃ (a b : Addr) (xs ys : List V) (k : Bool), vs = [.ref a, .ref b] ∧ SqB k K H1 a xs ∧ SqB false K H1 b ys ∧ R (ItzB k false K a b) H1
theorem pi_zipRT {X : Cx} {K : PySem.W.Frag} {e e2 : Expr} {ta : TA} {p pos tpos : Pos} {elts : List Expr} {kk : Nat} (hK : X.K = K) (hg : Gl X "zip") (hm : X.mg "zip" = none) (ha : PA X [e, e2] ta)
    (hs : starEach [e, e2] X.env = (false, eval e X.env) :: starEach [e2] X.env := by rfl) (hpl : (backTo pos (starEach [e2] X.env)).any (·.1) = false := by rfl) :
    PI X (.Tuple elts kk tpos) (.Call (.Name "zip" p) [e, e2] [] pos) (iZipRT K ta) := by
  subst hK
  refine ⟨fun pins s σ H R I h => ?_⟩
  refine Call_ (ld_blt I hg hm PyProof.Rows.boot_zip (PyProof.Rows.callWith_type1 (thn (ha.run pos pins s σ H _ I h) fun us s1 ⟨vs, H1, I1, r1, q1⟩ => ?_) hs hpl))
  obtain ⟨a, b, xs, ys, k, ex, hqx, hqy, q⟩ := q1
  subst ex
  obtain ⟨its, rv, p1⟩ := inv_sq I1 hqx
  obtain ⟨its2, rv2, p2⟩ := inv_sq I1 hqy
  cases r1 with
  | cons r rr =>
    cases rr with
    | cons r' rr =>
      cases rr
      cases r
      cases r'
      have fr : ∀ c, s1.heap.objs.size ≤ c → FpOk X pins H1 c := fun c hle => I1.fpOk hle (I1.hok.fresh hle)
      have fr5 : ∀ c, c ∈ [s1.heap.objs.size + 4, s1.heap.objs.size + 2, s1.heap.objs.size + 3, s1.heap.objs.size, s1.heap.objs.size + 1] → FpOk X pins H1 c := fun c hcm => by
        refine fr c ?_
        have e' : c = s1.heap.objs.size + 4 ∨ c = s1.heap.objs.size + 2 ∨ c = s1.heap.objs.size + 3 ∨ c = s1.heap.objs.size ∨ c = s1.heap.objs.size + 1 := by simpa using hcm
        rcases e' with z | z | z | z | z
        · rw [z]; exact Nat.le_add_right _ _
        · rw [z]; exact Nat.le_add_right _ _
        · rw [z]; exact Nat.le_add_right _ _
        · rw [z]; exact Nat.le_refl _
        · rw [z]; exact Nat.le_add_right _ _
      cases k with
      | true =>
        refine call_zipLT p1 p2 fun h' hz hTI hTO h1 h2 hk => wpAny_pyIter_zip hz ?_
        have I2 : Inv X pins σ H1 { s1 with heap := h' } := I1.kept (t' := s1.toks) hk
        have T : Turn X.prog X.w X.K (.Tuple elts kk tpos) (ItzB true false X.K a b) _ _ _ := turn_zipB (PySem.W.ktu_apart s1.heap.objs.size a b (Sq1.lt p1) (Sq1.lt p2))
        exact ⟨s1.heap.objs.size + 4, [s1.heap.objs.size + 4, s1.heap.objs.size + 2, s1.heap.objs.size + 3, s1.heap.objs.size, s1.heap.objs.size + 1], _, _, H1, rfl, I2, T, ⟨hz, hTI, ⟨_, _, hTO⟩, h1, h2⟩, fr5, q⟩
      | false =>
        refine RZ.call_zipT p1 p2 fun h' hz hTI hTO h1 h2 hsz hk => wpAny_pyIter_zip hz ?_
        have I2 : Inv X pins σ H1 { s1 with heap := h' } := I1.kept (t' := s1.toks) hk
        have T : Turn X.prog X.w X.K (.Tuple elts kk tpos) (ItzB false false X.K a b) _ _ _ := turn_zipB (PySem.W.ktu_apart s1.heap.objs.size a b (Sq1.lt p1) (Sq1.lt p2))
        exact ⟨s1.heap.objs.size + 4, [s1.heap.objs.size + 4, s1.heap.objs.size + 2, s1.heap.objs.size + 3, s1.heap.objs.size, s1.heap.objs.size + 1], _, _, H1, rfl, I2, T, ⟨hz, hTI, ⟨_, _, hTO⟩, h1, h2⟩, fr5, q⟩
theorem un1 {k : Nat} {A : Around} (r : Room k A) : A.units + 65 < cLine := by have := r.un; omega
theorem op_notInDK {X : Cx} {K : PySem.W.Frag} (h : X.K = K) (hu : X.A.units + 65 < cLine) : OpR X (compareOp .NotIn) (rNotInD K) := by
  subst h
  exact op_notInD hu
end My

set_option Elab.async false
set_option linter.all false
set_option maxRecDepth 100000
set_option maxHeartbeats 1000000
/-! ### how long a shown grid of dots is -/
namespace My
open PySem PySem.Spec PyProof.Rows L2
theorem dot_shown {o : Option Nat} (h : DotOk o) : (PyData.shown (dG o)).length ≤ 4 ∧ (dG o).showable = true := by
  rcases h with rfl | rfl | rfl <;> decide +kernel
theorem dotRow_show : ∀ r : List (Option Nat), (∀ o ∈ r, DotOk o) → PyData.showableAll (r.map dG) = true
  | [], _ => rfl
  | o :: r, h => by
    show ((dG o).showable && PyData.showableAll (r.map dG)) = true
    rw [(dot_shown (h o (List.mem_cons_self ..))).2, dotRow_show r fun y hy => h y (List.mem_cons_of_mem _ hy)]
    rfl
theorem dots_show : ∀ g : Grid, (∀ r ∈ g, ∀ o ∈ r, DotOk o) → PyData.showableAll (g.map dRow) = true
  | [], _ => rfl
  | r :: g, h => by
    show (PyData.showableAll (r.map dG) && PyData.showableAll (g.map dRow)) = true
    rw [dotRow_show r (h r (List.mem_cons_self ..)), dots_show g fun q hq => h q (List.mem_cons_of_mem _ hq)]
    rfl
theorem dots_len {n : Nat} {g : Grid} (sq : Sq n g) (hn : n ≤ 24) : (PyData.shown (dGr g)).length ≤ 4000 := by
  have e : PyData.shown (dGr g) = listText ((g.map dRow).map PyData.shown) := by
    rw [← shownAll_map]
    rfl
  rw [e]
  have l : ∀ t ∈ (g.map dRow).map PyData.shown, t.length ≤ 150 := by
    intro t ht
    obtain ⟨d, hd, rfl⟩ := List.mem_map.mp ht
    obtain ⟨r, hr, rfl⟩ := List.mem_map.mp hd
    have e2 : PyData.shown (dRow r) = listText ((r.map dG).map PyData.shown) := by
      rw [← shownAll_map]
      rfl
    rw [e2]
    have l2 := list_le (ts := (r.map dG).map PyData.shown) (m := 4) fun t ht => by
      obtain ⟨d, hd, rfl⟩ := List.mem_map.mp ht
      obtain ⟨o, ho, rfl⟩ := List.mem_map.mp hd
      exact (dot_shown (sq.dot r hr o ho)).1
    have := sq.row r hr
    rw [List.length_map, List.length_map] at l2
    omega
  have l3 := list_le l
  have := sq.len
  rw [List.length_map, List.length_map] at l3
  omega
theorem dots_reprs {K : PySem.W.Frag} {H : Hp} {a : Addr} {n : Nat} {g : Grid} (h : GrB true K H a g) (sq : Sq n g) (hn : n ≤ 24) :
    Dp K H (.ref a) (dGr g) ∧ (dGr g).showable = true ∧ (dGr g).hasDict = false ∧ (dGr g).depth ≤ 60 ∧ (dGr g).shown.length ≤ sizeLine := by
  refine ⟨h.dp, dots_show g fun r hr => sq.dot r hr, dGr_dict _, ?_, Nat.le_trans (dots_len sq hn) (by decide)⟩
  have := dRow_depth g
  show PyData.depthAll (g.map dRow) + 1 ≤ 60
  omega
end My

set_option Elab.async false
set_option linter.all false
set_option maxRecDepth 100000
set_option maxHeartbeats 1000000
/-! ### lists of dots: tuples of two, as they lie; whether a dot is among them -/
namespace My
open PySem PySem.Spec PyProof.Rows L2
def dQ (q : Nat × Nat) : PyData := .tuple [dI q.1, dI q.2]
def tQ (q : Nat × Nat) : HO := .tup [vN q.1, vN q.2]
theorem dI_eqv (x y : Nat) : PyData.eqv (dI x) (dI y) = decide (x = y) := by
  show ((x : Int) == (y : Int)) = decide (x = y)
  by_cases h : x = y
  · subst h; simp
  · simp [h]
    omega
theorem dQ_eqv (a b : Nat × Nat) : PyData.eqv (dQ a) (dQ b) = (a == b) := by
  show (PyData.eqv (dI a.1) (dI b.1) && (PyData.eqv (dI a.2) (dI b.2) && true)) = (a == b)
  rw [dI_eqv, dI_eqv, Bool.and_true]
  obtain ⟨a1, a2⟩ := a
  obtain ⟨b1, b2⟩ := b
  by_cases h : a1 = b1 <;> by_cases h2 : a2 = b2 <;> simp [h, h2]
theorem dQ_any (q : Nat × Nat) : ∀ w : List (Nat × Nat), ((w.map dQ).any fun z => PyData.eqv z (dQ q)) = w.contains q
  | [] => rfl
  | a :: w => by
    show (PyData.eqv (dQ a) (dQ q) || ((w.map dQ).any fun z => PyData.eqv z (dQ q))) = (a :: w).contains q
    rw [dQ_any q w, dQ_eqv, List.contains_cons]
    by_cases h : a = q
    · subst h; simp
    · have h2 : ¬ q = a := fun z => h z.symm
      rw [beq_false_of_ne h, beq_false_of_ne h2]
theorem dQ_lay : ∀ w : List (Nat × Nat), PyData.canLayAll0 (w.map dQ) = true
  | [] => rfl
  | q :: w => by
    show (PyData.canLay0 (dQ q) && PyData.canLayAll0 (w.map dQ)) = true
    rw [dQ_lay w]
    rfl
theorem dQ_depth : ∀ w : List (Nat × Nat), PyData.depthAll (w.map dQ) ≤ 1
  | [] => Nat.zero_le _
  | q :: w => by
    show max (PyData.depth (dQ q)) (PyData.depthAll (w.map dQ)) ≤ 1
    have := dQ_depth w
    have e : PyData.depth (dQ q) = 1 := rfl
    omega
theorem dQ_shaped (q : Nat × Nat) : SeqAt.shaped (dQ q) = true := rfl
theorem dQs_shaped (w : List (Nat × Nat)) : SeqAt.shaped (.list (w.map dQ)) = true := by
  unfold SeqAt.shaped
  have h1 : PyData.canLay0 (.list (w.map dQ)) = true := dQ_lay w
  have h2 : PyData.depth (.list (w.map dQ)) ≤ 64 := by
    show PyData.depthAll (w.map dQ) + 1 ≤ 64
    have := dQ_depth w
    omega
  rw [h1, Bool.true_and]
  exact decide_eq_true h2
/-- the dots of a way, each a tuple of its own -/
structure Spots (H : Hp) (L : List Addr) (w : List (Nat × Nat)) : Prop where
  len : L.length = w.length
  at' : ∀ (j : Nat) (l : Addr) (q : Nat × Nat), L[j]? = some l → w[j]? = some q → H l = some (tQ q)
theorem Spots.nil {H : Hp} : Spots H [] [] := ⟨rfl, fun j l q e => by cases e⟩
theorem Spots.same {H H2 : Hp} {L : List Addr} {w : List (Nat × Nat)} (h : Spots H L w) (s : Same H H2) : Spots H2 L w := ⟨h.len, fun j l q e1 e2 => s _ _ (h.at' j l q e1 e2)⟩
/-- what is no list stays -/
theorem Spots.keep {H H2 : Hp} {L : List Addr} {w : List (Nat × Nat)} (h : Spots H L w) (s : ∀ b xs, H b = some (.tup xs) → H2 b = some (.tup xs)) : Spots H2 L w := ⟨h.len, fun j l q e1 e2 => s _ _ (h.at' j l q e1 e2)⟩
theorem Spots.append {H : Hp} {L M : List Addr} {w v : List (Nat × Nat)} (h : Spots H L w) (g : Spots H M v) : Spots H (L ++ M) (w ++ v) where
  len := by rw [List.length_append, List.length_append, h.len, g.len]
  at' j l q e1 e2 := by
    by_cases c : j < L.length
    · rw [List.getElem?_append_left c] at e1
      rw [List.getElem?_append_left (by rw [← h.len]; exact c)] at e2
      exact h.at' j l q e1 e2
    · rw [List.getElem?_append_right (by omega)] at e1
      rw [List.getElem?_append_right (by rw [← h.len]; omega), ← h.len] at e2
      exact g.at' _ l q e1 e2
theorem Spots.one {H : Hp} {t : Addr} {q : Nat × Nat} (h : H t = some (tQ q)) : Spots H [t] [q] := ⟨rfl, fun j l r e1 e2 => by
  cases j with
  | zero => cases e1; cases e2; exact h
  | succ j => cases e1⟩
theorem Spots.snoc {H : Hp} {L : List Addr} {w : List (Nat × Nat)} {t : Addr} {q : Nat × Nat} (h : Spots H L w) (g : H t = some (tQ q)) : Spots H (L ++ [t]) (w ++ [q]) := h.append (.one g)
theorem spot_dp {K : PySem.W.Frag} {H : Hp} {t : Addr} {q : Nat × Nat} (h : H t = some (tQ q)) : Dp K H (.ref t) (dQ q) := .tup (.inl (.inl h)) (.cons (.int _) (.cons (.int _) .nil))
theorem Spots.all {K : PySem.W.Frag} {H : Hp} : ∀ {L : List Addr} {w : List (Nat × Nat)}, Spots H L w → DpAll K H (L.map V.ref) (w.map dQ)
  | [], [], _ => .nil
  | [], _ :: _, h => by cases h.len
  | _ :: _, [], h => by cases h.len
  | l :: L, q :: w, h => .cons (spot_dp (h.at' 0 l q rfl rfl)) (Spots.all ⟨Nat.succ.inj h.len, fun j l' q' e1 e2 => h.at' (j + 1) l' q' e1 e2⟩)
theorem Spots.dp {K : PySem.W.Frag} {H : Hp} {F : Addr} {L : List Addr} {w : List (Nat × Nat)} (h : Spots H L w) (g : SqL K H F (L.map V.ref)) : Dp K H (.ref F) (.list (w.map dQ)) := .lst g h.all
end My

set_option Elab.async false
set_option linter.all false
set_option maxRecDepth 100000
set_option maxHeartbeats 1000000
/-! ### f'{n:b}' -/
namespace My
open PySem PySem.Spec PyProof.Rows L2
open Builtin Builtin.Str Builtin.Int Builtin.Float
def bText (n : Nat) : Str := ⟨((Nat.toDigits 2 n).map Char.toNat).toArray⟩
def bSpec : Str := Str.ofString "b"
theorem parse_b : ∃ f, parseFormatSpec bSpec.cps.toList "int" 62 = .ok f ∧ f.type = some 98 ∧ f.precision = none ∧ f.noNeg0 = false ∧ f.alt = false ∧ f.width = none ∧ f.grouping = none ∧ f.sign = none ∧ f.align = 62 := ⟨_, rfl, rfl, rfl, rfl, rfl, rfl, rfl, rfl, rfl⟩
section
variable {prog : Program} {w : World} {A : Around} {E : Value → Shared → Prop} {s : Shared}
theorem retStr_as {x y : Str} {Q : PySem.Fin → Shared → Prop} (e : x = y) (h : wpAny (model prog w) A (retStr y) Q E s) : wpAny (model prog w) A (retStr x) Q E s := by rw [e]; exact h
theorem formatField_b {n : Nat} {t : Tok} {Q : Value → Shared → Prop} (hz : (bText n).length ≤ sizeLine)
    (h : Q (.str (bText n) (s.toks + 1)) { s with toks := s.toks + 1 + 1 }) : wpAny (model prog w) A (formatField (.int n t) bSpec) Q E s := by
  obtain ⟨f, hp, h1, h2, h3, h4, h5, h6, h7, h8⟩ := parse_b
  show wpAny _ _ (holding [.int n t] (pyFormat (.int n t) bSpec)) Q E s
  refine wpAny_holding ?_
  unfold pyFormat
  refine wpAny_bind (wpAny_mkStr ?_ (by decide))
  refine wpAny_bind (m := callSpecial? (.int n t) (Str.ofString "__format__") [.str bSpec s.toks]) (wpAny_callSpecial?_slot (name := Str.ofString "__format__") (typeIs_int _ _ t) slot_int_format ?_)
  refine wpAny_call (codeAny_call_builtin slot_int_format.plain entry_int_format (slot_int_format.check _ _ _ _ _ _ _ _ (typeIs_int _ _ t) (args_int_format _ _) ?_))
  have hne : (bSpec.length == 0) = false := by decide
  have hasc : ((bSpec.cps.toList.drop 1).any (· ≥ 128) || (bSpec.cps.getD 0 0 ≥ 128 && !([60, 62, 61, 94] : List Nat).contains (bSpec.cps.getD 1 0))) = false := by decide
  unfold Builtin.«int.__format__»
  simp only [selfAndOne, noKeywords, Int.intOfSelf, asInt?, asStr?, List.isEmpty_nil, if_true, pure_bind, bind_pure, bind_assoc, hne, hasc, Bool.false_eq_true, if_false,
    show (Value.str bSpec s.toks == Value.none) = false from rfl]
  refine wpAny_bind (wpAny_typeNameOf (T := "str") (typeIs_str _ _ _) (by decide) fun _ => ?_)
  refine wpAny_bind (wpAny_typeNameOfCut_int ?_)
  simp only [hp, h1, Option.getD_some]
  rw [if_pos (by decide)]
  show wpAny _ _ (if _ then _ else _) _ _ _
  rw [if_neg (by simp [h2])]
  show wpAny _ _ (if _ then _ else _) _ _ _
  rw [if_neg (by simp [h3])]
  show wpAny _ _ (if _ then _ else _) _ _ _
  rw [if_neg (by decide)]
  rw [if_pos (show ((98 : Nat) == 98) = true from rfl)]
  show wpAny _ _ (if ((2 : Nat) == 10) = true then _ else _) _ _ _
  rw [if_neg (by decide)]
  show wpAny _ _ (if f.width.getD 0 > 100000 then _ else _) _ _ _
  rw [if_neg (by rw [h5]; decide)]
  show wpAny _ _ (retStr _) _ _ _
  refine retStr_as (y := bText n) ?_ ?_
  · conv => lhs; whnf
    have hneg : decide ((n : Int) < 0) = false := decide_eq_false (by omega)
    simp only [h4, h5, h6, h7, h8, hneg]
    simp [bText]
    cases instDecidableEqBool (f.align == 60) true <;> simp
  · unfold retStr
    refine wpAny_bind (wpAny_mkStr (wpAny_pure ?_) hz)
    exact wpAny_bind (wpAny_isInstance (typeIs_str _ _ _) isSubtype_str_str (wpAny_pure h))
end
section
variable {X : Cx}
/-- {x:b}, x a whole number not below nought -/
def tFmtB (te : TE) : TE := fun σ H Q => te σ H fun x H1 => ∃ n : Nat, x = .int n ∧ (bText n).length ≤ sizeLine ∧ Q (.str (bText n)) H1
theorem pe_fmtB {e : Expr} {te : TE} {k : Nat} {p2 p3 pos : Pos} (he : PE X e te) : PE X (.FormattedValue e (-1) (some (.JoinedStr [.Constant (.str "b") k p2] p3)) pos) (tFmtB te) := by
  refine ⟨fun pins s σ H Q I h => ?_⟩
  refine wpAny_FormattedValue_spec (thn (he.run pins s σ H _ I h) fun v s1 hv => ?_)
  obtain ⟨x, H1, I1, r1, n, rfl, hz, q⟩ := hv
  obtain ⟨t, rfl⟩ := r1
  refine thn ((pe_joined1 (pe_str (X := X))).run pins s1 σ H1 (fun x H2 => x = .str bSpec ∧ H2 = H1) I1 ⟨rfl, rfl⟩) fun r s2 hr => ?_
  obtain ⟨x2, H2, I2, r2, rfl, rfl⟩ := hr
  obtain ⟨t2, rfl⟩ := r2
  exact ⟨bSpec, t2, rfl, formatField_b hz ⟨.str (bText n), H2, I2.tok _, ⟨_, rfl⟩, q⟩⟩
end
end My

set_option Elab.async false
set_option linter.all false
set_option maxRecDepth 100000
set_option maxHeartbeats 1000000
/-! ### t.count(sign): how often a sign stands in a text -/
namespace My
open PySem PySem.Spec PyProof.Rows L2
open Builtin Builtin.Str StrLaws
theorem sub_at {L : List Nat} {c i : Nat} (h : i < L.length) : subAt ⟨L.toArray⟩ ⟨#[c]⟩ i = decide (L[i] = c) := by
  have e : L.toArray.extract i (i + 1) = #[L[i]] := by
    apply Array.ext
    · simp
      omega
    · intro j h1 h2
      have : j = 0 := by simpa using h2
      subst this
      simp
  show (L.toArray.extract i (i + 1) == #[c]) = _
  rw [e]
  by_cases z : L[i] = c
  · rw [z, decide_eq_true rfl]
    exact beq_self_eq_true _
  · rw [decide_eq_false z, beq_eq_false_iff_ne]
    intro y
    exact z (by simpa using y)
theorem cnt_from (L : List Nat) (c : Nat) : ∀ (k i : Nat) (fnd : Array Nat) (free : Nat), i + k = L.length + 1 → free ≤ i → fnd.size ≤ i →
    (forIn (List.range' i k) (fnd, free) (occBody ⟨L.toArray⟩ ⟨#[c]⟩ L.length (L.length + 1))).run.fst.size = fnd.size + (L.drop i).count c
  | 0, i, fnd, free, h, _, _ => by
    rw [List.drop_eq_nil_of_le (by omega)]
    rfl
  | k + 1, i, fnd, free, h, hf, hs => by
    rw [List.range'_succ, List.forIn_cons]
    have hlen : (⟨#[c]⟩ : Str).length = 1 := rfl
    by_cases hi : i < L.length
    · have hd : L.drop i = L[i] :: L.drop (i + 1) := List.drop_eq_getElem_cons hi
      unfold occBody
      by_cases z : L[i] = c
      · rw [if_pos ⟨⟨⟨by show fnd.size < L.length + 1; omega, hf⟩, by rw [hlen]; omega⟩, by rw [sub_at hi, decide_eq_true z]⟩]
        have ih := cnt_from L c k (i + 1) (fnd.push i) (i + (⟨#[c]⟩ : Str).length) (by omega) (by rw [hlen]; exact Nat.le_refl _) (by rw [Array.size_push]; omega)
        rw [Array.size_push] at ih
        rw [hd, z, List.count_cons_self]
        refine Eq.trans ih ?_
        omega
      · rw [if_neg (fun y => z (by have := y.2; rw [sub_at hi] at this; exact of_decide_eq_true this))]
        have ih := cnt_from L c k (i + 1) fnd free (by omega) (by omega) (by omega)
        rw [hd, List.count_cons_of_ne z]
        exact ih
    · unfold occBody
      rw [if_neg (fun y => hi (by have := y.1.2; rw [hlen] at this; omega))]
      have ih := cnt_from L c k (i + 1) fnd free (by omega) (by omega) (by omega)
      rw [List.drop_eq_nil_of_le (by omega)] at ih ⊢
      exact ih
theorem count_sign (L : List Nat) (c : Nat) : Txt.count ⟨L.toArray⟩ ⟨#[c]⟩ = ((L.count c : Nat) : Int) := by
  show ((occurrences ⟨L.toArray⟩ ⟨#[c]⟩ 0 (Str.length ⟨L.toArray⟩) ((Str.length ⟨L.toArray⟩) + 1)).length : Int) = _
  have hl : Str.length ⟨L.toArray⟩ = L.length := by show L.toArray.size = _; simp
  rw [hl, occ_eq, Array.length_toList]
  have := cnt_from L c (L.length + 1) 0 #[] 0 (by omega) (Nat.le_refl _) (Nat.zero_le _)
  rw [List.drop_zero] at this
  rw [show L.length + 1 - 0 = L.length + 1 from rfl, this]
  simp
/-- how many bits of a number are one -/
def pop (n : Nat) : Nat := ((Nat.toDigits 2 n).map Char.toNat).count 49
theorem ones_b (n : Nat) : Txt.count (bText n) ⟨#[49]⟩ = ((pop n : Nat) : Int) := count_sign _ _
theorem pop_zero : pop 0 = 0 := by decide
theorem pop_one : pop 1 = 1 := by decide
theorem pop_step {n d : Nat} (hn : 0 < n) (hd : d < 2) : pop (2 * n + d) = pop n + d := by
  unfold pop
  rw [← Nat.toDigits_append_toDigits (by decide) hn hd, List.map_append, List.count_append]
  have : d = 0 ∨ d = 1 := by omega
  rcases this with rfl | rfl
  · rfl
  · rfl
theorem pop_rec (n : Nat) : pop n = pop (n / 2) + n % 2 := by
  by_cases h : n < 2
  · have : n = 0 ∨ n = 1 := by omega
    rcases this with rfl | rfl <;> decide
  · have e : 2 * (n / 2) + n % 2 = n := by omega
    have := pop_step (n := n / 2) (d := n % 2) (by omega) (by omega)
    rw [e] at this
    exact this
/-- how many of the first bits are one -/
theorem pop_bits : ∀ (k n : Nat), n < 2 ^ k → pop n = ((List.range k).filter fun i => n.testBit i).length
  | 0, n, h => by
    have : n = 0 := by simpa using h
    subst this
    decide
  | k + 1, n, h => by
    have h2 : n / 2 < 2 ^ k := by rw [Nat.pow_succ] at h; omega
    rw [pop_rec, pop_bits k (n / 2) h2, List.range_succ_eq_map, List.filter_cons]
    have e : ((List.range k).map Nat.succ).filter (fun i => n.testBit i) = ((List.range k).filter fun i => (n / 2).testBit i).map Nat.succ := by
      rw [List.filter_map]
      congr 1
      refine List.filter_congr fun i _ => ?_
      show n.testBit (i + 1) = (n / 2).testBit i
      rw [Nat.testBit_succ]
    rw [e]
    have z : n.testBit 0 = decide (n % 2 = 1) := Nat.testBit_zero n
    rw [z]
    by_cases b : n % 2 = 1
    · rw [if_pos (by simp [b]), List.length_cons, List.length_map, b]
    · have b0 : n % 2 = 0 := by omega
      rw [if_neg (by simp [b0]), List.length_map, b0]; rfl
end My

set_option Elab.async false
set_option linter.all false
set_option maxRecDepth 100000
set_option maxHeartbeats 1000000
/-! ### int(t, 2), t a text of noughts and ones -/
namespace My
open PySem PySem.Spec PyProof.Rows L2
open PySem.NumText PySem.Calls
def IsBin (c : Nat) : Prop := c = 48 ∨ c = 49
def binNum (l : List Nat) : Nat := l.foldl (fun a c => a * 2 + (c - 48)) 0
theorem bin_hex {c : Nat} (h : IsBin c) : Hx.IsHex c ∧ Hx.hv c = c - 48 ∧ Hx.hv c < 2 := by
  rcases h with rfl | rfl
  · exact ⟨.inl ⟨by decide, by decide⟩, by decide, by decide⟩
  · exact ⟨.inl ⟨by decide, by decide⟩, by decide, by decide⟩
theorem all_hex {cs : List Nat} (h : ∀ c ∈ cs, IsBin c) : ∀ c ∈ cs, Hx.IsHex c := fun c hc => (bin_hex (h c hc)).1
theorem step_bin {ds : Array Nat} {b : Bool} {c : Nat} (h : IsBin c) : PySem.NumText.step 2 (ds, b) c = some (ds.push (c - 48), true) := by
  obtain ⟨h1, h2, h3⟩ := bin_hex h
  unfold PySem.NumText.step
  rw [if_neg (by rw [beq_iff_eq]; rcases h with rfl | rfl <;> decide), Hx.digit_hex h1, ← h2]
  exact if_pos h3
theorem fold_bin : ∀ (cs : List Nat) (ds : Array Nat), (∀ c ∈ cs, IsBin c) → cs.foldlM (PySem.NumText.step 2) (ds, true) = some (cs.foldl (fun acc c => acc.push (c - 48)) ds, true)
  | [], _, _ => rfl
  | c :: cs, ds, h => by
    rw [List.foldlM_cons, step_bin (h c (List.mem_cons_self ..))]
    exact fold_bin cs _ fun d hd => h d (List.mem_cons_of_mem _ hd)
theorem digits_bin {cs : List Nat} (h : ∀ c ∈ cs, IsBin c) (hne : cs ≠ []) : digits? 2 cs = some (cs.foldl (fun acc c => acc.push (c - 48)) #[]) := by
  cases cs with
  | nil => exact absurd rfl hne
  | cons c cs =>
    unfold digits?
    rw [List.foldlM_cons, step_bin (h c (List.mem_cons_self ..))]
    show (cs.foldlM (PySem.NumText.step 2) ((#[] : Array Nat).push (c - 48), true)).bind _ = _
    rw [fold_bin cs _ fun d hd => h d (List.mem_cons_of_mem _ hd)]
    rfl
theorem worth_bin : ∀ (cs : List Nat) (ds : Array Nat), (cs.foldl (fun acc c => acc.push (c - 48)) ds).foldl (fun acc d => acc * 2 + d) 0 = cs.foldl (fun a c => a * 2 + (c - 48)) (ds.foldl (fun acc d => acc * 2 + d) 0)
  | [], _ => rfl
  | c :: cs, ds => by
    rw [List.foldl_cons, worth_bin cs, List.foldl_cons]
    congr 1
    simp
theorem based_bin {cs : List Nat} (h : ∀ c ∈ cs, IsBin c) : based 2 cs = (2, false, cs) := by
  match cs, h with
  | [], _ => rfl
  | [a], h =>
    rcases h a (List.mem_cons_self ..) with rfl | rfl <;> rfl
  | a :: c :: r, h =>
    have hc := h c (List.mem_cons_of_mem _ (List.mem_cons_self ..))
    rcases h a (List.mem_cons_self ..) with rfl | rfl <;> rcases hc with rfl | rfl <;> rfl
theorem read_bin {cs : List Nat} (h : ∀ c ∈ cs, IsBin c) (hne : cs ≠ []) : (int_private% "readNumeral") 0 2 cs = (int_private% "Numeral.value") ((binNum cs : Nat) : Int) := by
  have hr : ∀ c ∈ cs.reverse, IsBin c := fun c hc => h c (List.mem_reverse.mp hc)
  refine (readNumeral_eq 0 2 cs).trans ?_
  rw [Hx.dropB (all_hex h), Hx.signH (all_hex h)]
  show judge 0 false (based 2 cs).1 (based 2 cs).2.1 (digits? (based 2 cs).1 (((based 2 cs).2.2.reverse.dropWhile blank).reverse)) = _
  rw [based_bin h]
  show judge 0 false 2 false (digits? 2 ((cs.reverse.dropWhile blank).reverse)) = _
  rw [Hx.dropB (all_hex hr), List.reverse_reverse, digits_bin h hne]
  show (int_private% "Numeral.value") (((cs.foldl (fun acc c => acc.push (c - 48)) (#[] : Array Nat)).foldl (fun acc d => acc * 2 + d) 0 : Nat) : Int) = _
  have z : (#[] : Array Nat).foldl (fun acc d => acc * 2 + d) 0 = 0 := by first | rfl | simp
  rw [worth_bin, z] <;> rfl
set_option maxHeartbeats 4000000 in
theorem gives_bin {x : PySem.Str} {u t : Tok} (hl : x.length ≤ 640) (h : ∀ c ∈ x.cps.toList, IsBin c) (hne : x.cps.toList ≠ []) :
    Gives (Builtin.«int.__new__» ⟨[.type "int", .str x u, .int 2 t], []⟩) (.int ((binNum x.cps.toList : Nat) : Int)) :=
  .of_wp fun M A E s Q hQ => by
    obtain ⟨hp, g, d, tk, os⟩ := s
    have f1 := F.conv_sub_int
    have f2 := F.madeHere_int
    have f6 : typeOf (.str x u) = pure (.type "str") := rfl
    obtain ⟨e1, e2⟩ := Hx.seen_hex (all_hex h)
    have key : Hx.Hid ((numSeenOf x).length ≤ 640 ∧ (int_private% "readNumeral") 0 2 (numSeenOf x) = (int_private% "Numeral.value") ((binNum x.cps.toList : Nat) : Int) ∧ ((numSeenOf x).length == (numTextOf x).length) = true) :=
      ⟨by rw [e2, Array.length_toList]; exact hl, by rw [e2]; exact read_bin h hne, by rw [e1, e2]; exact beq_self_eq_true _⟩
    clear e1 e2 hl hne h
    repeat (any_goals (first
      | assumption
      | ((with_reducible show wpAny _ _ ((int_private% "intFromText") _ _ _) _ _ _); refine Hx.wp_textB key.out.1 key.out.2.1 key.out.2.2 ?_)
      | wp_step))
    all_goals first | exact ⟨_, rfl, hQ⟩ | skip
/-- int(t, 2) -/
def rIntBin : List V → Hp → VK → Prop := fun xs H Q => ∃ l : List Nat, xs = [.str (SX.S l), .int 2] ∧ l ≠ [] ∧ l.length ≤ 640 ∧ (∀ c ∈ l, IsBin c) ∧ Q (.int ((binNum l : Nat) : Int)) H
theorem call_int_bin {X : Cx} : CallR X (.type "int") rIntBin := by
  intro pins s σ H xs us Q I r h
  obtain ⟨l, rfl, hne, hl, hx, q⟩ := h
  obtain ⟨u, w', rfl, r1, r2⟩ := vals2 r
  obtain ⟨t1, rfl⟩ := r1
  obtain ⟨t2, rfl⟩ := r2
  exact callType_new F.called_int F.newNe_int (Hx.typeCall_int_2 _ _) (Hx.newCall_int_2 _ _) (fun obj => F.initArgs_range_2 obj _ _) F.entry_int_new (gives_bin (x := SX.S l) (by rw [SX.S_len]; exact hl) hx hne).meets (show (Made.int ((binNum l : Nat) : Int)).post _ s from ⟨rfl, ⟨.int ((binNum l : Nat) : Int), H, I.tok _, ⟨_, rfl⟩, q⟩⟩)
end My

set_option Elab.async false
set_option linter.all false
set_option maxRecDepth 100000
set_option maxHeartbeats 1000000
/-! ### formats: their words, and how far a strip is from one -/
namespace My
open PySem PySem.Spec PyProof.Rows L2
def fwL : List Nat := [709, 752, 666, 687, 590, 635, 529, 548, 979, 998, 908, 953, 856, 877, 775, 818, 220, 233, 131, 182, 87, 98, 8, 61, 458, 511, 405, 416, 321, 372, 286, 299]
def fwF (i : Nat) : Nat := fwL.getD i 0
theorem fw_lt {i : Nat} : fwF i < 1024 := by
  unfold fwF
  by_cases h : i < 32
  · have q : ((List.range 32).all fun i => decide (fwL.getD i 0 < 1024)) = true := by decide +kernel
    exact of_decide_eq_true (List.all_eq_true.mp q i (List.mem_range.mpr h))
  · rw [List.getD_eq_getElem?_getD, List.getElem?_eq_none (by show 32 ≤ i; omega)]
    decide
/-- the number of bits written one behind the other, the first the highest -/
def stp (a x : Nat) : Nat := 2 * a + x
def foldB (l : List Nat) : Nat := l.foldl stp 0
theorem foldB_snoc (l : List Nat) (x : Nat) : foldB (l ++ [x]) = 2 * foldB l + x := by
  unfold foldB
  rw [List.foldl_append]
  rfl
theorem foldl_lt : ∀ (l : List Nat) (a k : Nat), (∀ x ∈ l, x < 2) → a < 2 ^ k → l.foldl stp a < 2 ^ (k + l.length)
  | [], a, k, _, h => h
  | x :: l, a, k, hb, h => by
    have hx := hb x (List.mem_cons_self ..)
    have := foldl_lt l (stp a x) (k + 1) (fun y hy => hb y (List.mem_cons_of_mem _ hy)) (by unfold stp; rw [Nat.pow_succ]; omega)
    rw [List.foldl_cons, List.length_cons, show k + (l.length + 1) = k + 1 + l.length by omega]
    exact this
theorem foldB_lt {l : List Nat} (h : ∀ x ∈ l, x < 2) : foldB l < 2 ^ l.length := by
  have := foldl_lt l 0 0 h (by decide)
  rw [Nat.zero_add] at this
  exact this
theorem dbl_div {a x : Nat} (h : x < 2) : (2 * a + x) / 2 = a := by omega
theorem dbl_mod {a x : Nat} (h : x < 2) : (2 * a + x) % 2 = x := by omega
theorem dbl_xor {a b x y : Nat} (hx : x < 2) (hy : y < 2) : (2 * a + x) ^^^ (2 * b + y) = 2 * (a ^^^ b) + (x ^^^ y) := by
  have hz : x ^^^ y < 2 := by
    have : x = 0 ∨ x = 1 := by omega
    have : y = 0 ∨ y = 1 := by omega
    rcases ‹x = 0 ∨ x = 1› with rfl | rfl <;> rcases ‹y = 0 ∨ y = 1› with rfl | rfl <;> decide
  refine Nat.eq_of_testBit_eq fun i => ?_
  cases i with
  | zero =>
    rw [Nat.testBit_xor, Nat.testBit_zero, Nat.testBit_zero, Nat.testBit_zero, dbl_mod hx, dbl_mod hy, dbl_mod hz]
    have : x = 0 ∨ x = 1 := by omega
    have : y = 0 ∨ y = 1 := by omega
    rcases ‹x = 0 ∨ x = 1› with rfl | rfl <;> rcases ‹y = 0 ∨ y = 1› with rfl | rfl <;> decide
  | succ i => rw [Nat.testBit_xor, Nat.testBit_succ, Nat.testBit_succ, Nat.testBit_succ, dbl_div hx, dbl_div hy, dbl_div hz, Nat.testBit_xor]
theorem dbl_and {a b x y : Nat} (hx : x < 2) (hy : y < 2) : (2 * a + x) &&& (2 * b + y) = 2 * (a &&& b) + (x &&& y) := by
  have hz : x &&& y < 2 := by
    have : x = 0 ∨ x = 1 := by omega
    have : y = 0 ∨ y = 1 := by omega
    rcases ‹x = 0 ∨ x = 1› with rfl | rfl <;> rcases ‹y = 0 ∨ y = 1› with rfl | rfl <;> decide
  refine Nat.eq_of_testBit_eq fun i => ?_
  cases i with
  | zero =>
    rw [Nat.testBit_and, Nat.testBit_zero, Nat.testBit_zero, Nat.testBit_zero, dbl_mod hx, dbl_mod hy, dbl_mod hz]
    have : x = 0 ∨ x = 1 := by omega
    have : y = 0 ∨ y = 1 := by omega
    rcases ‹x = 0 ∨ x = 1› with rfl | rfl <;> rcases ‹y = 0 ∨ y = 1› with rfl | rfl <;> decide
  | succ i => rw [Nat.testBit_and, Nat.testBit_succ, Nat.testBit_succ, Nat.testBit_succ, dbl_div hx, dbl_div hy, dbl_div hz, Nat.testBit_and]
def darkF (cs : List (Option Nat)) : Nat := foldB (cs.map fun o => o.getD 0)
def seenF (cs : List (Option Nat)) : Nat := foldB (cs.map fun o => if o.isSome = true then 1 else 0)
/-- how many of the told dots are not as the bits say -/
def wrongF (bits : List Nat) (cs : List (Option Nat)) : Nat := ((bits.zip cs).filter fun p => decide (p.2 = some (1 - p.1))).length
theorem wrong_acc : ∀ (bits : List Nat) (cs : List (Option Nat)) (A D S : Nat), bits.length = cs.length → (∀ x ∈ bits, x < 2) → (∀ o ∈ cs, DotOk o) →
    pop ((bits.foldl stp A ^^^ (cs.map fun o => o.getD 0).foldl stp D) &&& (cs.map fun o => if o.isSome = true then 1 else 0).foldl stp S) = pop ((A ^^^ D) &&& S) + wrongF bits cs
  | [], [], A, D, S, _, _, _ => rfl
  | [], _ :: _, _, _, _, h, _, _ => by simp at h
  | _ :: _, [], _, _, _, h, _, _ => by simp at h
  | x :: bits, o :: cs, A, D, S, hl, hb, hc => by
    have hx := hb x (List.mem_cons_self ..)
    have ho := hc o (List.mem_cons_self ..)
    have hd : o.getD 0 < 2 := by rcases ho with rfl | rfl | rfl <;> decide
    have hs : (if o.isSome = true then 1 else 0) < 2 := by split <;> decide
    rw [List.map_cons, List.map_cons, List.foldl_cons, List.foldl_cons, List.foldl_cons]
    rw [wrong_acc bits cs _ _ _ (by simpa using hl) (fun y hy => hb y (List.mem_cons_of_mem _ hy)) (fun y hy => hc y (List.mem_cons_of_mem _ hy))]
    have hz : x ^^^ o.getD 0 < 2 := by
      have : x = 0 ∨ x = 1 := by omega
      rcases this with rfl | rfl <;> rcases ho with rfl | rfl | rfl <;> decide
    have hw : (x ^^^ o.getD 0) &&& (if o.isSome = true then 1 else 0) < 2 ∧ (x ^^^ o.getD 0) &&& (if o.isSome = true then 1 else 0) = (if decide (o = some (1 - x)) = true then 1 else 0) := by
      have : x = 0 ∨ x = 1 := by omega
      rcases this with rfl | rfl <;> rcases ho with rfl | rfl | rfl <;> decide
    unfold stp
    rw [dbl_xor hx hd, dbl_and hz hs, pop_rec, dbl_div hw.1, dbl_mod hw.1, hw.2]
    unfold wrongF
    rw [List.zip_cons_cons, List.filter_cons]
    by_cases e : o = some (1 - x)
    · rw [if_pos (decide_eq_true e), if_pos (decide_eq_true e), List.length_cons]
      omega
    · rw [if_neg (by simp [e]), if_neg (by simp [e]), Nat.add_zero]
theorem wrong_eq {bits : List Nat} {cs : List (Option Nat)} (hl : bits.length = cs.length) (hb : ∀ x ∈ bits, x < 2) (hc : ∀ o ∈ cs, DotOk o) :
    pop ((foldB bits ^^^ darkF cs) &&& seenF cs) = wrongF bits cs := by
  have := wrong_acc bits cs 0 0 0 hl hb hc
  rw [show pop ((0 ^^^ 0) &&& 0) = 0 from pop_zero, Nat.zero_add] at this
  exact this
/-- a format's bits, as its word says them -/
def fbits (i : Nat) : List Nat := (List.range 10).map fun k => fwF i / 2 ^ (9 - k) % 2
theorem fbits_len (i : Nat) : (fbits i).length = 10 := by
  unfold fbits
  rw [List.length_map, List.length_range]
theorem fbits_lt {i : Nat} : ∀ x ∈ fbits i, x < 2 := by
  intro x h
  obtain ⟨k, _, rfl⟩ := List.mem_map.mp h
  exact Nat.mod_lt _ (by decide)
theorem all32 {P : Nat → Bool} (h : ((List.range 32).all P) = true) {m : Nat} (hm : m < 32) : P m = true := List.all_eq_true.mp h m (List.mem_range.mpr hm)
theorem fbits_word {i : Nat} (h : i < 32) : foldB (fbits i ++ fbits i) = (fwF i * 2 ^ 10) ^^^ fwF i :=
  of_decide_eq_true (all32 (P := fun i => decide (foldB (fbits i ++ fbits i) = (fwF i * 2 ^ 10) ^^^ fwF i)) (by decide +kernel) h)
/-- how far dots are from a format -/
def farF (d s i : Nat) : Nat := pop ((((fwF i * 2 ^ 10) ^^^ fwF i) ^^^ d) &&& s)
theorem far_wrong {cs : List (Option Nat)} {i : Nat} (hl : cs.length = 20) (hc : ∀ o ∈ cs, DotOk o) (hi : i < 32) : farF (darkF cs) (seenF cs) i = wrongF (fbits i ++ fbits i) cs := by
  unfold farF
  rw [← fbits_word hi]
  refine wrong_eq (by rw [List.length_append, fbits_len, hl]) (fun x hx => ?_) hc
  rcases List.mem_append.mp hx with h | h
  · exact fbits_lt x h
  · exact fbits_lt x h
theorem dark_lt {cs : List (Option Nat)} (hl : cs.length = 20) (hc : ∀ o ∈ cs, DotOk o) : darkF cs < 2 ^ 20 := by
  have := foldB_lt (l := cs.map fun o => o.getD 0) (fun x hx => by
    obtain ⟨o, ho, rfl⟩ := List.mem_map.mp hx
    rcases hc o ho with rfl | rfl | rfl <;> decide)
  rw [List.length_map, hl] at this
  exact this
theorem seen_lt {cs : List (Option Nat)} (hl : cs.length = 20) : seenF cs < 2 ^ 20 := by
  have := foldB_lt (l := cs.map fun o => if o.isSome = true then 1 else 0) (fun x hx => by
    obtain ⟨o, ho, rfl⟩ := List.mem_map.mp hx
    split <;> decide)
  rw [List.length_map, hl] at this
  exact this
/-! ### the nearest format -/
def toldF (fs : List Nat) : Option (Nat × Nat) := match fs.min? with
  | some m => if fs.count m = 1 then some (fs.idxOf m, m) else none
  | none => none
def farsF (d s : Nat) : List Nat := (List.range 32).map (farF d s)
theorem fars_len (d s : Nat) : (farsF d s).length = 32 := by
  unfold farsF
  rw [List.length_map, List.length_range]
theorem fars_at {d s i : Nat} (h : i < 32) : (farsF d s)[i]? = some (farF d s i) := by
  unfold farsF
  rw [List.getElem?_map, List.getElem?_range h]
  rfl
theorem fars_min (d s : Nat) : ∃ m, (farsF d s).min? = some m ∧ m ∈ farsF d s ∧ ∀ y ∈ farsF d s, m ≤ y := by
  cases e : (farsF d s).min? with
  | none =>
    have := List.min?_eq_none_iff.mp e
    have l := fars_len d s
    rw [this] at l
    cases l
  | some m =>
    have := List.min?_eq_some_iff.mp e
    exact ⟨m, rfl, this.1, this.2⟩
/-- counting bits with fuel -/
def popK : Nat → Nat → Nat
  | 0, _ => 0
  | k + 1, n => popK k (n / 2) + n % 2
theorem pop_K : ∀ (k n : Nat), n < 2 ^ k → pop n = popK k n
  | 0, n, h => by
    have : n = 0 := by simpa using h
    subst this
    exact pop_zero
  | k + 1, n, h => by
    rw [pop_rec, pop_K k (n / 2) (by rw [Nat.pow_succ] at h; omega)]
    rfl
theorem far_K {d s i : Nat} (hs : s < 2 ^ 20) : farF d s i = popK 20 ((((fwF i * 2 ^ 10) ^^^ fwF i) ^^^ d) &&& s) := pop_K 20 _ (Nat.lt_of_le_of_lt Nat.and_le_right hs)
theorem fars_K {d s : Nat} (hs : s < 2 ^ 20) : farsF d s = (List.range 32).map fun i => popK 20 ((((fwF i * 2 ^ 10) ^^^ fwF i) ^^^ d) &&& s) := List.map_congr_left fun i _ => far_K hs
theorem fw_or {i : Nat} (h : i < 32) : (fwF i * 2 ^ 10) ||| fwF i = (fwF i * 2 ^ 10) ^^^ fwF i :=
  of_decide_eq_true (all32 (P := fun i => decide ((fwF i * 2 ^ 10) ||| fwF i = (fwF i * 2 ^ 10) ^^^ fwF i)) (by decide +kernel) h)
/-- a strip that is a format's is told so -/
theorem told_whole {i : Nat} (h : i < 32) : toldF (farsF ((fwF i * 2 ^ 10) ||| fwF i) 1048575) = some (i, 0) := by
  rw [fars_K (by decide)]
  exact of_decide_eq_true (all32 (P := fun i => decide (toldF ((List.range 32).map fun j => popK 20 ((((fwF j * 2 ^ 10) ^^^ fwF j) ^^^ ((fwF i * 2 ^ 10) ||| fwF i)) &&& 1048575)) = some (i, 0))) (by decide +kernel) h)
def apartF (a b : List Nat) : Nat := ((a.zip b).filter fun p => p.1 != p.2).length
theorem apart_le : ∀ (a b : List Nat) (cs : List (Option Nat)), a.length = cs.length → b.length = cs.length → (∀ x ∈ a, x < 2) → (∀ x ∈ b, x < 2) → (∀ o ∈ cs, o = some 0 ∨ o = some 1) → apartF a b ≤ wrongF a cs + wrongF b cs
  | [], _, _, _, _, _, _, _ => Nat.zero_le _
  | x :: a, [], [], h, _, _, _, _ => by simp at h
  | x :: a, y :: b, [], h, _, _, _, _ => by simp at h
  | x :: a, [], o :: cs, _, h, _, _, _ => by simp at h
  | x :: a, y :: b, o :: cs, h1, h2, h3, h4, h5 => by
    have ih := apart_le a b cs (by simpa using h1) (by simpa using h2) (fun z hz => h3 z (List.mem_cons_of_mem _ hz)) (fun z hz => h4 z (List.mem_cons_of_mem _ hz)) (fun z hz => h5 z (List.mem_cons_of_mem _ hz))
    have hx := h3 x (List.mem_cons_self ..)
    have hy := h4 y (List.mem_cons_self ..)
    unfold apartF wrongF at ih ⊢
    rw [List.zip_cons_cons, List.zip_cons_cons, List.zip_cons_cons, List.filter_cons, List.filter_cons, List.filter_cons]
    have : x = 0 ∨ x = 1 := by omega
    have : y = 0 ∨ y = 1 := by omega
    rcases ‹x = 0 ∨ x = 1› with rfl | rfl <;> rcases ‹y = 0 ∨ y = 1› with rfl | rfl <;> rcases h5 o (List.mem_cons_self ..) with rfl | rfl <;> simp <;> omega
theorem apart8 {i j : Nat} (hi : i < 32) (hj : j < 32) (h : i ≠ j) : 8 ≤ apartF (fbits i ++ fbits i) (fbits j ++ fbits j) := by
  have := of_decide_eq_true (List.all_eq_true.mp (all32 (P := fun i => (List.range 32).all fun j => decide (i = j ∨ 8 ≤ apartF (fbits i ++ fbits i) (fbits j ++ fbits j))) (by decide +kernel) hi) j (List.mem_range.mpr hj))
  exact this.resolve_left h
theorem idx_of {fs : List Nat} {i m : Nat} (h : fs[i]? = some m) (o : ∀ j, j < i → fs[j]? ≠ some m) : fs.idxOf m = i := by
  have hi := (List.getElem?_eq_some_iff.mp h).1
  have hm : m ∈ fs := List.mem_iff_getElem?.mpr ⟨i, h⟩
  have hl := List.idxOf_lt_length_of_mem hm
  have e := List.getElem_idxOf hl
  rcases Nat.lt_trichotomy (fs.idxOf m) i with c | c | c
  · exact absurd (List.getElem?_eq_some_iff.mpr ⟨hl, e⟩) (o _ c)
  · exact c
  · have := List.not_of_lt_findIdx c
    have e2 := (List.getElem?_eq_some_iff.mp h).2
    simp [e2] at this
theorem count_one {fs : List Nat} {i m : Nat} (h : fs[i]? = some m) (o : ∀ j, j ≠ i → fs[j]? ≠ some m) : fs.count m = 1 := by
  have hi := (List.getElem?_eq_some_iff.mp h).1
  have e : fs = fs.take i ++ m :: fs.drop (i + 1) := by
    rw [← (List.getElem?_eq_some_iff.mp h).2, ← List.drop_eq_getElem_cons hi, List.take_append_drop]
  have z1 : (fs.take i).count m = 0 := List.count_eq_zero.mpr fun hm => by
    obtain ⟨j, hj⟩ := List.mem_iff_getElem?.mp hm
    have hl := (List.getElem?_eq_some_iff.mp hj).1
    rw [List.length_take] at hl
    rw [List.getElem?_take_of_lt (by omega)] at hj
    exact o j (by omega) hj
  have z2 : (fs.drop (i + 1)).count m = 0 := List.count_eq_zero.mpr fun hm => by
    obtain ⟨j, hj⟩ := List.mem_iff_getElem?.mp hm
    rw [List.getElem?_drop] at hj
    exact o _ (by omega) hj
  rw [e, List.count_append, List.count_cons_self, z1, z2]
/-- a whole strip with less than four lies is told as it was -/
theorem told_lies {cs : List (Option Nat)} {i k : Nat} (hl : cs.length = 20) (hc : ∀ o ∈ cs, o = some 0 ∨ o = some 1) (hi : i < 32) (hw : wrongF (fbits i ++ fbits i) cs = k) (hk : k < 4) : toldF (farsF (darkF cs) (seenF cs)) = some (i, k) := by
  have dok : ∀ o ∈ cs, DotOk o := fun o ho => by
    rcases hc o ho with rfl | rfl
    · exact .inr (.inl rfl)
    · exact .inr (.inr rfl)
  have lt2 : ∀ j, ∀ x ∈ fbits j ++ fbits j, x < 2 := fun j x hx => by
    rcases List.mem_append.mp hx with h | h
    · exact fbits_lt x h
    · exact fbits_lt x h
  have l20 : ∀ j, (fbits j ++ fbits j).length = cs.length := fun j => by rw [List.length_append, fbits_len, hl]
  have hi' : (farsF (darkF cs) (seenF cs))[i]? = some k := by rw [fars_at hi, far_wrong hl dok hi, hw]
  have hj' : ∀ j, j ≠ i → ∀ y, (farsF (darkF cs) (seenF cs))[j]? = some y → k < y := fun j hj y hy => by
    have j32 : j < 32 := by
      have := (List.getElem?_eq_some_iff.mp hy).1
      rw [fars_len] at this
      exact this
    rw [fars_at j32, far_wrong hl dok j32] at hy
    have h8 := apart8 hi j32 (fun e => hj e.symm)
    have hle := apart_le _ _ cs (l20 i) (l20 j) (lt2 i) (lt2 j) hc
    rw [hw] at hle
    have := Option.some.inj hy
    omega
  have hm : (farsF (darkF cs) (seenF cs)).min? = some k := List.min?_eq_some_iff.mpr ⟨List.mem_iff_getElem?.mpr ⟨i, hi'⟩, fun y hy => by
    obtain ⟨j, e⟩ := List.mem_iff_getElem?.mp hy
    by_cases c : j = i
    · subst c
      rw [hi'] at e
      exact Nat.le_of_eq (Option.some.inj e)
    · exact Nat.le_of_lt (hj' j c y e)⟩
  have other : ∀ j, j ≠ i → (farsF (darkF cs) (seenF cs))[j]? ≠ some k := fun j c e => Nat.lt_irrefl _ (hj' j c k e)
  unfold toldF
  rw [hm]
  show (if _ then _ else _) = _
  rw [if_pos (count_one hi' other), idx_of hi' fun j hj => other j (by omega)]
end My

set_option Elab.async false
set_option linter.all false
set_option maxRecDepth 100000
set_option maxHeartbeats 1000000
/-! ### a zip over two lists, collected: list(zip(a, b)), sorted(zip(a, b)) -/
namespace ZipL
open PySem PySem.W PySem.Spec PyProof.Rows PyProof.V L2 PySem.Calls
/-- i turns of the zip are behind it, S is being filled -/
def Zs (z TI TO i1 i2 l1 l2 S : Addr) (xs ys : Array Value) (i : Nat) (h : Heap) : Prop :=
  PySem.IsPair h TI (.ref i1) (.ref i2) ∧ h.IsListIter i1 l1 i ∧ h.IsListIter i2 l2 i ∧ h.IsList l1 xs ∧ h.IsList l2 ys ∧
  ((IsZip h z TI TO .none ∧ ∃ a b, PySem.IsPair h TO a b) ∨ ∃ T f oT, IsZipHeld h z TI TO T f ∧ h.get? T = some oT ∧ T ≠ z ∧ T ≠ i1 ∧ T ≠ i2 ∧ T ≠ S)
/-- S is none of them -/
structure Off (z TI TO i1 i2 l1 l2 S : Addr) : Prop where
  z : z ≠ S
  TI : TI ≠ S
  TO : TO ≠ S
  i1 : i1 ≠ S
  i2 : i2 ≠ S
  l1 : l1 ≠ S
  l2 : l2 ≠ S
theorem Zs.keep {z TI TO i1 i2 l1 l2 S : Addr} {xs ys : Array Value} {i : Nat} {h h' : Heap} (st : Zs z TI TO i1 i2 l1 l2 S xs ys i h) (O : Off z TI TO i1 i2 l1 l2 S) (k : ∀ b o, b ≠ S → h.get? b = some o → h'.get? b = some o) : Zs z TI TO i1 i2 l1 l2 S xs ys i h' := by
  obtain ⟨p, a1, a2, b1, b2, q⟩ := st
  refine ⟨k _ _ O.TI p, a1.at fun o e => k _ o O.i1 e, a2.at fun o e => k _ o O.i2 e, b1.at fun o e => k _ o O.l1 e, b2.at fun o e => k _ o O.l2 e, ?_⟩
  rcases q with ⟨hz, a, b, t⟩ | ⟨T, f, oT, hz, t, r1, r2, r3, r4⟩
  · exact .inl ⟨k _ _ O.z hz, a, b, k _ _ O.TO t⟩
  · exact .inr ⟨T, f, oT, k _ _ O.z hz, k _ _ r4 t, r1, r2, r3, r4⟩
/-- the tuples made -/
structure Mz (xs ys : Array Value) (lo : Addr) (h : Heap) (ts : List Addr) : Prop where
  rise : ts.Pairwise (· < ·)
  above : ∀ a ∈ ts, lo ≤ a
  pairs : ∀ (j : Nat) (a : Addr), ts[j]? = some a → ∃ x y, xs[j]? = some x ∧ ys[j]? = some y ∧ PySem.IsPair h a x y
theorem Mz.there {xs ys : Array Value} {lo : Addr} {h : Heap} {ts : List Addr} (g : Mz xs ys lo h ts) {a : Addr} (ha : a ∈ ts) : a < h.objs.size := by
  obtain ⟨j, hj⟩ := List.mem_iff_getElem?.mp ha
  obtain ⟨x, y, _, _, e⟩ := g.pairs j a hj
  exact Heap.lt_size e
section
variable {prog : Program} {w : World} {A : Around} {E : Value → Shared → Prop} {s : Shared} {z TI TO i1 i2 l1 l2 S : Addr} {xs ys : Array Value}
theorem Zs.next {i : Nat} {x y : Value} {Q : Option Value → Shared → Prop} (D : ZipApart z TI TO i1 i2 l1 l2) (st : Zs z TI TO i1 i2 l1 l2 S xs ys i s.heap) (hS : S < s.heap.objs.size) (hx : xs[i]? = some x) (hy : ys[i]? = some y)
    (hQ : ∀ h', Zs z TI TO i1 i2 l1 l2 S xs ys (i + 1) h' → PySem.IsPair h' s.heap.objs.size x y → h'.objs.size = s.heap.objs.size + 1 → (∀ c o, c ≠ z → c ≠ TO → c ≠ i1 → c ≠ i2 → s.heap.get? c = some o → h'.get? c = some o) →
      Q (some (.ref s.heap.objs.size)) { s with heap := h' }) : wpAny (model prog w) A (pyNext (.ref z)) Q E s := by
  obtain ⟨p, a1, a2, b1, b2, q⟩ := st
  have new : ∀ {c o}, s.heap.get? c = some o → s.heap.objs.size ≠ c := fun e => Nat.ne_of_gt (Heap.lt_size e)
  have n1 : s.heap.objs.size ≠ i1 := let ⟨_, e, _⟩ := a1; new e
  have n2 : s.heap.objs.size ≠ i2 := let ⟨_, e, _⟩ := a2; new e
  rcases q with ⟨hz, a, b, t⟩ | ⟨T, f, oT, hz, t, r1, r2, r3, r4⟩
  · refine wpAny_pyNext_zip_item D hz p t a1 a2 b1 b2 hx hy fun h' c1 c2 c3 c4 c5 c6 k => ?_
    exact hQ h' ⟨k _ _ D.TIz D.TITO D.TIi1 D.TIi2 p, c3, c4, b1.at fun o e => k _ o D.l1z D.l1TO D.l1i1 D.l1i2 e, b2.at fun o e => k _ o D.l2z D.l2TO D.l2i1 D.l2i2 e, .inr ⟨_, false, _, c1, c5, new hz, n1, n2, Nat.ne_of_gt hS⟩⟩ c5 c6 k
  · refine wpAny_pyNext_zip_item_held D hz t p a1 a2 b1 b2 hx hy fun h' c1 c3 c4 c5 c6 k => ?_
    exact hQ h' ⟨k _ _ D.TIz D.TIi1 D.TIi2 p, c3, c4, b1.at fun o e => k _ o D.l1z D.l1i1 D.l1i2 e, b2.at fun o e => k _ o D.l2z D.l2i1 D.l2i2 e, .inr ⟨T, true, oT, c1, k _ _ r1 r2 r3 t, r1, r2, r3, r4⟩⟩ c5 c6 fun c o e1 _ e3 e4 e => k c o e1 e3 e4 e
theorem Zs.last {i : Nat} {Q : Option Value → Shared → Prop} (hh : A.handled = none) (D : ZipApart z TI TO i1 i2 l1 l2) (st : Zs z TI TO i1 i2 l1 l2 S xs ys i s.heap) (he : xs[i]? = none ∨ ys[i]? = none)
    (hQ : ∀ h', (∀ c o, c ≠ z → c ≠ TO → c ≠ i1 → c ≠ i2 → s.heap.get? c = some o → h'.get? c = some o) → Q none { s with heap := h' }) : wpAny (model prog w) A (pyNext (.ref z)) Q E s := by
  obtain ⟨p, a1, a2, b1, b2, q⟩ := st
  rcases q with ⟨hz, a, b, t⟩ | ⟨T, f, oT, hz, t, r1, r2, r3, r4⟩
  · exact wpAny_pyNext_zip_end hh D hz p t a1 a2 b1 b2 he hQ
  · exact wpAny_pyNext_zip_end_held hh D hz t p a1 a2 b1 b2 he fun h' k => hQ h' fun c o e1 _ e3 e4 e => k c o e1 e3 e4 e
/-- all but S and what the zip turns stay -/
def Stays (z TO i1 i2 S : Addr) (h h' : Heap) : Prop := ∀ b o, b ≠ S → b ≠ z → b ≠ TO → b ≠ i1 → b ≠ i2 → h.get? b = some o → h'.get? b = some o
theorem loop {R : Result → Shared → Prop} (hh : A.handled = none) (D : ZipApart z TI TO i1 i2 l1 l2) (O : Off z TI TO i1 i2 l1 l2 S) (hz : xs.size = ys.size) (hn : xs.size ≤ sizeLine) (res : Value) {h₁ : Heap} {lo : Addr} (zl : z < lo) (TOl : TO < lo) (i1l : i1 < lo) (i2l : i2 < lo) (Sl : S < lo)
    (hR : ∀ h' tk acc c ts, Stays z TO i1 i2 S h₁ h' → h'.get? S = some { cls := .type "list", dict := none, data := .seq acc c, slots := #[] } → ts.length = xs.size → Mz xs ys lo h' ts → acc.toList = ts.map Value.ref → R (.ok (.ret res)) { s with heap := h', toks := tk }) :
    ∀ (k i : Nat) (h : Heap) (tk c : Nat) (acc : Array Value) (ts : List Addr), xs.size - i = k → i ≤ xs.size → Zs z TI TO i1 i2 l1 l2 S xs ys i h → Stays z TO i1 i2 S h₁ h → h.get? S = some { cls := .type "list", dict := none, data := .seq acc c, slots := #[] } →
      acc.toList = ts.map Value.ref → ts.length = i → Mz xs ys lo h ts → lo ≤ h.objs.size → codeAny (model prog w) A (.builtin "list.extend.loop" ⟨[.ref S, .ref z, res], []⟩) R { s with heap := h, toks := tk } := by
  have ab : ∀ {c a : Addr}, c < lo → lo ≤ a → a ≠ c := fun p q => Nat.ne_of_gt (Nat.lt_of_lt_of_le p q)
  intro k
  induction k with
  | zero =>
    intro i h tk c acc ts hk hi st ks hS ha hl G hlo
    have e : i = xs.size := by omega
    refine codeAny_builtin PySem.F.entry_extend_loop ?_
    rw [Around.under_plainId PySem.F.plain_extend_loop _]
    refine wpAny_bind (m := pyNext (.ref z)) (Zs.last (s := { s with heap := h, toks := tk }) (A := A.in1) hh D st (.inl (Array.getElem?_eq_none (by omega))) fun h' kp => ?_)
    refine wpAny_pure (hR h' tk acc c ts (fun b o n0 n1 n2 n3 n4 q => kp b o n1 n2 n3 n4 (ks b o n0 n1 n2 n3 n4 q)) (kp S _ O.z.symm O.TO.symm O.i1.symm O.i2.symm hS) (by omega) ⟨G.rise, G.above, fun j a hj => ?_⟩ ha)
    obtain ⟨x, y, e1, e2, e3⟩ := G.pairs j a hj
    have la := G.above a (List.mem_of_getElem? hj)
    exact ⟨x, y, e1, e2, kp a _ (ab zl la) (ab TOl la) (ab i1l la) (ab i2l la) e3⟩
  | succ k ih =>
    intro i h tk c acc ts hk hi st ks hS ha hl G hlo
    have lt : i < xs.size := by omega
    have sz : acc.size = i := by rw [← Array.length_toList, ha, List.length_map, hl]
    have hSl : S < h.objs.size := Heap.lt_size hS
    refine codeAny_builtin PySem.F.entry_extend_loop ?_
    rw [Around.under_plainId PySem.F.plain_extend_loop _]
    refine wpAny_bind (m := pyNext (.ref z)) (Zs.next (s := { s with heap := h, toks := tk }) D st hSl (Array.getElem?_eq_getElem lt) (Array.getElem?_eq_getElem (by omega : i < ys.size)) fun h' st' pr hz' kp => ?_)
    dsimp only at pr hz' kp ⊢
    have hS' := kp S _ O.z.symm O.TO.symm O.i1.symm O.i2.symm hS
    have up : ∀ b o, b ≠ S → h'.get? b = some o → (h'.update S (Obj.mapSeq (·.push (Value.ref h.objs.size)))).get? b = some o := fun b o hb e => (Heap.get?_update_other _ _ (Ne.symm hb)).trans e
    refine wpAny_bind (m := updateSeq S (·.push (Value.ref h.objs.size))) ?_
    refine wpAny_updateSeq hS' rfl (wpAny_pure ⟨plainId_quiet PySem.F.plain_extend_loop _, ih (i + 1) _ tk _ (acc.push (Value.ref h.objs.size)) (ts ++ [h.objs.size]) (by omega) lt (st'.keep O up)
      (fun b o n0 n1 n2 n3 n4 q => up b o n0 (kp b o n1 n2 n3 n4 (ks b o n0 n1 n2 n3 n4 q))) (Heap.get?_update_self _ hS' rfl) (by rw [Array.toList_push, ha, List.map_append]; rfl) (by rw [List.length_append, hl]; rfl) ⟨?_, ?_, ?_⟩ ?_⟩) (by rw [sz]; omega) (by show (acc.push (Value.ref h.objs.size)).size ≤ sizeLine + 1; rw [Array.size_push, sz]; omega)
    · refine List.pairwise_append.mpr ⟨G.rise, List.pairwise_singleton _ _, fun a ha' b hb => ?_⟩
      rw [List.mem_singleton.mp hb]
      exact G.there ha'
    · intro a ha'
      rcases List.mem_append.mp ha' with q | q
      · exact G.above a q
      · rw [List.mem_singleton.mp q]; exact hlo
    · intro j b hj
      by_cases q : j < ts.length
      · rw [List.getElem?_append_left q] at hj
        obtain ⟨x, y, e1, e2, e3⟩ := G.pairs j b hj
        have lb := G.above b (List.mem_of_getElem? hj)
        exact ⟨x, y, e1, e2, up b _ (ab Sl lb) (kp b _ (ab zl lb) (ab TOl lb) (ab i1l lb) (ab i2l lb) e3)⟩
      · have hj' := (List.getElem?_eq_some_iff.mp hj).1
        rw [List.length_append, List.length_singleton] at hj'
        have ej : j = ts.length := by omega
        subst ej
        rw [List.getElem?_append_right (Nat.le_refl _), Nat.sub_self] at hj
        obtain rfl : h.objs.size = b := by simpa using hj
        subst hl
        exact ⟨_, _, Array.getElem?_eq_getElem lt, Array.getElem?_eq_getElem (by omega), up _ _ (Nat.ne_of_gt hSl) pr⟩
    · show lo ≤ (h'.update S _).objs.size
      rw [Heap.size_update, hz']
      exact Nat.le_succ_of_le hlo
theorem no_len : typeLookup (.type "zip") "__len__" = pure none := am_miss_of_fast (by decide +kernel)
theorem no_hint : typeLookup (.type "zip") "__length_hint__" = pure none := am_miss_of_fast (by decide +kernel)
theorem hint {r : Addr} {Q : Bool → Shared → Prop} (hT : s.TypeIs (.ref r) "zip") (h : Q true s) : wpAny (model prog w) A (Builtin.List.listLengthHint (.ref r)) Q E s := by
  unfold Builtin.List.listLengthHint
  refine wpAny_bind (wpAny_specialOf hT no_len ?_)
  wp_delta
  refine wpAny_ite_split (fun hab => absurd hab (by decide)) (fun _ => ?_)
  refine wpAny_ite_split (fun hab => absurd hab (by decide)) (fun _ => ?_)
  exact wpAny_bind (wpAny_specialOf hT no_hint (wpAny_pure h))
/-- the zip as it is made: its parts, all of them new -/
def Zn (z TI TO i1 i2 l1 l2 : Addr) (xs ys : Array Value) (h : Heap) : Prop := IsZip h z TI TO .none ∧ PySem.IsPair h TI (.ref i1) (.ref i2) ∧ PySem.IsPair h TO .none .none ∧ h.IsListIter i1 l1 0 ∧ h.IsListIter i2 l2 0 ∧ h.IsList l1 xs ∧ h.IsList l2 ys
theorem Zn.keep {h h' : Heap} (st : Zn z TI TO i1 i2 l1 l2 xs ys h) (k : ∀ b o, h.get? b = some o → h'.get? b = some o) : Zn z TI TO i1 i2 l1 l2 xs ys h' := by
  obtain ⟨a, b, c, d, e, f, g⟩ := st
  exact ⟨k _ _ a, k _ _ b, k _ _ c, d.at fun o q => k _ o q, e.at fun o q => k _ o q, f.at fun o q => k _ o q, g.at fun o q => k _ o q⟩
theorem Zn.lts {h : Heap} (st : Zn z TI TO i1 i2 l1 l2 xs ys h) : z < h.objs.size ∧ TI < h.objs.size ∧ TO < h.objs.size ∧ i1 < h.objs.size ∧ i2 < h.objs.size ∧ l1 < h.objs.size ∧ l2 < h.objs.size := by
  obtain ⟨a, b, c, ⟨_, d, _⟩, ⟨_, e, _⟩, ⟨_, f, _⟩, ⟨_, g, _⟩⟩ := st
  exact ⟨Heap.lt_size a, Heap.lt_size b, Heap.lt_size c, Heap.lt_size d, Heap.lt_size e, Heap.lt_size f, Heap.lt_size g⟩
/-- S, an empty list, gets the zip's tuples -/
theorem ext {R : Result → Shared → Prop} (hh : A.handled = none) (D : ZipApart z TI TO i1 i2 l1 l2) (O : Off z TI TO i1 i2 l1 l2 S) (st : Zn z TI TO i1 i2 l1 l2 xs ys s.heap) (hz : xs.size = ys.size) (hn : xs.size ≤ sizeLine) (res : Value) (c0 : Nat)
    (hS : s.heap.get? S = some { cls := .type "list", data := .seq #[] c0 })
    (hR : ∀ h' tk acc c ts, Stays z TO i1 i2 S s.heap h' → h'.get? S = some { cls := .type "list", dict := none, data := .seq acc c, slots := #[] } → ts.length = xs.size → Mz xs ys s.heap.objs.size h' ts → acc.toList = ts.map Value.ref → R (.ok (.ret res)) { s with heap := h', toks := tk }) :
    wpAny (model prog w) A.in1 (Builtin.List.listExtendWith (.ref S) (.ref z) res) (fun fin s' => match fin with | .done f => R (.ok f) s' | .again c' => c'.quiet = true ∧ codeAny (model prog w) A c' R s') (fun e s' => R (.error e) s') s := by
  obtain ⟨lz, lTI, lTO, li1, li2, _, _⟩ := st.lts
  obtain ⟨a1, a2, a3, a4, a5, a6, a7⟩ := st
  have hT : s.TypeIs (.ref z) "zip" := ⟨_, a1, rfl⟩
  have st0 : Zs z TI TO i1 i2 l1 l2 S xs ys 0 s.heap := ⟨a2, a4, a5, a6, a7, .inl ⟨a1, _, _, a3⟩⟩
  have go : ∀ (h : Heap) (c tk : Nat), (∀ b o, b ≠ S → s.heap.get? b = some o → h.get? b = some o) → h.get? S = some { cls := .type "list", dict := none, data := .seq #[] c, slots := #[] } → h.objs.size = s.heap.objs.size →
      codeAny (model prog w) A (.builtin "list.extend.loop" ⟨[.ref S, .ref z, res], []⟩) R { s with heap := h, toks := tk } := fun h c tk k hS' hs =>
    loop (s := s) (h₁ := s.heap) hh D O hz hn res lz lTO li1 li2 (Heap.lt_size hS) hR xs.size 0 h tk c #[] [] (Nat.sub_zero _) (Nat.zero_le _) (st0.keep O k) (fun b o n0 _ _ _ _ e => k b o n0 e) hS' rfl rfl ⟨List.Pairwise.nil, (fun _ q => nomatch q), fun j a q => by simp at q⟩ (Nat.le_of_eq hs.symm)
  unfold Builtin.List.listExtendWith
  refine wpAny_bind (wpAny_typeOf (T := "zip") hT ?_)
  have h1 : Builtin.List.listSameRef (.ref S) (.ref z) = false := by simp [Builtin.List.listSameRef, O.z.symm]
  have h2 : (Value.type "zip" == Value.type "list") = false := by decide
  have h3 : (Value.type "zip" == Value.type "tuple") = false := by decide
  simp only [h1, h2, h3, Bool.or_false, Bool.false_eq_true, if_false]
  refine wpAny_bind (wpAny_pyIter_zip a1 ?_)
  refine wpAny_bind (wpAny_holding (hint hT ?_))
  refine wpAny_ite_split (fun _ => ?_) (fun _ => wpAny_pure ⟨plainId_quiet PySem.F.plain_extend_loop _, go _ c0 _ (fun b o _ e => e) hS rfl⟩)
  refine wpAny_bind (wpAny_rule (wpAny_bind (m := updateSeq S (·.push .none) >>= fun _ => updateSeq S (·.pop)) (wpAny_bind (wpAny_updateSeq hS rfl ?_))))
  have hS₂ := Heap.get?_update_self (Obj.mapSeq (·.push Value.none)) hS rfl
  refine wpAny_updateSeq (hz := by seq_fits) hS₂ rfl ?_
  refine wpAny_pure ⟨plainId_quiet PySem.F.plain_extend_loop _, go _ _ _ (fun b o hb e => ?_) (Heap.get?_update_self (Obj.mapSeq (·.pop)) hS₂ rfl) ?_⟩
  · exact (Heap.get?_update_other _ _ (Ne.symm hb)).trans ((Heap.get?_update_other _ _ (Ne.symm hb)).trans e)
  · rw [Heap.size_update, Heap.size_update]
/-- what was there stays -/
def Keeps (z TO i1 i2 : Addr) (h h' : Heap) : Prop := ∀ b o, b ≠ z → b ≠ TO → b ≠ i1 → b ≠ i2 → h.get? b = some o → h'.get? b = some o
theorem offNew {h : Heap} (st : Zn z TI TO i1 i2 l1 l2 xs ys h) : Off z TI TO i1 i2 l1 l2 h.objs.size := by
  obtain ⟨a, b, c, d, e, f, g⟩ := st.lts
  exact ⟨Nat.ne_of_lt a, Nat.ne_of_lt b, Nat.ne_of_lt c, Nat.ne_of_lt d, Nat.ne_of_lt e, Nat.ne_of_lt f, Nat.ne_of_lt g⟩
theorem collected {R : List Value → Shared → Prop} (hh : A.handled = none) (D : ZipApart z TI TO i1 i2 l1 l2) (st : Zn z TI TO i1 i2 l1 l2 xs ys s.heap) (hz : xs.size = ys.size) (hn : xs.size ≤ sizeLine)
    (h : ∀ (h' : Heap) (tk : Nat) (ts : List Addr), Keeps z TO i1 i2 s.heap h' → s.heap.objs.size < h'.objs.size → ts.length = xs.size → Mz xs ys (s.heap.objs.size + 1) h' ts → R (ts.map Value.ref) { s with heap := h', toks := tk }) :
    wpAny (model prog w) A (collect (.ref z)) R E s := by
  unfold collect
  refine wpAny_bind (wpAny_runValue (codeAny_builtin entry_proto_collect' ?_))
  rw [Around.under_plainId PySem.F.plain_proto_collect _]
  refine wpAny_bind (m := newList []) (wpAny_newObj_type (wpAny_pure ⟨plainId_quiet PySem.F.plain_list_iadd _, codeAny_builtin entry_list_iadd' ?_⟩))
  rw [Around.under_plainId PySem.F.plain_list_iadd _]
  have O := offNew st
  have hS : (s.heap.push { cls := .type "list", data := .seq ([] : List Value).toArray }).get? s.heap.objs.size = some { cls := .type "list", data := .seq #[] } := Heap.get?_push_size _ rfl
  have key := ext (prog := prog) (w := w) (A := A) (s := { s with heap := s.heap.push { cls := .type "list", data := .seq ([] : List Value).toArray } }) (S := s.heap.objs.size)
    (R := fun (q : Result) (s' : Shared) => ∃ (h' : Heap) (tk : Nat) (acc : Array Value) (c : Nat) (ts : List Addr), q = .ok (.ret (.ref s.heap.objs.size)) ∧ s' = { s with heap := h', toks := tk } ∧ Keeps z TO i1 i2 s.heap h' ∧
      h'.get? s.heap.objs.size = some { cls := .type "list", dict := none, data := .seq acc c, slots := #[] } ∧ ts.length = xs.size ∧ Mz xs ys (s.heap.objs.size + 1) h' ts ∧ acc.toList = ts.map Value.ref)
    hh D O (st.keep fun b o e => Heap.get?_push_of_some _ e) hz hn (.ref s.heap.objs.size) 0 hS
    (fun h' tk acc c ts ks hS' hl G ha => ⟨h', tk, acc, c, ts, rfl, rfl, fun b o n1 n2 n3 n4 e => ks b o (Nat.ne_of_lt (Heap.lt_size e)) n1 n2 n3 n4 (Heap.get?_push_of_some _ e), hS', hl, by rw [← Heap.size_push s.heap { cls := .type "list", data := .seq ([] : List Value).toArray }]; exact G, ha⟩)
  refine wpAny_mono key (fun fin s' x => ?_) fun e s' x => ?_
  · cases fin with
    | done f =>
      obtain ⟨h', tk, acc, c, ts, e, rfl, ks, hS', hl, G, ha⟩ := x
      cases e
      refine wpAny_bind (m := load s.heap.objs.size) (wpAny_load hS' (wpAny_pure ?_))
      show R acc.toList _
      rw [ha]
      exact h h' tk ts ks (Heap.lt_size hS') hl G
    | again c₁ =>
      refine ⟨x.1, codeAny_mono x.2 fun q s₂ y => ?_⟩
      obtain ⟨h', tk, acc, c, ts, rfl, rfl, ks, hS', hl, G, ha⟩ := y
      refine wpAny_bind (m := load s.heap.objs.size) (wpAny_load hS' (wpAny_pure ?_))
      show R acc.toList _
      rw [ha]
      exact h h' tk ts ks (Heap.lt_size hS') hl G
  · obtain ⟨_, _, _, _, _, e', _⟩ := x
    cases e'
/-- sorted(the zip), up to the sort -/
theorem call_sorted {Q : Value → Shared → Prop} (hh : A.handled = none) (D : ZipApart z TI TO i1 i2 l1 l2) (st : Zn z TI TO i1 i2 l1 l2 xs ys s.heap) (hz : xs.size = ys.size) (hn : xs.size ≤ sizeLine)
    (h : ∀ (h' : Heap) (tk : Nat) (ts : List Addr), Keeps z TO i1 i2 s.heap h' → s.heap.objs.size < h'.objs.size → ts.length = xs.size → Mz xs ys (s.heap.objs.size + 1) h' ts →
      wpAny (model prog w) A.in1 (call (.builtin "list.sort") [.ref h'.objs.size]) (fun _ s' => Q (.ref h'.objs.size) s') E { s with heap := h'.push { cls := .type "list", data := .seq (ts.map Value.ref).toArray }, toks := tk }) :
    wpAny (model prog w) A (call (.builtin "sorted") [.ref z]) Q E s := by
  refine call_function_entry kind_sorted plain_sorted entry_sorted (args_sorted1 _) ?_
  unfold Builtin.«sorted»
  refine wpAny_bind (m := checkCount "sorted" 1 1 _) (wpAny_pure (wpAny_bind (collected (A := A.in1) hh D st hz hn fun h' tk ts k lt hl G => ?_)))
  refine wpAny_bind (wpAny_newList ?_ (by rw [List.length_map, hl]; exact hn))
  exact wpAny_bind (wpAny_holding (wpAny_mono (h h' tk ts k lt hl G) (fun _ s' x => wpAny_pure ⟨_, rfl, x⟩) fun _ _ e => e))
/-- list(the zip) -/
theorem call_list {Q : Value → Shared → Prop} (hh : A.handled = none) (D : ZipApart z TI TO i1 i2 l1 l2) (st : Zn z TI TO i1 i2 l1 l2 xs ys s.heap) (hz : xs.size = ys.size) (hn : xs.size ≤ sizeLine)
    (h : ∀ (h' : Heap) (tk : Nat) (acc : Array Value) (c : Nat) (ts : List Addr), Keeps z TO i1 i2 s.heap h' → h'.get? s.heap.objs.size = some { cls := .type "list", dict := none, data := .seq acc c, slots := #[] } → ts.length = xs.size → Mz xs ys (s.heap.objs.size + 1) h' ts → acc.toList = ts.map Value.ref →
      Q (.ref s.heap.objs.size) { s with heap := h', toks := tk }) : wpAny (model prog w) A (call (.type "list") [.ref z]) Q E s := by
  refine callType_codes (Q₁ := fun obj s₁ => obj = .ref s.heap.objs.size ∧ s₁ = { s with heap := s.heap.push { cls := .type "list", data := .seq #[] } }) PySem.F.called_list (PySem.F.typeCall_list_1 _) PySem.F.entry_list_init (code_list_new _ ⟨rfl, rfl⟩) fun obj s₁ e => ?_
  obtain ⟨rfl, rfl⟩ := e
  have hS : (s.heap.push { cls := .type "list", data := .seq #[] }).get? s.heap.objs.size = some { cls := .type "list", data := .seq #[] } := Heap.get?_push_size _ rfl
  refine ⟨⟨_, hS, rfl⟩, PySem.F.args_list_init_2 _ _, ?_⟩
  refine wpAny_bind (m := Builtin.List.listItems (.ref s.heap.objs.size)) ?_
  unfold Builtin.List.listItems
  refine wpAny_bind (wpAny_seqItems hS rfl (wpAny_pure (wpAny_bind (m := updateSeq s.heap.objs.size (fun _ => #[])) (wpAny_updateSeq hS rfl ?_))))
  have hS₂ := Heap.get?_update_self (Obj.mapSeq (fun _ => (#[] : Array Value))) hS rfl
  have oth : ∀ b o, s.heap.get? b = some o → ((s.heap.push { cls := .type "list", data := .seq #[] }).update s.heap.objs.size (Obj.mapSeq (fun _ => (#[] : Array Value)))).get? b = some o :=
    fun b o e => (Heap.get?_update_other _ _ (Nat.ne_of_gt (Heap.lt_size e))).trans (Heap.get?_push_of_some _ e)
  have sz : ((s.heap.push { cls := .type "list", data := .seq #[] }).update s.heap.objs.size (Obj.mapSeq (fun _ => (#[] : Array Value)))).objs.size = s.heap.objs.size + 1 := by rw [Heap.size_update, Heap.size_push]
  refine wpAny_bind (m := letGo (#[] : Array Value).toList.reverse) (wpAny_letGo ?_)
  show wpAny _ _ (Builtin.List.listExtendWith (.ref s.heap.objs.size) (.ref z) .none) _ _ _
  refine ext (prog := prog) (w := w) (A := A.in1) (s := { s with heap := (s.heap.push { cls := .type "list", data := .seq #[] }).update s.heap.objs.size (Obj.mapSeq (fun _ => (#[] : Array Value))) }) hh D (offNew st) (st.keep oth) hz hn .none _ hS₂ fun h' tk acc c ts k hS' hl G ha => ?_
  dsimp only at G
  rw [sz] at G
  exact ⟨rfl, h h' tk acc c ts (fun b o n1 n2 n3 n4 e => k b o (Nat.ne_of_lt (Heap.lt_size e)) n1 n2 n3 n4 (oth b o e)) hS' hl G ha⟩
end
end ZipL

set_option Elab.async false
set_option linter.all false
set_option maxRecDepth 100000
set_option maxHeartbeats 1000000
/-! ### dicts with tuple keys: compared, cleared, updated, made of pairs, comprehensions -/
namespace My
open PySem PySem.W PySem.Spec PyProof.Rows PyProof.V L2
/-- what the entries of one dict find in another one -/
inductive HitH {K : Type} [DecidableEq K] (P : Program) (wd : World) (Ar : Around) (sh : Shared) (vs : List (K × Addr × Value)) : List (K × Addr × Value) → Bool → Prop
  | none : HitH P wd Ar sh vs [] true
  | off {x : K × Addr × Value} {r : List (K × Addr × Value)} : atKey vs x.1 = none → HitH P wd Ar sh vs (x :: r) false
  | on {x : K × Addr × Value} {y : Addr × Value} {r : List (K × Addr × Value)} {e b : Bool} : atKey vs x.1 = some y → SeqAt.EqAt Ar sh x.2.2 y.2 e → HitH P wd Ar sh vs r b → HitH P wd Ar sh vs (x :: r) (e && b)
section
variable {P : Program} {wd : World} {K : Type} [DecidableEq K] {kd : HeapKind P wd K} {Ar : Around} {Er : Value → Shared → Prop} {sh : Shared}
theorem HitH.cut {vs r : List (K × Addr × Value)} {x : K × Addr × Value} {b : Bool} (h : HitH P wd Ar sh vs (x :: r) b) :
    (atKey vs x.1 = Option.none ∧ b = false) ∨ ∃ y e b', atKey vs x.1 = some y ∧ SeqAt.EqAt Ar sh x.2.2 y.2 e ∧ HitH P wd Ar sh vs r b' ∧ b = (e && b') := by
  cases h with
  | off n => exact .inl ⟨n, rfl⟩
  | on y e t => exact .inr ⟨_, _, _, y, e, t, rfl⟩
theorem pairsSameH {nm : String} {p q : Addr} {us vs : List (K × Addr × Value)} {yes : Bool} {Qb : Bool → Shared → Prop} (room : kd.room Ar) (np : (p == sysModules) = false) (nq : (q == sysModules) = false)
    (dp : sh.heap.DictOfH kd p us) (dq : sh.heap.DictOfH kd q vs) (hit : us.length = vs.length → HitH P wd Ar sh vs us yes) (fin : Qb (us.length == vs.length && yes) sh) :
    wpAny (model P wd) Ar (Builtin.Dict.samePairs nm p q) Qb Er sh := by
  obtain ⟨op, ep, cp, gp, _, tp, lp, ip, up⟩ := dp
  obtain ⟨oq, eq, cq, gq, _, tq, lq, iq, uq⟩ := dq
  have zp : ep.size = us.length := size_of_entries lp
  have zq : eq.size = vs.length := size_of_entries lq
  rw [← zp, ← zq] at fin
  unfold Builtin.Dict.samePairs Builtin.Dict.showsAll
  rw [if_neg (by rw [np]; exact Bool.false_ne_true), if_neg (by rw [nq]; exact Bool.false_ne_true)]
  refine wpAny_bind (wpAny_pure (wpAny_bind (wpAny_pure (wpAny_bind (wpAny_dictEntries gp tp ?_)))))
  dsimp only
  refine wpAny_bind (wpAny_dictEntries gq tq ?_)
  by_cases same : ep.size = eq.size
  · have fin' : Qb yes sh := by rw [same, beq_self_eq_true, Bool.true_and] at fin; exact fin
    have hits := hit (by rw [← zp, ← zq]; exact same)
    rw [if_neg (by rw [same]; simp)]
    refine wpAny_bind (wpAny_dictEpoch gp tp (wpAny_bind ?_))
    rw [Std.Legacy.Range.forIn_eq_forIn_range']
    simp only [Std.Legacy.Range.size, Nat.sub_zero, Nat.add_sub_cancel, Nat.div_one]
    refine wpAny_forIn_list _ (fun rest st s2 => s2 = sh ∧ st = (Option.none, ()) ∧ ∃ i, i ≤ ep.size ∧ rest = List.range' i (ep.size - i) ∧ HitH P wd Ar sh vs (us.drop i) yes) _ ?_ ?_ _ _ ⟨rfl, rfl, 0, Nat.zero_le _, by simp, hits⟩
    · rintro x rest st s2 ⟨rfl, rfl, i, hi, hr, hh⟩
      have lt : i < ep.size := by
        by_cases z : i < ep.size
        · exact z
        · rw [show ep.size - i = 0 by omega] at hr; simp at hr
      rw [show ep.size - i = (ep.size - (i + 1)) + 1 by omega, List.range'_succ] at hr
      injection hr with e1 e2
      subst e1
      have lt2 : x < us.length := by omega
      refine wpAny_bind (wpAny_dictEntries gp tp ?_)
      have ex : ep[x]? = some (entryOfKey kd us[x]) := by rw [entry_at lp x, List.getElem?_eq_getElem lt2] <;> rfl
      rw [ex]
      generalize hu : us[x] = u at ex
      have cutx : us.drop x = u :: us.drop (x + 1) := by rw [← hu]; exact List.drop_eq_getElem_cons lt2
      have isu : kd.is s2.heap u.1 u.2.1 := ip u (by rw [← hu]; exact List.getElem_mem _)
      rw [cutx] at hh
      show wpAny _ _ (holding [Value.ref u.2.1, u.2.2] _ >>= _) _ _ _
      refine wpAny_bind (wpAny_holding (wpAny_bind (wpAny_dictFind_heap room isu gq tq lq iq uq (fun no => ?_) fun j y hy => ?_)))
      · rcases hh.cut with ⟨_, ey⟩ | ⟨y, _, _, hy, _⟩
        · rw [ey] at fin'
          refine wpAny_pure ?_
          show wpAny _ _ (if (!false) = true then _ else _) _ _ _
          rw [if_pos (by decide)]
          exact wpAny_pure (wpAny_pure fin')
        · rw [atKey_none_of_get no] at hy
          exact nomatch hy
      · have at1 : atKey vs u.1 = some y := atKey_of_get uq hy
        refine wpAny_bind (wpAny_dictEntries gq tq ?_)
        rw [show eq[j]? = some (entryOfKey kd (u.1, y)) by rw [entry_at lq j, hy] <;> rfl]
        rcases hh.cut with ⟨n1, _⟩ | ⟨y', e, b', hy', he, hb, ey⟩
        · rw [at1] at n1
          exact nomatch n1
        · rw [at1] at hy'
          obtain rfl := Option.some.inj hy'
          refine wpAny_holding (he P wd _ _ ?_)
          cases e with
          | false =>
            rw [ey, Bool.false_and] at fin'
            show wpAny _ _ (if (!false) = true then _ else _) _ _ _
            rw [if_pos (by decide)]
            exact wpAny_pure (wpAny_pure fin')
          | true =>
            rw [Bool.true_and] at ey
            subst ey
            show wpAny _ _ (if (!true) = true then _ else _) _ _ _
            rw [if_neg (by decide)]
            refine wpAny_bind (wpAny_dictEpoch gp tp ?_)
            rw [if_neg (by simp)]
            exact wpAny_pure ⟨rfl, rfl, x + 1, lt, e2, hb⟩
    · rintro st s2 ⟨rfl, rfl, i, hi, hr, hh⟩
      have z : i = ep.size := by
        by_cases z : i < ep.size
        · rw [show ep.size - i = (ep.size - (i + 1)) + 1 by omega, List.range'_succ] at hr
          exact nomatch hr
        · omega
      refine wpAny_pure ?_
      rw [z, zp, List.drop_length] at hh
      cases hh
      exact fin'
  · rw [if_pos (by simpa using same)]
    have zf : (ep.size == eq.size) = false := by simpa using same
    rw [zf, Bool.false_and] at fin
    exact wpAny_bind (wpAny_rule (wpAny_pure fin))
theorem dictEqH {p q : Addr} {us vs : List (K × Addr × Value)} {yes : Bool} {Qv : Value → Shared → Prop} (room : kd.room Ar.in1) (deep : Ar.units < cLine) (np : (p == sysModules) = false) (nq : (q == sysModules) = false)
    (dp : sh.heap.DictOfH kd p us) (dq : sh.heap.DictOfH kd q vs) (hit : us.length = vs.length → HitH P wd Ar.in1 sh vs us yes) (fin : Qv (.bool (us.length == vs.length && yes)) sh) :
    wpAny (model P wd) Ar (compareOp .Eq (.ref p) (.ref q)) Qv Er sh := by
  refine wpAny_richCompare_same_room (op := .Eq) dp.typeIs dq.typeIs PySem.F.slot_dict_eq (wpAny_call_entry PySem.F.slot_dict_eq dp.typeIs PySem.F.entry_dict_eq ?_ (PySem.F.args_dict_eq_2 _ _)) deep
  refine wpAny_bind (m := Builtin.Dict.dictSlotArgs "__eq__" ⟨[.ref p, .ref q], []⟩) ?_
  unfold Builtin.Dict.dictSlotArgs
  refine wpAny_bind (wpAny_notOrdered_dict dp.typeIs ?_)
  show wpAny _ _ (pure (Value.ref p, Value.ref q)) _ _ sh
  refine wpAny_pure (wpAny_bind (wpAny_isInstance (T := "dict") dq.typeIs PySem.F.sub_dict_dict ?_))
  simp only [Bool.not_true, Bool.false_eq_true, if_false]
  refine wpAny_bind (wpAny_pure (wpAny_bind (wpAny_pure (wpAny_bind (pairsSameH room np nq dp dq hit (wpAny_pure ⟨_, rfl, (fun z => nomatch z), ?_⟩))))))
  simpa using fin
theorem dictNeH {p q : Addr} {us vs : List (K × Addr × Value)} {yes : Bool} {Qv : Value → Shared → Prop} (room : kd.room Ar.in1) (deep : Ar.units < cLine) (np : (p == sysModules) = false) (nq : (q == sysModules) = false)
    (dp : sh.heap.DictOfH kd p us) (dq : sh.heap.DictOfH kd q vs) (hit : us.length = vs.length → HitH P wd Ar.in1 sh vs us yes) (fin : Qv (.bool (!(us.length == vs.length && yes))) sh) :
    wpAny (model P wd) Ar (compareOp .NotEq (.ref p) (.ref q)) Qv Er sh := by
  refine wpAny_richCompare_same_room (op := .NotEq) dp.typeIs dq.typeIs PySem.F.slot_dict_ne (wpAny_call_entry PySem.F.slot_dict_ne dp.typeIs PySem.F.entry_dict_ne ?_ (PySem.F.args_dict_ne_2 _ _)) deep
  refine wpAny_bind (m := Builtin.Dict.dictSlotArgs "__ne__" ⟨[.ref p, .ref q], []⟩) ?_
  unfold Builtin.Dict.dictSlotArgs
  refine wpAny_bind (wpAny_notOrdered_dict dp.typeIs ?_)
  show wpAny _ _ (pure (Value.ref p, Value.ref q)) _ _ sh
  refine wpAny_pure (wpAny_bind (wpAny_isInstance (T := "dict") dq.typeIs PySem.F.sub_dict_dict ?_))
  simp only [Bool.not_true, Bool.false_eq_true, if_false]
  refine wpAny_bind (wpAny_pure (wpAny_bind (wpAny_pure (wpAny_bind (pairsSameH room np nq dp dq hit (wpAny_pure ⟨_, rfl, (fun z => nomatch z), ?_⟩))))))
  simpa using fin
end
/-! ### keys that are pairs of ints, values that are ints -/
def kP (p : Int × Int) : List Key := [.inl p.1, .inl p.2]
theorem kP_inj {p q : Int × Int} (e : kP p = kP q) : p = q := by
  obtain ⟨a, b⟩ := p
  obtain ⟨c, d⟩ := q
  unfold kP at e
  injection e with e1 e2
  injection e2 with e2 _
  injection e1 with e1
  injection e2 with e2
  have e1' : a = c := e1
  have e2' : b = d := e2
  rw [e1', e2']
def dP (m : List ((Int × Int) × Int)) : List (List Key × V) := m.map fun e => (kP e.1, V.int e.2)
def lkP (m : List ((Int × Int) × Int)) (k : Int × Int) : Option Int := (m.find? fun e => decide (e.1 = k)).map (·.2)
def putP (m : List ((Int × Int) × Int)) (k : Int × Int) (v : Int) : List ((Int × Int) × Int) :=
  if (m.any fun e => decide (e.1 = k)) = true then m.map (fun e => if e.1 = k then (e.1, v) else e) else m ++ [(k, v)]
def mergeP (m n : List ((Int × Int) × Int)) : List ((Int × Int) × Int) := n.foldl (fun a e => putP a e.1 e.2) m
def mergeT (kvs more : List (List Key × V)) : List (List Key × V) := more.foldl (fun a e => putK a e.1 e.2) kvs
theorem kP_dec (p q : Int × Int) : decide (kP p = kP q) = decide (p = q) := by
  by_cases e : p = q
  · rw [e]; simp
  · rw [decide_eq_false e, decide_eq_false fun z => e (kP_inj z)]
theorem valV_dP (m : List ((Int × Int) × Int)) (k : Int × Int) : valV (dP m) (kP k) = (lkP m k).map V.int := by
  induction m with
  | nil => rfl
  | cons e m ih =>
    by_cases q : e.1 = k
    · rw [show dP (e :: m) = (kP e.1, V.int e.2) :: dP m from rfl, valV_pos (by rw [q]), show lkP (e :: m) k = some e.2 by simp [lkP, List.find?_cons, q]]
      rfl
    · rw [show dP (e :: m) = (kP e.1, V.int e.2) :: dP m from rfl, valV_neg (fun z => q (kP_inj z)), show lkP (e :: m) k = lkP m k by simp [lkP, List.find?_cons, q]]
      exact ih
theorem putK_dP (m : List ((Int × Int) × Int)) (k : Int × Int) (v : Int) : putK (dP m) (kP k) (.int v) = dP (putP m k v) := by
  have a : ((dP m).any fun e => decide (e.1 = kP k)) = m.any fun e => decide (e.1 = k) := by
    unfold dP
    rw [List.any_map]
    exact congrArg (m.any ·) (funext fun e => kP_dec e.1 k)
  unfold putK putP
  rw [a]
  by_cases q : (m.any fun e => decide (e.1 = k)) = true
  · rw [if_pos q, if_pos q]
    unfold dP
    rw [List.map_map, List.map_map]
    refine List.map_congr_left fun e _ => ?_
    show (if kP e.1 = kP k then (kP e.1, V.int v) else (kP e.1, V.int e.2)) = (kP (if e.1 = k then (e.1, v) else e).1, V.int (if e.1 = k then (e.1, v) else e).2)
    by_cases z : e.1 = k
    · rw [if_pos z, if_pos (by rw [z])]
    · rw [if_neg z, if_neg fun y => z (kP_inj y)]
  · rw [if_neg q, if_neg q]
    unfold dP
    rw [List.map_append]
    rfl
theorem mergeT_dP (n : List ((Int × Int) × Int)) : ∀ m : List ((Int × Int) × Int), mergeT (dP m) (dP n) = dP (mergeP m n) := by
  induction n with
  | nil => exact fun m => rfl
  | cons e n ih =>
    intro m
    show mergeT (putK (dP m) (kP e.1) (.int e.2)) (dP n) = dP (mergeP (putP m e.1 e.2) n)
    rw [putK_dP]
    exact ih _
theorem dP_length (m : List ((Int × Int) × Int)) : (dP m).length = m.length := List.length_map ..
theorem putP_new {m : List ((Int × Int) × Int)} {k : Int × Int} (v : Int) (h : k ∉ m.map (·.1)) : putP m k v = m ++ [(k, v)] := by
  unfold putP
  rw [if_neg]
  intro z
  obtain ⟨e, he, q⟩ := List.any_eq_true.mp z
  exact h (List.mem_map.mpr ⟨e, he, of_decide_eq_true q⟩)
theorem mergeP_new : ∀ (n m : List ((Int × Int) × Int)), ((m ++ n).map (·.1)).Nodup → mergeP m n = m ++ n
  | [], m, _ => (List.append_nil m).symm
  | e :: n, m, h => by
    have h' : (((m ++ [e]) ++ n).map (·.1)).Nodup := by rw [List.append_assoc]; exact h
    have ne : e.1 ∉ m.map (·.1) := by
      rw [List.map_append, List.nodup_append] at h
      exact fun z => h.2.2 _ z _ (List.mem_map.mpr ⟨e, List.mem_cons_self, rfl⟩) rfl
    show mergeP (putP m e.1 e.2) n = _
    rw [putP_new _ ne, show (m ++ [(e.1, e.2)]) = m ++ [e] from rfl, mergeP_new n _ h', List.append_assoc]
    rfl
theorem lkP_mem {m : List ((Int × Int) × Int)} {k : Int × Int} {v : Int} (nd : (m.map (·.1)).Nodup) (h : (k, v) ∈ m) : lkP m k = some v := by
  induction m with
  | nil => exact nomatch h
  | cons e m ih =>
    rw [List.map_cons, List.nodup_cons] at nd
    rcases List.mem_cons.mp h with z | z
    · rw [← z]; simp [lkP, List.find?_cons]
    · have q : ¬ e.1 = k := fun y => nd.1 (List.mem_map.mpr ⟨(k, v), z, y.symm⟩)
      rw [show lkP (e :: m) k = lkP m k by simp [lkP, List.find?_cons, q]]
      exact ih nd.2 z
theorem lkP_none {m : List ((Int × Int) × Int)} {k : Int × Int} (h : k ∉ m.map (·.1)) : lkP m k = none := by
  unfold lkP
  rw [List.find?_eq_none.mpr fun e he z => h (List.mem_map.mpr ⟨e, he, of_decide_eq_true z⟩)]
  rfl
/-- the dicts compared -/
def eqP (m n : List ((Int × Int) × Int)) : Bool := m.length == n.length && m.all fun e => lkP n e.1 == some e.2
theorem eqP_refl {m : List ((Int × Int) × Int)} (nd : (m.map (·.1)).Nodup) : eqP m m = true := by
  unfold eqP
  rw [beq_self_eq_true, Bool.true_and]
  exact List.all_eq_true.mpr fun e he => by rw [lkP_mem nd he]; exact beq_self_eq_true _
theorem hitP {P : Program} {wd : World} {Ar : Around} {sh : Shared} {H : Hp} {n : List ((Int × Int) × Int)} {vs : List (List Key × Addr × Value)} (rn : KT H (dP n) vs) :
    ∀ {m : List ((Int × Int) × Int)} {us : List (List Key × Addr × Value)}, KT H (dP m) us → HitH P wd Ar sh vs us (m.all fun e => lkP n e.1 == some e.2)
  | [], _, r => by cases r; exact .none
  | e :: m, _, r => by
    cases r with
    | @cons _ x _ us h t =>
      obtain ⟨h1, h2, t0, h3⟩ := h
      have rv := rn.val (kP e.1)
      rw [valV_dP] at rv
      have hx : x.1 = kP e.1 := h1.symm
      rw [List.all_cons]
      cases q : lkP n e.1 with
      | none =>
        rw [q] at rv
        have z : atKey vs x.1 = none := by
          rw [hx]
          cases y : atKey vs (kP e.1) with
          | none => rfl
          | some y0 => rw [y] at rv; exact rv.elim
        exact HitH.off z
      | some i =>
        rw [q] at rv
        obtain ⟨y, hy, ry⟩ := rv.some_of
        obtain ⟨y0, hy0, ey⟩ := Option.map_eq_some_iff.mp hy
        obtain ⟨t1, ei⟩ := (show ∃ t, y = Value.int i t from ry)
        refine HitH.on (y := y0) (by rw [hx]; exact hy0) ?_ (hitP rn t)
        rw [h3, ey, ei]
        have s1 := SeqAt.EqAt.int_int (A := Ar) (s := sh) e.2 t0 i t1
        have s2 : ((some i : Option Int) == some e.2) = (e.2 == i) := by
          by_cases w : i = e.2
          · rw [w]; simp
          · have w' : ¬ e.2 = i := fun z => w z.symm
            rw [beq_eq_false_iff_ne.mpr w', beq_eq_false_iff_ne.mpr fun z => w (Option.some.inj z)]
        rw [s2]
        exact s1
section
variable {X : Cx}
theorem op_eqP (hu : X.A.units + 1 < cLine) : OpR X (compareOp .Eq) (fun x y H Q => ∃ a b m n, x = .ref a ∧ y = .ref b ∧ Rd H a (.dT (dP m)) ∧ Rd H b (.dT (dP n)) ∧ Q (.bl (eqP m n)) H) := by
  intro pins s σ H x y v u Q I rx ry h
  obtain ⟨a, b, m, n, rfl, rfl, ea, eb, q⟩ := h
  obtain rfl : v = Value.ref a := rx
  obtain rfl : u = Value.ref b := ry
  obtain ⟨_, ya, us, ra, da⟩ := dt_rd I.hok ea
  obtain ⟨_, yb, vs, rb, db⟩ := dt_rd I.hok eb
  have la : us.length = m.length := by rw [← Paired.length ra, dP_length]
  have lb : vs.length = n.length := by rw [← Paired.length rb, dP_length]
  refine dictEqH (tupleKind_room_in1 hu) (by omega) ya yb da db (fun _ => hitP rb ra) ?_
  rw [la, lb]
  exact ⟨.bl (eqP m n), H, I, rfl, q⟩
theorem op_neP (hu : X.A.units + 1 < cLine) : OpR X (compareOp .NotEq) (fun x y H Q => ∃ a b m n, x = .ref a ∧ y = .ref b ∧ Rd H a (.dT (dP m)) ∧ Rd H b (.dT (dP n)) ∧ Q (.bl (!eqP m n)) H) := by
  intro pins s σ H x y v u Q I rx ry h
  obtain ⟨a, b, m, n, rfl, rfl, ea, eb, q⟩ := h
  obtain rfl : v = Value.ref a := rx
  obtain rfl : u = Value.ref b := ry
  obtain ⟨_, ya, us, ra, da⟩ := dt_rd I.hok ea
  obtain ⟨_, yb, vs, rb, db⟩ := dt_rd I.hok eb
  have la : us.length = m.length := by rw [← Paired.length ra, dP_length]
  have lb : vs.length = n.length := by rw [← Paired.length rb, dP_length]
  refine dictNeH (tupleKind_room_in1 hu) (by omega) ya yb da db (fun _ => hitP rb ra) ?_
  rw [la, lb]
  exact ⟨.bl (!eqP m n), H, I, rfl, q⟩
/-- d.clear() -/
def rClrT : V → List V → Hp → VK → Prop := fun x vs H Q => ∃ (a : Addr) (kvs : List (List Key × V)), x = .ref a ∧ vs = [] ∧ H a = some (.dT kvs) ∧ Q .non (upd H a (.dT []))
theorem mt_clrT : MtR X "dict.clear" rClrT := by
  intro pins s σ H x vs v us Q I rx rv h
  obtain ⟨a, kvs, rfl, rfl, e, q⟩ := h
  obtain rfl : v = Value.ref a := rx
  obtain rfl := rv.zero
  obtain ⟨z, hd, ys, rel, o, es, ep, go, xo, to, le, _⟩ := dt_of I.hok e
  refine call_meetsIn PySem.F.slot_dict_clear ⟨o, go, xo.1⟩ PySem.F.entry_dict_clear (PySem.F.args_dict_clear_1 _) (meets_dict_clear_raw a) ⟨es, ep, ⟨o, go, xo, to⟩, ?_, fun h' w hs => ?_⟩
  · rw [size_of_entries le, ← Paired.length rel]
    exact z
  · obtain ⟨o', go', xo', to'⟩ := w
    refine ⟨.non, _, d_write (t' := s.toks) (ob := .dT []) I (by rw [e]; exact True.intro) hs ⟨o', go'⟩ ⟨Nat.zero_le _, hd, [], .nil, o', #[], _, go', xo', to', rfl, List.nodup_nil⟩, rfl, q⟩
theorem pe_clrT {o : Expr} {to : TE} {apos cpos : Pos} (ho : PE X o to) (hbase : attributeBase o "clear" X.env (eval o X.env) = eval o X.env := by rfl) (hline : (apos.endLine == cpos.line) = true := by rfl) : PE X (.Call (.Attribute o "clear" apos) [] [] cpos) (tBM0 X.K "dict" rClrT to) :=
  pe_bm0 PySem.F.plainAttrs_dict PySem.F.slot_dict_clear PySem.F.type_dict_clear mt_clrT ho hbase hline
end
theorem KT.all {H : Hp} : ∀ {more : List (List Key × V)} {rs : List (List Key × Addr × Value)} {kvs : List (List Key × V)} {xs : List (List Key × Addr × Value)}, KT H more rs → KT H kvs xs → KT H (mergeT kvs more) (storedAllH xs rs)
  | [], _, _, _, .nil, t => t
  | p :: more, _, kvs, xs, .cons (b := q) (l₂ := rs) h r, t => by
    obtain ⟨k, b, u⟩ := q
    obtain ⟨h1, h2, h3⟩ := h
    have e : p.1 = k := h1
    subst e
    show KT H (mergeT (putK kvs p.1 p.2) more) (storedAllH (storedH xs p.1 b u) rs)
    exact KT.all r (t.put p.1 h2 h3)
theorem mergeT_le : ∀ (more kvs : List (List Key × V)), (mergeT kvs more).length ≤ kvs.length + more.length
  | [], kvs => Nat.le_refl _
  | p :: more, kvs => by
    have a := mergeT_le more (putK kvs p.1 p.2)
    have b := length_putK kvs p.1 p.2
    show (mergeT (putK kvs p.1 p.2) more).length ≤ _
    rw [List.length_cons]
    omega
@[irreducible] def hashOf (l : List Int) : Int := reduceHash (Builtin.Tuple.tupleHashOf l)
def hashK (w : World) (k : List Key) : Int := hashOf (k.map (keyH w))
def hashP (p : Int × Int) : Int := hashOf [hashInt p.1, hashInt p.2]
theorem hashK_kP (w : World) (p : Int × Int) : hashK w (kP p) = hashP p := congrArg hashOf (show (kP p).map (keyH w) = [hashInt p.1, hashInt p.2] from rfl)
theorem hashK_dP (w : World) : ∀ m : List ((Int × Int) × Int), (dP m).map (fun e => hashK w e.1) = m.map fun e => hashP e.1
  | [] => rfl
  | e :: m => by
    have ih := hashK_dP w m
    rw [show dP (e :: m) = (kP e.1, V.int e.2) :: dP m from rfl, List.map_cons, List.map_cons, ih]
    rw [show (kP e.1, V.int e.2).1 = kP e.1 from rfl, hashK_kP]
section
variable {X : Cx}
/-- d.update(d2) -/
def rUpdT (w : World) : V → List V → Hp → VK → Prop := fun x vs H Q => ∃ (a b : Addr) (kvs more : List (List Key × V)), x = .ref a ∧ vs = [.ref b] ∧ a ≠ b ∧ H a = some (.dT kvs) ∧ Rd H b (.dT more) ∧
  (kvs ≠ [] ∨ (more.map fun e => hashK w e.1).Nodup) ∧ kvs.length + more.length ≤ sizeLine ∧ Q .non (upd H a (.dT (mergeT kvs more)))
theorem keysMap : ∀ {α β γ : Type} {F : α → β → Prop} {f : α → γ} {g : β → γ} {l : List α} {m : List β}, Paired F l m → (∀ a b, F a b → f a = g b) → l.map f = m.map g
  | _, _, _, _, _, _, _, _, .nil, _ => rfl
  | _, _, _, _, _, _, _, _, .cons h t, k => by rw [List.map_cons, List.map_cons, k _ _ h, keysMap t k]
theorem mt_updT (hu : X.A.units + 1 < cLine) : MtR X "dict.update" (rUpdT X.w) := by
  intro pins s σ H x vs v us Q I rx rv h
  obtain ⟨a, b, kvs, more, rfl, rfl, ne, ea, eb, hap, hz, q⟩ := h
  obtain rfl : v = Value.ref a := rx
  obtain ⟨u, rfl, ru⟩ := vals1 rv
  obtain rfl : u = Value.ref b := ru
  obtain ⟨_, ya, xs, ra, da⟩ := dt_of I.hok ea
  obtain ⟨_, yb, ys, rb, db⟩ := dt_rd I.hok eb
  have la := Paired.length ra
  have lb := Paired.length rb
  have st : ∀ y ∈ ys, s.TypeIs (.ref y.2.1) "tuple" := fun y hy => by
    obtain ⟨_, _, _, _, _, _, _, hi, _⟩ := db
    obtain ⟨o, its, n, h1, h2, _⟩ := hi y hy
    exact ⟨o, h1, h2⟩
  refine call_update_dictH (tupleKind_room_in1 hu) ne yb da db ?_ (by omega) fun h' d1 d2 hs => ?_
  · rcases hap with z | z
    · exact .inl fun e => z (by rw [e] at la; exact List.length_eq_zero_iff.mp la)
    · refine .inr ⟨st, ?_⟩
      have e : (more.map fun e => hashK X.w e.1) = ys.map fun y => (tupleKind (mixKind X.prog X.w)).hash y.1 := keysMap rb fun p y r => by
        rw [r.1]
        unfold hashK hashOf
        rfl
      rw [← e]
      exact z
  · obtain ⟨o, es, ep, g1, g2, g3, g4, _, g6⟩ := d1
    refine ⟨.non, _, d_write (t' := s.toks) (ob := .dT (mergeT kvs more)) I (by rw [ea]; exact True.intro) hs ⟨o, g1⟩ ⟨Nat.le_trans (mergeT_le more kvs) hz, ya, _, (KT.all rb ra).keeps fun c zs ec => ?_, o, es, ep, g1, g2, g3, g4, g6⟩, rfl, q⟩
    rw [upd_ne (ne_of ec ea (fun z => nomatch z))]
    exact ec
theorem pe_updT {o e : Expr} {to te : TE} {apos cpos : Pos} (hu : X.A.units + 1 < cLine) (ho : PE X o to) (he : PE X e te) (hbase : attributeBase o "update" X.env (eval o X.env) = eval o X.env := by rfl)
    (hfew : ((backTo cpos (starEach [e] X.env)).all (fun x => !x.1) && (backToKw cpos (keywordEach [] X.env)).all (fun x => x.1.isSome) && decide ([e].length + ([] : List Keyword).length + (if ([] : List Keyword).isEmpty then 0 else 1) < 30)) = true := by rfl)
    (hline : (apos.endLine == cpos.line) = true := by rfl) (hs : starEach [e] X.env = (false, eval e X.env) :: starEach [] X.env := by rfl) (hplain : (backTo cpos (starEach [] X.env)).any (·.1) = false := by rfl) :
    PE X (.Call (.Attribute o "update" apos) [e] [] cpos) (tBM X.K "dict" (rUpdT X.w) to (tCons te tNil)) :=
  pe_bm PySem.F.plainAttrs_dict PySem.F.slot_dict_update PySem.F.type_dict_update (mt_updT hu) ho (pa_cons he pa_nil hs) hbase hfew hline hs hplain
end
end My

set_option Elab.async false
set_option linter.all false
set_option maxRecDepth 100000
set_option maxHeartbeats 1000000
/-! ### dict(list of pairs) with tuple keys; dict comprehensions with tuple keys -/
namespace My
open PySem PySem.W PySem.Spec PyProof.Rows PyProof.V L2
section
variable {X : Cx}
/-- the pairs' tuples at ts: key tuple, value -/
def PrsT (H : Hp) : List Addr → List (List Key × V) → Prop := Paired fun t e => ∃ q, H t = some (.tup [.ref q, e.2]) ∧ H q = some (.tup (e.1.map kV))
theorem prs_of {pins : List (Addr × Obj)} {σ : L2.St} {H : Hp} {s : Shared} (I : Inv X pins σ H s) : ∀ {ts : List Addr} {kvs : List (List Key × V)}, PrsT H ts kvs →
    ∃ rs : List (List Key × Addr × Value), KT H kvs rs ∧ rs.length = ts.length ∧ ∀ (j : Nat) (r : List Key × Addr × Value), rs[j]? = some r → ∃ t, ts[j]? = some t ∧ s.heap.IsTuple t #[.ref r.2.1, r.2.2]
  | _, _, .nil => ⟨[], .nil, rfl, fun j r e => by simp at e⟩
  | _, _, .cons (a := t) (b := e) h r => by
    obtain ⟨rs, k1, k2, k3⟩ := prs_of I r
    obtain ⟨q, ht, hq⟩ := h
    obtain ⟨_, its, rv, o, g1, g2, n, g3⟩ := (show ObjOk X.prog X.w H s.heap t (.tup [.ref q, e.2]) from I.hok t _ ht)
    obtain ⟨u1, u2, rfl, r1, r2⟩ := vals2 rv
    obtain rfl : u1 = Value.ref q := r1
    refine ⟨(e.1, q, u2) :: rs, .cons ⟨rfl, hq, r2⟩ k1, by rw [List.length_cons, List.length_cons, k2], fun j r w => ?_⟩
    cases j with
    | zero =>
      obtain rfl := Option.some.inj w
      exact ⟨t, rfl, ⟨o, g1, g2, n, g3⟩⟩
    | succ j =>
      obtain ⟨t', e1, e2⟩ := k3 j r (by simpa using w)
      exact ⟨t', by simpa using e1, e2⟩
theorem call_dictTP (hc : X.calm = true) (hu : X.A.units + 1 + 1 < cLine) : CallR X (.type "dict") (fun xs H Q => ∃ (a : Addr) (ts : List Addr) (kvs : List (List Key × V)), xs = [.ref a] ∧ SqL X.K H a (ts.map V.ref) ∧ PrsT H ts kvs ∧
    ∀ p, H p = none → Q (.ref p) (upd H p (.dT (mergeT [] kvs)))) := by
  intro pins s σ H xs us Q I r q
  obtain ⟨a, ts, kvs, rfl, hl, hp, q⟩ := q
  obtain ⟨u, rfl, rx⟩ := vals1 r
  obtain rfl : u = Value.ref a := rx
  obtain ⟨its, rv, pl, hz⟩ := I.list hl
  obtain rfl := L2.refs_at rv
  rw [List.length_map] at hz
  obtain ⟨rs, k1, k2, k3⟩ := prs_of I hp
  obtain ⟨o, n, g1, g2, g3, g4⟩ := pl
  have lk := Paired.length k1
  let ps : List (Value × Value) := rs.map fun r => (Value.ref r.2.1, r.2.2)
  have lps : ps.length = rs.length := List.length_map ..
  have isk : ∀ x ∈ rs, (tupleKind (mixKind X.prog X.w)).is s.heap x.1 x.2.1 := fun x hx => by
    obtain ⟨j, hj, e⟩ := List.mem_iff_getElem.mp hx
    have hj2 : j < kvs.length := by omega
    obtain ⟨y, hy, h1, h2, _⟩ := DX.pget k1 (show rs[j]? = some x by rw [List.getElem?_eq_getElem hj, e])
    rw [← h1]
    exact key_of I.hok h2
  have lt0 : (s.heap.objs.size == sysModules) = false := beq_eq_false_iff_ne.mpr (Nat.ne_of_gt I.big)
  have at2 : ∀ {j : Nat} {k v : Value}, ps[j]? = some (k, v) → ∃ r, rs[j]? = some r ∧ k = .ref r.2.1 ∧ v = r.2.2 := fun {j k v} e => by
    rw [show ps[j]? = rs[j]?.map fun r => (Value.ref r.2.1, r.2.2) from List.getElem?_map ..] at e
    obtain ⟨r, hr, er⟩ := Option.map_eq_some_iff.mp e
    cases er
    exact ⟨r, hr, rfl, rfl⟩
  refine call_dict_pairsH (knd := tupleKind (mixKind X.prog X.w)) (ps := rs) (PairArg.list a ((ts.map Value.ref).toArray) (fun j => ts.getD j 0) ps) (I.ok.hd hc) (show X.A.in1.in1.units < cLine from hu) ⟨⟨o, n, g1, g2, g3, g4⟩, ?_, fun j k v e => ?_⟩ ⟨lps.symm, fun i key v e => ?_⟩ (fun h' hk x hx => ?_) (by omega) fun h' tk hd' hk => ?_
  · rw [List.size_toArray, List.length_map, lps, k2]
  · obtain ⟨r, hr, rfl, rfl⟩ := at2 e
    obtain ⟨t, e1, e2⟩ := k3 j r hr
    have e3 : ts.getD j 0 = t := by rw [List.getD_eq_getElem?_getD, e1] <;> rfl
    refine ⟨?_, ?_⟩
    · show (ts.map Value.ref).toArray[j]? = some (.ref (ts.getD j 0))
      rw [List.getElem?_toArray, List.getElem?_map, e1, e3] <;> rfl
    · show PairAt s.heap (ts.getD j 0) _ _
      rw [e3]
      exact .inl e2
  · obtain ⟨r, hr, rfl, rfl⟩ := at2 e
    exact ⟨r.1, r.2.1, hr, rfl⟩
  · exact tupleKind_stays.stays (h := s.heap) (h' := h') (fun b o _ _ e _ => hk b o (Nat.ne_of_lt (Heap.lt_size e)) (by simp) e) (isk x hx)
  · obtain ⟨o', es, ep, d1, d2, d3, d4, _, d6⟩ := hd'
    have lm := mergeT_le kvs []
    rw [List.length_nil, Nat.zero_add] at lm
    refine ⟨.ref s.heap.objs.size, upd H s.heap.objs.size (.dT (mergeT [] kvs)), I.laid (t' := tk) (fun b u e => hk b u (by simp) e) (Nat.le_refl _) (show ObjOk X.prog X.w _ _ _ (.dT (mergeT [] kvs)) from ⟨by omega, lt0, _, (KT.all k1 .nil).keeps fun c zs ec => ?_, o', es, ep, d1, d2, d3, d4, d6⟩), rfl, q _ (I.hok.fresh (Nat.le_refl _))⟩
    rw [upd_ne (ne_of_none ec (I.hok.fresh (Nat.le_refl _)))]
    exact ec
/-- D[k] = v by a comprehension, the key a tuple -/
theorem dictSetT {pins : List (Addr × Obj)} {τ : L2.St} {G : Hp} {z : Shared} {Er : Value → Shared → Prop} {D q : Addr} {kvs : List (List Key × V)} {k : List Key} {v : V} {r : Value} {Qf : Unit → Shared → Prop} (hu : X.A.units < cLine) (I : Inv X pins τ G z)
    (eD : G D = some (.dT kvs)) (eq : G q = some (.tup (k.map kV))) (lt : kvs.length < sizeLine) (rv : RelV v r) (fin : ∀ z', Inv X pins τ (upd G D (.dT (putK kvs k v))) z' → Qf () z') : wpAny (model X.prog X.w) X.A (dictSet D (.ref q) r) Qf Er z := by
  obtain ⟨_, yD, xs, rel, dd⟩ := dt_of I.hok eD
  have lx : xs.length ≤ sizeLine := by rw [← Paired.length rel]; omega
  have lp : (putK kvs k v).length ≤ sizeLine := by have a := length_putK kvs k v; omega
  refine wpAny_dictSet_heap (knd := tupleKind (mixKind X.prog X.w)) (show X.A.units < cLine from hu) (key_of I.hok eq) dd (fun h' dd' hs => fin _ ?_) lx
  obtain ⟨o, es, ep, w1, w2, w3, w4, _, w6⟩ := dd'
  refine d_write I (by rw [eD]; exact True.intro) hs ⟨o, w1⟩ ⟨lp, yD, _, (rel.put k eq rv).keeps fun c ys ec => ?_, o, es, ep, w1, w2, w3, w4, w6⟩
  rw [upd_ne (ne_of ec eD (fun z => nomatch z))]
  exact ec
/-- {k: v for target in iter if ..}, keys tuples: D the new dict -/
def tDcT (wi : TI) (g : TG) (tt : TT) (tk tv : TE) (vs : List Nat) : TE := fun σ H Q => wi σ H fun J H1 => ∀ D, H1 D = none → ∃ W : Nat → Nat → Hp → Prop, (∃ m, W 0 m (upd H1 D (.dT []))) ∧ ∀ i m H, W i m H →
  (J.stop i H ∧ Q (.ref D) H) ∨ (J.go i H ∧ ∃ Nx : Hp → Prop, (∀ H', Nx H' → ∃ m', m' < m ∧ W (i + 1) m' H') ∧ ∀ x H', J.yld i H x H' → g x (wipe σ vs) H' fun σ2 H2 => wipe σ2 vs = wipe σ vs ∧ tt σ2 H2 fun b H3 =>
    if b = true then tk σ2 H3 fun y H4 => tv σ2 H4 fun z H5 => ∃ kvs k q, y = .ref q ∧ H5 q = some (.tup (k.map kV)) ∧ H5 D = some (.dT kvs) ∧ kvs.length < sizeLine ∧ Nx (upd H5 D (.dT (putK kvs k z))) else Nx H3)
theorem pe_dcT {ke ve tg src : Expr} {cs : List Expr} {sc : Scope} {own : List (Str × Nat)} {pos : Pos} {wi : TI} {g : TG} {tt : TT} {tk tv : TE} (hu : X.A.units < cLine) (hc : X.calm = true) (nd : X.N.Nodup) (hi : PI X tg src wi) (bk : BlkOk X.N X.env.scope sc own)
    (hg : ∀ (z : Shared) (G : Hp) (C : Addr) (cl : List (Str × Addr)) (fp : List Addr), PG (X.blk z G sc (compEnvC sc cl C X.env) fp) tg g) (ht : ∀ (z : Shared) (G : Hp) (C : Addr) (cl : List (Str × Addr)) (fp : List Addr), PTs (X.blk z G sc (compEnvC sc cl C X.env) fp) cs tt)
    (hk : ∀ (z : Shared) (G : Hp) (C : Addr) (cl : List (Str × Addr)) (fp : List Addr), PE (X.blk z G sc (compEnvC sc cl C X.env) fp) ke tk) (hv : ∀ (z : Shared) (G : Hp) (C : Addr) (cl : List (Str × Addr)) (fp : List Addr), PE (X.blk z G sc (compEnvC sc cl C X.env) fp) ve tv)
    (hs : ∀ x, foldedSetIterable src X.env x = pure x := by intro _; rfl) : PE X (.DictComp ke ve [⟨tg, src, cs, 0⟩] sc pos) (tDcT wi g tt tk tv (own.map (·.2))) := by
  refine ⟨fun pins s σ H Q I h => ?_⟩
  rw [arm_eval_DictComp]
  have caps : ∀ y ∈ sc.names, y.2 = .free → ∃ c, X.env.cells.lookup y.1 = some c := fun y hy e => by
    rcases bk.free y hy e with k | k
    · exact I.ok.has _ (.inl k)
    · exact I.ok.has _ (.inr k)
  refine wpAny_comprehension_free (use := none) rfl hs (closure_ok caps) bk.kind (fun y hy e => by rw [bk.uniq y hy, e]) (thn (hi.run pins s σ H _ I h) fun xv s1 w => thn w fun itv s2 w2 => ?_)
  obtain ⟨it, fp, tn, J, H2, rfl, I2, T, u2, f2, goes⟩ := w2
  refine wpAny_newObj_type (newEnv_comp ?_)
  generalize eD : s2.heap.objs.size = D
  obtain ⟨W, ⟨m0, w0⟩, turn⟩ := goes D (I2.hok.fresh (Nat.le_of_eq eD))
  generalize e3 : ({ s2 with heap := s2.heap.push { cls := .type "dict", data := .dict #[] } } : Shared) = s3
  have I3 : Inv X pins σ (upd H2 D (.dT [])) s3 := by
    rw [← e3, ← eD]
    exact I2.laid (t' := s2.toks) (fun b o e => Heap.get?_push_of_some _ e) (Nat.le_refl _) (dt_empty s2.heap I2.big)
  have p3 : s3.heap = s2.heap.push { cls := .type "dict", data := .dict #[] } := by rw [← e3]
  have below : ∀ b ∈ fp, b < s2.heap.objs.size := fun b hb => let ⟨_, e, _⟩ := T.obj _ _ u2 b hb; Heap.lt_size e
  have f3 : ∀ b ∈ fp, FpOk X pins (upd H2 D (.dT [])) b ∧ b < s3.heap.objs.size := fun b hb =>
    ⟨⟨by rw [upd_ne (by rw [← eD]; exact Nat.ne_of_lt (below b hb))]; exact (f2 b hb).1, (f2 b hb).2⟩, by rw [p3, Heap.size_push]; exact Nat.lt_succ_of_lt (below b hb)⟩
  have u3 : tn 0 s3.heap := T.keep _ _ _ u2 fun b _ o e => by rw [p3]; exact Heap.get?_push_of_some _ e
  have I4 := block_start I3 bk nd f3
  have bg := hg s3 (upd H2 D (.dT [])) s3.heap.objs.size (cellsFrom (s3.heap.objs.size + 1) sc.names (cloFrom X.env.cells sc.names [])) fp
  have bt := ht s3 (upd H2 D (.dT [])) s3.heap.objs.size (cellsFrom (s3.heap.objs.size + 1) sc.names (cloFrom X.env.cells sc.names [])) fp
  have bk' := hk s3 (upd H2 D (.dT [])) s3.heap.objs.size (cellsFrom (s3.heap.objs.size + 1) sc.names (cloFrom X.env.cells sc.names [])) fp
  have bv := hv s3 (upd H2 D (.dT [])) s3.heap.objs.size (cellsFrom (s3.heap.objs.size + 1) sc.names (cloFrom X.env.cells sc.names [])) fp
  have none3 : ∀ b ∈ fp, (upd H2 D (.dT [])) b = none := fun b hb => (f3 b hb).1.1
  show codeAny _ _ (.compStart (.DictComp ke ve [⟨tg, src, cs, 0⟩] sc pos) 0 (.ref it) (.ref D) (compEnvC sc (cellsFrom (s3.heap.objs.size + 1) sc.names (cloFrom X.env.cells sc.names [])) s3.heap.objs.size X.env)) (compPost (model X.prog X.w) X.A X.xe none (EP X pins σ Q) (.ref D) s3.heap.objs.size) { s3 with heap := pushCells (s3.heap.push { cls := .type "dict", data := .dict #[] }) sc.names }
  generalize ee : compEnvC sc (cellsFrom (s3.heap.objs.size + 1) sc.names (cloFrom X.env.cells sc.names [])) s3.heap.objs.size X.env = env at I4 bg bt bk' bv ⊢
  have eL : env.locals = s3.heap.objs.size := by rw [← ee]; rfl
  generalize eH : upd H2 D (.dT []) = G at I3 I4 bg bt bk' bv w0 none3 f3
  have keepH : ∀ b o, s3.heap.get? b = some o → (pushCells (s3.heap.push { cls := .type "dict", data := .dict #[] }) sc.names).get? b = some o := fun b o e => pushCells_keeps _ _ _ _ (Heap.get?_push_of_some _ e)
  generalize e4 : ({ s3 with heap := pushCells (s3.heap.push { cls := .type "dict", data := .dict #[] }) sc.names } : Shared) = s4 at I4 ⊢
  have u4 : tn 0 s4.heap := T.keep _ _ _ u3 fun b _ o e => by rw [← e4]; exact keepH b o e
  have fpk : ∀ {σ' : L2.St} {H' : Hp} {s' : Shared}, Inv (X.blk s3 G sc env fp) [] σ' H' s' → (∀ b ∈ fp, H' b = none) → ∀ b ∈ fp, FpOk (X.blk s3 G sc env fp) [] H' b := fun {σ' H' s'} K n b hb =>
    ⟨n b hb, (K.ok.exf b hb).1, K.ok.exfs b hb, .inl hb, fun x c e => (K.ok.exf b hb).2 x c e, fun p hp => absurd (show p ∈ ([] : List (Addr × Obj)) ++ [] from hp) (by simp)⟩
  have rounds : codeAny (model X.prog X.w) X.A (.compLoop (.DictComp ke ve [⟨tg, src, cs, 0⟩] sc pos) 0 (.ref it) (.ref D) env) (compPost (model X.prog X.w) X.A X.xe none (EP X pins σ Q) (.ref D) s3.heap.objs.size) s4 := by
    refine compLoop_anyD (fun n s' => ∃ i H', W i n H' ∧ Inv (X.blk s3 G sc env fp) [] (wipe σ (own.map (·.2))) H' s' ∧ tn i s'.heap ∧ ∀ b ∈ fp, H' b = none) ?_ m0 ⟨0, G, w0, I4, u4, none3⟩
    rintro n s5 ⟨i, H5, w5, I5, u5, n5⟩
    rcases turn i n H5 w5 with ⟨stop, qq⟩ | ⟨go, Nx, later, step⟩
    · refine thnF (T.done (X.blk s3 G sc env fp) rfl rfl rfl hc i [] s5 _ H5 (fun _ _ => False) I5 (fpk I5 n5) u5 stop) fun r s6 ⟨er, I6⟩ => ?_
      subst er
      have I7 : Inv X pins σ H5 s6 := I3.call' (ch := fp) I6.os I6.base I6.hok I6.bare fun b hb => ⟨(f3 b hb).1.2.2.2.1, (f3 b hb).1.2.1, (f3 b hb).1.2.2.2.2.1, (f3 b hb).1.2.2.2.2.2⟩
      have nC : H5 s3.heap.objs.size = none := by
        have y : H5 env.locals = none := I6.free
        rw [eL] at y
        exact y
      obtain ⟨m, hn, _⟩ := I6.loc
      have hn' : s6.heap.Ns env.locals m := hn
      rw [eL] at hn'
      refine ⟨m, hn', fun h'' sb => ?_⟩
      obtain ⟨y0, y1, y2, y3, y4, y5⟩ := I3.fpOk (Nat.le_refl _) nC
      exact ⟨.ref D, H5, I7.turned (t' := s6.toks) (fun b o hb e => (sb.2 b hb).trans e) y0 y1 y3 y4 y5, rfl, qq⟩
    · refine thnF (T.item (X.blk s3 G sc env fp) rfl rfl rfl hc i [] s5 _ H5 (fun _ _ => False) I5 (fpk I5 n5) u5 go) fun r s6 ⟨u, er, w6⟩ => ?_
      subst er
      refine thnF w6 fun _ s7 ⟨x, H7, I7, r7, y7, u7, n7⟩ => ?_
      refine thnF (bg.run _ s7 _ H7 x u _ (I7.pinned (fpk I7 n7) (T.obj _ _ u7)) r7 (step x H7 y7)) fun _ s8 ⟨σ8, H8, I8, c8, q8⟩ => ?_
      refine thnF (bt.run _ s8 σ8 H8 _ I8 q8) fun b s9 ⟨H9, I9, q9⟩ => ?_
      have fin : ∀ {s' : Shared} {H' : Hp}, Inv (X.blk s3 G sc env fp) ([] ++ pinsAt fp s7.heap) σ8 H' s' → Nx H' → ∃ m, m < n ∧ ∃ i H', W i m H' ∧ Inv (X.blk s3 G sc env fp) [] (wipe σ (own.map (·.2))) H' s' ∧ tn i s'.heap ∧ ∀ b ∈ fp, H' b = none := fun {s' H'} K nx => by
        obtain ⟨m', lm, w'⟩ := later H' nx
        have stay : ∀ b ∈ fp, ∀ o, s7.heap.get? b = some o → s'.heap.get? b = some o ∧ H' b = none := fun b hb o e =>
          let y := K.pin (b, o) (List.mem_append_right _ (List.mem_append_right _ (mem_pinsAt hb e)))
          ⟨y.1, y.2.1⟩
        refine ⟨m', lm, i + 1, H', w', (K.unpinned (pins := [])).weak (by rw [← c8, wipe_length]) (fun j v e => ?_), T.keep _ _ _ u7 fun b hb o e => (stay b hb o e).1, fun b hb => ?_⟩
        · rw [← c8] at e
          exact (wipe_some e).1
        · obtain ⟨o, e, _⟩ := T.obj _ _ u7 b hb
          exact (stay b hb o e).2
      cases b with
      | false => exact fin I9 q9
      | true =>
        refine thnF (bk'.run _ s9 σ8 H9 _ I9 q9) fun y s10 ⟨yk, H10, I10, r10, q10⟩ => ?_
        refine thnF (bv.run _ s10 σ8 H10 _ I10 q10) fun y2 s11 ⟨yv, H11, I11, r11, kvs, k, q, ek, eq, eD', lt, nx⟩ => ?_
        subst ek
        obtain rfl : y = Value.ref q := r10
        exact dictSetT (X := X.blk s3 G sc env fp) hu I11 eD' eq lt r11 fun s12 I12 => fin I12 nx
  exact codeAny_compStart_dict rounds (T.self X.A 0 _ _ _ u4 rounds)
/-- its turns over a walk of n turns -/
theorem dcT_it {J : It} {n : Nat} {Gd : Hp → Prop} {Y : Nat → Hp → V → Hp → Prop} (w : Walk J n Gd Y) {g : TG} {tt : TT} {tk tv : TE} {vs : List Nat} {σ : L2.St} {H1 : Hp} {D : Addr} {Qd : Hp → Prop} (Pv : Nat → Hp → Prop) (h0 : Pv 0 (upd H1 D (.dT []))) (hG : ∀ i H, i ≤ n → Pv i H → Gd H)
    (hs : ∀ i x H H', i < n → Pv i H → Y i H x H' → g x (wipe σ vs) H' fun σ2 H2 => wipe σ2 vs = wipe σ vs ∧ tt σ2 H2 fun b H3 =>
      if b = true then tk σ2 H3 fun y H4 => tv σ2 H4 fun z H5 => ∃ kvs k q, y = .ref q ∧ H5 q = some (.tup (k.map kV)) ∧ H5 D = some (.dT kvs) ∧ kvs.length < sizeLine ∧ Pv (i + 1) (upd H5 D (.dT (putK kvs k z))) else Pv (i + 1) H3) (hd : ∀ H, Pv n H → Qd H) :
    ∃ W : Nat → Nat → Hp → Prop, (∃ m, W 0 m (upd H1 D (.dT []))) ∧ ∀ i m H, W i m H →
      (J.stop i H ∧ Qd H) ∨ (J.go i H ∧ ∃ Nx : Hp → Prop, (∀ H', Nx H' → ∃ m', m' < m ∧ W (i + 1) m' H') ∧ ∀ x H', J.yld i H x H' → g x (wipe σ vs) H' fun σ2 H2 => wipe σ2 vs = wipe σ vs ∧ tt σ2 H2 fun b H3 =>
        if b = true then tk σ2 H3 fun y H4 => tv σ2 H4 fun z H5 => ∃ kvs k q, y = .ref q ∧ H5 q = some (.tup (k.map kV)) ∧ H5 D = some (.dT kvs) ∧ kvs.length < sizeLine ∧ Nx (upd H5 D (.dT (putK kvs k z))) else Nx H3) := by
  refine ⟨fun i m H => m = n - i ∧ i ≤ n ∧ Pv i H, ⟨n, by simp, Nat.zero_le _, h0⟩, ?_⟩
  rintro i m H ⟨rfl, hi, p⟩
  have q := hG i H hi p
  by_cases hlt : i < n
  · exact .inr ⟨w.goes i H hlt q, Pv (i + 1), fun H' p' => ⟨n - (i + 1), by omega, rfl, hlt, p'⟩, fun x H' y => hs i x H H' hlt p (w.yields i H x H' hlt q y)⟩
  · have e : i = n := by omega
    subst e
    exact .inl ⟨w.stops H q, hd H p⟩
end
end My

set_option Elab.async false
set_option linter.all false
set_option maxRecDepth 100000
set_option maxHeartbeats 1000000
/-! ### list(zip(a, b)), sorted(zip(a, b)) of lists, by values -/
namespace My
open PySem PySem.W PySem.Spec PyProof.Rows PyProof.V L2
theorem eachAt {α β : Type} {R : α → β → Prop} : ∀ {as : List α} {bs : List β}, as.length = bs.length → (∀ (j : Nat) (a : α) (b : β), as[j]? = some a → bs[j]? = some b → R a b) → EachIs R as bs
  | [], [], _, _ => .nil
  | [], _ :: _, h, _ => by simp at h
  | _ :: _, [], h, _ => by simp at h
  | a :: as, b :: bs, h, k => .cons (k 0 a b rfl rfl) (eachAt (by simpa using h) fun j x y e1 e2 => k (j + 1) x y (by simpa using e1) (by simpa using e2))
theorem pairedAt {α β : Type} {R : α → β → Prop} : ∀ {as : List α} {bs : List β}, as.length = bs.length → (∀ (j : Nat) (a : α) (b : β), as[j]? = some a → bs[j]? = some b → R a b) → Paired R as bs
  | [], [], _, _ => .nil
  | [], _ :: _, h, _ => by simp at h
  | _ :: _, [], h, _ => by simp at h
  | a :: as, b :: bs, h, k => .cons (k 0 a b rfl rfl) (pairedAt (by simpa using h) fun j x y e1 e2 => k (j + 1) x y (by simpa using e1) (by simpa using e2))
theorem sortVals_perm (κ : PyProof.Rows.KeyKind) (vs : List Value) : (sortVals κ false vs vs).Perm vs := by
  unfold sortVals
  have e : (vs.zip vs).map Prod.snd = vs := List.map_snd_zip (Nat.le_refl _)
  have q := (List.mergeSort_perm (vs.zip vs) (sortLe κ.toKeyOrd false fun p : Keyed => keyD κ p.1)).map Prod.snd
  rw [e] at q
  exact q
section
variable {X : Cx}
/-- zip(a, b) of two lists is made -/
theorem zipMade {pins : List (Addr × Obj)} {σ : L2.St} {H : Hp} {s : Shared} {E : Value → Shared → Prop} {a b : Addr} {xs ys : List V} {Q : Value → Shared → Prop} (I : Inv X pins σ H s) (ha : SqL X.K H a xs) (hb : SqL X.K H b ys)
    (h : ∀ (us vs : List Value) (h' : Heap), Vals xs us → Vals ys vs → us.length ≤ sizeLine → ZipL.Zn (s.heap.objs.size + 4) (s.heap.objs.size + 2) (s.heap.objs.size + 3) s.heap.objs.size (s.heap.objs.size + 1) a b us.toArray vs.toArray h' →
      ZipApart (s.heap.objs.size + 4) (s.heap.objs.size + 2) (s.heap.objs.size + 3) s.heap.objs.size (s.heap.objs.size + 1) a b → h'.objs.size = s.heap.objs.size + 5 → (∀ c o, s.heap.get? c = some o → h'.get? c = some o) → Q (.ref (s.heap.objs.size + 4)) { s with heap := h' }) :
    wpAny (model X.prog X.w) X.A (call (.type "zip") [.ref a, .ref b]) Q E s := by
  obtain ⟨us, r1, p1, z1⟩ := I.list ha
  obtain ⟨vs, r2, p2, _⟩ := I.list hb
  have l1 := p1.isList
  have l2 := p2.isList
  refine call_zip_2 l1 l2 fun h' hz hTI hTO c1 c2 hs hk => ?_
  exact h us vs h' r1 r2 (by rw [← r1.length]; exact z1) ⟨hz, hTI, hTO, c1, c2, l1.at fun o e => hk _ o e, l2.at fun o e => hk _ o e⟩ (PySem.W.ktu_apart s.heap.objs.size a b p1.lt p2.lt) hs hk
/-- list(zip(a, b)) -/
def tListZ (K : PySem.W.Frag) (ta : TA) : TE := fun σ H Q => ta σ H fun vs H1 => ∃ a b xs ys, vs = [V.ref a, V.ref b] ∧ SqL K H1 a xs ∧ SqL K H1 b ys ∧ xs.length = ys.length ∧
  ∀ H2 l ts, (∀ c o, H1 c = some o → H2 c = some o) → H2 l = some (.lst (ts.map V.ref)) → H1 l = none → Paired (fun t (p : V × V) => H2 t = some (.tup [p.1, p.2]) ∧ H1 t = none) ts (xs.zip ys) → Q (.ref l) H2
/-- sorted(zip(a, b)), a a list of tuples of two ints, b of ints; the order is left open -/
def tSortZ (K : PySem.W.Frag) (ta : TA) : TE := fun σ H Q => ta σ H fun vs H1 => ∃ (a b : Addr) (ds : List (Addr × Int × Int)) (ks : List Int), vs = [V.ref a, V.ref b] ∧ SqL K H1 a (ds.map fun d => V.ref d.1) ∧ SqL K H1 b (ks.map V.int) ∧ ds.length = ks.length ∧
  (∀ d ∈ ds, H1 d.1 = some (.tup [.int d.2.1, .int d.2.2])) ∧
  ∀ (H2 : Hp) (l : Addr) (ps : List (Addr × (Addr × Int × Int) × Int)), (∀ c o, H1 c = some o → H2 c = some o) → (ps.map (·.2)).Perm (ds.zip ks) → H2 l = some (.lst (ps.map fun p => V.ref p.1)) → (∀ p ∈ ps, H2 p.1 = some (.tup [.ref p.2.1.1, .int p.2.2])) → Q (.ref l) H2
/-- the zip's internals are none of what was there -/
theorem keepsOld {s : Shared} {h0 h' : Heap} (hk : ∀ c o, s.heap.get? c = some o → h0.get? c = some o) (k : ZipL.Keeps (s.heap.objs.size + 4) (s.heap.objs.size + 3) s.heap.objs.size (s.heap.objs.size + 1) h0 h') : ∀ c o, s.heap.get? c = some o → h'.get? c = some o := fun c o e => by
  have lt := Heap.lt_size e
  exact k c o (Nat.ne_of_lt (Nat.lt_of_lt_of_le lt (Nat.le_add_right _ _))) (Nat.ne_of_lt (Nat.lt_of_lt_of_le lt (Nat.le_add_right _ _))) (Nat.ne_of_lt lt) (Nat.ne_of_lt (Nat.lt_of_lt_of_le lt (Nat.le_add_right _ _))) (hk c o e)
theorem pairOk {P : Program} {w : World} {h : Heap} {t : Addr} {x y : V} {u v : Value} (ru : RelV x u) (rv : RelV y v) (e : PySem.IsPair h t u v) : ∀ H2, ObjOk P w H2 h t (.tup [x, y]) := fun H2 =>
  ⟨by rw [sizeLine_eq]; show 2 ≤ 16777216; omega, [u, v], .cons ru (.cons rv .nil), ⟨_, e, rfl, 0, rfl⟩⟩
theorem valsAt : ∀ {xs : List V} {us : List Value} {j : Nat} {u : Value}, Vals xs us → us[j]? = some u → ∃ x, xs[j]? = some x ∧ RelV x u
  | _, _, j, u, .nil, e => by simp at e
  | _, _, 0, u, .cons (a := x) r _, e => by
    obtain rfl := Option.some.inj e
    exact ⟨x, rfl, r⟩
  | _, _, j + 1, u, .cons _ t, e => by
    obtain ⟨x, e1, e2⟩ := valsAt t (show _ = some u by simpa using e)
    exact ⟨x, by simpa using e1, e2⟩
theorem pe_sortZ {e e2 : Expr} {ta : TA} {p q pos pos2 : Pos} (hu : X.A.units + 64 < cLine) (hc : X.calm = true) (hg : Gl X "sorted") (hm : X.mg "sorted" = none) (hg2 : Gl X "zip") (hm2 : X.mg "zip" = none) (ha : PA X [e, e2] ta)
    (hs : starEach [e, e2] X.env = (false, eval e X.env) :: starEach [e2] X.env := by rfl) (hpl : (backTo pos (starEach [e2] X.env)).any (·.1) = false := by rfl)
    (hse : starEach [Expr.Call (.Name "zip" q) [e, e2] [] pos] X.env = [(false, eval (Expr.Call (.Name "zip" q) [e, e2] [] pos) X.env)] := by rfl) :
    PE X (.Call (.Name "sorted" p) [.Call (.Name "zip" q) [e, e2] [] pos] [] pos2) (tSortZ X.K ta) := by
  refine ⟨fun pins s σ H Q I h => ?_⟩
  refine wpAny_Call_Name_kw (ld_blt I hg hm (u := .builtin "sorted") (by first | rfl | decide +kernel) ?_ (by first | decide +kernel | decide) (by first | decide +kernel | decide))
  rw [hse]
  refine PySem.callWith_builtin1 (Call_ (ld_blt I hg2 hm2 PyProof.Rows.boot_zip (PyProof.Rows.callWith_type1 (thn (ha.run pos pins s σ H _ I h) fun us0 s1 ⟨vs0, H1, I1, r1, q1⟩ => ?_) hs hpl)))
  obtain ⟨a, b, ds, ks, rfl, la, lb, hl, hd, q2⟩ := q1
  obtain ⟨ua, ub, rfl, ra, rb⟩ := vals2 r1
  obtain rfl : ua = Value.ref a := ra
  obtain rfl : ub = Value.ref b := rb
  refine zipMade I1 la lb fun us vs h0 v1 v2 zl zn D hs0 hk => ?_
  have lu : us.length = ds.length := by rw [← v1.length, List.length_map]
  have lv : vs.length = ds.length := by rw [← v2.length, List.length_map, hl]
  refine ZipL.call_sorted (s := { s1 with heap := h0 }) (I.ok.hd hc) D zn (by simp [lu, lv]) (by simpa using zl) fun h1 tk ts k1 lt1 lt2 G => ?_
  have lts : ts.length = (ds.zip ks).length := by rw [lt2, List.size_toArray, lu, List.length_zip, hl, Nat.min_self]
  have old := keepsOld hk k1
  have big : s1.heap.objs.size ≤ h1.objs.size := by
    have z : h0.objs.size < h1.objs.size := lt1
    omega
  -- what is collected
  have at_ : ∀ (j : Nat) (t : Addr), ts[j]? = some t → ∃ d k x y, ds[j]? = some d ∧ ks[j]? = some k ∧ x = Value.ref d.1 ∧ (∃ w, y = Value.int k w) ∧ PySem.IsPair h1 t x y := fun j t hj => by
    obtain ⟨x, y, ex, ey, e⟩ := G.pairs j t hj
    rw [List.getElem?_toArray] at ex ey
    obtain ⟨x', ex', rx⟩ := valsAt v1 ex
    obtain ⟨y', ey', ry⟩ := valsAt v2 ey
    rw [List.getElem?_map] at ex' ey'
    obtain ⟨d, hd1, e1⟩ := Option.map_eq_some_iff.mp ex'
    obtain ⟨k, hk1, e2⟩ := Option.map_eq_some_iff.mp ey'
    subst e1 e2
    obtain ⟨w, ew⟩ := (show ∃ w, y = Value.int k w from ry)
    exact ⟨d, k, x, y, hd1, hk1, rx, ⟨w, ew⟩, e⟩
  have hob : (h1.push { cls := .type "list", data := .seq (ts.map Value.ref).toArray }).get? h1.objs.size = some (seqObj "list" (ts.map Value.ref).toArray 0) := Heap.get?_push_size _ rfl
  have p2 : ∀ b o, h1.get? b = some o → (h1.push { cls := .type "list", data := .seq (ts.map Value.ref).toArray }).get? b = some o := fun b o e => Heap.get?_push_of_some _ e
  generalize eh2 : h1.push { cls := .type "list", data := .seq (ts.map Value.ref).toArray } = h2 at hob p2 ⊢
  have ne0 : ∀ {b o}, h1.get? b = some o → b ≠ h1.objs.size := fun e => Nat.ne_of_lt (Heap.lt_size e)
  let enc : (Addr × Int × Int) × Int → PyData := fun p => .tuple [.tuple [.int p.1.2.1, .int p.1.2.2], .int p.2]
  have each : EachIs (fun v d => ∃ as, Reads (sortingHeap h2 h1.objs.size (ts.map Value.ref)) v d as) (ts.map Value.ref) ((ds.zip ks).map enc) := by
    refine eachAt (by rw [List.length_map, List.length_map, lts]) fun j v d e1 e2 => ?_
    rw [List.getElem?_map] at e1 e2
    obtain ⟨t, ht, rfl⟩ := Option.map_eq_some_iff.mp e1
    obtain ⟨dk, hdk, rfl⟩ := Option.map_eq_some_iff.mp e2
    obtain ⟨d, k, x, y, f1, f2, rfl, ⟨w, rfl⟩, f3⟩ := at_ j t ht
    have edk : dk = (d, k) := by
      have z := List.getElem?_zip_eq_some.mpr (⟨f1, f2⟩ : ds[j]? = some (d, k).1 ∧ ks[j]? = some (d, k).2)
      exact Option.some.inj (hdk.symm.trans z)
    subst edk
    obtain ⟨_, its, rv, o, g1, g2, n, g3⟩ := (show ObjOk X.prog X.w H1 s1.heap d.1 (.tup [.int d.2.1, .int d.2.2]) from I1.hok d.1 _ (hd d (List.mem_of_getElem? f1)))
    obtain ⟨w1, w2, rfl, ⟨m1, rfl⟩, ⟨m2, rfl⟩⟩ := vals2 rv
    have g1' : h1.get? d.1 = some o := old _ _ g1
    exact ⟨_, Reads.tuple (sortingHeap_old (ne0 f3) (p2 _ _ f3)) rfl rfl (.cons (Reads.tuple (sortingHeap_old (ne0 g1') (p2 _ _ g1')) g2 g3 (.cons (.int _ _) (.cons (.int _ _) .nil))) (.cons (.int _ _) .nil))⟩
  have S : SortsAt X.prog X.w X.A.in1.in1 { s1 with heap := sortingHeap h2 h1.objs.size (ts.map Value.ref), toks := tk } _ (ts.map Value.ref) := SortsAt.data (s := { s1 with heap := sortingHeap h2 h1.objs.size (ts.map Value.ref), toks := tk }) each
    (fun d h1 d' h2 => by
      obtain ⟨p1, _, rfl⟩ := List.mem_map.mp h1
      obtain ⟨p2, _, rfl⟩ := List.mem_map.mp h2
      simp [enc, alike, alikeAll])
    (.inl fun d h1 => by
      obtain ⟨p1, _, rfl⟩ := List.mem_map.mp h1
      exact ⟨_, _, rfl⟩)
    (fun d h1 => by
      obtain ⟨p1, _, rfl⟩ := List.mem_map.mp h1
      show X.A.units + 1 + 1 + _ < cLine
      simp [enc, PyData.depth, PyData.depthAll]
      omega)
  have hlen : (ts.map Value.ref).length ≤ sizeLine := by rw [List.length_map, lt2]; simpa using zl
  refine wpAny_call_entry PyProof.Rows.slot_list_sort ⟨_, hob, rfl⟩ PyProof.Rows.entry_list_sort (list_sort_vals (s := { s1 with heap := h2, toks := tk }) hob S hlen ⟨.none, rfl, ?_⟩) (PyProof.Rows.args_list_sort _)
  generalize eo : sortVals (dataKind (sortingHeap h2 h1.objs.size (ts.map Value.ref)) ((ds.zip ks).map enc)) false (ts.map Value.ref) (ts.map Value.ref) = out
  have op : out.Perm (ts.map Value.ref) := by rw [← eo]; exact sortVals_perm _ _
  show EP X pins σ Q (.ref h1.objs.size) { s1 with heap := sortedHeap h2 h1.objs.size (ts.map Value.ref) out.toArray, toks := tk }
  obtain ⟨zs, pz, ez⟩ := perm_lift (fun z : Addr × (Addr × Int × Int) × Int => Value.ref z.1) op (ts.zip (ds.zip ks)) (by
    rw [show (ts.zip (ds.zip ks)).map (fun z => Value.ref z.1) = ((ts.zip (ds.zip ks)).map Prod.fst).map Value.ref by rw [List.map_map] <;> rfl, List.map_fst_zip (Nat.le_of_eq lts)])
  have kF : ∀ b o, h1.get? b = some o → (sortedHeap h2 h1.objs.size (ts.map Value.ref) out.toArray).get? b = some o := fun b o e => (PyProof.Rows.sortedHeap_old (ne0 e) (Heap.lt_size (p2 b o e))).trans (p2 b o e)
  obtain ⟨eF, heF⟩ := PyProof.Rows.sortedHeap_at (vs := ts.map Value.ref) (out := out.toArray) hob
  generalize sortedHeap h2 h1.objs.size (ts.map Value.ref) out.toArray = hF at kF heF
  have J : Inv X pins σ H1 { s1 with heap := hF, toks := tk } := I1.kept (t' := tk) fun b o e => kF b o (old b o e)
  have n0 : H1 h1.objs.size = none := I1.hok.fresh big
  have rv : Vals (zs.map fun z => V.ref z.1) out := by
    rw [← ez]
    exact vals_maps (fun z : Addr × (Addr × Int × Int) × Int => V.ref z.1) (fun z => Value.ref z.1) zs fun _ _ => rfl
  have J2 : Inv X pins σ (upd H1 h1.objs.size (.lst (zs.map fun z => V.ref z.1))) { s1 with heap := hF, toks := tk } :=
    J.take (h' := hF) (t' := tk) (fun b ob _ e => e) (I1.fpOk big n0) ⟨by rw [rv.length, op.length_eq]; exact hlen, out, eF, rv, heF⟩
  have nd : ts.Nodup := List.Pairwise.imp (fun h => Nat.ne_of_lt h) G.rise
  obtain ⟨H2, J3, g, qt⟩ := DX.takeT (P := fun t vs => ∃ (j : Nat) (d : Addr × Int × Int) (k : Int), ts[j]? = some t ∧ ds[j]? = some d ∧ ks[j]? = some k ∧ vs = [V.ref d.1, V.int k]) I1 ts _ J2 nd fun t ht => by
    obtain ⟨j, hj⟩ := List.mem_iff_getElem?.mp ht
    obtain ⟨d, k, x, y, f1, f2, rfl, ⟨w, rfl⟩, f3⟩ := at_ j t hj
    have lo : s1.heap.objs.size ≤ t := by
      have z : h0.objs.size + 1 ≤ t := G.above t ht
      exact Nat.le_trans (by omega) z
    refine ⟨lo, ?_, _, ⟨j, d, k, hj, f1, f2, rfl⟩, pairOk (show RelV (.ref d.1) (Value.ref d.1) from rfl) (show RelV (.int k) (Value.int k w) from ⟨w, rfl⟩) (kF _ _ f3)⟩
    rw [upd_ne (ne0 f3)]
    exact I1.hok.fresh lo
  refine ⟨.ref h1.objs.size, H2, J3, rfl, q2 H2 _ zs (fun c o e => g c o (by rw [upd_ne (ne_of_none e n0)]; exact e)) ?_ (g _ _ upd_same) fun z hz => ?_⟩
  · have e := pz.map (·.2)
    have m2 : (ts.zip (ds.zip ks)).map (·.2) = ds.zip ks := List.map_snd_zip (Nat.le_of_eq lts.symm)
    rw [m2] at e
    exact e
  · obtain ⟨i, hi⟩ := List.mem_iff_getElem?.mp (pz.mem_iff.mp hz)
    obtain ⟨i1, i2⟩ := List.getElem?_zip_eq_some.mp hi
    obtain ⟨i3, i4⟩ := List.getElem?_zip_eq_some.mp i2
    obtain ⟨vs', ⟨j, d, k, j1, j2, j3, ev⟩, hH⟩ := qt z.1 (List.mem_of_getElem? i1)
    have eij : i = j := (List.getElem?_inj (List.getElem?_eq_some_iff.mp i1).1 nd).mp (i1.trans j1.symm)
    subst eij
    rw [ev, Option.some.inj (j2.symm.trans i3), Option.some.inj (j3.symm.trans i4)] at hH
    exact hH
theorem pe_listZ {e e2 : Expr} {ta : TA} {p q pos pos2 : Pos} (hc : X.calm = true) (hg : Gl X "list") (hm : X.mg "list" = none) (hg2 : Gl X "zip") (hm2 : X.mg "zip" = none) (ha : PA X [e, e2] ta)
    (hs : starEach [e, e2] X.env = (false, eval e X.env) :: starEach [e2] X.env := by rfl) (hpl : (backTo pos (starEach [e2] X.env)).any (·.1) = false := by rfl)
    (hse : starEach [Expr.Call (.Name "zip" q) [e, e2] [] pos] X.env = [(false, eval (Expr.Call (.Name "zip" q) [e, e2] [] pos) X.env)] := by rfl) :
    PE X (.Call (.Name "list" p) [.Call (.Name "zip" q) [e, e2] [] pos] [] pos2) (tListZ X.K ta) := by
  refine ⟨fun pins s σ H Q I h => ?_⟩
  refine wpAny_Call_Name_kw (ld_blt I hg hm (u := .type "list") (by first | rfl | decide +kernel) ?_ (by first | decide +kernel | decide) (by first | decide +kernel | decide))
  rw [hse]
  refine PySem.callWith_type1 (Call_ (ld_blt I hg2 hm2 PyProof.Rows.boot_zip (PyProof.Rows.callWith_type1 (thn (ha.run pos pins s σ H _ I h) fun us0 s1 ⟨vs0, H1, I1, r1, q1⟩ => ?_) hs hpl)))
  obtain ⟨a, b, xs, ys, rfl, la, lb, hl, q2⟩ := q1
  obtain ⟨ua, ub, rfl, ra, rb⟩ := vals2 r1
  obtain rfl : ua = Value.ref a := ra
  obtain rfl : ub = Value.ref b := rb
  refine zipMade I1 la lb fun us vs h0 v1 v2 zl zn D hs0 hk => ?_
  have lu : us.length = xs.length := v1.length.symm
  have lv : vs.length = xs.length := by rw [← v2.length, hl]
  refine ZipL.call_list (s := { s1 with heap := h0 }) (I.ok.hd hc) D zn (by simp [lu, lv]) (by simpa using zl) fun h1 tk acc c ts k1 hl1 lt2 G hacc => ?_
  have lts : ts.length = xs.length := by rw [lt2, List.size_toArray, lu]
  have old := keepsOld hk k1
  have b0 : s1.heap.objs.size ≤ h0.objs.size := by omega
  have n0 : H1 h0.objs.size = none := I1.hok.fresh b0
  have J : Inv X pins σ H1 { s1 with heap := h1, toks := tk } := I1.kept (t' := tk) old
  have hlen : (ts.map V.ref).length ≤ sizeLine := by rw [List.length_map, lt2]; simpa using zl
  have J2 : Inv X pins σ (upd H1 h0.objs.size (.lst (ts.map V.ref))) { s1 with heap := h1, toks := tk } :=
    J.take (h' := h1) (t' := tk) (fun b ob _ e => e) (I1.fpOk b0 n0) ⟨hlen, acc.toList, c, by rw [hacc]; exact vals_maps V.ref Value.ref ts fun _ _ => rfl, hl1⟩
  have nd : ts.Nodup := List.Pairwise.imp (fun h => Nat.ne_of_lt h) G.rise
  have lo : ∀ t ∈ ts, h0.objs.size < t := fun t ht => by
    have z : h0.objs.size + 1 ≤ t := G.above t ht
    exact z
  obtain ⟨H2, J3, g, qt⟩ := DX.takeT (P := fun t vs => ∃ (j : Nat) (x y : V), ts[j]? = some t ∧ xs[j]? = some x ∧ ys[j]? = some y ∧ vs = [x, y]) I1 ts _ J2 nd fun t ht => by
    obtain ⟨j, hj⟩ := List.mem_iff_getElem?.mp ht
    obtain ⟨u, v, ex, ey, e⟩ := G.pairs j t hj
    rw [List.getElem?_toArray] at ex ey
    obtain ⟨x, ex', rx⟩ := valsAt v1 ex
    obtain ⟨y, ey', ry⟩ := valsAt v2 ey
    have lo' : s1.heap.objs.size ≤ t := Nat.le_trans b0 (Nat.le_of_lt (lo t ht))
    refine ⟨lo', ?_, _, ⟨j, x, y, hj, ex', ey', rfl⟩, pairOk rx ry e⟩
    rw [upd_ne (Nat.ne_of_gt (lo t ht))]
    exact I1.hok.fresh lo'
  refine ⟨.ref h0.objs.size, H2, J3, rfl, q2 H2 _ ts (fun c o e => g c o (by rw [upd_ne (ne_of_none e n0)]; exact e)) (g _ _ upd_same) n0 ?_⟩
  refine pairedAt (by rw [lts, List.length_zip, hl, Nat.min_self]) fun j t p ej ep => ?_
  obtain ⟨e1, e2'⟩ := List.getElem?_zip_eq_some.mp ep
  obtain ⟨vs', ⟨i, x, y, i1, i2, i3, ev⟩, hH⟩ := qt t (List.mem_of_getElem? ej)
  have eij : i = j := (List.getElem?_inj (List.getElem?_eq_some_iff.mp i1).1 nd).mp (i1.trans ej.symm)
  subst eij
  rw [ev, Option.some.inj (i2.symm.trans e1), Option.some.inj (i3.symm.trans e2')] at hH
  exact ⟨hH, I1.hok.fresh (Nat.le_trans b0 (Nat.le_of_lt (lo t (List.mem_of_getElem? ej))))⟩
end
end My

set_option Elab.async false
set_option linter.all false
set_option maxRecDepth 100000
set_option maxHeartbeats 4000000
namespace My
open PySem PySem.Spec PyProof.Rows L2
def topS (i : Nat) : Stmt := PySem.Challenge.pw_dotquilts_k33_format_words.main.body.getD i (.Pass ⟨0, 0, 0, 0⟩)
abbrev s_is_number_to : Stmt := topS 3
theorem sc_is_number_to : FnScope ["thing", "least", "most"] ["thing", "least", "most"] (defScope s_is_number_to) := ⟨rfl, rfl, rfl, by decide +kernel, rfl, by decide +kernel, by decide +kernel⟩
abbrev s_need_mask : Stmt := topS 19
theorem sc_need_mask : FnScope ["mask"] ["mask"] (defScope s_need_mask) := ⟨rfl, rfl, rfl, by decide +kernel, rfl, by decide +kernel, by decide +kernel⟩
abbrev s_need_level : Stmt := topS 14
theorem sc_need_level : FnScope ["level"] ["level"] (defScope s_need_level) := ⟨rfl, rfl, rfl, by decide +kernel, rfl, by decide +kernel, by decide +kernel⟩
abbrev s_need_size : Stmt := topS 13
theorem sc_need_size : FnScope ["size"] ["size"] (defScope s_need_size) := ⟨rfl, rfl, rfl, by decide +kernel, rfl, by decide +kernel, by decide +kernel⟩
abbrev s__law_cell_at : Stmt := topS 26
theorem sc__law_cell_at : FnScope ["_law_script", "_law_k"] ["_law_script", "_law_k"] (defScope s__law_cell_at) := ⟨rfl, rfl, rfl, by decide +kernel, rfl, by decide +kernel, by decide +kernel⟩
abbrev s__law_source_of : Stmt := topS 27
theorem sc__law_source_of : FnScope ["_law_cell"] ["_law_cell"] (defScope s__law_source_of) := ⟨rfl, rfl, rfl, by decide +kernel, rfl, by decide +kernel, by decide +kernel⟩
abbrev s__law_next : Stmt := topS 28
theorem sc__law_next : FnScope ["_law_source", "_law_bound", "_law_found", "_law_prime", "_law_mixed"] ["_law_source", "_law_bound"] (defScope s__law_next) := ⟨rfl, rfl, rfl, by decide +kernel, rfl, by decide +kernel, by decide +kernel⟩
abbrev s__law_table : Stmt := topS 30
theorem sc__law_table : FnScope ["_law_size_so", "_law_rows", "_law_later", "_law_many", "_law_sizes_so"] ["_law_size_so"] (defScope s__law_table) := ⟨rfl, rfl, rfl, by decide +kernel, rfl, by decide +kernel, by decide +kernel⟩
abbrev s__law_ribbons : Stmt := topS 32
theorem sc__law_ribbons : FnScope ["_law_many", "_law_first", "_law_second", "_law_at", "_law_spot"] ["_law_many"] (defScope s__law_ribbons) := ⟨rfl, rfl, rfl, by decide +kernel, rfl, by decide +kernel, by decide +kernel⟩
abbrev s_word_of_format : Stmt := topS 20
theorem sc_word_of_format : FnScope ["level", "mask"] ["level", "mask"] (defScope s_word_of_format) := ⟨rfl, rfl, rfl, by decide +kernel, rfl, by decide +kernel, by decide +kernel⟩
abbrev s_as_bits : Stmt := topS 1
theorem sc_as_bits : FnScope ["number", "many", "place"] ["number", "many"] (defScope s_as_bits) := ⟨rfl, rfl, rfl, by decide +kernel, rfl, by decide +kernel, by decide +kernel⟩
abbrev s_strip_shades : Stmt := topS 23
theorem sc_strip_shades : FnScope ["level", "mask"] ["level", "mask"] (defScope s_strip_shades) := ⟨rfl, rfl, rfl, by decide +kernel, rfl, by decide +kernel, by decide +kernel⟩
abbrev s__law_written : Stmt := topS 33
theorem sc__law_written : FnScope ["_law_level_so", "_law_mask_so", "_law_number", "_law_at", "_law_told_so", "_law_left", "_law_to", "_law_bit", "_law_one", "_law_other"] ["_law_level_so", "_law_mask_so"] (defScope s__law_written) := ⟨rfl, rfl, rfl, by decide +kernel, rfl, by decide +kernel, by decide +kernel⟩
abbrev s_format_word : Stmt := topS 21
theorem sc_format_word : FnScope ["level", "mask"] ["level", "mask"] (defScope s_format_word) := ⟨rfl, rfl, rfl, by decide +kernel, rfl, by decide +kernel, by decide +kernel⟩
abbrev s_strip_dots : Stmt := topS 22
theorem sc_strip_dots : FnScope ["size", "many", "at"] ["size"] (defScope s_strip_dots) := ⟨rfl, rfl, rfl, by decide +kernel, rfl, by decide +kernel, by decide +kernel⟩
abbrev s_format_dots : Stmt := topS 24
theorem sc_format_dots : FnScope ["size", "level", "mask", "dot", "bit"] ["size", "level", "mask"] (defScope s_format_dots) := ⟨rfl, rfl, rfl, by decide +kernel, rfl, by decide +kernel, by decide +kernel⟩
abbrev s__law_ones : Stmt := topS 34
theorem sc__law_ones : FnScope ["_law_number", "_law_at"] ["_law_number"] (defScope s__law_ones) := ⟨rfl, rfl, rfl, by decide +kernel, rfl, by decide +kernel, by decide +kernel⟩
abbrev s__law_right : Stmt := topS 35
theorem sc__law_right : FnScope ["_law_size_so", "_law_level_so", "_law_mask_so", "_law_bits", "_law_due", "_law_ribbon", "_law_found"] ["_law_size_so", "_law_level_so", "_law_mask_so"] (defScope s__law_right) := ⟨rfl, rfl, rfl, by decide +kernel, rfl, by decide +kernel, by decide +kernel⟩
abbrev s_law : Stmt := topS 36
theorem sc_law : FnScope ["_law_script", "_law_known", "_law_level_so", "_law_mask_so", "_law_bits", "_law_number", "_law_k", "_law_source", "_law_turn", "_law_one"] ["_law_script"] (defScope s_law) := ⟨rfl, rfl, rfl, by decide +kernel, rfl, by decide +kernel, by decide +kernel⟩
structure Txt (K : PySem.W.Frag) (mg : Str → Option Value) where
  f_is_number_to : Addr
  d_is_number_to : FuncData
  F_is_number_to : Fun K "is_number_to" "is_number_to" s_is_number_to f_is_number_to d_is_number_to
  g_is_number_to : mg "is_number_to" = some (.ref f_is_number_to)
  b_is_number_to : Binds K d_is_number_to ["thing", "least", "most"] []
  f_need_mask : Addr
  d_need_mask : FuncData
  F_need_mask : Fun K "need_mask" "need_mask" s_need_mask f_need_mask d_need_mask
  g_need_mask : mg "need_mask" = some (.ref f_need_mask)
  b_need_mask : Binds K d_need_mask ["mask"] []
  f_need_level : Addr
  d_need_level : FuncData
  F_need_level : Fun K "need_level" "need_level" s_need_level f_need_level d_need_level
  g_need_level : mg "need_level" = some (.ref f_need_level)
  b_need_level : Binds K d_need_level ["level"] []
  f_need_size : Addr
  d_need_size : FuncData
  F_need_size : Fun K "need_size" "need_size" s_need_size f_need_size d_need_size
  g_need_size : mg "need_size" = some (.ref f_need_size)
  b_need_size : Binds K d_need_size ["size"] []
  f__law_cell_at : Addr
  d__law_cell_at : FuncData
  F__law_cell_at : Fun K "_law_cell_at" "_law_cell_at" s__law_cell_at f__law_cell_at d__law_cell_at
  g__law_cell_at : mg "_law_cell_at" = some (.ref f__law_cell_at)
  b__law_cell_at : Binds K d__law_cell_at ["_law_script", "_law_k"] []
  f__law_source_of : Addr
  d__law_source_of : FuncData
  F__law_source_of : Fun K "_law_source_of" "_law_source_of" s__law_source_of f__law_source_of d__law_source_of
  g__law_source_of : mg "_law_source_of" = some (.ref f__law_source_of)
  b__law_source_of : Binds K d__law_source_of ["_law_cell"] []
  f__law_next : Addr
  d__law_next : FuncData
  F__law_next : Fun K "_law_next" "_law_next" s__law_next f__law_next d__law_next
  g__law_next : mg "_law_next" = some (.ref f__law_next)
  b__law_next : Binds K d__law_next ["_law_source", "_law_bound"] []
  f__law_table : Addr
  d__law_table : FuncData
  F__law_table : Fun K "_law_table" "_law_table" s__law_table f__law_table d__law_table
  g__law_table : mg "_law_table" = some (.ref f__law_table)
  b__law_table : Binds K d__law_table ["_law_size_so"] []
  f__law_ribbons : Addr
  d__law_ribbons : FuncData
  F__law_ribbons : Fun K "_law_ribbons" "_law_ribbons" s__law_ribbons f__law_ribbons d__law_ribbons
  g__law_ribbons : mg "_law_ribbons" = some (.ref f__law_ribbons)
  b__law_ribbons : Binds K d__law_ribbons ["_law_many"] []
  f_word_of_format : Addr
  d_word_of_format : FuncData
  F_word_of_format : Fun K "word_of_format" "word_of_format" s_word_of_format f_word_of_format d_word_of_format
  g_word_of_format : mg "word_of_format" = some (.ref f_word_of_format)
  b_word_of_format : Binds K d_word_of_format ["level", "mask"] []
  f_as_bits : Addr
  d_as_bits : FuncData
  F_as_bits : Fun K "as_bits" "as_bits" s_as_bits f_as_bits d_as_bits
  g_as_bits : mg "as_bits" = some (.ref f_as_bits)
  b_as_bits : Binds K d_as_bits ["number", "many"] []
  f_strip_shades : Addr
  d_strip_shades : FuncData
  F_strip_shades : Fun K "strip_shades" "strip_shades" s_strip_shades f_strip_shades d_strip_shades
  g_strip_shades : mg "strip_shades" = some (.ref f_strip_shades)
  b_strip_shades : Binds K d_strip_shades ["level", "mask"] []
  f__law_written : Addr
  d__law_written : FuncData
  F__law_written : Fun K "_law_written" "_law_written" s__law_written f__law_written d__law_written
  g__law_written : mg "_law_written" = some (.ref f__law_written)
  b__law_written : Binds K d__law_written ["_law_level_so", "_law_mask_so"] []
  f_format_word : Addr
  d_format_word : FuncData
  F_format_word : Fun K "format_word" "format_word" s_format_word f_format_word d_format_word
  g_format_word : mg "format_word" = some (.ref f_format_word)
  b_format_word : Binds K d_format_word ["level", "mask"] []
  f_strip_dots : Addr
  d_strip_dots : FuncData
  F_strip_dots : Fun K "strip_dots" "strip_dots" s_strip_dots f_strip_dots d_strip_dots
  g_strip_dots : mg "strip_dots" = some (.ref f_strip_dots)
  b_strip_dots : Binds K d_strip_dots ["size"] []
  f_format_dots : Addr
  d_format_dots : FuncData
  F_format_dots : Fun K "format_dots" "format_dots" s_format_dots f_format_dots d_format_dots
  g_format_dots : mg "format_dots" = some (.ref f_format_dots)
  b_format_dots : Binds K d_format_dots ["size", "level", "mask"] []
  f__law_ones : Addr
  d__law_ones : FuncData
  F__law_ones : Fun K "_law_ones" "_law_ones" s__law_ones f__law_ones d__law_ones
  g__law_ones : mg "_law_ones" = some (.ref f__law_ones)
  b__law_ones : Binds K d__law_ones ["_law_number"] []
  f__law_right : Addr
  d__law_right : FuncData
  F__law_right : Fun K "_law_right" "_law_right" s__law_right f__law_right d__law_right
  g__law_right : mg "_law_right" = some (.ref f__law_right)
  b__law_right : Binds K d__law_right ["_law_size_so", "_law_level_so", "_law_mask_so"] []
  f_law : Addr
  d_law : FuncData
  F_law : Fun K "law" "law" s_law f_law d_law
  g_law : mg "law" = some (.ref f_law)
  b_law : Binds K d_law ["_law_script"] []
  n_bool : mg "bool" = none
  n_dict : mg "dict" = none
  n_divmod : mg "divmod" = none
  n_enumerate : mg "enumerate" = none
  n_int : mg "int" = none
  n_isinstance : mg "isinstance" = none
  n_len : mg "len" = none
  n_list : mg "list" = none
  n_max : mg "max" = none
  n_min : mg "min" = none
  n_range : mg "range" = none
  n_repr : mg "repr" = none
  n_sorted : mg "sorted" = none
  n_str : mg "str" = none
  n_sum : mg "sum" = none
  n_tuple : mg "tuple" = none
  n_type : mg "type" = none
  n_zip : mg "zip" = none
  a_FORMAT_WORDS : Addr
  g_FORMAT_WORDS : mg "FORMAT_WORDS" = some (.ref a_FORMAT_WORDS)
  l_FORMAT_WORDS : tupB K a_FORMAT_WORDS [709, 752, 666, 687, 590, 635, 529, 548, 979, 998, 908, 953, 856, 877, 775, 818, 220, 233, 131, 182, 87, 98, 8, 61, 458, 511, 405, 416, 321, 372, 286, 299] = true
  g_LEVELS : ∃ t, mg "LEVELS" = some (.int 4 t)
  g_MASKS : ∃ t, mg "MASKS" = some (.int 8 t)
  a_SIDES : Addr
  g_SIDES : mg "SIDES" = some (.ref a_SIDES)
  l_SIDES : tupB K a_SIDES [8, 12, 16, 20, 24] = true
  g_STRIP : ∃ t, mg "STRIP" = some (.int 10 t)
  c_STRIPS0 : Addr
  t_STRIPS0 : tupB K c_STRIPS0 [9, 10, 11, 12, 13, 14, 17, 18, 19, 20, 49, 41, 33, 25, 50, 42, 34, 26, 51, 43] = true
  c_STRIPS1 : Addr
  t_STRIPS1 : tupB K c_STRIPS1 [13, 14, 15, 16, 17, 18, 19, 20, 21, 22, 121, 109, 97, 85, 73, 61, 49, 37, 25, 122] = true
  c_STRIPS2 : Addr
  t_STRIPS2 : tupB K c_STRIPS2 [17, 18, 19, 20, 21, 22, 23, 24, 25, 26, 225, 209, 193, 177, 161, 145, 129, 113, 97, 81] = true
  c_STRIPS3 : Addr
  t_STRIPS3 : tupB K c_STRIPS3 [21, 22, 23, 24, 25, 26, 27, 28, 29, 30, 361, 341, 321, 301, 281, 261, 241, 221, 201, 181] = true
  c_STRIPS4 : Addr
  t_STRIPS4 : tupB K c_STRIPS4 [25, 26, 27, 28, 29, 30, 31, 32, 33, 34, 529, 505, 481, 457, 433, 409, 385, 361, 337, 313] = true
  a_STRIPS : Addr
  g_STRIPS : mg "STRIPS" = some (.ref a_STRIPS)
  l_STRIPS : KTupR K a_STRIPS [c_STRIPS0, c_STRIPS1, c_STRIPS2, c_STRIPS3, c_STRIPS4]
section
variable {P : Program} {w : World} {K : PySem.W.Frag} {mg : Str → Option Value} {base : Heap}
def sp_is_number_to : Sp := fun vs H Q _ => ∃ (x : V) (l m : Int), vs = [x, .int l, .int m] ∧ ((∃ i, x = .int i ∧ Q (.bl (decide (l ≤ i) && decide (i ≤ m))) H) ∨ (x = .non ∧ Q (.bl false) H))
theorem ok_is_number_to (T : Txt K mg) : FnOk P w K mg base CX0 1 T.f_is_number_to T.d_is_number_to ["thing", "least", "most"] sp_is_number_to := by
  refine T.F_is_number_to.ok sc_is_number_to (fun vs H Q E h => ?_) (fun cdv A outer s H vs Q E hr h => ?_)
  · obtain ⟨x, l, m, rfl, _⟩ := h
    rfl
  · obtain ⟨x, l, m, rfl, q⟩ := h
    refine ⟨_, (pss_one (ps_ret (pe_and (pe_callB call_isi (by rfl) T.n_isinstance (by decide +kernel) (pa_cons (pv 0) (pa_cons (pe_bltn (v := .ty "int") (by rfl) T.n_int (by decide +kernel) rfl) pa_nil))) (pe_and (pe_not (pe_callB call_isi (by rfl) T.n_isinstance (by decide +kernel) (pa_cons (pv 0) (pa_cons (pe_bltn (v := .ty "bool") (by rfl) T.n_bool (by decide +kernel) rfl) pa_nil)))) (pe_one (pe_chain op_le op_le (pv 1) (pv 0) (pv 2))))))), ?_⟩
    rcases q with ⟨i, rfl, q⟩ | ⟨rfl, q⟩
    · refine ⟨_, rfl, .int i, .ty "int", .type "int", .type "int", true, rfl, .ty _, .base (.int i), kit_ty (by decide +kernel), true, rfl, ?_⟩
      refine ⟨_, rfl, .int i, .ty "bool", .type "int", .type "bool", false, rfl, .ty _, .base (.int i), kit_ty (by decide +kernel), _, rfl, true, rfl, ?_⟩
      refine ⟨_, rfl, _, rfl, _, _, rfl, rfl, _, rfl, ?_⟩
      refine ite2 (fun c => ?_) (fun c => ?_)
      · refine ⟨_, rfl, _, _, rfl, rfl, ?_⟩
        rw [show decide (l ≤ i) = true from c, Bool.true_and] at q
        exact q
      · rw [show decide (l ≤ i) = false by simpa using c, Bool.false_and] at q
        exact q
    · refine ⟨_, rfl, .non, .ty "int", .type "NoneType", .type "int", false, rfl, .ty _, .base .non, kit_ty (by decide +kernel), false, rfl, ?_⟩
      exact q
def sp_need_mask : Sp := fun vs H Q _ => ∃ m : Nat, vs = [vN m] ∧ m < 8 ∧ Q .non H
theorem ok_need_mask (T : Txt K mg) : FnOk P w K mg base CX0 2 T.f_need_mask T.d_need_mask ["mask"] sp_need_mask := by
  refine T.F_need_mask.ok sc_need_mask (fun vs H Q E h => ?_) (fun cdv A outer s H vs Q E hr h => ?_)
  · obtain ⟨m, rfl, _⟩ := h
    rfl
  · obtain ⟨m, rfl, hm, q⟩ := h
    refine ⟨_, (pss_one (ps_if (pt_not (pt_val (pe_call (ok_is_number_to T) (hr.mono (by decide)) (by rfl) T.g_is_number_to T.F_is_number_to.kp T.b_is_number_to .nil pass0 (pa_cons (pv 0) (pa_cons pe_int (pa_cons (pe_op op_sub (pe_glob (v := .int 8) (by rfl) T.g_MASKS.choose_spec ⟨_, rfl⟩) pe_int) pa_nil)))))) (pss_one ps_never) pss_nil)), ?_⟩
    refine ⟨_, rfl, _, _, rfl, rfl, _, _, _, rfl, .inl ⟨_, rfl, ?_⟩⟩
    have e : (decide ((0 : Int) ≤ (m : Int)) && decide ((m : Int) ≤ 8 - 1)) = true := by
      simp
      omega
    rw [e]
    exact ⟨_, rfl, iteF q⟩
def sp_need_level : Sp := fun vs H Q _ => ∃ m : Nat, vs = [vN m] ∧ m < 4 ∧ Q .non H
theorem ok_need_level (T : Txt K mg) : FnOk P w K mg base CX0 2 T.f_need_level T.d_need_level ["level"] sp_need_level := by
  refine T.F_need_level.ok sc_need_level (fun vs H Q E h => ?_) (fun cdv A outer s H vs Q E hr h => ?_)
  · obtain ⟨m, rfl, _⟩ := h
    rfl
  · obtain ⟨m, rfl, hm, q⟩ := h
    refine ⟨_, (pss_one (ps_if (pt_not (pt_val (pe_call (ok_is_number_to T) (hr.mono (by decide)) (by rfl) T.g_is_number_to T.F_is_number_to.kp T.b_is_number_to .nil pass0 (pa_cons (pv 0) (pa_cons pe_int (pa_cons (pe_op op_sub (pe_glob (v := .int 4) (by rfl) T.g_LEVELS.choose_spec ⟨_, rfl⟩) pe_int) pa_nil)))))) (pss_one ps_never) pss_nil)), ?_⟩
    refine ⟨_, rfl, _, _, rfl, rfl, _, _, _, rfl, .inl ⟨_, rfl, ?_⟩⟩
    have e : (decide ((0 : Int) ≤ (m : Int)) && decide ((m : Int) ≤ 4 - 1)) = true := by
      simp
      omega
    rw [e]
    exact ⟨_, rfl, iteF q⟩
def sp_need_size : Sp := fun vs H Q _ => ∃ s : Nat, vs = [.int ((s : Int) + 1)] ∧ s < 5 ∧ Q .non H
theorem ok_need_size (T : Txt K mg) : FnOk P w K mg base CX0 2 T.f_need_size T.d_need_size ["size"] sp_need_size := by
  refine T.F_need_size.ok sc_need_size (fun vs H Q E h => ?_) (fun cdv A outer s H vs Q E hr h => ?_)
  · obtain ⟨s, rfl, _⟩ := h
    rfl
  · obtain ⟨s0, rfl, hs, q⟩ := h
    refine ⟨_, (pss_one (ps_if (pt_not (pt_val (pe_call (ok_is_number_to T) (hr.mono (by decide)) (by rfl) T.g_is_number_to T.F_is_number_to.kp T.b_is_number_to .nil pass0 (pa_cons (pv 0) (pa_cons pe_int (pa_cons (pe_callB call_len_seq (by rfl) T.n_len (by decide +kernel) (pa_cons (pe_glob (v := .ref T.a_SIDES) (by rfl) T.g_SIDES rfl) pa_nil)) pa_nil)))))) (pss_one ps_never) pss_nil)), ?_⟩
    refine ⟨_, rfl, T.a_SIDES, _, rfl, .inr (tupB_ok (xs := sidesI) T.l_SIDES), _, _, _, rfl, .inl ⟨_, rfl, ?_⟩⟩
    have e : (decide ((1 : Int) ≤ (s0 : Int) + 1) && decide ((s0 : Int) + 1 ≤ (((sidesI.map V.int).length : Nat) : Int))) = true := by
      have : (sidesI.map V.int).length = 5 := rfl
      rw [this]
      simp
      omega
    rw [e]
    exact ⟨_, rfl, iteF q⟩
/-! CUT -/
theorem ixN_nat {n j : Nat} (h : j < n) : ixN n (j : Int) = some j := by
  unfold ixN
  rw [if_pos (by omega), if_pos (by omega), Int.toNat_natCast]def Kp (p : Addr) (H H' : Hp) : Prop := ∀ b o, H b = some o → b ≠ p → H' b = some o
theorem Kp.upd {p : Addr} {H : Hp} {o : HO} : Kp p H (upd H p o) := fun b u e n => by
  rw [upd_ne n]
  exact e
theorem Kp.trans {p : Addr} {H H1 H2 : Hp} (a : Kp p H H1) (b : Kp p H1 H2) : Kp p H H2 := fun c o e n => b c o (a c o e n) n
theorem Same.kp {p : Addr} {H H1 : Hp} (a : Same H H1) : Kp p H H1 := fun c o e _ => a c o e
theorem Kp.sqb {p a : Addr} {k : Bool} {K : PySem.W.Frag} {H H' : Hp} {xs ys : List V} (kp : Kp p H H') (hp : H p = some (.lst ys)) (hne : xs ≠ ys) (h : SqB k K H a xs) : SqB k K H' a xs := by
  cases k
  · rcases h with (h | ⟨o, h⟩) | h
    · exact .inl (.inl (kp _ _ h (fun e => by rw [e, hp] at h; cases h)))
    · exact .inl (.inr ⟨o, kp _ _ h (fun e => by rw [e, hp] at h; cases h)⟩)
    · exact .inr h
  · rcases h with (h | ⟨o, h⟩) | h
    · exact .inl (.inl (kp _ _ h (fun e => by rw [e, hp] at h; cases h; exact hne rfl)))
    · exact .inl (.inr ⟨o, kp _ _ h (fun e => by rw [e, hp] at h; cases h)⟩)
    · exact .inr h
theorem len_ne {α : Type} {xs ys : List α} (h : xs.length ≠ ys.length) : xs ≠ ys := fun e => h (by rw [e])
def sp_cell (K : PySem.W.Frag) : Sp := fun vs H Q _ => ∃ (a : Addr) (ns : List Int) (k : Nat), vs = [.ref a, vN k] ∧ SqL K H a (ns.map V.int) ∧ ∀ n : Int, Q (.int n) H
theorem ok__law_cell_at (T : Txt K mg) : FnOk P w K mg base CX0 1 T.f__law_cell_at T.d__law_cell_at ["_law_script", "_law_k"] (sp_cell K) := by
  refine T.F__law_cell_at.ok sc__law_cell_at (fun vs H Q E h => ?_) (fun cdv A outer s H vs Q E hr h => ?_)
  · obtain ⟨a, ns, k, rfl, _⟩ := h
    rfl
  · obtain ⟨a, ns, k, rfl, ha, q⟩ := h
    refine ⟨_, (pss_cons (ps_if (pt_cmpR op_lt (pv 1) (pe_callB call_len_seq (by rfl) T.n_len (by decide +kernel) (pa_cons (pv 0) pa_nil)) (nomark _)) (pss_one (ps_ret (pe_ix ix_list (pv 0) (pv 1) (fun _ _ => rfl)))) pss_nil)
      (pss_one (ps_ret pe_int))), ?_⟩
    refine ⟨_, rfl, _, rfl, a, _, rfl, .inl ha, _, _, rfl, rfl, _, rfl, ?_⟩
    refine ite2 (fun c => ?_) (fun _ => q 0)
    have hk : k < ns.length := by
      have := of_decide_eq_true c
      rw [List.length_map] at this
      omega
    exact ⟨_, rfl, _, rfl, a, _, _, .int ns[k], rfl, rfl, ha, atI_nat (by rw [List.getElem?_map, List.getElem?_eq_getElem hk]; rfl), q _⟩
def WellL (a b c : Int) : HO := .lst [.int a, .int b, .int c]
def sp_source : Sp := fun vs H Q _ => ∃ n : Int, vs = [.int n] ∧ ∀ (p : Addr) (x y z : Int), H p = none → Q (.ref p) (upd H p (WellL x y z))
theorem ok__law_source_of (T : Txt K mg) : FnOk P w K mg base CX0 1 T.f__law_source_of T.d__law_source_of ["_law_cell"] (sp_source) := by
  refine T.F__law_source_of.ok sc__law_source_of (fun vs H Q E h => ?_) (fun cdv A outer s H vs Q E hr h => ?_)
  · obtain ⟨n, rfl, _⟩ := h
    rfl
  · obtain ⟨n, rfl, q⟩ := h
    refine ⟨_, (Evl.pss_cut (ps_set (i := 0) sc__law_source_of.nd rfl (.inl rfl) (pe_ifExp (pt_cmpR op_ge (pv 0) pe_int (nomark _)) (pv 0) (pe_op op_sub (pe_op op_sub pe_int (pe_op op_mul pe_int (pv 0))) pe_int)))
      (pss_one (ps_ret (pe_lst (pa_cons (pe_op op_mul (pv 0) (pe_callTy call_int1 (by rfl) T.n_int (by decide +kernel) (pa_cons (pe_cmpR op_ge (pv 0) (pe_op op_pow pe_int pe_int) (nomark _)) pa_nil))) (pa_cons (pe_op op_mod (pe_callTy call_int1 (by rfl) T.n_int (by decide +kernel) (pa_cons (pv 0) pa_nil)) pe_int) (pa_cons pe_int pa_nil))))))), ?_⟩
    refine ⟨fun σ' H' => ∃ m : Int, σ' = [some (.int m)] ∧ H' = H, ?_, ?_⟩
    · refine ⟨_, rfl, _, _, rfl, rfl, _, rfl, ?_⟩
      refine ite2 (fun c => ?_) (fun c => ?_)
      · exact ⟨_, rfl, n, rfl, rfl⟩
      · exact ⟨_, rfl, _, _, rfl, rfl, .inl ⟨by decide, by decide⟩, _, _, rfl, rfl, _, _, rfl, rfl, _, rfl, rfl⟩
    rintro σ H1 ⟨m, rfl, rfl⟩
    refine ⟨_, rfl, _, rfl, _, _, rfl, rfl, ⟨by decide, by decide⟩, _, _, rfl, rfl, .inr ⟨_, rfl, ?_⟩⟩
    refine ⟨_, _, rfl, rfl, .inr ⟨by split <;> decide, by split <;> decide⟩, _, rfl, .inl ⟨_, rfl, _, _, rfl, rfl, (show (0 : Int) < 2147483647 by decide), (by show 3 ≤ sizeLine; decide), fun p hp => q p _ _ _ hp⟩⟩
def sp_next : Sp := fun vs H Q _ => ∃ (p : Addr) (a b c m : Int), vs = [.ref p, .int m] ∧ H p = some (WellL a b c) ∧ 0 < m ∧ m < 1073741824 ∧ ∀ n a' c' : Int, 0 ≤ n → n < m → Q (.int n) (upd H p (WellL a' b c'))
theorem ok__law_next (T : Txt K mg) : FnOk P w K mg base CX0 1 T.f__law_next T.d__law_next ["_law_source", "_law_bound"] (sp_next) := by
  refine T.F__law_next.ok sc__law_next (fun vs H Q E h => ?_) (fun cdv A outer s H vs Q E hr h => ?_)
  · obtain ⟨p, a, b, c, m, rfl, _⟩ := h
    rfl
  · obtain ⟨p, a, b, c, m, rfl, hp, m0, m1, q⟩ := h
    refine ⟨_, (pss_cons (ps_if (pt_cmpR op_gt (pe_ix ix_list (pv 0) pe_int (fun _ _ => rfl)) pe_int (nomark _)) (pss_cons (ps_set (i := 2) sc__law_next.nd rfl (.inl rfl) (pe_op op_mod (pe_callTy call_int1 (by rfl) T.n_int (by decide +kernel) (pa_cons (pe_ix ix_list (pv 0) pe_int (fun _ _ => rfl)) pa_nil)) (pv 1)))
      (pss_cons (ps_asg (pe_op op_fdiv (pe_ix ix_list (pv 0) pe_int (fun _ _ => rfl)) (pv 1)) (pg_sub (pv 0) pe_int set_list))
      (pss_one (ps_ret (pv 2))))) pss_nil)
      (pss_cons (ps_asg (pe_op op_add (pe_ix ix_list (pv 0) pe_int (fun _ _ => rfl)) pe_int) (pg_sub (pv 0) pe_int set_list))
      (pss_cons (ps_set (i := 3) sc__law_next.nd rfl (.inl rfl) pe_int)
      (pss_cons (ps_set (i := 4) sc__law_next.nd rfl (.inl rfl) (pe_op op_mod (pe_callTy call_int1 (by rfl) T.n_int (by decide +kernel) (pa_cons (pe_op op_add (pe_op op_add (pe_ix ix_list (pv 0) pe_int (fun _ _ => rfl)) (pe_op op_mul pe_int (pe_ix ix_list (pv 0) pe_int (fun _ _ => rfl)))) pe_int) pa_nil)) (pv 3)))
      (pss_cons (ps_set (i := 4) sc__law_next.nd rfl (.inl rfl) (pe_op op_mod (pe_callTy call_int1 (by rfl) T.n_int (by decide +kernel) (pa_cons (pe_op op_mul (pv 4) pe_int) pa_nil)) (pv 3)))
      (pss_cons (ps_set (i := 4) sc__law_next.nd rfl (.inl rfl) (pe_op op_mod (pe_callTy call_int1 (by rfl) T.n_int (by decide +kernel) (pa_cons (pe_op op_mul (pv 4) (pe_op op_add (pe_op op_fdiv (pv 4) pe_int) pe_int)) pa_nil)) (pv 3)))
      (pss_cons (ps_set (i := 4) sc__law_next.nd rfl (.inl rfl) (pe_op op_mod (pe_callTy call_int1 (by rfl) T.n_int (by decide +kernel) (pa_cons (pe_op op_mul (pv 4) (pe_op op_add (pe_op op_fdiv (pv 4) pe_int) pe_int)) pa_nil)) pe_int))
      (pss_one (ps_ret (pe_op op_mod (pe_callTy call_int1 (by rfl) T.n_int (by decide +kernel) (pa_cons (pe_op op_fdiv (pv 4) pe_int) pa_nil)) (pv 1))))))))))), ?_⟩
    have hw : ∀ {H' : Hp} {xs : List V}, H' p = some (.lst xs) → SqL K H' p xs := fun h => .inl (.inl h)
    refine ⟨_, rfl, p, _, 0, _, rfl, rfl, hw hp, rfl, _, _, rfl, rfl, _, rfl, ?_⟩
    refine ite2 (fun cc => ?_) (fun cc => ?_)
    · refine ⟨_, rfl, p, _, 0, _, rfl, rfl, hw hp, rfl, .inl ⟨_, rfl, _, rfl, _, _, rfl, rfl, m0, ?_⟩⟩
      refine ⟨_, rfl, p, _, 0, _, rfl, rfl, hw hp, rfl, _, rfl, _, _, rfl, rfl, ⟨m0, m1⟩, ?_⟩
      refine ⟨_, rfl, p, _, 0, 0, rfl, rfl, hp, rfl, ?_⟩
      exact ⟨_, rfl, q _ _ _ (Int.emod_nonneg _ (by omega)) (Int.emod_lt_of_pos _ m0)⟩
    · refine ⟨_, rfl, p, _, 2, _, rfl, rfl, hw hp, rfl, _, _, rfl, rfl, _, rfl, p, _, 2, 2, rfl, rfl, hp, rfl, ?_⟩
      have hs : (upd H p (.lst ([V.int a, V.int b, V.int c].set 2 (.int (c + 1))))) p = some (WellL a b (c + 1)) := upd_same
      refine ⟨_, rfl, p, _, 1, _, rfl, rfl, hw hs, rfl, _, rfl, p, _, 2, _, rfl, rfl, hw hs, rfl, _, _, rfl, rfl, .inl ⟨by decide, by decide⟩, _, _, rfl, rfl, _, _, rfl, rfl, .inl ⟨_, rfl, _, rfl, _, _, rfl, rfl, (show (0 : Int) < 2147483647 by decide), ?_⟩⟩
      generalize (b + 104729 * (c + 1) + 7919) % 2147483647 = x
      refine ⟨_, rfl, _, _, rfl, rfl, .inr ⟨by decide, by decide⟩, .inl ⟨_, rfl, _, rfl, _, _, rfl, rfl, (show (0 : Int) < 2147483647 by decide), ?_⟩⟩
      have y0 := Int.emod_nonneg (x * 48271) (show (2147483647 : Int) ≠ 0 by decide)
      have y1 := Int.emod_lt_of_pos (x * 48271) (show (0 : Int) < 2147483647 by decide)
      generalize x * 48271 % 2147483647 = y at y0 y1
      refine ⟨_, rfl, _, rfl, _, _, rfl, rfl, ⟨by decide, by decide⟩, _, _, rfl, rfl, _, _, rfl, rfl, .inl ⟨by omega, by omega⟩, .inl ⟨_, rfl, _, rfl, _, _, rfl, rfl, (show (0 : Int) < 2147483647 by decide), ?_⟩⟩
      have z0 := Int.emod_nonneg (y * (y / 1009 + 69621)) (show (2147483647 : Int) ≠ 0 by decide)
      have z1 := Int.emod_lt_of_pos (y * (y / 1009 + 69621)) (show (0 : Int) < 2147483647 by decide)
      generalize y * (y / 1009 + 69621) % 2147483647 = z at z0 z1
      refine ⟨_, rfl, _, rfl, _, _, rfl, rfl, ⟨by decide, by decide⟩, _, _, rfl, rfl, _, _, rfl, rfl, .inl ⟨by omega, by omega⟩, .inl ⟨_, rfl, _, _, rfl, rfl, (show (0 : Int) < 2147483399 by decide), ?_⟩⟩
      generalize z * (z / 2003 + 40692) % 2147483399 = t
      refine ⟨_, rfl, _, _, rfl, rfl, ⟨by decide, by decide⟩, .inl ⟨_, rfl, _, rfl, _, _, rfl, rfl, m0, q _ _ _ (Int.emod_nonneg _ (by omega)) (Int.emod_lt_of_pos _ m0)⟩⟩
/-- a row of the law's table -/
def TabRow (H0 H' : Hp) (t : Addr) (j : Nat) : Prop := ∃ c1 c2 c3 : Addr, H' t = some (.tup [vN (sideL.getD j 0), vN (bitsF j), .ref c1, .ref c2, .ref c3]) ∧ H' c1 = some (.lst ((blkF j).map vN)) ∧ H' c2 = some (.lst ((cksL.getD j []).map vN)) ∧ H0 t = none ∧ H0 c1 = none
theorem TabRow.same {H0 H H' : Hp} {t : Addr} {j : Nat} (h : TabRow H0 H t j) (s : Same H H') : TabRow H0 H' t j :=
  let ⟨c1, c2, c3, a, b, c, d, e⟩ := h
  ⟨c1, c2, c3, s _ _ a, s _ _ b, s _ _ c, d, e⟩
theorem word_ne {L : List Addr} (r : List Nat) (h : 0 < L.length := by decide) : HO.lst (r.map vN) ≠ .lst (L.map V.ref) := by
  intro e
  cases L with
  | nil => exact absurd h (Nat.lt_irrefl 0)
  | cons a L =>
    cases r with
    | nil => cases e
    | cons x r => exact nomatch (List.cons.inj (HO.lst.inj e)).1
theorem TabRow.kp {H0 H H' : Hp} {t R : Addr} {j : Nat} {L : List Addr} (h : TabRow H0 H t j) (k : Kp R H H') (g : H R = some (.lst (L.map V.ref))) (hl : 0 < L.length) : TabRow H0 H' t j := by
  obtain ⟨c1, c2, c3, a, b, c, d, e⟩ := h
  refine ⟨c1, c2, c3, k _ _ a (fun z => ?_), k _ _ b (fun z => ?_), k _ _ c (fun z => ?_), d, e⟩
  · rw [z, g] at a; cases a
  · rw [z, g] at b; exact word_ne _ hl (Option.some.inj b).symm
  · rw [z, g] at c; exact word_ne _ hl (Option.some.inj c).symm
def sp_table : Sp := fun vs H Q _ => ∃ s : Nat, vs = [.int ((s : Int) + 1)] ∧ s < 5 ∧ ∀ (t c1 c2 c3 : Addr) H', Same H H' → H t = none → H c1 = none → H' t = some (.tup [vN (sideL.getD s 0), vN (bitsF s), .ref c1, .ref c2, .ref c3]) → H' c1 = some (.lst ((blkF s).map vN)) → H' c2 = some (.lst ((cksL.getD s []).map vN)) → Q (.ref t) H'
theorem ok__law_table (T : Txt K mg) : FnOk P w K mg base CX0 1 T.f__law_table T.d__law_table ["_law_size_so"] (sp_table) := by
  refine T.F__law_table.ok sc__law_table (fun vs H Q E h => ?_) (fun cdv A outer s H vs Q E hr h => ?_)
  · obtain ⟨s, rfl, _⟩ := h
    rfl
  · obtain ⟨s0, rfl, hs, q⟩ := h
    refine ⟨_, (pss_cons (ps_set (i := 1) sc__law_table.nd rfl (.inl rfl) (pe_lst (pa_cons (pe_tup (pa_cons pe_int (pa_cons pe_int (pa_cons (pe_lst (pa_cons pe_int pa_nil)) (pa_cons (pe_lst (pa_cons pe_int (pa_cons pe_int (pa_cons pe_int (pa_cons pe_int pa_nil))))) (pa_cons (pe_lst (pa_cons pe_int (pa_cons pe_int (pa_cons pe_int (pa_cons pe_int pa_nil))))) pa_nil)))))) (pa_cons (pe_tup (pa_cons pe_int (pa_cons pe_int (pa_cons (pe_lst (pa_cons pe_int (pa_cons pe_int pa_nil))) (pa_cons (pe_lst (pa_cons pe_int (pa_cons pe_int (pa_cons pe_int (pa_cons pe_int pa_nil))))) (pa_cons (pe_lst (pa_cons pe_int (pa_cons pe_int (pa_cons pe_int (pa_cons pe_int pa_nil))))) pa_nil)))))) pa_nil))))
      (pss_cons (ps_set (i := 2) sc__law_table.nd rfl (.inl rfl) (pe_tup (pa_cons (pe_lst (pa_cons pe_int (pa_cons pe_int (pa_cons pe_int (pa_cons pe_int pa_nil))))) (pa_cons (pe_lst (pa_cons pe_int (pa_cons pe_int (pa_cons pe_int (pa_cons pe_int pa_nil))))) pa_nil))))
      (pss_cons (ps_for PassesOwn.never rfl (pi_seq (pe_tup (pa_cons (pe_tup (pa_cons pe_int (pa_cons (pe_lst (pa_cons pe_int pa_nil)) pa_nil))) (pa_cons (pe_tup (pa_cons pe_int (pa_cons (pe_lst (pa_cons pe_int (pa_cons pe_int pa_nil))) pa_nil))) (pa_cons (pe_tup (pa_cons pe_int (pa_cons (pe_lst (pa_cons pe_int (pa_cons pe_int (pa_cons pe_int pa_nil)))) pa_nil))) pa_nil))))) (pg_tup rfl (pgs_cons (pg_name (i := 3) sc__law_table.nd rfl (.inl rfl)) (pgs_cons (pg_name (i := 4) sc__law_table.nd rfl (.inl rfl)) pgs_nil))) (pss_one (ps_expr (pe_bm PySem.F.plainAttrs_list PySem.F.slot_list_append PySem.F.type_list_append mt_append (pv 1) (pa_cons (pe_op op_catT (pe_tup (pa_cons (pv 3) (pa_cons pe_int (pa_cons (pv 4) pa_nil)))) (pv 2)) pa_nil)))))
      (pss_one (ps_ret (pe_ix ix_list (pv 1) (pe_op op_sub (pv 0) pe_int) (fun _ _ => rfl))))))), ?_⟩
    refine ⟨(by show 1 ≤ sizeLine; decide), fun a1 n_a1 => ?_⟩
    have s_a1 := same_upd (o := .lst [V.int 4]) n_a1
    have x_a1 := upd_same (H := H) (a := a1) (o := .lst [V.int 4])
    generalize upd H a1 (.lst [V.int 4]) = H_a1 at s_a1 x_a1 ⊢
    have c_a1 := s_a1
    have f_a1 : H a1 = none := n_a1
    refine ⟨(by show 4 ≤ sizeLine; decide), fun a2 n_a2 => ?_⟩
    have s_a2 := same_upd (o := .lst [V.int 1, V.int 2, V.int 3, V.int 3]) n_a2
    have x_a2 := upd_same (H := H_a1) (a := a2) (o := .lst [V.int 1, V.int 2, V.int 3, V.int 3])
    generalize upd H_a1 a2 (.lst [V.int 1, V.int 2, V.int 3, V.int 3]) = H_a2 at s_a2 x_a2 ⊢
    have c_a2 := c_a1.trans s_a2
    have f_a2 : H a2 = none := Same.free c_a1 n_a2
    refine ⟨(by show 4 ≤ sizeLine; decide), fun a3 n_a3 => ?_⟩
    have s_a3 := same_upd (o := .lst [V.int 0, V.int 1, V.int 3, V.int 6]) n_a3
    have x_a3 := upd_same (H := H_a2) (a := a3) (o := .lst [V.int 0, V.int 1, V.int 3, V.int 6])
    generalize upd H_a2 a3 (.lst [V.int 0, V.int 1, V.int 3, V.int 6]) = H_a3 at s_a3 x_a3 ⊢
    have c_a3 := c_a2.trans s_a3
    have f_a3 : H a3 = none := Same.free c_a2 n_a3
    refine ⟨(by show 5 ≤ sizeLine; decide), fun t0 n_t0 => ?_⟩
    have s_t0 := same_upd (o := .tup [V.int 8, V.int 4, V.ref a1, V.ref a2, V.ref a3]) n_t0
    have x_t0 := upd_same (H := H_a3) (a := t0) (o := .tup [V.int 8, V.int 4, V.ref a1, V.ref a2, V.ref a3])
    generalize upd H_a3 t0 (.tup [V.int 8, V.int 4, V.ref a1, V.ref a2, V.ref a3]) = H_t0 at s_t0 x_t0 ⊢
    have c_t0 := c_a3.trans s_t0
    have f_t0 : H t0 = none := Same.free c_a3 n_t0
    refine ⟨(by show 2 ≤ sizeLine; decide), fun b1 n_b1 => ?_⟩
    have s_b1 := same_upd (o := .lst [V.int 10, V.int 10]) n_b1
    have x_b1 := upd_same (H := H_t0) (a := b1) (o := .lst [V.int 10, V.int 10])
    generalize upd H_t0 b1 (.lst [V.int 10, V.int 10]) = H_b1 at s_b1 x_b1 ⊢
    have c_b1 := c_t0.trans s_b1
    have f_b1 : H b1 = none := Same.free c_t0 n_b1
    refine ⟨(by show 4 ≤ sizeLine; decide), fun b2 n_b2 => ?_⟩
    have s_b2 := same_upd (o := .lst [V.int 2, V.int 4, V.int 6, V.int 8]) n_b2
    have x_b2 := upd_same (H := H_b1) (a := b2) (o := .lst [V.int 2, V.int 4, V.int 6, V.int 8])
    generalize upd H_b1 b2 (.lst [V.int 2, V.int 4, V.int 6, V.int 8]) = H_b2 at s_b2 x_b2 ⊢
    have c_b2 := c_b1.trans s_b2
    have f_b2 : H b2 = none := Same.free c_b1 n_b2
    refine ⟨(by show 4 ≤ sizeLine; decide), fun b3 n_b3 => ?_⟩
    have s_b3 := same_upd (o := .lst [V.int 0, V.int 2, V.int 6, V.int 3]) n_b3
    have x_b3 := upd_same (H := H_b2) (a := b3) (o := .lst [V.int 0, V.int 2, V.int 6, V.int 3])
    generalize upd H_b2 b3 (.lst [V.int 0, V.int 2, V.int 6, V.int 3]) = H_b3 at s_b3 x_b3 ⊢
    have c_b3 := c_b2.trans s_b3
    have f_b3 : H b3 = none := Same.free c_b2 n_b3
    refine ⟨(by show 5 ≤ sizeLine; decide), fun t1 n_t1 => ?_⟩
    have s_t1 := same_upd (o := .tup [V.int 12, V.int 4, V.ref b1, V.ref b2, V.ref b3]) n_t1
    have x_t1 := upd_same (H := H_b3) (a := t1) (o := .tup [V.int 12, V.int 4, V.ref b1, V.ref b2, V.ref b3])
    generalize upd H_b3 t1 (.tup [V.int 12, V.int 4, V.ref b1, V.ref b2, V.ref b3]) = H_t1 at s_t1 x_t1 ⊢
    have c_t1 := c_b3.trans s_t1
    have f_t1 : H t1 = none := Same.free c_b3 n_t1
    refine ⟨(by show 2 ≤ sizeLine; decide), fun R n_R => ?_⟩
    have s_R := same_upd (o := .lst [V.ref t0, V.ref t1]) n_R
    have x_R := upd_same (H := H_t1) (a := R) (o := .lst [V.ref t0, V.ref t1])
    generalize upd H_t1 R (.lst [V.ref t0, V.ref t1]) = H_R at s_R x_R ⊢
    have c_R := c_t1.trans s_R
    have f_R : H R = none := Same.free c_t1 n_R
    refine ⟨(by show 4 ≤ sizeLine; decide), fun l1 n_l1 => ?_⟩
    have s_l1 := same_upd (o := .lst [V.int 4, V.int 8, V.int 10, V.int 12]) n_l1
    have x_l1 := upd_same (H := H_R) (a := l1) (o := .lst [V.int 4, V.int 8, V.int 10, V.int 12])
    generalize upd H_R l1 (.lst [V.int 4, V.int 8, V.int 10, V.int 12]) = H_l1 at s_l1 x_l1 ⊢
    have c_l1 := c_R.trans s_l1
    have f_l1 : H l1 = none := Same.free c_R n_l1
    refine ⟨(by show 4 ≤ sizeLine; decide), fun l2 n_l2 => ?_⟩
    have s_l2 := same_upd (o := .lst [V.int 0, V.int 60, V.int 120, V.int 180]) n_l2
    have x_l2 := upd_same (H := H_l1) (a := l2) (o := .lst [V.int 0, V.int 60, V.int 120, V.int 180])
    generalize upd H_l1 l2 (.lst [V.int 0, V.int 60, V.int 120, V.int 180]) = H_l2 at s_l2 x_l2 ⊢
    have c_l2 := c_l1.trans s_l2
    have f_l2 : H l2 = none := Same.free c_l1 n_l2
    refine ⟨(by show 2 ≤ sizeLine; decide), fun Lt n_Lt => ?_⟩
    have s_Lt := same_upd (o := .tup [V.ref l1, V.ref l2]) n_Lt
    have x_Lt := upd_same (H := H_l2) (a := Lt) (o := .tup [V.ref l1, V.ref l2])
    generalize upd H_l2 Lt (.tup [V.ref l1, V.ref l2]) = H_Lt at s_Lt x_Lt ⊢
    have c_Lt := c_l2.trans s_Lt
    have f_Lt : H Lt = none := Same.free c_l2 n_Lt
    refine ⟨(by show 1 ≤ sizeLine; decide), fun p0 n_p0 => ?_⟩
    have s_p0 := same_upd (o := .lst [V.int 22]) n_p0
    have x_p0 := upd_same (H := H_Lt) (a := p0) (o := .lst [V.int 22])
    generalize upd H_Lt p0 (.lst [V.int 22]) = H_p0 at s_p0 x_p0 ⊢
    have c_p0 := c_Lt.trans s_p0
    have f_p0 : H p0 = none := Same.free c_Lt n_p0
    refine ⟨(by show 2 ≤ sizeLine; decide), fun u0 n_u0 => ?_⟩
    have s_u0 := same_upd (o := .tup [V.int 16, V.ref p0]) n_u0
    have x_u0 := upd_same (H := H_p0) (a := u0) (o := .tup [V.int 16, V.ref p0])
    generalize upd H_p0 u0 (.tup [V.int 16, V.ref p0]) = H_u0 at s_u0 x_u0 ⊢
    have c_u0 := c_p0.trans s_u0
    have f_u0 : H u0 = none := Same.free c_p0 n_u0
    refine ⟨(by show 2 ≤ sizeLine; decide), fun p1 n_p1 => ?_⟩
    have s_p1 := same_upd (o := .lst [V.int 19, V.int 19]) n_p1
    have x_p1 := upd_same (H := H_u0) (a := p1) (o := .lst [V.int 19, V.int 19])
    generalize upd H_u0 p1 (.lst [V.int 19, V.int 19]) = H_p1 at s_p1 x_p1 ⊢
    have c_p1 := c_u0.trans s_p1
    have f_p1 : H p1 = none := Same.free c_u0 n_p1
    refine ⟨(by show 2 ≤ sizeLine; decide), fun u1 n_u1 => ?_⟩
    have s_u1 := same_upd (o := .tup [V.int 20, V.ref p1]) n_u1
    have x_u1 := upd_same (H := H_p1) (a := u1) (o := .tup [V.int 20, V.ref p1])
    generalize upd H_p1 u1 (.tup [V.int 20, V.ref p1]) = H_u1 at s_u1 x_u1 ⊢
    have c_u1 := c_p1.trans s_u1
    have f_u1 : H u1 = none := Same.free c_p1 n_u1
    refine ⟨(by show 3 ≤ sizeLine; decide), fun p2 n_p2 => ?_⟩
    have s_p2 := same_upd (o := .lst [V.int 20, V.int 19, V.int 19]) n_p2
    have x_p2 := upd_same (H := H_u1) (a := p2) (o := .lst [V.int 20, V.int 19, V.int 19])
    generalize upd H_u1 p2 (.lst [V.int 20, V.int 19, V.int 19]) = H_p2 at s_p2 x_p2 ⊢
    have c_p2 := c_u1.trans s_p2
    have f_p2 : H p2 = none := Same.free c_u1 n_p2
    refine ⟨(by show 2 ≤ sizeLine; decide), fun u2 n_u2 => ?_⟩
    have s_u2 := same_upd (o := .tup [V.int 24, V.ref p2]) n_u2
    have x_u2 := upd_same (H := H_p2) (a := u2) (o := .tup [V.int 24, V.ref p2])
    generalize upd H_p2 u2 (.tup [V.int 24, V.ref p2]) = H_u2 at s_u2 x_u2 ⊢
    have c_u2 := c_p2.trans s_u2
    have f_u2 : H u2 = none := Same.free c_p2 n_u2
    refine ⟨(by show 3 ≤ sizeLine; decide), fun U n_U => ?_⟩
    have s_U := same_upd (o := .tup [V.ref u0, V.ref u1, V.ref u2]) n_U
    have x_U := upd_same (H := H_u2) (a := U) (o := .tup [V.ref u0, V.ref u1, V.ref u2])
    generalize upd H_u2 U (.tup [V.ref u0, V.ref u1, V.ref u2]) = H_U at s_U x_U ⊢
    have c_U := c_u2.trans s_U
    have f_U : H U = none := Same.free c_u2 n_U
    have d_U := Same.refl H_U
    have d_u2 := s_U.trans d_U
    have d_p2 := s_u2.trans d_u2
    have d_u1 := s_p2.trans d_p2
    have d_p1 := s_u1.trans d_u1
    have d_u0 := s_p1.trans d_p1
    have d_p0 := s_u0.trans d_u0
    have d_Lt := s_p0.trans d_p0
    have d_l2 := s_Lt.trans d_Lt
    have d_l1 := s_l2.trans d_l2
    have d_R := s_l1.trans d_l1
    have d_t1 := s_R.trans d_R
    have d_b3 := s_t1.trans d_t1
    have d_b2 := s_b3.trans d_b3
    have d_b1 := s_b2.trans d_b2
    have d_t0 := s_b1.trans d_b1
    have d_a3 := s_t0.trans d_t0
    have d_a2 := s_a3.trans d_a3
    have d_a1 := s_a2.trans d_a2
    clear n_a1 n_a2 n_a3 n_t0 n_b1 n_b2 n_b3 n_t1 n_R n_l1 n_l2 n_Lt n_p0 n_u0 n_p1 n_u1 n_p2 n_u2 n_U
    have g_R := d_R _ _ x_R
    have hit : ∀ i, i < 3 → ∃ u l : Addr, [V.ref u0, V.ref u1, V.ref u2][i]? = some (V.ref u) ∧ H_U u = some (.tup [vN (sideL.getD (2 + i) 0), .ref l]) ∧ H_U l = some (.lst ((blkF (2 + i)).map vN)) ∧ H l = none ∧ bitsF (2 + i) = 8 ∧ cksL.getD (2 + i) [] = [4, 8, 10, 12] := by
      intro i h3
      have : i = 0 ∨ i = 1 ∨ i = 2 := by omega
      rcases this with rfl | rfl | rfl
      · exact ⟨u0, p0, rfl, d_u0 _ _ x_u0, d_p0 _ _ x_p0, f_p0, rfl, rfl⟩
      · exact ⟨u1, p1, rfl, d_u1 _ _ x_u1, d_p1 _ _ x_p1, f_p1, rfl, rfl⟩
      · exact ⟨u2, p2, rfl, d_u2 _ _ x_u2, d_p2 _ _ x_p2, f_p2, rfl, rfl⟩
    have row0 : ∀ (j : Nat) (t : Addr), [t0, t1][j]? = some t → TabRow H H_U t j := by
      intro j t e
      have hj : j < 2 := (List.getElem?_eq_some_iff.mp e).1
      have : j = 0 ∨ j = 1 := by omega
      rcases this with rfl | rfl
      · cases e
        exact ⟨a1, a2, a3, d_t0 _ _ x_t0, d_a1 _ _ x_a1, d_a2 _ _ x_a2, f_t0, f_a1⟩
      · cases e
        exact ⟨b1, b2, b3, d_t1 _ _ x_t1, d_b1 _ _ x_b1, d_b2 _ _ x_b2, f_t1, f_b1⟩
    have gU : ∀ H', Kp R H_U H' → H' U = some (.tup [V.ref u0, V.ref u1, V.ref u2]) := fun H' kp => kp _ _ x_U (fun z => by rw [← z, x_U] at g_R; cases g_R)
    refine ⟨U, _, false, rfl, .inl (.inl x_U), ?_⟩
    refine for_it (walk_seq (b := false) (K := K) (a := U) (xs := [V.ref u0, V.ref u1, V.ref u2])) (fun i σ H' => ∃ (z3 z4 : Option V) (ts : List Addr), σ = [some (.int ((s0 : Int) + 1)), some (.ref R), some (.ref Lt), z3, z4] ∧ Kp R H_U H' ∧ H' R = some (.lst (ts.map V.ref)) ∧ ts.length = 2 + i ∧ ∀ (j : Nat) (t : Addr), ts[j]? = some t → TabRow H H' t j)
      ⟨_, _, [t0, t1], rfl, Same.kp (Same.refl _), g_R, rfl, row0⟩ (fun i σ H' _ ⟨_, _, _, _, kp, _⟩ => .inl (.inl (gU H' kp))) ?_ ?_
    · rintro i x σ H1 H2 hi ⟨z3, z4, ts, rfl, kp, gR, lt, rows⟩ ⟨rfl, e2⟩
      have hi3 : i < 3 := hi
      obtain ⟨u, l, eu, hu, hl, fl, eb, ec⟩ := hit i hi3
      replace e2 : [V.ref u0, V.ref u1, V.ref u2][i]? = some x := e2
      rw [eu] at e2
      obtain rfl := (Option.some.inj e2).symm
      have kv : ∀ {c : Addr} {o : HO}, H_U c = some o → o ≠ .lst [V.ref t0, V.ref t1] → H2 c = some o := fun h n => kp _ _ h (fun z => n (by rw [z, g_R] at h; exact (Option.some.inj h).symm))
      have hu2 := kv hu (by intro z; cases z)
      have hl2 := kv hl (word_ne (L := [t0, t1]) _ (by show 0 < 2; decide))
      refine ⟨u, [_, _], rfl, .inl (.inl hu2), rfl, _, [_], rfl, _, [], rfl, rfl, ?_⟩
      refine ⟨_, rfl, .inl ⟨rfl, _, .inl (.inl gR)⟩, ?_⟩
      refine ⟨_, rfl, _, rfl, (by show 3 ≤ sizeLine; decide), fun v nv => ?_⟩
      have sv := same_upd (o := .tup [vN (sideL.getD (2 + i) 0), V.int 8, V.ref l]) nv
      have xv := upd_same (H := H2) (a := v) (o := .tup [vN (sideL.getD (2 + i) 0), V.int 8, V.ref l])
      have gL := kv (d_Lt _ _ x_Lt) (by intro z; cases z)
      generalize upd H2 v (.tup [vN (sideL.getD (2 + i) 0), V.int 8, V.ref l]) = H3 at sv xv ⊢
      refine ⟨_, rfl, v, Lt, _, _, rfl, rfl, .inl (.inl xv), .inl (.inl (sv _ _ gL)), (by intro z; cases z), (by show 5 ≤ sizeLine; decide), (fun z => by cases z), fun _ tt ntt => ?_⟩
      have st := same_upd (o := .tup ([vN (sideL.getD (2 + i) 0), V.int 8, V.ref l] ++ [V.ref l1, V.ref l2])) ntt
      have xt := upd_same (H := H3) (a := tt) (o := .tup ([vN (sideL.getD (2 + i) 0), V.int 8, V.ref l] ++ [V.ref l1, V.ref l2]))
      have ftt : H tt = none := by
        cases hh : H tt with
        | none => rfl
        | some o =>
          have h1 := c_U _ _ hh
          have ne : tt ≠ R := fun z => by rw [z, f_R] at hh; cases hh
          have h2 := (sv _ _ (kp _ _ h1 ne)).symm.trans ntt
          cases h2
      generalize upd H3 tt (.tup ([vN (sideL.getD (2 + i) 0), V.int 8, V.ref l] ++ [V.ref l1, V.ref l2])) = H4 at st xt ⊢
      have s24 := sv.trans st
      have gR4 := s24 _ _ gR
      refine ⟨R, _, _, rfl, rfl, gR4, small1000 (by rw [List.length_map]; omega), ?_⟩
      have nttR : tt ≠ R := fun z => by rw [z, gR4] at xt; cases xt
      have kp5 : Kp R H4 (upd H4 R (.lst (ts.map V.ref ++ [V.ref tt]))) := Kp.upd
      refine ⟨_, _, ts ++ [tt], rfl, (kp.trans (Same.kp s24)).trans kp5, by rw [upd_same, List.map_append]; rfl, by rw [List.length_append, lt]; rfl, fun j t e => ?_⟩
      have ge2 : 0 < ts.length := by omega
      by_cases cj : j < ts.length
      · rw [List.getElem?_append_left cj] at e
        exact ((rows j t e).same s24).kp kp5 gR4 ge2
      · have hj := (List.getElem?_eq_some_iff.mp e).1
        rw [List.length_append] at hj
        have ej : j = 2 + i := by simp at hj; omega
        subst ej
        rw [List.getElem?_append_right (by omega), lt, Nat.sub_self] at e
        cases e
        have TR : TabRow H H4 tt (2 + i) := ⟨l, l1, l2, by rw [eb]; exact xt, s24 _ _ hl2, by rw [ec]; exact s24 _ _ (kv (d_l1 _ _ x_l1) (by intro z; cases z)), ftt, fl⟩
        exact TR.kp kp5 gR4 ge2
    · rintro σ H1 ⟨z3, z4, ts, rfl, kp, gR, lt, rows⟩
      have l5 : ts.length = 5 := lt
      have et : ts[s0]? = some (ts[s0]'(by omega)) := List.getElem?_eq_getElem _
      generalize ts[s0]'(by omega) = t at et
      obtain ⟨c1, c2, c3, g1, g2, g3, f1, f2⟩ := rows s0 t et
      refine ⟨_, rfl, _, rfl, _, _, rfl, rfl, R, _, _, .ref t, rfl, rfl, .inl (.inl gR), ?_, q t c1 c2 c3 H1 ?_ f1 f2 g1 g2 g3⟩
      · rw [show (s0 : Int) + 1 - 1 = (s0 : Int) by omega]
        exact atI_nat (by rw [List.getElem?_map, et]; rfl)
      · exact fun b o hb => kp _ _ (c_U _ _ hb) (ne_of_none hb f_R)
/-! CUT -/
/-! ### the law's way -/
theorem sub2 {m : Nat} (h : 8 ≤ m) : (m : Int) - 2 = ((m - 2 : Nat) : Int) := by omega
theorem eA1 {m : Nat} (h : 8 ≤ m) (a : Nat) : 1 + (0 + (a : Int)) / ((m : Int) - 2) = ((1 + a / (m - 2) : Nat) : Int) := by
  rw [sub2 h, Int.zero_add]
  exact (Int.natCast_add 1 (a / (m - 2))).symm
theorem eA2 {m : Nat} (h : 8 ≤ m) (a : Nat) : 1 + (0 + (a : Int)) % ((m : Int) - 2) = ((1 + a % (m - 2) : Nat) : Int) := by
  rw [sub2 h, Int.zero_add]
  exact (Int.natCast_add 1 (a % (m - 2))).symm
theorem eB1 {m : Nat} (h : 8 ≤ m) (a : Nat) : (m : Int) - 2 - (0 + (a : Int)) % ((m : Int) - 2) = ((m - 2 - a % (m - 2) : Nat) : Int) := by
  rw [sub2 h, Int.zero_add]
  have l : a % (m - 2) < m - 2 := Nat.mod_lt _ (by omega)
  exact (Int.ofNat_sub (Nat.le_of_lt l)).symm
theorem eN {m : Nat} (h : 8 ≤ m) : ((m : Int) - 2) * ((m : Int) - 2) = (((m - 2) * (m - 2) : Nat) : Int) := by
  rw [sub2 h]
  rfl
def sp_rib : Sp := fun vs H Q _ => ∃ m : Nat, vs = [vN m] ∧ 8 ≤ m ∧ m ≤ 24 ∧ ∀ (F A B : Addr) (LA LB : List Addr) H', Same H H' → H' F = some (.lst [.ref A, .ref B]) → H' A = some (.lst (LA.map V.ref)) → H' B = some (.lst (LB.map V.ref)) → Spots H' LA (ribA m ((m - 2) * (m - 2))) → Spots H' LB (ribB m ((m - 2) * (m - 2))) → Q (.ref F) H'
theorem ok__law_ribbons (T : Txt K mg) : FnOk P w K mg base CX0 1 T.f__law_ribbons T.d__law_ribbons ["_law_many"] sp_rib := by
  refine T.F__law_ribbons.ok sc__law_ribbons (fun vs H Q E h => ?_) (fun cdv A outer s H vs Q E hr h => ?_)
  · obtain ⟨m, rfl, _⟩ := h
    rfl
  · obtain ⟨m, rfl, m1, m2, q⟩ := h
    refine ⟨_, (pss_cons (ps_par (i := 1) (j := 2) (by rfl) sc__law_ribbons.nd rfl rfl (by decide) rfl rfl (pa_cons (pe_lst pa_nil) (pa_cons (pe_lst pa_nil) pa_nil)) (by rfl))
      (pss_cons (ps_for PassesOwn.never rfl (pi_range1 (by rfl) T.n_range (pa_cons (pe_op op_mul (pe_op op_sub (pv 0) pe_int) (pe_op op_sub (pv 0) pe_int)) pa_nil)) (pg_name (i := 3) sc__law_ribbons.nd rfl (.inl rfl)) (pss_cons (ps_set (i := 4) sc__law_ribbons.nd rfl (.inl rfl) (pe_tup (pa_cons (pe_op op_add pe_int (pe_op op_fdiv (pv 3) (pe_op op_sub (pv 0) pe_int))) (pa_cons (pe_op op_add pe_int (pe_op op_mod (pe_callTy call_int1 (by rfl) T.n_int (by decide +kernel) (pa_cons (pv 3) pa_nil)) (pe_op op_sub (pv 0) pe_int))) pa_nil))))
      (pss_one (ps_if (pt_cmpR op_lt (pe_callB call_len_seq (by rfl) T.n_len (by decide +kernel) (pa_cons (pv 1) pa_nil)) pe_int (nomark _)) (pss_one (ps_expr (pe_bm PySem.F.plainAttrs_list PySem.F.slot_list_append PySem.F.type_list_append mt_append (pv 1) (pa_cons (pv 4) pa_nil)))) pss_nil))))
      (pss_cons (ps_for PassesOwn.never rfl (pi_range1 (by rfl) T.n_range (pa_cons (pe_op op_mul (pe_op op_sub (pv 0) pe_int) (pe_op op_sub (pv 0) pe_int)) pa_nil)) (pg_name (i := 3) sc__law_ribbons.nd rfl (.inl rfl)) (pss_cons (ps_set (i := 4) sc__law_ribbons.nd rfl (.inl rfl) (pe_tup (pa_cons (pe_op op_sub (pe_op op_sub (pv 0) pe_int) (pe_op op_mod (pe_callTy call_int1 (by rfl) T.n_int (by decide +kernel) (pa_cons (pv 3) pa_nil)) (pe_op op_sub (pv 0) pe_int))) (pa_cons (pe_op op_add pe_int (pe_op op_fdiv (pv 3) (pe_op op_sub (pv 0) pe_int))) pa_nil))))
      (pss_one (ps_if (PW.pt (pw_and (pt_cmpR op_lt (pe_callB call_len_seq (by rfl) T.n_len (by decide +kernel) (pa_cons (pv 2) pa_nil)) pe_int (nomark _)) (pw_and1 (pt_cmpR (op_notInD (un1 hr)) (pv 4) (pv 1) (by rfl))))) (pss_one (ps_expr (pe_bm PySem.F.plainAttrs_list PySem.F.slot_list_append PySem.F.type_list_append mt_append (pv 2) (pa_cons (pv 4) pa_nil)))) pss_nil))))
      (pss_one (ps_ret (pe_lst (pa_cons (pv 1) (pa_cons (pv 2) pa_nil)))))))), ?_⟩
    have q2 : (m - 2) * (m - 2) ≤ 484 := Nat.mul_le_mul (show m - 2 ≤ 22 by omega) (show m - 2 ≤ 22 by omega)
    have eN1 := eN m1
    refine ⟨(by show 0 ≤ sizeLine; decide), fun a na => ⟨(by show 0 ≤ sizeLine; decide), fun b nb => ?_⟩⟩
    have sa := same_upd (o := .lst []) na
    have sb := same_upd (o := .lst []) nb
    have ga := sb _ _ (upd_same (H := H) (a := a) (o := .lst []))
    have gb := upd_same (H := upd H a (.lst [])) (a := b) (o := .lst [])
    have nb0 : H b = none := Same.free sa nb
    have nab : a ≠ b := fun e => by rw [← e, upd_same] at nb; cases nb
    have s0 := sa.trans sb
    generalize (upd (upd H a (.lst [])) b (.lst [])) = H1 at s0 ga gb ⊢
    clear sa sb nb
    refine ⟨_, _, rfl, ?_⟩
    refine ⟨_, rfl, _, _, rfl, rfl, _, rfl, _, _, rfl, rfl, _, _, rfl, rfl, .inl ⟨by omega, by omega⟩, (((m - 2) * (m - 2) : Nat) : Int), congrArg (fun z => [V.int z]) eN1, by omega, by omega, ?_⟩
    refine for_range (lo := 0) (n := (m - 2) * (m - 2)) (fun i σ H' => ∃ (z3 z4 : Option V) (LA : List Addr), σ = [some (vN m), some (.ref a), some (.ref b), z3, z4] ∧ Same H H' ∧ H' a = some (.lst (LA.map V.ref)) ∧ H' b = some (.lst []) ∧ Spots H' LA (ribA m i)) ⟨_, _, [], rfl, s0, ga, gb, .nil⟩ ?_ ?_
    · rintro i σ H2 hi ⟨z3, z4, LA, rfl, s2, ga2, gb2, sp⟩
      refine ⟨_, rfl, _, rfl, _, _, rfl, rfl, _, _, rfl, rfl, ⟨by omega, by omega⟩, _, _, rfl, rfl, ?_⟩
      refine ⟨_, rfl, .inl ⟨_, rfl, _, rfl, _, _, rfl, rfl, _, _, rfl, rfl, by omega, _, _, rfl, rfl, (by show 2 ≤ sizeLine; decide), fun t nt => ?_⟩⟩
      have st := same_upd (o := .tup [.int (1 + (0 + (i : Int)) / ((m : Int) - 2)), .int (1 + (0 + (i : Int)) % ((m : Int) - 2))]) nt
      have gt : (upd H2 t (.tup [.int (1 + (0 + (i : Int)) / ((m : Int) - 2)), .int (1 + (0 + (i : Int)) % ((m : Int) - 2))])) t = some (tQ (spA m i)) := by
        rw [upd_same, eA1 m1, eA2 m1]
        rfl
      generalize (upd H2 t (.tup [.int (1 + (0 + (i : Int)) / ((m : Int) - 2)), .int (1 + (0 + (i : Int)) % ((m : Int) - 2))])) = H3 at st gt ⊢
      have s3 := s2.trans st
      have ga3 := st _ _ ga2
      have gb3 := st _ _ gb2
      have sp3 := sp.same st
      refine ⟨_, rfl, a, _, rfl, .inl (.inl (.inl ga3)), _, _, rfl, rfl, _, rfl, ?_⟩
      have lt : (LA.map V.ref).length = (ribA m i).length := by rw [List.length_map, sp.len]
      refine ite2 (fun c => ?_) (fun c => ?_)
      · have c2 := of_decide_eq_true c
        have c3 : (ribA m i).length < 10 := by omega
        refine ⟨_, rfl, .inl ⟨rfl, _, .inl (.inl ga3)⟩, _, rfl, a, _, _, rfl, rfl, ga3, small1000 (by omega), ?_⟩
        have s4 : Same H (upd H3 a (.lst (LA.map V.ref ++ [.ref t]))) := fun x o hx => by
          rw [upd_ne (ne_of_none hx na)]
          exact s3 _ _ hx
        refine ⟨_, _, LA ++ [t], rfl, s4, by rw [upd_same, List.map_append]; rfl, by rw [upd_ne nab.symm]; exact gb3, ?_⟩
        rw [ribA_step, if_pos c3]
        exact (sp3.snoc gt).keep fun x xs hx => by rw [upd_ne (fun e => by rw [e, ga3] at hx; cases hx)]; exact hx
      · have c3 : ¬ (ribA m i).length < 10 := fun z => c (decide_eq_true (by omega))
        refine ⟨_, _, LA, rfl, s3, ga3, gb3, ?_⟩
        rw [ribA_step, if_neg c3]
        exact sp3
    · rintro σ H2 ⟨z3, z4, LA, rfl, s2, ga2, gb2, sp⟩
      refine ⟨_, rfl, _, _, rfl, rfl, _, rfl, _, _, rfl, rfl, _, _, rfl, rfl, .inl ⟨by omega, by omega⟩, (((m - 2) * (m - 2) : Nat) : Int), congrArg (fun z => [V.int z]) eN1, by omega, by omega, ?_⟩
      refine for_range (lo := 0) (n := (m - 2) * (m - 2)) (fun i σ H' => ∃ (z3 z4 : Option V) (LB : List Addr), σ = [some (vN m), some (.ref a), some (.ref b), z3, z4] ∧ Same H H' ∧ H' a = some (.lst (LA.map V.ref)) ∧ H' b = some (.lst (LB.map V.ref)) ∧ Spots H' LA (ribA m ((m - 2) * (m - 2))) ∧ Spots H' LB (ribB m i)) ⟨_, _, [], rfl, s2, ga2, gb2, sp, .nil⟩ ?_ ?_
      · clear s2 ga2 gb2 sp z3 z4 H2
        rintro i σ H2 hi ⟨z3, z4, LB, rfl, s2, ga2, gb2, spA0, sp⟩
        refine ⟨_, rfl, _, _, rfl, rfl, _, rfl, .inl ⟨_, rfl, _, rfl, _, _, rfl, rfl, _, _, rfl, rfl, by omega, _, _, rfl, rfl, ?_⟩⟩
        refine ⟨_, rfl, _, rfl, _, _, rfl, rfl, _, _, rfl, rfl, ⟨by omega, by omega⟩, _, _, rfl, rfl, (by show 2 ≤ sizeLine; decide), fun t nt => ?_⟩
        have st := same_upd (o := .tup [.int ((m : Int) - 2 - (0 + (i : Int)) % ((m : Int) - 2)), .int (1 + (0 + (i : Int)) / ((m : Int) - 2))]) nt
        have gt : (upd H2 t (.tup [.int ((m : Int) - 2 - (0 + (i : Int)) % ((m : Int) - 2)), .int (1 + (0 + (i : Int)) / ((m : Int) - 2))])) t = some (tQ (spB m i)) := by
          rw [upd_same, eA1 m1, eB1 m1]
          rfl
        generalize (upd H2 t (.tup [.int ((m : Int) - 2 - (0 + (i : Int)) % ((m : Int) - 2)), .int (1 + (0 + (i : Int)) / ((m : Int) - 2))])) = H3 at st gt ⊢
        have s3 := s2.trans st
        have ga3 := st _ _ ga2
        have gb3 := st _ _ gb2
        have sp3 := sp.same st
        have spA3 := spA0.same st
        refine ⟨_, rfl, b, _, rfl, .inl (.inl (.inl gb3)), _, _, rfl, rfl, _, rfl, ?_⟩
        have lt : (LB.map V.ref).length = (ribB m i).length := by rw [List.length_map, sp.len]
        have stay : ¬((ribB m i).length < 10 ∧ spB m i ∉ ribA m ((m - 2) * (m - 2))) → Spots H3 LB (ribB m (i + 1)) := fun z => by
          rw [ribB_step, if_neg z]
          exact sp3
        refine ite2 (fun c => ?_) (fun c => ?_)
        · have c2 := of_decide_eq_true c
          have c3 : (ribB m i).length < 10 := by omega
          refine ⟨_, rfl, _, rfl, dQ (spB m i), (ribA m ((m - 2) * (m - 2))).map dQ, spot_dp gt, spA3.dp (.inl (.inl ga3)), dQ_shaped _, dQs_shaped _, _, rfl, ?_⟩
          rw [dQ_any]
          by_cases cm : (ribA m ((m - 2) * (m - 2))).contains (spB m i) = true
          · rw [cm]
            refine iteF ⟨_, _, LB, rfl, s3, ga3, gb3, spA3, stay fun z => z.2 (by simpa using cm)⟩
          · rw [Bool.not_eq_true] at cm
            rw [cm]
            have c4 : spB m i ∉ ribA m ((m - 2) * (m - 2)) := by simpa using cm
            refine iteT ⟨_, rfl, .inl ⟨rfl, _, .inl (.inl gb3)⟩, _, rfl, b, _, _, rfl, rfl, gb3, small1000 (by omega), ?_⟩
            have keep : ∀ x xs, H3 x = some (.tup xs) → (upd H3 b (.lst (LB.map V.ref ++ [.ref t]))) x = some (.tup xs) := fun x xs hx => by rw [upd_ne (fun e => by rw [e, gb3] at hx; cases hx)]; exact hx
            refine ⟨_, _, LB ++ [t], rfl, fun x o hx => ?_, by rw [upd_ne nab]; exact ga3, by rw [upd_same, List.map_append]; rfl, spA3.keep keep, ?_⟩
            · rw [upd_ne (ne_of_none hx nb0)]
              exact s3 _ _ hx
            · rw [ribB_step, if_pos ⟨c3, c4⟩]
              exact (sp3.snoc gt).keep keep
        · exact ⟨_, _, LB, rfl, s3, ga3, gb3, spA3, stay fun z => c (decide_eq_true (by omega))⟩
      · rintro σ H3 ⟨z3, z4, LB, rfl, s3, ga3, gb3, spA3, sp3⟩
        refine ⟨_, rfl, _, rfl, (by show 2 ≤ sizeLine; decide), fun F nF => ?_⟩
        have sF := same_upd (o := .lst [.ref a, .ref b]) nF
        exact q F a b LA LB _ (s3.trans sF) upd_same (sF _ _ ga3) (sF _ _ gb3) (spA3.same sF) (sp3.same sF)
/-! CUT -/
theorem walk_rngC {lo c : Int} {n : Nat} : Walk (Itc lo c n) n (fun _ => True) (fun i H x H' => H' = H ∧ x = .int (lo + (i : Nat) * c)) where
  goes := fun i H h _ => h
  stops := fun H _ => Nat.le_refl n
  yields := fun i H x H' _ _ y => y
def fwI : List Int := fwL.map fun x : Nat => (x : Int)
theorem fwI_at {i : Nat} (h : i < 32) : atI (fwI.map V.int) (i : Int) = some (vN (fwF i)) := by
  refine atI_nat ?_
  unfold fwI
  rw [List.map_map, List.getElem?_map, fwF, List.getD_eq_getElem?_getD, List.getElem?_eq_getElem (by exact h)]
  rfl
def sp_wof : Sp := fun vs H Q _ => ∃ l m : Nat, vs = [vN l, vN m] ∧ l < 4 ∧ m < 8 ∧ Q (vN (fwF (8 * l + m))) H
theorem ok_word_of_format (T : Txt K mg) : FnOk P w K mg base CX0 1 T.f_word_of_format T.d_word_of_format ["level", "mask"] sp_wof := by
  refine T.F_word_of_format.ok sc_word_of_format (fun vs H Q E h => ?_) (fun cdv A outer s H vs Q E hr h => ?_)
  · obtain ⟨l, m, rfl, _⟩ := h
    rfl
  · obtain ⟨l, m, rfl, hl, hm, q⟩ := h
    refine ⟨_, (pss_one (ps_ret (pe_ix ix_rowB (pe_glob (v := .ref T.a_FORMAT_WORDS) (by rfl) T.g_FORMAT_WORDS rfl) (pe_op op_add (pe_op op_mul (pe_glob (v := .int 8) (by rfl) T.g_MASKS.choose_spec ⟨_, rfl⟩) (pv 0)) (pv 1)) (fun _ _ => rfl)))), ?_⟩
    exact ⟨_, rfl, _, _, rfl, rfl, .inl ⟨by decide, by decide⟩, _, rfl, _, _, rfl, rfl, T.a_FORMAT_WORDS, _, _, vN (fwF (8 * l + m)), false, rfl, rfl, tupB_ok (xs := fwI) T.l_FORMAT_WORDS, fwI_at (i := 8 * l + m) (by omega), q⟩
def sp_asb : Sp := fun vs H Q _ => ∃ n m : Nat, vs = [vN n, vN m] ∧ m ≤ 100 ∧ ∀ D H', Same H H' → H D = none → H' D = some (.lst ((bitsW m n).map vN)) → Q (.ref D) H'
theorem and_one (n : Nat) : Builtin.bitAnd (n : Int) 1 = ((n % 2 : Nat) : Int) := by
  have h := PyProof.Rows.bitAnd_pp (x := (n : Int)) (y := 1) (by omega) (by omega)
  rw [h]
  show (((n : Int).toNat &&& (1 : Int).toNat : Nat) : Int) = _
  rw [Int.toNat_natCast]
  show ((n &&& 1 : Nat) : Int) = _
  rw [Nat.and_one_is_mod]
theorem bitsW_snoc (m n i : Nat) : (List.range (i + 1)).map (fun k => n / 2 ^ (m - 1 - k) % 2) = (List.range i).map (fun k => n / 2 ^ (m - 1 - k) % 2) ++ [n / 2 ^ (m - 1 - i) % 2] := by
  rw [List.range_succ, List.map_append]
  rfl
theorem ok_as_bits (T : Txt K mg) : FnOk P w K mg base CX0 1 T.f_as_bits T.d_as_bits ["number", "many"] sp_asb := by
  refine T.F_as_bits.ok sc_as_bits (fun vs H Q E h => ?_) (fun cdv A outer s H vs Q E hr h => ?_)
  · obtain ⟨n, m, rfl, _⟩ := h
    rfl
  · obtain ⟨n, m, rfl, hm, q⟩ := h
    refine ⟨_, (pss_one (ps_ret (pe_lc (own := [("place", 2)]) rfl sc_as_bits.nd (pi_range3 (by rfl) T.n_range (pa_cons (pe_op op_sub (pv 1) pe_int) (pa_cons (pe_un un_neg pe_int) (pa_cons (pe_un un_neg pe_int) pa_nil)))) (blkOk_by (N := ["number", "many", "place"]) (sc := defScope s_as_bits) (by decide +kernel)) (fun _ _ _ _ _ => by exact (pg_name (i := 2) sc_as_bits.nd rfl (.inl rfl))) (fun _ _ _ _ _ => by exact pts_nil) (fun _ _ _ _ _ => by exact (pe_op op_and (pe_op op_shr (pv 0) (pv 2)) pe_int))))), ?_⟩
    refine ⟨_, rfl, _, _, rfl, rfl, _, rfl, _, rfl, (m : Int) - 1, -1, -1, m, rfl, ?_, fun D hD => ?_⟩
    · have h := RgC.neg (i := (m : Int) - 1) (j := -1) (by omega) (by omega) (by decide) (by decide)
      rw [show ((m : Int) - 1 - -1).toNat = m by omega] at h
      exact h
    refine lc_it (walk_rngC (lo := (m : Int) - 1) (c := -1) (n := m)) (fun i H' => Same H H' ∧ H' D = some (.lst (((List.range i).map fun k => n / 2 ^ (m - 1 - k) % 2).map vN))) ⟨same_upd hD, upd_same⟩ (fun i H' _ h => trivial) ?_ ?_
    · rintro i v H1 H2 hi ⟨sm, gD⟩ ⟨rfl, rfl⟩
      have ev : V.int (Builtin.bitAnd ((n : Int) / 2 ^ ((m : Int) - 1 + (i : Nat) * -1).toNat) 1) = vN (n / 2 ^ (m - 1 - i) % 2) := by
        rw [show ((m : Int) - 1 + (i : Nat) * -1).toNat = m - 1 - i by omega]
        have e : (n : Int) / 2 ^ (m - 1 - i) = ((n / 2 ^ (m - 1 - i) : Nat) : Int) := by
          rw [Int.natCast_ediv, Int.natCast_pow]
          rfl
        rw [e, and_one]
        rfl
      refine ⟨rfl, ?_⟩
      refine ⟨_, rfl, _, rfl, _, _, rfl, rfl, (by show (0 : Int) ≤ (m : Int) - 1 + (i : Nat) * -1; omega), _, _, rfl, rfl, _, gD, ?_, fun c o' hc => ?_, ?_⟩
      · rw [List.length_map, List.length_map, List.length_range]
        exact small1000 (by omega)
      · rw [upd_ne (ne_of_none hc hD)]
        exact sm _ _ hc
      · rw [upd_same, bitsW_snoc, List.map_append, List.map_cons, ← ev]
        rfl
    · rintro H1 ⟨s1, g1⟩
      exact q D H1 s1 hD g1
def stripL (l m : Nat) : List Nat := bitsW 10 (fwF (8 * l + m)) ++ bitsW 10 (fwF (8 * l + m))
def sp_ss : Sp := fun vs H Q _ => ∃ l m : Nat, vs = [vN l, vN m] ∧ l < 4 ∧ m < 8 ∧ ∀ D H', Same H H' → H D = none → H' D = some (.lst ((stripL l m).map vN)) → Q (.ref D) H'
theorem ok_strip_shades (T : Txt K mg) : FnOk P w K mg base CX0 2 T.f_strip_shades T.d_strip_shades ["level", "mask"] sp_ss := by
  refine T.F_strip_shades.ok sc_strip_shades (fun vs H Q E h => ?_) (fun cdv A outer s H vs Q E hr h => ?_)
  · obtain ⟨l, m, rfl, _⟩ := h
    rfl
  · obtain ⟨l, m, rfl, hl, hm, q⟩ := h
    refine ⟨_, (pss_one (ps_ret (pe_op op_rep (pe_call (ok_as_bits T) (hr.mono (by decide)) (by rfl) T.g_as_bits T.F_as_bits.kp T.b_as_bits .nil pass0 (pa_cons (pe_call (ok_word_of_format T) (hr.mono (by decide)) (by rfl) T.g_word_of_format T.F_word_of_format.kp T.b_word_of_format .nil pass0 (pa_cons (pv 0) (pa_cons (pv 1) pa_nil))) (pa_cons (pe_glob (v := .int 10) (by rfl) T.g_STRIP.choose_spec ⟨_, rfl⟩) pa_nil))) pe_int))), ?_⟩
    refine ⟨_, rfl, _, rfl, l, m, rfl, hl, hm, ?_⟩
    refine ⟨fwF (8 * l + m), 10, rfl, by decide, fun D H1 s1 n1 g1 => ?_⟩
    refine ⟨D, 2, _, rfl, rfl, g1, by decide, by decide, ?_, fun D2 hD2 => ?_⟩
    · rw [List.length_map, bitsW_len]
      decide
    have s2 := same_upd (o := .lst (List.replicate (2 : Int).toNat ((bitsW 10 (fwF (8 * l + m))).map vN)).flatten) hD2
    refine q D2 _ (s1.trans s2) (Same.free s1 hD2) ?_
    rw [upd_same]
    unfold stripL
    rw [List.map_append]
    show some (HO.lst (_ ++ (_ ++ []))) = _
    rw [List.append_nil]
def stripF (s : Nat) : List Nat := (usedF (sdF s)).map fun q => q.1 * sdF s + q.2
theorem strip_at (T : Txt K mg) {s : Nat} (hs : s < 5) : ∃ c, atI ([T.c_STRIPS0, T.c_STRIPS1, T.c_STRIPS2, T.c_STRIPS3, T.c_STRIPS4].map V.ref) (s : Int) = some (.ref c) ∧ ∀ H, SqT K H c ((stripF s).map vN) := by
  have : s = 0 ∨ s = 1 ∨ s = 2 ∨ s = 3 ∨ s = 4 := by omega
  rcases this with rfl | rfl | rfl | rfl | rfl
  · exact ⟨T.c_STRIPS0, rfl, fun H => by
      rw [show stripF 0 = [9, 10, 11, 12, 13, 14, 17, 18, 19, 20, 49, 41, 33, 25, 50, 42, 34, 26, 51, 43] by unfold stripF; rw [used_at (by decide)]; decide +kernel]
      exact tupB_ok (xs := [9, 10, 11, 12, 13, 14, 17, 18, 19, 20, 49, 41, 33, 25, 50, 42, 34, 26, 51, 43]) T.t_STRIPS0⟩
  · exact ⟨T.c_STRIPS1, rfl, fun H => by
      rw [show stripF 1 = [13, 14, 15, 16, 17, 18, 19, 20, 21, 22, 121, 109, 97, 85, 73, 61, 49, 37, 25, 122] by unfold stripF; rw [used_at (by decide)]; decide +kernel]
      exact tupB_ok (xs := [13, 14, 15, 16, 17, 18, 19, 20, 21, 22, 121, 109, 97, 85, 73, 61, 49, 37, 25, 122]) T.t_STRIPS1⟩
  · exact ⟨T.c_STRIPS2, rfl, fun H => by
      rw [show stripF 2 = [17, 18, 19, 20, 21, 22, 23, 24, 25, 26, 225, 209, 193, 177, 161, 145, 129, 113, 97, 81] by unfold stripF; rw [used_at (by decide)]; decide +kernel]
      exact tupB_ok (xs := [17, 18, 19, 20, 21, 22, 23, 24, 25, 26, 225, 209, 193, 177, 161, 145, 129, 113, 97, 81]) T.t_STRIPS2⟩
  · exact ⟨T.c_STRIPS3, rfl, fun H => by
      rw [show stripF 3 = [21, 22, 23, 24, 25, 26, 27, 28, 29, 30, 361, 341, 321, 301, 281, 261, 241, 221, 201, 181] by unfold stripF; rw [used_at (by decide)]; decide +kernel]
      exact tupB_ok (xs := [21, 22, 23, 24, 25, 26, 27, 28, 29, 30, 361, 341, 321, 301, 281, 261, 241, 221, 201, 181]) T.t_STRIPS3⟩
  · exact ⟨T.c_STRIPS4, rfl, fun H => by
      rw [show stripF 4 = [25, 26, 27, 28, 29, 30, 31, 32, 33, 34, 529, 505, 481, 457, 433, 409, 385, 361, 337, 313] by unfold stripF; rw [used_at (by decide)]; decide +kernel]
      exact tupB_ok (xs := [25, 26, 27, 28, 29, 30, 31, 32, 33, 34, 529, 505, 481, 457, 433, 409, 385, 361, 337, 313]) T.t_STRIPS4⟩
/-! CUT -/
theorem vN_inj {x y : Nat} (e : vN x = vN y) : x = y := by
  have h : (x : Int) = (y : Int) := V.int.inj e
  omega
def toldN (n : Nat) : List Nat := (List.range 5).map fun a => n / 2 ^ (4 - a) % 2
def genB : List Nat := [1, 1, 0, 1, 0, 1]
def xorAt (L : List Nat) (i : Nat) : Nat → List Nat
  | 0 => L
  | j + 1 => (xorAt L i j).set (i + j) ((xorAt L i j).getD (i + j) 0 ^^^ genB.getD j 0)
def leftF (n : Nat) : Nat → List Nat
  | 0 => toldN n ++ List.replicate 5 0
  | i + 1 => if (leftF n i).getD i 0 = 1 then xorAt (leftF n i) i 6 else leftF n i
def maskB : List Nat := [1, 0, 1, 1, 0, 0, 0, 1, 0, 1]
theorem written_bits {n : Nat} (h : n < 32) : ((toldN n ++ (leftF n 5).drop 5).zip maskB).map (fun p => p.1 ^^^ p.2) = fbits n :=
  of_decide_eq_true (all32 (P := fun n => decide (((toldN n ++ (leftF n 5).drop 5).zip maskB).map (fun p => p.1 ^^^ p.2) = fbits n)) (by decide +kernel) h)
theorem xorAt_len (L : List Nat) (i : Nat) : ∀ j, (xorAt L i j).length = L.length
  | 0 => rfl
  | j + 1 => by
    show (List.set _ _ _).length = _
    rw [List.length_set, xorAt_len L i j]
theorem leftF_len (n : Nat) : ∀ i, (leftF n i).length = 10
  | 0 => rfl
  | i + 1 => by
    unfold leftF
    split
    · rw [xorAt_len, leftF_len n i]
    · exact leftF_len n i
theorem cut5 (L : List Nat) (h : L.length = 10) : cutV (L.map vN) (some 5) none = (L.drop 5).map vN := by
  unfold cutV
  rw [List.length_map, h, show HT.sIx 10 0 (some 5) = 5 by decide, show HT.sIx 10 10 none = 10 by decide, List.take_of_length_le (by rw [List.length_drop, List.length_map, h]; decide), List.map_drop]
def sp_written : Sp := fun vs H Q _ => ∃ l m : Nat, vs = [vN l, vN m] ∧ l < 4 ∧ m < 8 ∧ ∀ (D : Addr) H', Same H H' → H D = none → H' D = some (.lst ((fbits (8 * l + m)).map vN)) → Q (.ref D) H'
theorem ok__law_written (T : Txt K mg) : FnOk P w K mg base CX0 1 T.f__law_written T.d__law_written ["_law_level_so", "_law_mask_so"] sp_written := by
  refine T.F__law_written.ok sc__law_written (fun vs H Q E h => ?_) (fun cdv A outer s H vs Q E hr h => ?_)
  · obtain ⟨l, m, rfl, _⟩ := h
    rfl
  · obtain ⟨l, m, rfl, hl, hm, q⟩ := h
    refine ⟨_, (pss_cons (ps_set (i := 2) sc__law_written.nd rfl (.inr rfl) (pe_op op_add (pe_op op_mul pe_int (pv 0)) (pv 1)))
      (pss_cons (ps_setLc (i := 4) (own := [("_law_at", 3)]) rfl sc__law_written.nd rfl rfl (sw_true rfl rfl rfl (by decide +kernel)) (pi_range1 (by rfl) T.n_range (pa_cons pe_int pa_nil)) (blkOk_by (N := ["_law_level_so", "_law_mask_so", "_law_number", "_law_at", "_law_told_so", "_law_left", "_law_to", "_law_bit", "_law_one", "_law_other"]) (sc := defScope s__law_written) (by decide +kernel)) (fun _ _ _ _ _ => by exact (pg_name (i := 3) sc__law_written.nd rfl (.inl rfl))) (fun _ _ _ _ _ => by exact pts_nil) (fun _ _ _ _ _ => by exact (pe_op op_and (pe_op op_shr (pv 2) (pe_op op_sub pe_int (pv 3))) pe_int)))
      (pss_cons (ps_set (i := 5) sc__law_written.nd rfl (.inl rfl) (pe_op op_cat (pv 4) (pe_op op_rep (pe_lst (pa_cons pe_int pa_nil)) pe_int)))
      (pss_cons (ps_for PassesOwn.never rfl (pi_range1 (by rfl) T.n_range (pa_cons pe_int pa_nil)) (pg_name (i := 3) sc__law_written.nd rfl (.inl rfl)) (pss_one (ps_if (pt_cmpR op_eq (pe_ix ix_list (pv 5) (pv 3) (fun _ _ => rfl)) pe_int (nomark _)) (pss_one (ps_for PassesOwn.never rfl (pi_enum (by rfl) T.n_enumerate (pa_cons (pe_lst (pa_cons pe_int (pa_cons pe_int (pa_cons pe_int (pa_cons pe_int (pa_cons pe_int (pa_cons pe_int pa_nil))))))) pa_nil)) (pg_tup rfl (pgs_cons (pg_name (i := 6) sc__law_written.nd rfl (.inl rfl)) (pgs_cons (pg_name (i := 7) sc__law_written.nd rfl (.inl rfl)) pgs_nil))) (pss_one (ps_asg (pe_op op_xor (pe_ix ix_list (pv 5) (pe_op op_add (pv 3) (pv 6)) (fun _ _ => rfl)) (pv 7)) (pg_sub (pv 5) (pe_op op_add (pv 3) (pv 6)) set_list))))) pss_nil)))
      (pss_one (ps_ret (pe_lc (own := [("_law_one", 8), ("_law_other", 9)]) (g := gTup K 2 (gCons (gName 8) (gCons (gName 9) gNil))) rfl sc__law_written.nd (pi_zip (by rfl) T.n_zip (pa_cons (pe_op op_cat (pv 4) (pe_slice sl_list (pv 5) (po_some pe_int) po_none)) (pa_cons (pe_lst (pa_cons pe_int (pa_cons pe_int (pa_cons pe_int (pa_cons pe_int (pa_cons pe_int (pa_cons pe_int (pa_cons pe_int (pa_cons pe_int (pa_cons pe_int (pa_cons pe_int pa_nil))))))))))) pa_nil))) (blkOk_by (N := ["_law_level_so", "_law_mask_so", "_law_number", "_law_at", "_law_told_so", "_law_left", "_law_to", "_law_bit", "_law_one", "_law_other"]) (sc := defScope s__law_written) (by decide +kernel)) (fun _ _ _ _ _ => by (refine pg_tup ?_ ?_); (exact rfl); (refine pgs_cons ?_ ?_); (exact (pg_name (i := 8) sc__law_written.nd rfl (.inl rfl))); (refine pgs_cons ?_ ?_); (exact (pg_name (i := 9) sc__law_written.nd rfl (.inl rfl))); (exact pgs_nil)) (fun _ _ _ _ _ => by exact pts_nil) (fun _ _ _ _ _ => by exact (pe_op op_xor (pv 8) (pv 9)))))))))), ?_⟩
    refine ⟨_, rfl, _, _, rfl, rfl, .inl ⟨by decide, by decide⟩, _, rfl, _, _, rfl, rfl, ?_⟩
    have hn : 8 * l + m < 32 := by omega
    generalize en : 8 * l + m = n at hn q
    have eN : V.int (8 * (l : Int) + (m : Int)) = vN n := by
      rw [← en]
      rfl
    refine ⟨5, rfl, by decide, by decide, fun D hD => ?_⟩
    refine lc_range (lo := 0) (n := 5) (fun i H' => Same H H' ∧ H' D = some (.lst (((toldN n).take i).map vN))) ⟨same_upd hD, upd_same⟩ ?_ ?_
    · rintro i H1 hi ⟨sm, out⟩
      refine ⟨rfl, ?_⟩
      refine ⟨_, rfl, _, rfl, _, _, rfl, rfl, _, _, rfl, rfl, (by omega), _, _, rfl, rfl, ?_⟩
      have ev : V.int (Builtin.bitAnd ((8 * (l : Int) + (m : Int)) / 2 ^ ((4 : Int) - (0 + (i : Int))).toNat) 1) = vN (n / 2 ^ (4 - i) % 2) := by
        have e1 : ((4 : Int) - (0 + (i : Int))).toNat = 4 - i := by omega
        have e2 : (8 * (l : Int) + (m : Int)) = (n : Int) := V.int.inj eN
        have e3 : (n : Int) / 2 ^ (4 - i) = ((n / 2 ^ (4 - i) : Nat) : Int) := by
          rw [Int.natCast_ediv, Int.natCast_pow]
          rfl
        rw [e1, e2, e3, band1]
        rfl
      have et : (toldN n)[i]? = some (n / 2 ^ (4 - i) % 2) := by
        unfold toldN
        rw [List.getElem?_map, List.getElem?_range hi]
        rfl
      refine ⟨_, out, ?_, fun x o hx => ?_, ?_⟩
      · rw [List.length_map, List.length_take]
        exact small1000 (by omega)
      · rw [upd_ne (ne_of_none hx hD)]
        exact sm _ _ hx
      · rw [upd_same, List.take_add_one, et, Option.toList_some, List.map_append, List.map_cons, List.map_nil, ← ev]
    · rintro H1 ⟨sm, out⟩
      rw [List.take_of_length_le (by unfold toldN; rw [List.length_map, List.length_range]; exact Nat.le_refl _)] at out
      refine ⟨_, rfl, (by show 1 ≤ sizeLine; decide), fun z hz => ?_⟩
      have s2 := same_upd (o := .lst [V.int 0]) hz
      refine ⟨z, _, _, rfl, rfl, upd_same, by decide, by decide, (by show 1 * 5 ≤ sizeLine; decide), fun z2 hz2 => ?_⟩
      have s3 := same_upd (o := .lst (List.replicate ((5 : Int)).toNat [V.int 0]).flatten) hz2
      refine ⟨D, z2, _, _, rfl, rfl, s3 _ _ (s2 _ _ out), upd_same, (by show 10 ≤ sizeLine; decide), fun tl htl => ?_⟩
      have s4 := same_upd (o := .lst (List.map vN (toldN n) ++ (List.replicate ((5 : Int)).toNat [V.int 0]).flatten)) htl
      have oD := s4 _ _ (s3 _ _ (s2 _ _ out))
      have oL : (upd (upd (upd H1 z (.lst [V.int 0])) z2 (.lst (List.replicate ((5 : Int)).toNat [V.int 0]).flatten)) tl (.lst (List.map vN (toldN n) ++ (List.replicate ((5 : Int)).toNat [V.int 0]).flatten))) tl = some (.lst ((leftF n 0).map vN)) := by
        rw [upd_same]
        unfold leftF
        rw [List.map_append]
        rfl
      have sA := ((sm.trans s2).trans s3).trans s4
      have neq : tl ≠ D := fun e => by
        have := s3 _ _ (s2 _ _ out)
        rw [← e, htl] at this
        cases this
      have freeT : H tl = none := Same.free ((sm.trans s2).trans s3) htl
      generalize (upd (upd (upd H1 z (.lst [V.int 0])) z2 (.lst (List.replicate ((5 : Int)).toNat [V.int 0]).flatten)) tl (.lst (List.map vN (toldN n) ++ (List.replicate ((5 : Int)).toNat [V.int 0]).flatten))) = H2 at oD oL sA ⊢
      refine ⟨5, rfl, by decide, by decide, ?_⟩
      refine for_range (lo := 0) (n := 5) (fun i σ H' => ∃ z3 z6 z7 : Option V, σ = [some (vN l), some (vN m), some (.int (8 * (l : Int) + (m : Int))), z3, some (.ref D), some (.ref tl), z6, z7, none, none] ∧ Same H H' ∧ H' D = some (.lst ((toldN n).map vN)) ∧ H' tl = some (.lst ((leftF n i).map vN))) ⟨_, _, _, rfl, sA, oD, oL⟩ ?_ ?_
      · clear sA oD oL s4 H2
        rintro i σ H2 hi ⟨z3, z6, z7, rfl, sA, oD, oL⟩
        have ll := leftF_len n i
        have el : (leftF n i)[i]? = some ((leftF n i).getD i 0) := by
          rw [List.getD_eq_getElem?_getD, List.getElem?_eq_getElem (by omega)]
          rfl
        refine ⟨_, rfl, _, rfl, tl, _, _, vN ((leftF n i).getD i 0), rfl, rfl, .inl (.inl oL), (by rw [Int.zero_add]; exact atI_nat (by rw [List.getElem?_map, el]; rfl)), rfl, _, rfl, ?_⟩
        refine ite2 (fun c => ?_) (fun c => ?_)
        · have c1 : (leftF n i).getD i 0 = 1 := vN_inj (y := 1) (of_decide_eq_true c)
          refine ⟨(by show 6 ≤ sizeLine; decide), fun e he => ?_⟩
          have s5 := same_upd (o := .lst (genB.map vN)) he
          refine ⟨e, _, rfl, .inl (.inl upd_same), ?_⟩
          have neT : tl ≠ e := fun z => by rw [z, he] at oL; cases oL
          have neD : D ≠ e := fun z => by rw [z, he] at oD; cases oD
          refine for_it (walk_enum (K := K) (a := e) (xs := genB.map vN)) (fun j σ H' => ∃ z6 z7 : Option V, σ = [some (vN l), some (vN m), some (.int (8 * (l : Int) + (m : Int))), some (.int (0 + (i : Int))), some (.ref D), some (.ref tl), z6, z7, none, none] ∧ Same H H' ∧ H' D = some (.lst ((toldN n).map vN)) ∧ H' tl = some (.lst ((xorAt (leftF n i) i j).map vN)) ∧ H' e = some (.lst (genB.map vN)))
            ⟨_, _, rfl, sA.trans s5, s5 _ _ oD, s5 _ _ oL, upd_same⟩ (fun j σ H' _ ⟨_, _, _, _, _, _, h⟩ => .inl (.inl h)) ?_ ?_
          · rintro j v σ H3 H4 hj ⟨z6, z7, rfl, sB, pD, pL, pe⟩ ⟨T1, x, y, rfl, hT1, rfl, hx, hy⟩
            have hj : j < 6 := hj
            cases hx
            have ey : y = vN (genB.getD j 0) := by
              have hy : (genB.map vN)[j]? = some y := hy
              rw [List.getElem?_map] at hy
              obtain ⟨b, hb, rfl⟩ := Option.map_eq_some_iff.mp hy
              rw [List.getD_eq_getElem?_getD, hb]
              rfl
            subst ey
            have s6 := same_upd (o := .tup [.int (j : Int), vN (genB.getD j 0)]) hT1
            have xl := xorAt_len (leftF n i) i j
            have ex : (xorAt (leftF n i) i j)[i + j]? = some ((xorAt (leftF n i) i j).getD (i + j) 0) := by
              rw [List.getD_eq_getElem?_getD, List.getElem?_eq_getElem (by omega)]
              rfl
            have eij : (0 : Int) + (i : Int) + (j : Int) = ((i + j : Nat) : Int) := by omega
            refine ⟨T1, _, rfl, .inl (.inl upd_same), rfl, _, _, rfl, _, _, rfl, rfl, ?_⟩
            refine ⟨_, rfl, _, rfl, _, rfl, _, _, rfl, rfl, tl, _, _, vN ((xorAt (leftF n i) i j).getD (i + j) 0), rfl, rfl, .inl (.inl (s6 _ _ pL)), (by rw [eij]; exact atI_nat (by rw [List.getElem?_map, ex]; rfl)), ?_⟩
            refine ⟨_, rfl, _, _, rfl, rfl, ?_⟩
            refine ⟨_, rfl, _, rfl, _, rfl, _, _, rfl, rfl, tl, _, _, i + j, rfl, rfl, s6 _ _ pL, (by rw [eij]; exact ixN_nat (by rw [List.length_map]; omega)), ?_⟩
            refine ⟨_, _, rfl, fun x o hx => ?_, ?_, ?_, ?_⟩
            · rw [upd_ne (ne_of_none hx freeT)]
              exact s6 _ _ (sB _ _ hx)
            · rw [upd_ne neq.symm]
              exact s6 _ _ pD
            · rw [upd_same]
              show some (HO.lst _) = some (HO.lst ((List.set _ _ _).map vN))
              rw [List.map_set]
              exact congrArg (fun z => some (HO.lst (List.set (List.map vN (xorAt (leftF n i) i j)) (i + j) z))) (congrArg V.int (bx _ _))
            · rw [upd_ne neT.symm]
              exact s6 _ _ pe
          · rintro σ H3 ⟨z6, z7, rfl, sB, pD, pL, pe⟩
            refine ⟨_, _, _, rfl, sB, pD, ?_⟩
            show H3 tl = some (.lst ((if _ then _ else _ : List Nat).map vN))
            rw [if_pos c1]
            exact pL
        · refine ⟨_, _, _, rfl, sA, oD, ?_⟩
          show H2 tl = some (.lst ((if _ then _ else _ : List Nat).map vN))
          rw [if_neg (fun e => c (decide_eq_true (by rw [e]; rfl)))]
          exact oL
      · clear sA oD oL s4 H2
        rintro σ H2 ⟨z3, z6, z7, rfl, sA, oD, oL⟩
        have c5 := cut5 _ (leftF_len n 5)
        have l5 : ((leftF n 5).drop 5).length = 5 := by rw [List.length_drop, leftF_len]
        have lt : (toldN n).length = 5 := by unfold toldN; rw [List.length_map, List.length_range]
        have lz : (toldN n ++ (leftF n 5).drop 5).length = 10 := by rw [List.length_append, lt, l5]
        refine ⟨_, rfl, _, rfl, 5, rfl, tl, _, rfl, .inl (.inl oL), fun p hp => ?_⟩
        have s3 := same_upd (o := .lst (cutV ((leftF n 5).map vN) (some 5) none)) hp
        refine ⟨D, p, _, _, rfl, rfl, s3 _ _ oD, upd_same, ?_, fun ca hca => ?_⟩
        · rw [c5, List.length_map, List.length_map, lt, l5]
          decide
        have s4 := same_upd (o := .lst (List.map vN (toldN n) ++ cutV ((leftF n 5).map vN) (some 5) none)) hca
        refine ⟨(by show 10 ≤ sizeLine; decide), fun cb hcb => ?_⟩
        have s5 := same_upd (o := .lst (maskB.map vN)) hcb
        have gA : (upd (upd (upd H2 p (.lst (cutV ((leftF n 5).map vN) (some 5) none))) ca (.lst (List.map vN (toldN n) ++ cutV ((leftF n 5).map vN) (some 5) none))) cb (.lst (maskB.map vN))) ca = some (.lst ((toldN n ++ (leftF n 5).drop 5).map vN)) := s5 _ _ (by rw [upd_same, c5, List.map_append])
        have gB : (upd (upd (upd H2 p (.lst (cutV ((leftF n 5).map vN) (some 5) none))) ca (.lst (List.map vN (toldN n) ++ cutV ((leftF n 5).map vN) (some 5) none))) cb (.lst (maskB.map vN))) cb = some (.lst (maskB.map vN)) := upd_same
        have sB := ((sA.trans s3).trans s4).trans s5
        generalize ht : (upd (upd (upd H2 p (.lst (cutV ((leftF n 5).map vN) (some 5) none))) ca (.lst (List.map vN (toldN n) ++ cutV ((leftF n 5).map vN) (some 5) none))) cb (.lst (maskB.map vN))) = H5 at gA gB sB
        refine ⟨ca, cb, (toldN n ++ (leftF n 5).drop 5).map vN, maskB.map vN, rfl, .inl (.inl (by rw [← gA, ← ht]; rfl)), .inl (.inl (by rw [← gB, ← ht]; rfl)), fun R hR => ?_⟩
        refine lc_it (walk_zip (K := K) (a := ca) (b := cb) (xs := (toldN n ++ (leftF n 5).drop 5).map vN) (ys := maskB.map vN) (n := 10) (by rw [List.length_map, lz]; rfl)) (fun i H' => Same H5 H' ∧ H' R = some (.lst (((fbits n).take i).map vN))) ?_ (fun i H' _ h => ⟨.inl (.inl (h.1 _ _ gA)), .inl (.inl (h.1 _ _ gB))⟩) ?_ ?_
        · refine ⟨fun b o hb => ?_, upd_same⟩
          rw [← ht] at hb
          exact same_upd hR b o hb
        · rintro i v H6 H7 hi ⟨sm, out⟩ ⟨T1, x, y, rfl, hT, rfl, hx, hy⟩
          have hR' : H5 R = none := by
            rw [← ht]
            exact hR
          have hx : ((toldN n ++ (leftF n 5).drop 5).map vN)[i]? = some x := hx
          have hy : (maskB.map vN)[i]? = some y := hy
          rw [List.getElem?_map] at hx hy
          obtain ⟨a0, ha, rfl⟩ := Option.map_eq_some_iff.mp hx
          obtain ⟨b0, hb, rfl⟩ := Option.map_eq_some_iff.mp hy
          have ef : (fbits n)[i]? = some (a0 ^^^ b0) := by
            rw [← written_bits hn, List.getElem?_map, (List.getElem?_zip_eq_some (z := (a0, b0))).mpr ⟨ha, hb⟩]
            rfl
          have s6 := same_upd (o := .tup [vN a0, vN b0]) hT
          refine ⟨T1, _, rfl, .inl (.inl upd_same), rfl, _, _, rfl, _, _, rfl, rfl, rfl, ?_⟩
          refine ⟨_, rfl, _, rfl, _, _, rfl, rfl, ?_⟩
          refine ⟨_, s6 _ _ out, ?_, fun c o hc => ?_, ?_⟩
          · rw [List.length_map, List.length_take, fbits_len]
            exact small1000 (by omega)
          · rw [upd_ne (ne_of_none hc hR')]
            exact s6 _ _ (sm _ _ hc)
          · rw [upd_same, List.take_add_one, ef, Option.toList_some, List.map_append]
            exact congrArg (fun z => some (HO.lst ((List.take i (fbits n)).map vN ++ [z]))) (congrArg V.int (bx a0 b0))
        · rintro H6 ⟨sm, out⟩
          have hR' : H5 R = none := by
            rw [← ht]
            exact hR
          rw [List.take_of_length_le (by rw [fbits_len]; exact Nat.le_refl _)] at out
          exact q R H6 (sB.trans sm) (Same.free sB hR') out
/-! CUT -/
def sp_fword : Sp := fun vs H Q _ => ∃ l m : Nat, vs = [vN l, vN m] ∧ l < 4 ∧ m < 8 ∧ Q (vN (fwF (8 * l + m))) H
theorem ok_format_word (T : Txt K mg) : FnOk P w K mg base CX0 3 T.f_format_word T.d_format_word ["level", "mask"] sp_fword := by
  refine T.F_format_word.ok sc_format_word (fun vs H Q E h => ?_) (fun cdv A outer s H vs Q E hr h => ?_)
  · obtain ⟨l, m, rfl, _⟩ := h
    rfl
  · obtain ⟨l, m, rfl, hl, hm, q⟩ := h
    refine ⟨_, (pss_cons (ps_expr (pe_call (ok_need_level T) (hr.mono (by decide)) (by rfl) T.g_need_level T.F_need_level.kp T.b_need_level .nil pass0 (pa_cons (pv 0) pa_nil)))
      (pss_cons (ps_expr (pe_call (ok_need_mask T) (hr.mono (by decide)) (by rfl) T.g_need_mask T.F_need_mask.kp T.b_need_mask .nil pass0 (pa_cons (pv 1) pa_nil)))
      (pss_one (ps_ret (pe_call (ok_word_of_format T) (hr.mono (by decide)) (by rfl) T.g_word_of_format T.F_word_of_format.kp T.b_word_of_format .nil pass0 (pa_cons (pv 0) (pa_cons (pv 1) pa_nil))))))), ?_⟩
    exact ⟨_, rfl, l, rfl, hl, _, rfl, m, rfl, hm, _, rfl, _, rfl, l, m, rfl, hl, hm, q⟩
theorem strip_len {s : Nat} (hs : s < 5) : (usedF (sdF s)).length = 20 := by
  rw [used_at hs]
  exact of_decide_eq_true (all5 (P := fun s => decide ((usedL.getD s []).length = 20)) (by decide +kernel) hs)
theorem strip_in {s : Nat} (hs : s < 5) {q : Nat × Nat} (h : q ∈ usedF (sdF s)) : q.1 < sdF s ∧ q.2 < sdF s := by
  rw [used_at hs] at h
  have := List.all_eq_true.mp (all5 (P := fun s => (usedL.getD s []).all fun q => decide (q.1 < sdF s ∧ q.2 < sdF s)) (by decide +kernel) hs) q h
  exact of_decide_eq_true this
def sp_sdots : Sp := fun vs H Q _ => ∃ s : Nat, vs = [.int ((s : Int) + 1)] ∧ s < 5 ∧ ∀ (D : Addr) (L : List Addr) H', Same H H' → H D = none → H' D = some (.lst (L.map V.ref)) → Spots H' L (usedF (sdF s)) → Q (.ref D) H'
theorem ok_strip_dots (T : Txt K mg) : FnOk P w K mg base CX0 1 T.f_strip_dots T.d_strip_dots ["size"] sp_sdots := by
  refine T.F_strip_dots.ok sc_strip_dots (fun vs H Q E h => ?_) (fun cdv A outer s H vs Q E hr h => ?_)
  · obtain ⟨s, rfl, _⟩ := h
    rfl
  · obtain ⟨s0, rfl, hs, q⟩ := h
    refine ⟨_, (pss_cons (ps_set (i := 1) sc_strip_dots.nd rfl (.inr rfl) (pe_ix ix_rowB (pe_glob (v := .ref T.a_SIDES) (by rfl) T.g_SIDES rfl) (pe_op op_sub (pv 0) pe_int) (fun _ _ => rfl)))
      (pss_one (ps_ret (pe_lc (own := [("at", 2)]) rfl sc_strip_dots.nd (pi_seqK (K := K) rfl (pe_ix (ix_rowBK (K := K) rfl) (pe_glob (v := .ref T.a_STRIPS) (by rfl) T.g_STRIPS rfl) (pe_op op_sub (pv 0) pe_int) (fun _ _ => rfl))) (blkOk_by (N := ["size", "many", "at"]) (sc := defScope s_strip_dots) (by decide +kernel)) (fun _ _ _ _ _ => by exact (pg_name (i := 2) sc_strip_dots.nd rfl (.inl rfl))) (fun _ _ _ _ _ => by exact pts_nil) (fun _ _ _ _ _ => by exact (pe_callB call_divmod (by rfl) T.n_divmod (by decide +kernel) (pa_cons (pv 2) (pa_cons (pv 1) pa_nil)))))))), ?_⟩
    obtain ⟨c, hc, hrow⟩ := strip_at T hs
    have one : (s0 : Int) + 1 - 1 = (s0 : Int) := by omega
    have hm : 8 ≤ sdF s0 ∧ sdF s0 ≤ 24 := side_le (sd_ok hs)
    refine ⟨_, rfl, _, _, rfl, rfl, T.a_SIDES, _, _, vN (sdF s0), false, rfl, rfl, tupB_ok (xs := sidesI) T.l_SIDES, (by rw [one]; exact atI_nat (by rw [List.getElem?_map, sd_side hs]; rfl)), ?_⟩
    refine ⟨_, rfl, _, _, rfl, rfl, T.a_STRIPS, _, _, .ref c, false, rfl, rfl, (T.l_STRIPS.sq (hz := by show 5 ≤ 1000; decide)), (by rw [one]; exact hc), ?_⟩
    refine ⟨c, _, false, rfl, hrow _, fun D hD => ?_⟩
    have lS : (stripF s0).length = 20 := by
      unfold stripF
      rw [List.length_map]
      exact strip_len hs
    refine lc_it (walk_seq (b := false) (K := K) (a := c) (xs := (stripF s0).map vN)) (fun i H' => ∃ L : List Addr, Same H H' ∧ H' D = some (.lst (L.map V.ref)) ∧ Spots H' L ((usedF (sdF s0)).take i)) ⟨[], same_upd hD, upd_same, Spots.nil⟩ (fun i H' _ h => hrow _) ?_ ?_
    · rintro i v H1 H2 hi ⟨L, s1, gD, sp⟩ ⟨rfl, e2⟩
      rw [List.length_map, lS] at hi
      have eu : (usedF (sdF s0))[i]? = some ((usedF (sdF s0))[i]'(by rw [strip_len hs]; exact hi)) := List.getElem?_eq_getElem _
      generalize (usedF (sdF s0))[i]'(by rw [strip_len hs]; exact hi) = qq at eu
      obtain ⟨x, y⟩ := qq
      obtain ⟨hx, hy⟩ := strip_in hs (List.mem_of_getElem? eu)
      have hx : x < sdF s0 := hx
      have hy : y < sdF s0 := hy
      have ev : v = vN (x * sdF s0 + y) := by
        unfold stripF at e2
        rw [List.getElem?_map, List.getElem?_map, eu] at e2
        exact (Option.some.inj e2).symm
      subst ev
      have lL : L.length = i := by rw [sp.len, List.length_take, strip_len hs]; omega
      refine ⟨rfl, ?_⟩
      refine ⟨_, rfl, _, rfl, (x * sdF s0 + y : Nat), (sdF s0 : Nat), rfl, ⟨by omega, by omega⟩, fun p hp => ?_⟩
      have e1 : (((x * sdF s0 + y : Nat) : Int) / ((sdF s0 : Nat) : Int)) = (x : Nat) := by
        rw [← Int.natCast_ediv, Nat.mul_comm, Nat.mul_add_div (by omega), Nat.div_eq_of_lt hy, Nat.add_zero]
      have e2 : (((x * sdF s0 + y : Nat) : Int) % ((sdF s0 : Nat) : Int)) = (y : Nat) := by
        rw [← Int.natCast_emod, Nat.mul_comm, Nat.mul_add_mod, Nat.mod_eq_of_lt hy]
      rw [e1, e2]
      have nD : D ≠ p := fun e => by rw [e, hp] at gD; cases gD
      have gD2 : upd H2 p (.tup [V.int (x : Nat), V.int (y : Nat)]) D = some (.lst (L.map V.ref)) := by rw [upd_ne nD]; exact gD
      refine ⟨_, gD2, ?_, L ++ [p], fun c' o' hc' => ?_, ?_, ?_⟩
      · rw [List.length_map, lL]
        exact small1000 (by omega)
      · rw [upd_ne (ne_of_none hc' hD)]
        exact same_upd hp _ _ (s1 _ _ hc')
      · rw [upd_same, List.map_append]
        rfl
      · rw [List.take_add_one, eu]
        have st : ∀ b xs, H2 b = some (.tup xs) → upd (upd H2 p (.tup [V.int (x : Nat), V.int (y : Nat)])) D (.lst (L.map V.ref ++ [V.ref p])) b = some (.tup xs) := fun b xs e => by
          rw [upd_ne (fun z => by rw [z, gD] at e; cases e)]
          exact same_upd hp _ _ e
        refine Spots.append (sp.keep st) ⟨rfl, fun j l q e3 e4 => ?_⟩
        cases j with
        | succ j => simp at e3
        | zero =>
          obtain rfl : p = l := by simpa using e3
          obtain rfl : (x, y) = q := by simpa using e4
          rw [upd_ne nD.symm, upd_same]
          rfl
    · rintro H1 ⟨L, s1, gD, sp⟩
      rw [List.length_map, lS, List.take_of_length_le (by rw [strip_len hs]; exact Nat.le_refl _)] at sp
      exact q D L H1 s1 hD gD sp
/-- what the dots of the format are -/
def dotI (p : (Nat × Nat) × Nat) : (Int × Int) × Int := (((p.1.1 : Nat), (p.1.2 : Nat)), (p.2 : Nat))
def fdL (s l m : Nat) : List ((Int × Int) × Int) := ((usedF (sdF s)).zip (stripL l m)).map dotI
theorem stripL_len (l m : Nat) : (stripL l m).length = 20 := by
  unfold stripL
  rw [List.length_append, bitsW_len]
theorem used_nd {s : Nat} (hs : s < 5) : (usedF (sdF s)).Nodup := by
  rw [used_at hs]
  exact of_decide_eq_true (all5 (P := fun s => decide ((usedL.getD s []).Nodup)) (by decide +kernel) hs)
theorem dotI_keys {us : List (Nat × Nat)} {bs : List Nat} (hl : us.length = bs.length) (nd : us.Nodup) : (((us.zip bs).map dotI).map (·.1)).Nodup := by
  have e : ((us.zip bs).map dotI).map (·.1) = us.map fun q : Nat × Nat => (((q.1 : Nat) : Int), ((q.2 : Nat) : Int)) := by
    rw [List.map_map]
    have z : us = (us.zip bs).map Prod.fst := (List.map_fst_zip (Nat.le_of_eq hl)).symm
    conv => rhs; rw [z]
    rw [List.map_map]
    rfl
  rw [e]
  refine List.Pairwise.map _ (fun a b h => ?_) nd
  intro z
  have z1 := (Prod.mk.inj z).1
  have z2 := (Prod.mk.inj z).2
  exact h (Prod.ext (by omega) (by omega))
def sp_fd : Sp := fun vs H Q _ => ∃ s l m : Nat, vs = [.int ((s : Int) + 1), vN l, vN m] ∧ s < 5 ∧ l < 4 ∧ m < 8 ∧ ∀ (D : Addr) (mm : List ((Int × Int) × Int)) H', Same H H' → H D = none → mm.Perm (fdL s l m) → H' D = some (.dT (dP mm)) → Q (.ref D) H'
theorem ok_format_dots (T : Txt K mg) : FnOk P w K mg base CX0 3 T.f_format_dots T.d_format_dots ["size", "level", "mask"] sp_fd := by
  refine T.F_format_dots.ok sc_format_dots (fun vs H Q E h => ?_) (fun cdv A outer s H vs Q E hr h => ?_)
  · obtain ⟨s, l, m, rfl, _⟩ := h
    rfl
  · obtain ⟨s0, l, m, rfl, hs, hl, hm, q⟩ := h
    refine ⟨_, (pss_cons (ps_expr (pe_call (ok_need_size T) (hr.mono (by decide)) (by rfl) T.g_need_size T.F_need_size.kp T.b_need_size .nil pass0 (pa_cons (pv 0) pa_nil)))
      (pss_cons (ps_expr (pe_call (ok_need_level T) (hr.mono (by decide)) (by rfl) T.g_need_level T.F_need_level.kp T.b_need_level .nil pass0 (pa_cons (pv 1) pa_nil)))
      (pss_cons (ps_expr (pe_call (ok_need_mask T) (hr.mono (by decide)) (by rfl) T.g_need_mask T.F_need_mask.kp T.b_need_mask .nil pass0 (pa_cons (pv 2) pa_nil)))
      (pss_one (ps_ret (pe_dcT (Nat.lt_of_le_of_lt (Nat.le_add_right _ 64) hr.units) (own := [("dot", 3), ("bit", 4)]) (g := gTup K 2 (gCons (gName 3) (gCons (gName 4) gNil))) rfl sc_format_dots.nd (pi_seq (pe_sortZ hr.units rfl (by rfl) T.n_sorted (by rfl) T.n_zip (pa_cons (pe_call (ok_strip_dots T) (hr.mono (by decide)) (by rfl) T.g_strip_dots T.F_strip_dots.kp T.b_strip_dots .nil pass0 (pa_cons (pv 0) pa_nil)) (pa_cons (pe_call (ok_strip_shades T) (hr.mono (by decide)) (by rfl) T.g_strip_shades T.F_strip_shades.kp T.b_strip_shades .nil pass0 (pa_cons (pv 1) (pa_cons (pv 2) pa_nil))) pa_nil)))) (blkOk_by (N := ["size", "level", "mask", "dot", "bit"]) (sc := defScope s_format_dots) (by decide +kernel)) (fun _ _ _ _ _ => by (refine pg_tup ?_ ?_); (exact rfl); (refine pgs_cons ?_ ?_); (exact (pg_name (i := 3) sc_format_dots.nd rfl (.inl rfl))); (refine pgs_cons ?_ ?_); (exact (pg_name (i := 4) sc_format_dots.nd rfl (.inl rfl))); (exact pgs_nil)) (fun _ _ _ _ _ => by exact pts_nil) (fun _ _ _ _ _ => by exact (pv 3)) (fun _ _ _ _ _ => by exact (pv 4)))))))), ?_⟩
    refine ⟨_, rfl, s0, rfl, hs, _, rfl, l, rfl, hl, _, rfl, m, rfl, hm, ?_⟩
    refine ⟨_, rfl, s0, rfl, hs, fun B L H1 s1 nB gB sp => ⟨_, rfl, _, rfl, l, m, rfl, hl, hm, fun C H2 s2 nC gC => ?_⟩⟩
    have lu := strip_len hs
    have lb := stripL_len l m
    have lL : L.length = 20 := by rw [sp.len, lu]
    let ds : List (Addr × Int × Int) := (L.zip (usedF (sdF s0))).map fun p => (p.1, ((p.2.1 : Nat) : Int), ((p.2.2 : Nat) : Int))
    let ks : List Int := (stripL l m).map fun n => ((n : Nat) : Int)
    have eB : ds.map (fun d => V.ref d.1) = L.map V.ref := by
      have z : L = (L.zip (usedF (sdF s0))).map Prod.fst := (List.map_fst_zip (Nat.le_of_eq sp.len)).symm
      conv => rhs; rw [z]
      rw [List.map_map, List.map_map]
      rfl
    have eC : ks.map V.int = (stripL l m).map vN := by rw [List.map_map]; rfl
    have lds : ds.length = 20 := by rw [List.length_map, List.length_zip, lL, lu]; rfl
    have lks : ks.length = 20 := by rw [List.length_map, lb]
    refine ⟨B, C, ds, ks, rfl, .inl (.inl (by rw [eB]; exact s2 _ _ gB)), .inl (.inl (by rw [eC]; exact gC)), by rw [lds, lks], fun d hd => ?_, fun H3 l3 ps kp pp g3 hp => ?_⟩
    · obtain ⟨p, hp, rfl⟩ := List.mem_map.mp hd
      obtain ⟨j, hj⟩ := List.mem_iff_getElem?.mp hp
      obtain ⟨j1, j2⟩ := List.getElem?_zip_eq_some.mp hj
      exact s2 _ _ (sp.at' j _ _ j1 j2)
    · have rowB : ∀ {H'}, Same H3 H' → SqB true K H' l3 (ps.map fun p => V.ref p.1) := fun s => .inl (.inl (s _ _ g3))
      refine ⟨l3, _, true, rfl, rowB (Same.refl _), fun D hD => ?_⟩
      let g : Addr × (Addr × Int × Int) × Int → (Int × Int) × Int := fun p => (p.2.1.2, p.2.2)
      have pm : (ps.map g).Perm (fdL s0 l m) := by
        have e := pp.map fun x : (Addr × Int × Int) × Int => (x.1.2, x.2)
        rw [List.map_map] at e
        refine e.trans (List.Perm.of_eq ?_)
        unfold fdL
        refine List.ext_getElem? fun j => ?_
        rw [List.getElem?_map, List.getElem?_map]
        by_cases hj : j < 20
        · have a1 : L[j]? = some (L[j]'(by omega)) := List.getElem?_eq_getElem _
          have a2 : (usedF (sdF s0))[j]? = some ((usedF (sdF s0))[j]'(by omega)) := List.getElem?_eq_getElem _
          have a3 : (stripL l m)[j]? = some ((stripL l m)[j]'(by omega)) := List.getElem?_eq_getElem _
          generalize L[j]'(by omega) = x1 at a1
          generalize (usedF (sdF s0))[j]'(by omega) = x2 at a2
          generalize (stripL l m)[j]'(by omega) = x3 at a3
          have b1 : ds[j]? = some (x1, ((x2.1 : Nat) : Int), ((x2.2 : Nat) : Int)) := by
            rw [List.getElem?_map, List.getElem?_zip_eq_some.mpr (⟨a1, a2⟩ : L[j]? = some (x1, x2).1 ∧ (usedF (sdF s0))[j]? = some (x1, x2).2)]
            rfl
          have b2 : ks[j]? = some ((x3 : Nat) : Int) := by
            rw [List.getElem?_map, a3]
            rfl
          rw [List.getElem?_zip_eq_some.mpr (⟨b1, b2⟩ : ds[j]? = some ((x1, ((x2.1 : Nat) : Int), ((x2.2 : Nat) : Int)), ((x3 : Nat) : Int)).1 ∧ ks[j]? = some ((x1, ((x2.1 : Nat) : Int), ((x2.2 : Nat) : Int)), ((x3 : Nat) : Int)).2),
            List.getElem?_zip_eq_some.mpr (⟨a2, a3⟩ : (usedF (sdF s0))[j]? = some (x2, x3).1 ∧ (stripL l m)[j]? = some (x2, x3).2)]
          rfl
        · rw [List.getElem?_eq_none (by rw [List.length_zip, lds, lks]; omega), List.getElem?_eq_none (by rw [List.length_zip, lu, lb]; omega)]
          rfl
      have nd : ((ps.map g).map (·.1)).Nodup := (pm.map (·.1)).nodup_iff.mpr (dotI_keys (by rw [lu, lb]) (used_nd hs))
      have lps : ps.length = 20 := by
        have e := pm.length_eq
        unfold fdL at e
        rw [List.length_map, List.length_map, List.length_zip, lu, lb] at e
        exact e
      refine dcT_it (walk_seq (b := true) (K := K) (a := l3) (xs := ps.map fun p => V.ref p.1)) (fun i H' => Same H3 H' ∧ H' D = some (.dT (dP ((ps.take i).map g)))) ⟨same_upd hD, upd_same⟩ (fun i H' _ h => rowB h.1) ?_ ?_
      · rintro i v H4 H5 hi ⟨s4, gD⟩ ⟨rfl, e2⟩
        rw [List.getElem?_map] at e2
        obtain ⟨p, ep, rfl⟩ := Option.map_eq_some_iff.mp e2
        have mp := List.mem_of_getElem? ep
        have pz : p.2 ∈ ds.zip ks := pp.mem_iff.mp (List.mem_map.mpr ⟨p, mp, rfl⟩)
        obtain ⟨j, hj⟩ := List.mem_iff_getElem?.mp pz
        obtain ⟨j1, j2⟩ := List.getElem?_zip_eq_some.mp hj
        obtain ⟨z, hz, ez⟩ := List.mem_map.mp (List.mem_of_getElem? j1)
        obtain ⟨i0, hi0⟩ := List.mem_iff_getElem?.mp hz
        obtain ⟨i1, i2⟩ := List.getElem?_zip_eq_some.mp hi0
        have gk : H3 p.2.1.1 = some (.tup ((kP p.2.1.2).map kV)) := by
          rw [← ez]
          exact kp _ _ (s2 _ _ (sp.at' i0 _ _ i1 i2))
        refine ⟨p.1, _, rfl, .inl (.inl (s4 _ _ (hp p mp))), rfl, _, _, rfl, _, _, rfl, rfl, rfl, ?_⟩
        refine ⟨_, rfl, _, rfl, _, _, p.2.1.1, rfl, s4 _ _ gk, gD, ?_, fun c' o' hc' => ?_, ?_⟩
        · rw [dP_length, List.length_map, List.length_take]
          exact small1000 (by omega)
        · rw [upd_ne (ne_of_none hc' hD)]
          exact s4 _ _ hc'
        · rw [upd_same, putK_dP, putP_new, List.take_add_one, ep, Option.toList_some, List.map_append]
          · rfl
          · intro hm'
            rw [← List.take_append_drop i ps, List.map_append, List.map_append, List.nodup_append] at nd
            have ed : ps.drop i = p :: ps.drop (i + 1) := by
              rw [List.drop_eq_getElem_cons (List.getElem?_eq_some_iff.mp ep).1, (List.getElem?_eq_some_iff.mp ep).2]
            rw [ed] at nd
            exact nd.2.2 _ hm' _ (List.mem_cons_self ..) rfl
      · rintro H4 ⟨s4, gD⟩
        rw [List.length_map, List.take_of_length_le (Nat.le_refl _)] at gD
        exact q D _ H4 (s1.trans (s2.trans (fun c o e => s4 _ _ (kp c o e)))) (Same.free s1 (Same.free s2 (Same.free kp hD))) pm gD
/-! CUT -/
def onesN (n : Nat) : Nat := ((List.range 10).map fun k => n / 2 ^ k % 2).sum
theorem sum_cast : ∀ l : List Nat, (l.map fun x => ((x : Nat) : Int)).sum = ((l.sum : Nat) : Int)
  | [] => rfl
  | x :: l => by
    rw [List.map_cons, List.sum_cons, List.sum_cons, sum_cast l]
    omega
def sp_lones : Sp := fun vs H Q _ => ∃ n : Nat, vs = [vN n] ∧ ∀ H', Same H H' → Q (vN (onesN n)) H'
theorem ok__law_ones (T : Txt K mg) : FnOk P w K mg base CX0 1 T.f__law_ones T.d__law_ones ["_law_number"] sp_lones := by
  refine T.F__law_ones.ok sc__law_ones (fun vs H Q E h => ?_) (fun cdv A outer s H vs Q E hr h => ?_)
  · obtain ⟨n, rfl, _⟩ := h
    rfl
  · obtain ⟨n, rfl, q⟩ := h
    refine ⟨_, (pss_one (ps_ret (pe_callB (cr_sum rfl) (by rfl) T.n_sum (by decide +kernel) (pa_cons (pe_lc (own := [("_law_at", 1)]) rfl sc__law_ones.nd (pi_range1 (by rfl) T.n_range (pa_cons pe_int pa_nil)) (blkOk_by (N := ["_law_number", "_law_at"]) (sc := defScope s__law_ones) (by decide +kernel)) (fun _ _ _ _ _ => by exact (pg_name (i := 1) sc__law_ones.nd rfl (.inl rfl))) (fun _ _ _ _ _ => by exact pts_nil) (fun _ _ _ _ _ => by exact (pe_op op_and (pe_op op_shr (pv 0) (pv 1)) pe_int))) pa_nil)))), ?_⟩
    refine ⟨10, rfl, by decide, by decide, fun D hD => ?_⟩
    refine lc_it (walk_range (lo := 0) (n := 10)) (fun i H' => Same H H' ∧ H' D = some (.lst (((List.range i).map fun k => n / 2 ^ k % 2).map vN))) ⟨same_upd hD, upd_same⟩ (fun i H' _ h => trivial) ?_ ?_
    · rintro i v H1 H2 hi ⟨sm, gD⟩ ⟨rfl, rfl⟩
      have ev : V.int (Builtin.bitAnd ((n : Int) / 2 ^ ((0 : Int) + (i : Nat)).toNat) 1) = vN (n / 2 ^ i % 2) := by
        rw [show ((0 : Int) + (i : Nat)).toNat = i by omega]
        have e : (n : Int) / 2 ^ i = ((n / 2 ^ i : Nat) : Int) := by
          rw [Int.natCast_ediv, Int.natCast_pow]
          rfl
        rw [e, and_one]
        rfl
      refine ⟨rfl, ?_⟩
      refine ⟨_, rfl, _, rfl, _, _, rfl, rfl, (by show (0 : Int) ≤ 0 + (i : Nat); omega), _, _, rfl, rfl, _, gD, ?_, fun c o' hc => ?_, ?_⟩
      · rw [List.length_map, List.length_map, List.length_range]
        exact small1000 (by omega)
      · rw [upd_ne (ne_of_none hc hD)]
        exact sm _ _ hc
      · rw [upd_same, List.range_succ, List.map_append, List.map_append, List.map_cons, List.map_cons, ← ev]
        rfl
    · rintro H1 ⟨s1, g1⟩
      refine ⟨D, ((List.range 10).map fun k => n / 2 ^ k % 2).map fun x => ((x : Nat) : Int), rfl, .inl (.inl (by rw [List.map_map]; exact g1)), ?_⟩
      rw [sum_cast]
      exact q H1 s1
/-! CUT -/
theorem eqP_perm {m n : List ((Int × Int) × Int)} (p : m.Perm n) (nd : (n.map (·.1)).Nodup) : eqP m n = true := by
  unfold eqP
  rw [p.length_eq, beq_self_eq_true, Bool.true_and]
  exact List.all_eq_true.mpr fun e he => by rw [lkP_mem nd (p.mem_iff.mp he)]; exact beq_self_eq_true _
def ribF (s r : Nat) : List (Nat × Nat) := if r = 0 then ribA (sdF s) ((sdF s - 2) * (sdF s - 2)) else ribB (sdF s) ((sdF s - 2) * (sdF s - 2))
theorem rib_len {s : Nat} (hs : s < 5) : (ribA (sdF s) ((sdF s - 2) * (sdF s - 2))).length = 10 ∧ (ribB (sdF s) ((sdF s - 2) * (sdF s - 2))).length = 10 :=
  of_decide_eq_true (all5 (P := fun s => decide ((ribA (sdF s) ((sdF s - 2) * (sdF s - 2))).length = 10 ∧ (ribB (sdF s) ((sdF s - 2) * (sdF s - 2))).length = 10)) (by decide +kernel) hs)
def hashB (s : Nat) : Bool := decide ((((usedL.getD s []).take 10).map fun q => hashP (((q.1 : Nat) : Int), ((q.2 : Nat) : Int))).Nodup)
theorem hashB_all : ((List.range 5).all hashB) = true := by decide +kernel
theorem rib_hash {s : Nat} (hs : s < 5) : ((ribF s 0).map fun q => hashP (((q.1 : Nat) : Int), ((q.2 : Nat) : Int))).Nodup := by
  have e : (usedF (sdF s)).take 10 = ribF s 0 := by
    show (ribA _ _ ++ ribB _ _).take 10 = ribA _ _
    rw [List.take_append_of_le_length (by rw [rib_len hs |>.1]; exact Nat.le_refl _), List.take_of_length_le (by rw [rib_len hs |>.1]; exact Nat.le_refl _)]
  rw [← e, used_at hs]
  have h := all5 hashB_all hs
  unfold hashB at h
  exact of_decide_eq_true h
def dueR (s l m : Nat) : Nat → List ((Int × Int) × Int)
  | 0 => []
  | r + 1 => dueR s l m r ++ ((ribF s r).zip (fbits (8 * l + m))).map dotI
theorem due_all {s l m : Nat} (hs : s < 5) : dueR s l m 2 = fdL s l m := by
  show ([] ++ ((ribF s 0).zip (fbits (8 * l + m))).map dotI) ++ ((ribF s 1).zip (fbits (8 * l + m))).map dotI = _
  rw [List.nil_append, ← List.map_append]
  have e := rib_len hs
  rw [← List.zip_append (by rw [fbits_len]; exact e.1)]
  rfl
theorem fdL_nd {s l m : Nat} (hs : s < 5) : ((fdL s l m).map (·.1)).Nodup := dotI_keys (by rw [strip_len hs, stripL_len]) (used_nd hs)
theorem fdL_len {s l m : Nat} (hs : s < 5) : (fdL s l m).length = 20 := by
  unfold fdL
  rw [List.length_map, List.length_zip, strip_len hs, stripL_len]
  rfl
theorem prs_zip {H H7 : Hp} {ts LX : List Addr} {w : List (Nat × Nat)} {bs : List Nat} (pr : Paired (fun t (p : V × V) => H7 t = some (.tup [p.1, p.2]) ∧ H t = none) ts ((LX.map V.ref).zip (bs.map vN))) (sp : Spots H7 LX w) (hl : w.length = bs.length) : PrsT H7 ts (dP ((w.zip bs).map dotI)) := by
  have l1 := Paired.length pr
  have l2 := sp.len
  rw [List.length_zip, List.length_map, List.length_map, l2, hl, Nat.min_self] at l1
  refine pairedAt (by rw [dP_length, List.length_map, List.length_zip, hl, Nat.min_self, l1]) fun j t e e1 e2 => ?_
  have hj : j < bs.length := by
    have := (List.getElem?_eq_some_iff.mp e1).1
    omega
  have a1 : LX[j]? = some (LX[j]'(by omega)) := List.getElem?_eq_getElem _
  have a2 : w[j]? = some (w[j]'(by omega)) := List.getElem?_eq_getElem _
  have a3 : bs[j]? = some (bs[j]'hj) := List.getElem?_eq_getElem _
  generalize LX[j]'(by omega) = x1 at a1
  generalize w[j]'(by omega) = x2 at a2
  generalize bs[j]'hj = x3 at a3
  have b1 : ((LX.map V.ref).zip (bs.map vN))[j]? = some (V.ref x1, vN x3) := List.getElem?_zip_eq_some.mpr ⟨by rw [List.getElem?_map, a1] <;> rfl, by rw [List.getElem?_map, a3] <;> rfl⟩
  obtain ⟨t', e3, e4, _⟩ := DX.pget pr b1
  obtain rfl := Option.some.inj (e3.symm.trans e1)
  have b2 : (w.zip bs)[j]? = some (x2, x3) := List.getElem?_zip_eq_some.mpr ⟨a2, a3⟩
  unfold dP at e2
  rw [List.getElem?_map, List.getElem?_map, b2] at e2
  obtain rfl := Option.some.inj e2
  exact ⟨x1, e4, sp.at' j _ _ a1 a2⟩
def sp_right : Sp := fun vs H Q _ => ∃ s l m : Nat, vs = [.int ((s : Int) + 1), vN l, vN m] ∧ s < 5 ∧ l < 4 ∧ m < 8 ∧ ∀ H', Same H H' → Q (.bl true) H'
theorem ok__law_right (T : Txt K mg) : FnOk P w K mg base CX0 4 T.f__law_right T.d__law_right ["_law_size_so", "_law_level_so", "_law_mask_so"] sp_right := by
  refine T.F__law_right.ok sc__law_right (fun vs H Q E h => ?_) (fun cdv A outer s H vs Q E hr h => ?_)
  · obtain ⟨s, l, m, rfl, _⟩ := h
    rfl
  · obtain ⟨s0, l, m, rfl, hs, hl, hm, q⟩ := h
    refine ⟨_, (pss_cons (ps_par (i := 3) (j := 4) (by rfl) sc__law_right.nd rfl rfl (by decide) rfl rfl (pa_cons (pe_call (ok__law_written T) (hr.mono (by decide)) (by rfl) T.g__law_written T.F__law_written.kp T.b__law_written .nil pass0 (pa_cons (pv 1) (pa_cons (pv 2) pa_nil))) (pa_cons pe_dnewT pa_nil)) (by rfl))
      (pss_cons (ps_for PassesOwn.never rfl (pi_list (pe_call (ok__law_ribbons T) (hr.mono (by decide)) (by rfl) T.g__law_ribbons T.F__law_ribbons.kp T.b__law_ribbons .nil pass0 (pa_cons (pe_ix ix_rowB (pe_call (ok__law_table T) (hr.mono (by decide)) (by rfl) T.g__law_table T.F__law_table.kp T.b__law_table .nil pass0 (pa_cons (pv 0) pa_nil)) pe_int (fun _ _ => rfl)) pa_nil))) (pg_name (i := 5) sc__law_right.nd rfl (.inl rfl)) (pss_one (ps_expr (pe_updT (Nat.lt_of_le_of_lt (Nat.add_le_add_left (by decide : 1 ≤ 64) _) hr.units) (pv 4) (pe_callTy (call_dictTP rfl (Nat.lt_of_le_of_lt (Nat.add_le_add_left (by decide : 2 ≤ 64) _) hr.units)) (by rfl) T.n_dict (by decide +kernel) (pa_cons (pe_listZ rfl (by rfl) T.n_list (by rfl) T.n_zip (pa_cons (pv 5) (pa_cons (pv 3) pa_nil))) pa_nil))))))
      (pss_cons (ps_set (i := 6) sc__law_right.nd rfl (.inl rfl) (pe_call (ok_format_dots T) (hr.mono (by decide)) (by rfl) T.g_format_dots T.F_format_dots.kp T.b_format_dots .nil pass0 (pa_cons (pv 0) (pa_cons (pv 1) (pa_cons (pv 2) pa_nil)))))
      (pss_cons (ps_if (PW.pt (pw_or (pt_cmpR (op_neP (Nat.lt_of_le_of_lt (Nat.add_le_add_left (by decide : 1 ≤ 64) _) hr.units)) (pv 6) (pv 4) (nomark _)) (pw_or1 (pt_cmpR op_ne (pe_callB call_len_dT (by rfl) T.n_len (by decide +kernel) (pa_cons (pv 4) pa_nil)) pe_int (nomark _))))) (pss_one (ps_ret pe_bl)) pss_nil)
      (pss_cons (ps_expr (pe_clrT (pv 6)))
      (pss_one (ps_ret (pe_cmpR (op_eqP (Nat.lt_of_le_of_lt (Nat.add_le_add_left (by decide : 1 ≤ 64) _) hr.units)) (pe_callZ (ok_format_dots T) (hr.mono (by decide)) (by rfl) T.g_format_dots T.F_format_dots.kp (kb0 (ks := ["mask", "level", "size"]) T.F_format_dots rev3 rev3_rel (fun _ _ _ _ _ _ ws hl => match ws, hl with | [_, _, _], _ => rfl)) pass0 (pk_cons (pv 2) (pk_cons (pv 1) (pk_cons (pv 0) pk_nil)))) (pv 4) (nomark _))))))))), ?_⟩
    have hm24 := side_le (sd_ok hs)
    refine ⟨_, rfl, _, rfl, l, m, rfl, hl, hm, fun W H1 s1 nW gW => fun Dd hDd => ?_⟩
    have sd := same_upd (o := .dT []) hDd
    refine ⟨_, _, rfl, ?_⟩
    refine ⟨_, rfl, s0, rfl, hs, fun t0 c1 c2 c3 H3 s3 n0 n1 g0 g1 g2 => ⟨t0, _, 0, vN (sdF s0), false, rfl, rfl, .inl (.inl g0), rfl, sdF s0, rfl, hm24.1, hm24.2, fun F A B LA LB H4 s4 gF gA gB spA spB => ?_⟩⟩
    have gW4 : H4 W = some (.lst ((fbits (8 * l + m)).map vN)) := s4 _ _ (s3 _ _ (sd _ _ gW))
    have gD4 : H4 Dd = some (.dT []) := s4 _ _ (s3 _ _ upd_same)
    have sA : Same H H4 := s1.trans (sd.trans (s3.trans s4))
    have nDd : H Dd = none := Same.free s1 hDd
    have ne : ∀ {b o}, H4 b = some o → (∀ kvs, o ≠ .dT kvs) → b ≠ Dd := fun e n z => by
      rw [z, gD4] at e
      exact n _ (Option.some.inj e).symm
    refine ⟨F, rfl, ⟨_, .inl (.inl gF)⟩, ?_⟩
    refine for_it (walk_list (K := K) (a := F) (xs := [A, B].map V.ref)) (fun r σ' H' => ∃ z5 : Option V, σ' = [some (.int ((s0 : Int) + 1)), some (vN l), some (vN m), some (.ref W), some (.ref Dd), z5, none] ∧ Kp Dd H4 H' ∧ H' Dd = some (.dT (dP (dueR s0 l m r)))) ⟨_, rfl, (fun _ _ e _ => e), gD4⟩ (fun r σ' H' _ h => ?_) ?_ ?_
    · obtain ⟨_, rfl, k5, _⟩ := h
      exact .inl (.inl (k5 _ _ gF (ne gF fun _ z => nomatch z)))
    · rintro r v σ H5 H6 hr2 ⟨z5, rfl, k5, d5⟩ ⟨rfl, e2⟩
      have hr2 : r < 2 := hr2
      obtain ⟨X, LX, rfl, gX, spX⟩ : ∃ (X : Addr) (LX : List Addr), v = .ref X ∧ H4 X = some (.lst (LX.map V.ref)) ∧ Spots H4 LX (ribF s0 r) := by
        have : r = 0 ∨ r = 1 := by omega
        rcases this with rfl | rfl
        · cases e2
          exact ⟨A, LA, rfl, gA, spA⟩
        · cases e2
          exact ⟨B, LB, rfl, gB, spB⟩
      have gX6 := k5 _ _ gX (ne gX fun _ z => nomatch z)
      have gW6 := k5 _ _ gW4 (ne gW4 fun _ z => nomatch z)
      have lr : (ribF s0 r).length = 10 := by
        have : r = 0 ∨ r = 1 := by omega
        rcases this with rfl | rfl
        · exact (rib_len hs).1
        · exact (rib_len hs).2
      have lX : LX.length = 10 := by rw [spX.len, lr]
      refine ⟨_, rfl, .inr (.inr (.inl ⟨rfl, .inr ⟨_, d5⟩⟩)), ?_⟩
      refine ⟨_, rfl, _, rfl, X, W, LX.map V.ref, (fbits (8 * l + m)).map vN, rfl, .inl (.inl gX6), .inl (.inl gW6), by rw [List.length_map, List.length_map, lX, fbits_len], fun H7 l7 ts k7 g7 n7 pr => ?_⟩
      have sp7 : Spots H7 LX (ribF s0 r) := spX.keep fun b xs e => k7 _ _ (k5 _ _ e (ne e fun _ z => nomatch z))
      have pz := prs_zip pr sp7 (by rw [lr, fbits_len])
      refine ⟨l7, ts, _, rfl, .inl (.inl g7), pz, fun p hp => ?_⟩
      have nd2 : ((dueR s0 l m 2).map (·.1)).Nodup := by rw [due_all hs]; exact fdL_nd hs
      have nd1 : ((dueR s0 l m (r + 1)).map (·.1)).Nodup := by
        have : r = 0 ∨ r = 1 := by omega
        rcases this with rfl | rfl
        · have e : dueR s0 l m 2 = dueR s0 l m 1 ++ ((ribF s0 1).zip (fbits (8 * l + m))).map dotI := rfl
          rw [e, List.map_append, List.nodup_append] at nd2
          exact nd2.1
        · exact nd2
      have es : dueR s0 l m (r + 1) = dueR s0 l m r ++ ((ribF s0 r).zip (fbits (8 * l + m))).map dotI := rfl
      have ndk : ((((ribF s0 r).zip (fbits (8 * l + m))).map dotI).map (·.1)).Nodup := by
        rw [es, List.map_append, List.nodup_append] at nd1
        exact nd1.2.1
      have em : mergeT [] (dP (((ribF s0 r).zip (fbits (8 * l + m))).map dotI)) = dP (((ribF s0 r).zip (fbits (8 * l + m))).map dotI) := by
        rw [show ([] : List (List Key × V)) = dP [] from rfl, mergeT_dP, mergeP_new _ [] ndk, List.nil_append]
      have ed : mergeT (dP (dueR s0 l m r)) (dP (((ribF s0 r).zip (fbits (8 * l + m))).map dotI)) = dP (dueR s0 l m (r + 1)) := by
        rw [mergeT_dP, mergeP_new _ _ nd1]
        rfl
      have lk : (((ribF s0 r).zip (fbits (8 * l + m))).map dotI).length = 10 := by rw [List.length_map, List.length_zip, lr, fbits_len]; rfl
      have d7 := k7 _ _ d5
      have nDp : Dd ≠ p := fun z => by rw [z, hp] at d7; cases d7
      rw [em]
      refine ⟨Dd, p, dP (dueR s0 l m r), _, rfl, rfl, nDp, by rw [upd_ne nDp]; exact d7, .inl upd_same, ?_, ?_, ?_⟩
      · have : r = 0 ∨ r = 1 := by omega
        rcases this with rfl | rfl
        · refine .inr ?_
          show ((dP (((ribF s0 0).zip (fbits (8 * l + m))).map dotI)).map fun e => hashK w e.1).Nodup
          rw [hashK_dP]
          have e : (((ribF s0 0).zip (fbits (8 * l + m))).map dotI).map (fun e => hashP e.1) = (ribF s0 0).map fun q => hashP (((q.1 : Nat) : Int), ((q.2 : Nat) : Int)) := by
            rw [List.map_map]
            have z : ribF s0 0 = ((ribF s0 0).zip (fbits (8 * l + m))).map Prod.fst := (List.map_fst_zip (by rw [lr, fbits_len]; exact Nat.le_refl _)).symm
            conv => rhs; rw [z]
            rw [List.map_map]
            exact List.map_congr_left fun q _ => rfl
          rw [e]
          exact rib_hash hs
        · refine .inl fun z => ?_
          have l0 := congrArg List.length z
          rw [dP_length, show dueR s0 l m 1 = [] ++ ((ribF s0 0).zip (fbits (8 * l + m))).map dotI from rfl, List.nil_append, List.length_map, List.length_zip, show (ribF s0 0).length = 10 from (rib_len hs).1, fbits_len] at l0
          cases l0
      · rw [dP_length, dP_length, lk]
        have : (dueR s0 l m r).length ≤ 20 := by
          have e := congrArg List.length (due_all (l := l) (m := m) hs)
          rw [fdL_len hs] at e
          have : r = 0 ∨ r = 1 := by omega
          rcases this with rfl | rfl
          · exact Nat.zero_le _
          · rw [show dueR s0 l m 2 = dueR s0 l m 1 ++ ((ribF s0 1).zip (fbits (8 * l + m))).map dotI from rfl, List.length_append] at e
            omega
        exact Nat.le_of_lt (small1000 (by omega))
      · rw [ed]
        refine ⟨_, rfl, fun c' o' hc' nc' => ?_, upd_same⟩
        rw [upd_ne nc']
        have z7 := k7 _ _ (k5 _ _ hc' nc')
        rw [upd_ne (ne_of_none z7 hp)]
        exact z7
    · rintro σ H5 ⟨z5, rfl, k5, d5⟩
      have d5' : H5 Dd = some (.dT (dP (fdL s0 l m))) := by rw [← due_all hs]; exact d5
      refine ⟨_, rfl, _, rfl, _, rfl, s0, l, m, rfl, hs, hl, hm, fun C mm H6 s6 nC pC gC => ?_⟩
      have nCD : C ≠ Dd := fun z => by rw [z, d5'] at nC; cases nC
      refine ⟨_, rfl, _, rfl, C, Dd, mm, fdL s0 l m, rfl, rfl, .inl gC, .inl (s6 _ _ d5'), ?_⟩
      rw [eqP_perm pC (fdL_nd hs)]
      refine ⟨false, rfl, iteF ?_⟩
      refine ⟨_, rfl, Dd, _, rfl, s6 _ _ d5', ?_⟩
      rw [dP_length, fdL_len hs]
      refine ⟨rfl, _, rfl, ?_⟩
      rw [show (!decide (V.int ((20 : Nat) : Int) = V.int 20)) = false from by decide]
      refine iteF ?_
      refine ⟨_, rfl, .inr (.inr (.inl ⟨rfl, .inr ⟨_, gC⟩⟩)), C, _, rfl, rfl, gC, ?_⟩
      have sH5 : Same H H5 := fun c o e => k5 c o (sA c o e) (ne_of_none e nDd)
      have d6 : upd H6 C (.dT []) Dd = some (.dT (dP (fdL s0 l m))) := by rw [upd_ne nCD.symm]; exact s6 _ _ d5'
      refine ⟨_, rfl, _, rfl, _, rfl, ?_⟩
      refine ⟨rfl, s0, l, m, rfl, hs, hl, hm, fun C2 mm2 H7 s7 nC2 pC2 gC2 => ?_⟩
      refine ⟨_, rfl, C2, Dd, mm2, fdL s0 l m, rfl, rfl, .inl gC2, .inl (s7 _ _ d6), ?_⟩
      rw [eqP_perm pC2 (fdL_nd hs)]
      refine q H7 fun c o e => s7 _ _ ?_
      rw [upd_ne (ne_of_none (sH5 _ _ e) nC)]
      exact s6 _ _ (sH5 _ _ e)
/-! CUT -/
def sgn (x : Nat) : Nat := x + 48
theorem join_onesB : ∀ l : List Nat, TL.joinL [] (l.map fun x => [x]) = l
  | [] => rfl
  | [x] => rfl
  | x :: y :: r => by
    have ih := join_onesB (y :: r)
    show [x] ++ ([] ++ TL.joinL [] ((y :: r).map fun x => [x])) = x :: y :: r
    rw [ih]
    rfl
theorem row_text (r : List Nat) : Txt.join (SX.S []) (r.map fun x => SX.S [sgn x]) = SX.S (r.map sgn) := by
  have e : (r.map fun x => SX.S [sgn x]) = ((r.map sgn).map fun x => [x]).map SX.S := by
    rw [List.map_map, List.map_map]
    rfl
  rw [e, SX.join_S, join_onesB]
theorem sum_ones (r : List Nat) : ((r.map fun x => SX.S [sgn x]).map (·.length)).sum = r.length := by
  induction r with
  | nil => rfl
  | cons x r ih =>
    rw [List.map_cons, List.map_cons, List.sum_cons, ih, SX.S_len, List.length_cons]
    show 1 + r.length = r.length + 1
    omega
theorem bit_sgn {r : List Nat} (h : ∀ x ∈ r, x = 0 ∨ x = 1) : ∀ c ∈ r.map sgn, IsBin c := fun c hc => by
  obtain ⟨x, hx, rfl⟩ := List.mem_map.mp hc
  rcases h x hx with rfl | rfl
  · exact .inl rfl
  · exact .inr rfl
theorem bin_fold (l : List Nat) : binNum (l.map sgn) = foldB l := by
  unfold binNum foldB
  have h : ∀ (l : List Nat) (a : Nat), (l.map sgn).foldl (fun a c => a * 2 + (c - 48)) a = l.foldl stp a := by
    intro l
    induction l with
    | nil => intro a; rfl
    | cons x l ih =>
      intro a
      rw [List.map_cons, List.foldl_cons, List.foldl_cons, ih]
      congr 1
      show a * 2 + (x + 48 - 48) = 2 * a + x
      omega
  exact h l 0
theorem f_read {n : Nat} (h : n < 32) : foldB (fbits n) = fwF n := of_decide_eq_true (all32 (P := fun n => decide (foldB (fbits n) = fwF n)) (by decide +kernel) h)
theorem f_apart {i n : Nat} (hi : i < n) (h : n < 32) : 4 ≤ onesN (fwF i ^^^ fwF n) := by
  have a := List.all_eq_true.mp (all32 (P := fun n => (List.range n).all fun i => decide (4 ≤ onesN (fwF i ^^^ fwF n))) (by decide +kernel) h) i (List.mem_range.mpr hi)
  exact of_decide_eq_true a
theorem f_sum {n : Nat} (h : n < 32) : (fbits n).sum ≠ 0 ∧ (fbits n).sum ≠ 10 := of_decide_eq_true (all32 (P := fun n => decide ((fbits n).sum ≠ 0 ∧ (fbits n).sum ≠ 10)) (by decide +kernel) h)
theorem f_lt (n : Nat) : fwF n < 1024 := fw_lt
def knL (n : Nat) : List Nat := (List.range n).map fwF
theorem knL_snoc (n : Nat) : knL (n + 1) = knL n ++ [fwF n] := by
  unfold knL
  rw [List.range_succ, List.map_append]
  rfl
def sp_law (K : PySem.W.Frag) : Sp := fun vs H Q _ => ∃ (a : Addr) (ns : List Int), vs = [.ref a] ∧ SqL K H a (ns.map V.int) ∧ ns.length ≤ 63 ∧ ∀ H', Q (.bl true) H'
theorem ok_law (T : Txt K mg) : FnOk P w K mg base CX0 6 T.f_law T.d_law ["_law_script"] (sp_law K) := by
  refine T.F_law.ok sc_law (fun vs H Q E h => ?_) (fun cdv A outer s H vs Q E hr h => ?_)
  · obtain ⟨a, ns, rfl, _⟩ := h
    rfl
  · obtain ⟨a, ns, rfl, hS, hlen, q⟩ := h
    refine ⟨_, (pss_cons (ps_set (i := 1) sc_law.nd rfl (.inl rfl) (pe_lst pa_nil))
      (pss_cons (ps_for PassesOwn.never rfl (pi_range1 (by rfl) T.n_range (pa_cons pe_int pa_nil)) (pg_name (i := 2) sc_law.nd rfl (.inl rfl)) (pss_one (ps_for PassesOwn.never rfl (pi_range1 (by rfl) T.n_range (pa_cons pe_int pa_nil)) (pg_name (i := 3) sc_law.nd rfl (.inl rfl)) (pss_cons (ps_set (i := 4) sc_law.nd rfl (.inl rfl) (pe_call (ok__law_written T) (hr.mono (by decide)) (by rfl) T.g__law_written T.F__law_written.kp T.b__law_written .nil pass0 (pa_cons (pv 2) (pa_cons (pv 3) pa_nil))))
      (pss_cons (ps_set (i := 5) sc_law.nd rfl (.inr rfl) (pe_callTy call_int_bin (by rfl) T.n_int (by decide +kernel) (pa_cons (pe_join pe_str (pe_lc (own := [("_law_one", 9)]) rfl sc_law.nd (pi_list (pv 4)) (blkOk_by (N := ["_law_script", "_law_known", "_law_level_so", "_law_mask_so", "_law_bits", "_law_number", "_law_k", "_law_source", "_law_turn", "_law_one"]) (sc := defScope s_law) (by decide +kernel)) (fun _ _ _ _ _ => by exact (pg_name (i := 9) sc_law.nd rfl (.inl rfl))) (fun _ _ _ _ _ => by exact pts_nil) (fun _ _ _ _ _ => by exact (pe_callTy call_str_int (by rfl) T.n_str (by decide +kernel) (pa_cons (pv 9) pa_nil))))) (pa_cons pe_int pa_nil))))
      (pss_cons (ps_if (PW.pt (pw_or (pt_cmpR op_ne (pe_call (ok_format_word T) (hr.mono (by decide)) (by rfl) T.g_format_word T.F_format_word.kp T.b_format_word .nil pass0 (pa_cons (pv 2) (pa_cons (pv 3) pa_nil))) (pv 5) (nomark _)) (pw_or1 (pt_cmpR op_ne (pe_callZ (ok_format_word T) (hr.mono (by decide)) (by rfl) T.g_format_word T.F_format_word.kp (kb0 (ks := ["mask", "level"]) T.F_format_word rev2 rev2_rel (fun _ _ _ _ _ _ ws hl => match ws, hl with | [_, _], _ => rfl)) pass0 (pk_cons (pv 3) (pk_cons (pv 2) pk_nil))) (pv 5) (nomark _))))) (pss_one (ps_ret pe_bl)) pss_nil)
      (pss_cons (ps_if (PW.pt (pw_or (pt_cmpR op_in_seq (pe_callB (cr_sum rfl) (by rfl) T.n_sum (by decide +kernel) (pa_cons (pv 4) pa_nil)) (pe_tup (pa_cons pe_int (pa_cons pe_int pa_nil))) (by rfl)) (pw_or1 (pt_cmpR (op_neD hr.units) (pe_lc (own := [("_law_one", 9)]) rfl sc_law.nd (pi_seq (pv 1)) (blkOk_by (N := ["_law_script", "_law_known", "_law_level_so", "_law_mask_so", "_law_bits", "_law_number", "_law_k", "_law_source", "_law_turn", "_law_one"]) (sc := defScope s_law) (by decide +kernel)) (fun _ _ _ _ _ => by exact (pg_name (i := 9) sc_law.nd rfl (.inl rfl))) (fun _ _ _ _ _ => by exact (pts_one (pt_cmpR op_lt (pe_call (ok__law_ones T) (hr.mono (by decide)) (by rfl) T.g__law_ones T.F__law_ones.kp T.b__law_ones .nil pass0 (pa_cons (pe_op op_xor (pv 9) (pv 5)) pa_nil)) pe_int (nomark _)))) (fun _ _ _ _ _ => by exact pe_int)) (pe_lst pa_nil) (nomark _))))) (pss_one (ps_ret pe_bl)) pss_nil)
      (pss_cons (ps_expr (pe_bm PySem.F.plainAttrs_list PySem.F.slot_list_append PySem.F.type_list_append mt_append (pv 1) (pa_cons (pv 5) pa_nil)))
      (pss_one (ps_if (pt_not (pt_val (pe_call (ok__law_right T) (hr.mono (by decide)) (by rfl) T.g__law_right T.F__law_right.kp T.b__law_right .nil pass0 (pa_cons (pe_op op_add pe_int (pe_op op_mod (pe_callTy call_int1 (by rfl) T.n_int (by decide +kernel) (pa_cons (pe_op op_add (pv 2) (pv 3)) pa_nil)) pe_int)) (pa_cons (pv 2) (pa_cons (pv 3) pa_nil)))))) (pss_one (ps_ret pe_bl)) pss_nil))))))))))
      (pss_cons (ps_for PassesOwn.never rfl (pi_range1 (by rfl) T.n_range (pa_cons (pe_callB (call_max2 rfl) (by rfl) T.n_max (by decide +kernel) (pa_cons pe_int (pa_cons (pe_callB (call_min2 rfl) (by rfl) T.n_min (by decide +kernel) (pa_cons pe_int (pa_cons (pe_callB call_len_seq (by rfl) T.n_len (by decide +kernel) (pa_cons (pv 0) pa_nil)) pa_nil))) pa_nil))) pa_nil)) (pg_name (i := 6) sc_law.nd rfl (.inl rfl)) (pss_cons (ps_set (i := 7) sc_law.nd rfl (.inl rfl) (pe_call (ok__law_source_of T) (hr.mono (by decide)) (by rfl) T.g__law_source_of T.F__law_source_of.kp T.b__law_source_of .nil pass0 (pa_cons (pe_call (ok__law_cell_at T) (hr.mono (by decide)) (by rfl) T.g__law_cell_at T.F__law_cell_at.kp T.b__law_cell_at .nil pass0 (pa_cons (pv 0) (pa_cons (pv 6) pa_nil))) pa_nil)))
      (pss_one (ps_for PassesOwn.never rfl (pi_range1 (by rfl) T.n_range (pa_cons pe_int pa_nil)) (pg_name (i := 8) sc_law.nd rfl (.inl rfl)) (pss_one (ps_if (pt_not (pt_val (pe_call (ok__law_right T) (hr.mono (by decide)) (by rfl) T.g__law_right T.F__law_right.kp T.b__law_right .nil pass0 (pa_cons (pe_op op_add pe_int (pe_call (ok__law_next T) (hr.mono (by decide)) (by rfl) T.g__law_next T.F__law_next.kp T.b__law_next .nil pass0 (pa_cons (pv 7) (pa_cons pe_int pa_nil)))) (pa_cons (pe_call (ok__law_next T) (hr.mono (by decide)) (by rfl) T.g__law_next T.F__law_next.kp T.b__law_next .nil pass0 (pa_cons (pv 7) (pa_cons pe_int pa_nil))) (pa_cons (pe_call (ok__law_next T) (hr.mono (by decide)) (by rfl) T.g__law_next T.F__law_next.kp T.b__law_next .nil pass0 (pa_cons (pv 7) (pa_cons pe_int pa_nil))) pa_nil)))))) (pss_one (ps_ret pe_bl)) pss_nil))))))
      (pss_one (ps_ret (pe_and (pe_cmpR op_eq (pe_call (ok_format_word T) (hr.mono (by decide)) (by rfl) T.g_format_word T.F_format_word.kp T.b_format_word .nil pass0 (pa_cons pe_int (pa_cons pe_int pa_nil))) pe_int (nomark _)) (pe_one (pe_cmpR op_eq (pe_call (ok_format_word T) (hr.mono (by decide)) (by rfl) T.g_format_word T.F_format_word.kp T.b_format_word .nil pass0 (pa_cons pe_int (pa_cons pe_int pa_nil))) pe_int (nomark _))))))))), ?_⟩
    refine ⟨by show 0 ≤ sizeLine; exact Nat.zero_le _, fun kn hkn => ?_⟩
    have s0 := same_upd (o := .lst []) hkn
    refine ⟨4, rfl, by decide, by decide, ?_⟩
    refine for_range (lo := 0) (n := 4) (fun l σ' H' => ∃ z2 z3 z4 z5 z6 z7 z8 z9 : Option V, σ' = [some (.ref a), some (.ref kn), z2, z3, z4, z5, z6, z7, z8, z9] ∧ Same H H' ∧ H' kn = some (.lst ((knL (8 * l)).map vN))) ⟨_, _, _, _, _, _, _, _, rfl, s0, upd_same⟩ ?_ ?_
    · rintro l σ H1 hl ⟨z2, z3, z4, z5, z6, z7, z8, z9, rfl, s1, g1⟩
      refine ⟨8, rfl, by decide, by decide, ?_⟩
      refine for_range (lo := 0) (n := 8) (fun m σ' H' => ∃ z3 z4 z5 z6 z7 z8 z9 : Option V, σ' = [some (.ref a), some (.ref kn), some (vN l), z3, z4, z5, z6, z7, z8, z9] ∧ Same H H' ∧ H' kn = some (.lst ((knL (8 * l + m)).map vN))) ⟨_, _, _, _, _, _, _, congrArg (fun z => [some (V.ref a), some (V.ref kn), some (V.int z), z3, z4, z5, z6, z7, z8, z9]) (Int.zero_add _), s1, g1⟩ ?_ ?_
      · clear s1 g1 H1 z3 z4 z5 z6 z7 z8 z9
        rintro m σ H1 hm ⟨z3, z4, z5, z6, z7, z8, z9, rfl, s1, g1⟩
        have hn : 8 * l + m < 32 := by omega
        refine ⟨_, rfl, _, rfl, l, m, congrArg (fun z => [vN l, V.int z]) (Int.zero_add _), hl, hm, fun W H2 s2 nW gW => ?_⟩
        have h1 := fbits_lt (i := 8 * l + m)
        have lx := fbits_len (8 * l + m)
        have fin := f_read hn
        have fsum := f_sum hn
        generalize fbits (8 * l + m) = xs at gW h1 lx fin fsum
        have hx : ∀ x ∈ xs, x = 0 ∨ x = 1 := fun x hx => by have := h1 x hx; omega
        refine ⟨⟨_, rfl⟩, _, rfl, W, rfl, ⟨_, .inl (.inl gW)⟩, fun Dj hDj => ?_⟩
        refine lc_it (walk_list (K := K) (a := W) (xs := xs.map vN)) (fun i H' => Same H2 H' ∧ H' Dj = some (.lst (((xs.take i).map fun x => SX.S [sgn x]).map V.str))) ⟨same_upd hDj, upd_same⟩ (fun i H' _ h => .inl (.inl (h.1 _ _ gW))) ?_ ?_
        · rintro j v H1' H2' hj ⟨sm, gj⟩ ⟨rfl, e2⟩
          rw [List.length_map] at hj
          rw [List.getElem?_map, List.getElem?_eq_getElem hj] at e2
          obtain rfl := (Option.some.inj e2).symm
          have hxj := hx _ (List.getElem_mem hj)
          have er : xs[j]? = some xs[j] := List.getElem?_eq_getElem hj
          generalize xs[j] = x at hxj er
          refine ⟨rfl, ?_⟩
          refine ⟨_, rfl, (x : Int), rfl, ?_, ?_⟩
          · rcases hxj with rfl | rfl <;> decide
          refine ⟨_, gj, ?_, fun c o hc => ?_, ?_⟩
          · rw [List.length_map, List.length_map, List.length_take]
            exact small1000 (by omega)
          · rw [upd_ne (ne_of_none hc hDj)]
            exact sm _ _ hc
          · rw [upd_same, List.take_add_one, er, List.map_append, List.map_append]
            rcases hxj with rfl | rfl <;> rfl
        rintro H3 ⟨s3, g3⟩
        rw [List.length_map, List.take_length] at g3
        refine ⟨_, Dj, _, rfl, rfl, .inl (.inl (.inl g3)), ?_, ?_⟩
        · rw [sum_ones, show (Str.ofString "").length = 0 from rfl]
          omega
        refine ⟨xs.map sgn, ?_, ?_, ?_, bit_sgn hx, ?_⟩
        · exact congrArg (fun z => [V.str z, V.int 2]) (row_text xs)
        · intro e
          have := congrArg List.length e
          rw [List.length_map] at this
          have this : xs.length = 0 := this
          omega
        · rw [List.length_map]
          omega
        rw [bin_fold, fin]
        have sH3 : Same H H3 := s1.trans (s2.trans s3)
        have gW3 := s3 _ _ gW
        have gk3 := s3 _ _ (s2 _ _ g1)
        refine ⟨_, rfl, _, rfl, l, m, congrArg (fun z => [vN l, V.int z]) (Int.zero_add _), hl, hm, ?_⟩
        have same5 : (!decide (vN (fwF (8 * l + m)) = V.int ((fwF (8 * l + m) : Nat) : Int))) = false := by
          rw [show vN (fwF (8 * l + m)) = V.int ((fwF (8 * l + m) : Nat) : Int) from rfl, decide_eq_true rfl]
          rfl
        refine ⟨_, rfl, rfl, _, rfl, ?_⟩
        rw [same5]
        refine iteF ⟨_, rfl, _, rfl, rfl, l, m, congrArg (fun z => [vN l, V.int z]) (Int.zero_add _), hl, hm, _, rfl, rfl, _, rfl, ?_⟩
        rw [same5]
        refine iteF ?_
        refine ⟨_, rfl, W, xs.map (fun x => ((x : Nat) : Int)), rfl, .inl (.inl (by rw [List.map_map]; exact gW3)), ?_⟩
        rw [sum_cast]
        refine ⟨(by show 2 ≤ sizeLine; decide), fun tp htp => ?_⟩
        have stp := same_upd (o := .tup [V.int 0, V.int 10]) htp
        have nin : inV (V.int ((xs.sum : Nat) : Int)) [V.int 0, V.int 10] = false := by
          have a1 : ¬ ((xs.sum : Nat) : Int) = 0 := by omega
          have a2 : ¬ ((xs.sum : Nat) : Int) = 10 := by omega
          have e1 : eqV (V.int 0) (V.int ((xs.sum : Nat) : Int)) = ((0 : Int) == ((xs.sum : Nat) : Int)) := rfl
          have e2 : eqV (V.int 10) (V.int ((xs.sum : Nat) : Int)) = ((10 : Int) == ((xs.sum : Nat) : Int)) := rfl
          show (eqV (V.int 0) (V.int ((xs.sum : Nat) : Int)) || (eqV (V.int 10) (V.int ((xs.sum : Nat) : Int)) || false)) = false
          rw [e1, e2, beq_eq_false_iff_ne.mpr fun z => a1 z.symm, beq_eq_false_iff_ne.mpr fun z => a2 z.symm]
          rfl
        refine ⟨tp, _, rfl, .inr (.inl (.inl upd_same)), rfl, rfl, _, rfl, ?_⟩
        rw [nin]
        refine iteF ?_
        have gk4 := stp _ _ gk3
        refine ⟨_, rfl, kn, _, true, rfl, .inl (.inl gk4), fun De hDe => ?_⟩
        refine lc_it (walk_seq (b := true) (K := K) (a := kn) (xs := (knL (8 * l + m)).map vN)) (fun i H' => Same (upd H3 tp (.tup [V.int 0, V.int 10])) H' ∧ H' De = some (.lst [])) ⟨same_upd hDe, upd_same⟩ (fun i H' _ h => .inl (.inl (h.1 _ _ gk4))) ?_ ?_
        · rintro i v H4 H5 hi ⟨s4, g4⟩ ⟨rfl, e2⟩
          have hi' : i < 8 * l + m := by
            rw [List.length_map] at hi
            unfold knL at hi
            rw [List.length_map, List.length_range] at hi
            exact hi
          obtain rfl : v = vN (fwF i) := by
            unfold knL at e2
            rw [List.map_map, List.getElem?_map, List.getElem?_range hi'] at e2
            exact (Option.some.inj e2).symm
          refine ⟨rfl, ?_⟩
          refine ⟨_, rfl, _, rfl, _, _, rfl, rfl, fwF i ^^^ fwF (8 * l + m), congrArg (fun z => [V.int z]) (bx _ _), fun H6 s6 => ⟨_, _, rfl, rfl, _, rfl, ?_⟩⟩
          have big := f_apart hi' hn
          rw [show decide (((onesN (fwF i ^^^ fwF (8 * l + m)) : Nat) : Int) < 4) = false from decide_eq_false (by omega)]
          exact iteF ⟨s4.trans s6, s6 _ _ g4⟩
        rintro H4 ⟨s4, g4⟩
        refine ⟨(by show 0 ≤ sizeLine; exact Nat.zero_le _), fun em hem => ?_⟩
        have s5 := same_upd (o := .lst []) hem
        refine ⟨.list [], .list [], .lst (.inl (.inl (s5 _ _ g4))) .nil, .lst (.inl (.inl upd_same)) .nil, rfl, rfl, _, rfl, ?_⟩
        rw [show (!PyData.eqv (.list []) (.list [])) = false from rfl]
        refine iteF ?_
        have gk5 := s5 _ _ (s4 _ _ gk4)
        have sK : Same H H4 := sH3.trans (stp.trans s4)
        have lk : ((knL (8 * l + m)).map vN).length < sizeLine := by
          unfold knL
          rw [List.length_map, List.length_map, List.length_range]
          exact small1000 (by omega)
        refine ⟨_, rfl, .inl ⟨rfl, _, .inl (.inl gk5)⟩, _, rfl, kn, _, _, rfl, rfl, gk5, lk, ?_⟩
        have es : ((1 : Int) + (((l : Nat) : Int) + (0 + ((m : Nat) : Int))) % 5) = (((l + m) % 5 : Nat) : Int) + 1 := by omega
        refine ⟨_, rfl, _, rfl, _, _, rfl, rfl, .inl ⟨_, rfl, _, _, rfl, rfl, (show (0 : Int) < 5 by decide), _, _, rfl, rfl, _, rfl, _, rfl, ?_⟩⟩
        refine ⟨(l + m) % 5, l, m, ?_, Nat.mod_lt _ (by decide), hl, hm, fun H7 s7 => ⟨_, rfl, iteF ?_⟩⟩
        · have e1 := congrArg V.int es
          have e2 : V.int (0 + ((m : Nat) : Int)) = vN m := congrArg V.int (Int.zero_add _)
          show [V.int (1 + (((l : Nat) : Int) + (0 + ((m : Nat) : Int))) % 5), vN l, V.int (0 + ((m : Nat) : Int))] = _
          rw [e1, e2]
        refine ⟨_, _, _, _, _, _, _, rfl, fun c o e => s7 _ _ ?_, ?_⟩
        · rw [upd_ne (ne_of_none e hkn)]
          exact s5 _ _ (sK _ _ e)
        · have g7 := s7 kn _ upd_same
          rw [g7, show 8 * l + (m + 1) = 8 * l + m + 1 from rfl, knL_snoc, List.map_append]
          rfl
      · rintro σ H2 ⟨z3, z4, z5, z6, z7, z8, z9, rfl, s2, g2⟩
        exact ⟨_, _, _, _, _, _, _, _, rfl, s2, g2⟩
    · rintro σ H1 ⟨z2, z3, z4, z5, z6, z7, z8, z9, rfl, s1, g1⟩
      clear g1
      refine ⟨_, rfl, a, _, rfl, .inl (s1.seq hS), ?_⟩
      rw [List.length_map]
      refine ⟨_, _, rfl, _, _, rfl, ?_⟩
      obtain ⟨m, hm⟩ : ∃ m : Nat, (if (if ((ns.length : Nat) : Int) < 3 then ((ns.length : Nat) : Int) else 3) > 1 then (if ((ns.length : Nat) : Int) < 3 then ((ns.length : Nat) : Int) else 3) else 1) = (m : Int) ∧ m ≤ 3 := by
        refine ⟨max 1 (min 3 ns.length), ?_, by omega⟩
        split <;> split at * <;> omega
      obtain ⟨hm1, hm2⟩ := hm
      refine ⟨(m : Int), congrArg (fun z => [V.int z]) hm1, by omega, by omega, ?_⟩
      refine for_range (lo := 0) (n := m) (fun i σ H' => ∃ z2 z3 z4 z5 z6 z7 z8 z9 : Option V, σ = [some (.ref a), some (.ref kn), z2, z3, z4, z5, z6, z7, z8, z9] ∧ Same H H') ⟨_, _, _, _, _, _, _, _, rfl, s1⟩ ?_ ?_
      · clear s1 H1 z2 z3 z4 z5 z6 z7 z8 z9
        rintro i σ H1 hi ⟨z2, z3, z4, z5, z6, z7, z8, z9, rfl, s1⟩
        refine ⟨_, rfl, _, rfl, a, ns, i, congrArg (fun z => [V.ref a, V.int z]) (Int.zero_add _), s1.seq hS, fun n => ⟨n, rfl, fun p x y z np => ?_⟩⟩
        have np0 : H p = none := Same.free s1 np
        refine ⟨6, rfl, by decide, by decide, ?_⟩
        refine for_range (lo := 0) (n := 6) (fun i' σ H' => ∃ z2 z3 z4 z5 z6 z8 z9 : Option V, σ = [some (.ref a), some (.ref kn), z2, z3, z4, z5, z6, some (.ref p), z8, z9] ∧ Same H H' ∧ ∃ x y z, H' p = some (WellL x y z)) ⟨_, _, _, _, _, _, _, rfl, s1.trans (same_upd np), _, _, _, upd_same⟩ ?_ ?_
        · clear s1 z2 z3 z4 z5 z6 z7 z8 z9 np H1
          rintro t σ H2 ht ⟨z2, z3, z4, z5, z6, z8, z9, rfl, s2, x, y, z, w2⟩
          refine ⟨_, rfl, p, x, y, z, 5, rfl, w2, by decide, by decide, fun s' a1 c1 s0 s1 => ⟨_, _, rfl, rfl, ?_⟩⟩
          obtain ⟨s, rfl⟩ := Int.eq_ofNat_of_zero_le s0
          refine ⟨_, rfl, p, a1, y, c1, 4, rfl, upd_same, by decide, by decide, fun l' a2 c2 l0 l1 => ?_⟩
          obtain ⟨l, rfl⟩ := Int.eq_ofNat_of_zero_le l0
          refine ⟨_, rfl, p, a2, y, c2, 8, rfl, upd_same, by decide, by decide, fun m' a3 c3 m0 m1 => ?_⟩
          obtain ⟨m, rfl⟩ := Int.eq_ofNat_of_zero_le m0
          refine ⟨s, l, m, ?_, by omega, by omega, by omega, fun H3 s3 => ⟨_, rfl, iteF ?_⟩⟩
          · exact congrArg (fun z : Int => [V.int z, vN l, vN m]) (Int.add_comm 1 (s : Int))
          refine ⟨_, _, _, _, _, _, _, rfl, fun c o e => s3 _ _ ?_, _, _, _, s3 _ _ upd_same⟩
          have np : c ≠ p := ne_of_none e np0
          rw [upd_ne np, upd_ne np, upd_ne np]
          exact s2 _ _ e
        · rintro σ H2 ⟨z2, z3, z4, z5, z6, z8, z9, rfl, s2, _⟩
          exact ⟨_, _, _, _, _, _, _, _, rfl, s2⟩
      · rintro σ H2 ⟨z2, z3, z4, z5, z6, z7, z8, z9, rfl, s2⟩
        refine ⟨0, 0, rfl, by decide, by decide, rfl, _, rfl, ?_⟩
        rw [show decide (vN (fwF (8 * 0 + 0)) = V.int 709) = true from by decide]
        refine iteT ⟨1, 2, rfl, by decide, by decide, rfl, ?_⟩
        rw [show decide (vN (fwF (8 * 1 + 2)) = V.int 908) = true from by decide]
        exact q _
end

theorem all_mk {P : Program} {w : World} {K : PySem.W.Frag} {h : Heap} {mg : Str → Option Value} {fa : Addr} (X : K.In h) (G : h.Ns mainGlobals mg) (hfa : mg "law" = some (.ref fa))
    {f0 : Addr} {od0 an0 : Option Addr} {sl0 : Array (Option Value)} {oc0 kV0 dc0 pm0 cd0 ct0 : Value}
    (a0 : PySem.W.nsIn K mainGlobals "is_number_to" = some (some (.ref f0)))
    (l0 : K.lookup f0 = some ⟨oc0, od0, .func (PySem.W.fnOf "is_number_to" "is_number_to" (defArgs s_is_number_to) (defBody s_is_number_to) (defScope s_is_number_to) .none kV0 dc0 pm0 an0 cd0 ct0), sl0⟩) (c0 : PySem.W.codeIn K cd0 "is_number_to" = true) (k0 : PySem.W.keepIn K (.ref f0) = true)
    {f1 : Addr} {od1 an1 : Option Addr} {sl1 : Array (Option Value)} {oc1 kV1 dc1 pm1 cd1 ct1 : Value}
    (a1 : PySem.W.nsIn K mainGlobals "need_mask" = some (some (.ref f1)))
    (l1 : K.lookup f1 = some ⟨oc1, od1, .func (PySem.W.fnOf "need_mask" "need_mask" (defArgs s_need_mask) (defBody s_need_mask) (defScope s_need_mask) .none kV1 dc1 pm1 an1 cd1 ct1), sl1⟩) (c1 : PySem.W.codeIn K cd1 "need_mask" = true) (k1 : PySem.W.keepIn K (.ref f1) = true)
    {f2 : Addr} {od2 an2 : Option Addr} {sl2 : Array (Option Value)} {oc2 kV2 dc2 pm2 cd2 ct2 : Value}
    (a2 : PySem.W.nsIn K mainGlobals "need_level" = some (some (.ref f2)))
    (l2 : K.lookup f2 = some ⟨oc2, od2, .func (PySem.W.fnOf "need_level" "need_level" (defArgs s_need_level) (defBody s_need_level) (defScope s_need_level) .none kV2 dc2 pm2 an2 cd2 ct2), sl2⟩) (c2 : PySem.W.codeIn K cd2 "need_level" = true) (k2 : PySem.W.keepIn K (.ref f2) = true)
    {f3 : Addr} {od3 an3 : Option Addr} {sl3 : Array (Option Value)} {oc3 kV3 dc3 pm3 cd3 ct3 : Value}
    (a3 : PySem.W.nsIn K mainGlobals "need_size" = some (some (.ref f3)))
    (l3 : K.lookup f3 = some ⟨oc3, od3, .func (PySem.W.fnOf "need_size" "need_size" (defArgs s_need_size) (defBody s_need_size) (defScope s_need_size) .none kV3 dc3 pm3 an3 cd3 ct3), sl3⟩) (c3 : PySem.W.codeIn K cd3 "need_size" = true) (k3 : PySem.W.keepIn K (.ref f3) = true)
    {f4 : Addr} {od4 an4 : Option Addr} {sl4 : Array (Option Value)} {oc4 kV4 dc4 pm4 cd4 ct4 : Value}
    (a4 : PySem.W.nsIn K mainGlobals "_law_cell_at" = some (some (.ref f4)))
    (l4 : K.lookup f4 = some ⟨oc4, od4, .func (PySem.W.fnOf "_law_cell_at" "_law_cell_at" (defArgs s__law_cell_at) (defBody s__law_cell_at) (defScope s__law_cell_at) .none kV4 dc4 pm4 an4 cd4 ct4), sl4⟩) (c4 : PySem.W.codeIn K cd4 "_law_cell_at" = true) (k4 : PySem.W.keepIn K (.ref f4) = true)
    {f5 : Addr} {od5 an5 : Option Addr} {sl5 : Array (Option Value)} {oc5 kV5 dc5 pm5 cd5 ct5 : Value}
    (a5 : PySem.W.nsIn K mainGlobals "_law_source_of" = some (some (.ref f5)))
    (l5 : K.lookup f5 = some ⟨oc5, od5, .func (PySem.W.fnOf "_law_source_of" "_law_source_of" (defArgs s__law_source_of) (defBody s__law_source_of) (defScope s__law_source_of) .none kV5 dc5 pm5 an5 cd5 ct5), sl5⟩) (c5 : PySem.W.codeIn K cd5 "_law_source_of" = true) (k5 : PySem.W.keepIn K (.ref f5) = true)
    {f6 : Addr} {od6 an6 : Option Addr} {sl6 : Array (Option Value)} {oc6 kV6 dc6 pm6 cd6 ct6 : Value}
    (a6 : PySem.W.nsIn K mainGlobals "_law_next" = some (some (.ref f6)))
    (l6 : K.lookup f6 = some ⟨oc6, od6, .func (PySem.W.fnOf "_law_next" "_law_next" (defArgs s__law_next) (defBody s__law_next) (defScope s__law_next) .none kV6 dc6 pm6 an6 cd6 ct6), sl6⟩) (c6 : PySem.W.codeIn K cd6 "_law_next" = true) (k6 : PySem.W.keepIn K (.ref f6) = true)
    {f7 : Addr} {od7 an7 : Option Addr} {sl7 : Array (Option Value)} {oc7 kV7 dc7 pm7 cd7 ct7 : Value}
    (a7 : PySem.W.nsIn K mainGlobals "_law_table" = some (some (.ref f7)))
    (l7 : K.lookup f7 = some ⟨oc7, od7, .func (PySem.W.fnOf "_law_table" "_law_table" (defArgs s__law_table) (defBody s__law_table) (defScope s__law_table) .none kV7 dc7 pm7 an7 cd7 ct7), sl7⟩) (c7 : PySem.W.codeIn K cd7 "_law_table" = true) (k7 : PySem.W.keepIn K (.ref f7) = true)
    {f8 : Addr} {od8 an8 : Option Addr} {sl8 : Array (Option Value)} {oc8 kV8 dc8 pm8 cd8 ct8 : Value}
    (a8 : PySem.W.nsIn K mainGlobals "_law_ribbons" = some (some (.ref f8)))
    (l8 : K.lookup f8 = some ⟨oc8, od8, .func (PySem.W.fnOf "_law_ribbons" "_law_ribbons" (defArgs s__law_ribbons) (defBody s__law_ribbons) (defScope s__law_ribbons) .none kV8 dc8 pm8 an8 cd8 ct8), sl8⟩) (c8 : PySem.W.codeIn K cd8 "_law_ribbons" = true) (k8 : PySem.W.keepIn K (.ref f8) = true)
    {f9 : Addr} {od9 an9 : Option Addr} {sl9 : Array (Option Value)} {oc9 kV9 dc9 pm9 cd9 ct9 : Value}
    (a9 : PySem.W.nsIn K mainGlobals "word_of_format" = some (some (.ref f9)))
    (l9 : K.lookup f9 = some ⟨oc9, od9, .func (PySem.W.fnOf "word_of_format" "word_of_format" (defArgs s_word_of_format) (defBody s_word_of_format) (defScope s_word_of_format) .none kV9 dc9 pm9 an9 cd9 ct9), sl9⟩) (c9 : PySem.W.codeIn K cd9 "word_of_format" = true) (k9 : PySem.W.keepIn K (.ref f9) = true)
    {f10 : Addr} {od10 an10 : Option Addr} {sl10 : Array (Option Value)} {oc10 kV10 dc10 pm10 cd10 ct10 : Value}
    (a10 : PySem.W.nsIn K mainGlobals "as_bits" = some (some (.ref f10)))
    (l10 : K.lookup f10 = some ⟨oc10, od10, .func (PySem.W.fnOf "as_bits" "as_bits" (defArgs s_as_bits) (defBody s_as_bits) (defScope s_as_bits) .none kV10 dc10 pm10 an10 cd10 ct10), sl10⟩) (c10 : PySem.W.codeIn K cd10 "as_bits" = true) (k10 : PySem.W.keepIn K (.ref f10) = true)
    {f11 : Addr} {od11 an11 : Option Addr} {sl11 : Array (Option Value)} {oc11 kV11 dc11 pm11 cd11 ct11 : Value}
    (a11 : PySem.W.nsIn K mainGlobals "strip_shades" = some (some (.ref f11)))
    (l11 : K.lookup f11 = some ⟨oc11, od11, .func (PySem.W.fnOf "strip_shades" "strip_shades" (defArgs s_strip_shades) (defBody s_strip_shades) (defScope s_strip_shades) .none kV11 dc11 pm11 an11 cd11 ct11), sl11⟩) (c11 : PySem.W.codeIn K cd11 "strip_shades" = true) (k11 : PySem.W.keepIn K (.ref f11) = true)
    {f12 : Addr} {od12 an12 : Option Addr} {sl12 : Array (Option Value)} {oc12 kV12 dc12 pm12 cd12 ct12 : Value}
    (a12 : PySem.W.nsIn K mainGlobals "_law_written" = some (some (.ref f12)))
    (l12 : K.lookup f12 = some ⟨oc12, od12, .func (PySem.W.fnOf "_law_written" "_law_written" (defArgs s__law_written) (defBody s__law_written) (defScope s__law_written) .none kV12 dc12 pm12 an12 cd12 ct12), sl12⟩) (c12 : PySem.W.codeIn K cd12 "_law_written" = true) (k12 : PySem.W.keepIn K (.ref f12) = true)
    {f13 : Addr} {od13 an13 : Option Addr} {sl13 : Array (Option Value)} {oc13 kV13 dc13 pm13 cd13 ct13 : Value}
    (a13 : PySem.W.nsIn K mainGlobals "format_word" = some (some (.ref f13)))
    (l13 : K.lookup f13 = some ⟨oc13, od13, .func (PySem.W.fnOf "format_word" "format_word" (defArgs s_format_word) (defBody s_format_word) (defScope s_format_word) .none kV13 dc13 pm13 an13 cd13 ct13), sl13⟩) (c13 : PySem.W.codeIn K cd13 "format_word" = true) (k13 : PySem.W.keepIn K (.ref f13) = true)
    {f14 : Addr} {od14 an14 : Option Addr} {sl14 : Array (Option Value)} {oc14 kV14 dc14 pm14 cd14 ct14 : Value}
    (a14 : PySem.W.nsIn K mainGlobals "strip_dots" = some (some (.ref f14)))
    (l14 : K.lookup f14 = some ⟨oc14, od14, .func (PySem.W.fnOf "strip_dots" "strip_dots" (defArgs s_strip_dots) (defBody s_strip_dots) (defScope s_strip_dots) .none kV14 dc14 pm14 an14 cd14 ct14), sl14⟩) (c14 : PySem.W.codeIn K cd14 "strip_dots" = true) (k14 : PySem.W.keepIn K (.ref f14) = true)
    {f15 : Addr} {od15 an15 : Option Addr} {sl15 : Array (Option Value)} {oc15 kV15 dc15 pm15 cd15 ct15 : Value}
    (a15 : PySem.W.nsIn K mainGlobals "format_dots" = some (some (.ref f15)))
    (l15 : K.lookup f15 = some ⟨oc15, od15, .func (PySem.W.fnOf "format_dots" "format_dots" (defArgs s_format_dots) (defBody s_format_dots) (defScope s_format_dots) .none kV15 dc15 pm15 an15 cd15 ct15), sl15⟩) (c15 : PySem.W.codeIn K cd15 "format_dots" = true) (k15 : PySem.W.keepIn K (.ref f15) = true)
    {f16 : Addr} {od16 an16 : Option Addr} {sl16 : Array (Option Value)} {oc16 kV16 dc16 pm16 cd16 ct16 : Value}
    (a16 : PySem.W.nsIn K mainGlobals "_law_ones" = some (some (.ref f16)))
    (l16 : K.lookup f16 = some ⟨oc16, od16, .func (PySem.W.fnOf "_law_ones" "_law_ones" (defArgs s__law_ones) (defBody s__law_ones) (defScope s__law_ones) .none kV16 dc16 pm16 an16 cd16 ct16), sl16⟩) (c16 : PySem.W.codeIn K cd16 "_law_ones" = true) (k16 : PySem.W.keepIn K (.ref f16) = true)
    {f17 : Addr} {od17 an17 : Option Addr} {sl17 : Array (Option Value)} {oc17 kV17 dc17 pm17 cd17 ct17 : Value}
    (a17 : PySem.W.nsIn K mainGlobals "_law_right" = some (some (.ref f17)))
    (l17 : K.lookup f17 = some ⟨oc17, od17, .func (PySem.W.fnOf "_law_right" "_law_right" (defArgs s__law_right) (defBody s__law_right) (defScope s__law_right) .none kV17 dc17 pm17 an17 cd17 ct17), sl17⟩) (c17 : PySem.W.codeIn K cd17 "_law_right" = true) (k17 : PySem.W.keepIn K (.ref f17) = true)
    {f18 : Addr} {od18 an18 : Option Addr} {sl18 : Array (Option Value)} {oc18 kV18 dc18 pm18 cd18 ct18 : Value}
    (a18 : PySem.W.nsIn K mainGlobals "law" = some (some (.ref f18)))
    (l18 : K.lookup f18 = some ⟨oc18, od18, .func (PySem.W.fnOf "law" "law" (defArgs s_law) (defBody s_law) (defScope s_law) .none kV18 dc18 pm18 an18 cd18 ct18), sl18⟩) (c18 : PySem.W.codeIn K cd18 "law" = true) (k18 : PySem.W.keepIn K (.ref f18) = true)
    (z_bool : PySem.W.nsIn K mainGlobals "bool" = some none)
    (z_dict : PySem.W.nsIn K mainGlobals "dict" = some none)
    (z_divmod : PySem.W.nsIn K mainGlobals "divmod" = some none)
    (z_enumerate : PySem.W.nsIn K mainGlobals "enumerate" = some none)
    (z_int : PySem.W.nsIn K mainGlobals "int" = some none)
    (z_isinstance : PySem.W.nsIn K mainGlobals "isinstance" = some none)
    (z_len : PySem.W.nsIn K mainGlobals "len" = some none)
    (z_list : PySem.W.nsIn K mainGlobals "list" = some none)
    (z_max : PySem.W.nsIn K mainGlobals "max" = some none)
    (z_min : PySem.W.nsIn K mainGlobals "min" = some none)
    (z_range : PySem.W.nsIn K mainGlobals "range" = some none)
    (z_repr : PySem.W.nsIn K mainGlobals "repr" = some none)
    (z_sorted : PySem.W.nsIn K mainGlobals "sorted" = some none)
    (z_str : PySem.W.nsIn K mainGlobals "str" = some none)
    (z_sum : PySem.W.nsIn K mainGlobals "sum" = some none)
    (z_tuple : PySem.W.nsIn K mainGlobals "tuple" = some none)
    (z_type : PySem.W.nsIn K mainGlobals "type" = some none)
    (z_zip : PySem.W.nsIn K mainGlobals "zip" = some none)
    {d_FORMAT_WORDS : Addr} (a_FORMAT_WORDS : PySem.W.nsIn K mainGlobals "FORMAT_WORDS" = some (some (.ref d_FORMAT_WORDS))) (t_FORMAT_WORDS : tupB K d_FORMAT_WORDS [709, 752, 666, 687, 590, 635, 529, 548, 979, 998, 908, 953, 856, 877, 775, 818, 220, 233, 131, 182, 87, 98, 8, 61, 458, 511, 405, 416, 321, 372, 286, 299] = true)
    {t_LEVELS : Tok} (a_LEVELS : PySem.W.nsIn K mainGlobals "LEVELS" = some (some (.int 4 t_LEVELS)))
    {t_MASKS : Tok} (a_MASKS : PySem.W.nsIn K mainGlobals "MASKS" = some (some (.int 8 t_MASKS)))
    {d_SIDES : Addr} (a_SIDES : PySem.W.nsIn K mainGlobals "SIDES" = some (some (.ref d_SIDES))) (t_SIDES : tupB K d_SIDES [8, 12, 16, 20, 24] = true)
    {t_STRIP : Tok} (a_STRIP : PySem.W.nsIn K mainGlobals "STRIP" = some (some (.int 10 t_STRIP)))
    {d_STRIPS : Addr} {n_STRIPS : Nat} {s_STRIPS : Array (Option Value)} {c_STRIPS0 : Addr} {c_STRIPS1 : Addr} {c_STRIPS2 : Addr} {c_STRIPS3 : Addr} {c_STRIPS4 : Addr}
    (a_STRIPS : PySem.W.nsIn K mainGlobals "STRIPS" = some (some (.ref d_STRIPS)))
    (l_STRIPS : K.lookup d_STRIPS = some ⟨.type "tuple", none, .seq #[.ref c_STRIPS0, .ref c_STRIPS1, .ref c_STRIPS2, .ref c_STRIPS3, .ref c_STRIPS4] n_STRIPS, s_STRIPS⟩)
    (t_STRIPS0 : tupB K c_STRIPS0 [9, 10, 11, 12, 13, 14, 17, 18, 19, 20, 49, 41, 33, 25, 50, 42, 34, 26, 51, 43] = true)
    (t_STRIPS1 : tupB K c_STRIPS1 [13, 14, 15, 16, 17, 18, 19, 20, 21, 22, 121, 109, 97, 85, 73, 61, 49, 37, 25, 122] = true)
    (t_STRIPS2 : tupB K c_STRIPS2 [17, 18, 19, 20, 21, 22, 23, 24, 25, 26, 225, 209, 193, 177, 161, 145, 129, 113, 97, 81] = true)
    (t_STRIPS3 : tupB K c_STRIPS3 [21, 22, 23, 24, 25, 26, 27, 28, 29, 30, 361, 341, 321, 301, 281, 261, 241, 221, 201, 181] = true)
    (t_STRIPS4 : tupB K c_STRIPS4 [25, 26, 27, 28, 29, 30, 31, 32, 33, 34, 529, 505, 481, 457, 433, 409, 385, 361, 337, 313] = true)
    : ∃ fd : FuncData, (∀ (s : Shared) (v : Value), BindsTo s fd ⟨[v], []⟩ [("_law_script", v)]) ∧ ∀ base : Heap, K.In base → base.Ns mainGlobals mg → FnOk P w K mg base CX0 6 fa fd ["_law_script"] (sp_law K) := by
  have e := hfa.symm.trans (PySem.W.mg_of X G a18)
  cases e
  let T : Txt K mg := {
    f_is_number_to := _
    d_is_number_to := _
    F_is_number_to := fun_mk (st := s_is_number_to) l0 c0 k0
    g_is_number_to := PySem.W.mg_of X G a0
    b_is_number_to := (fun_mk (st := s_is_number_to) l0 c0 k0).binds (ps := ["thing", "least", "most"]) (fun _ _ _ _ _ _ us hl => match us, hl with | [_, _, _], _ => rfl)
    f_need_mask := _
    d_need_mask := _
    F_need_mask := fun_mk (st := s_need_mask) l1 c1 k1
    g_need_mask := PySem.W.mg_of X G a1
    b_need_mask := (fun_mk (st := s_need_mask) l1 c1 k1).binds (ps := ["mask"]) (fun _ _ _ _ _ _ us hl => match us, hl with | [_], _ => rfl)
    f_need_level := _
    d_need_level := _
    F_need_level := fun_mk (st := s_need_level) l2 c2 k2
    g_need_level := PySem.W.mg_of X G a2
    b_need_level := (fun_mk (st := s_need_level) l2 c2 k2).binds (ps := ["level"]) (fun _ _ _ _ _ _ us hl => match us, hl with | [_], _ => rfl)
    f_need_size := _
    d_need_size := _
    F_need_size := fun_mk (st := s_need_size) l3 c3 k3
    g_need_size := PySem.W.mg_of X G a3
    b_need_size := (fun_mk (st := s_need_size) l3 c3 k3).binds (ps := ["size"]) (fun _ _ _ _ _ _ us hl => match us, hl with | [_], _ => rfl)
    f__law_cell_at := _
    d__law_cell_at := _
    F__law_cell_at := fun_mk (st := s__law_cell_at) l4 c4 k4
    g__law_cell_at := PySem.W.mg_of X G a4
    b__law_cell_at := (fun_mk (st := s__law_cell_at) l4 c4 k4).binds (ps := ["_law_script", "_law_k"]) (fun _ _ _ _ _ _ us hl => match us, hl with | [_, _], _ => rfl)
    f__law_source_of := _
    d__law_source_of := _
    F__law_source_of := fun_mk (st := s__law_source_of) l5 c5 k5
    g__law_source_of := PySem.W.mg_of X G a5
    b__law_source_of := (fun_mk (st := s__law_source_of) l5 c5 k5).binds (ps := ["_law_cell"]) (fun _ _ _ _ _ _ us hl => match us, hl with | [_], _ => rfl)
    f__law_next := _
    d__law_next := _
    F__law_next := fun_mk (st := s__law_next) l6 c6 k6
    g__law_next := PySem.W.mg_of X G a6
    b__law_next := (fun_mk (st := s__law_next) l6 c6 k6).binds (ps := ["_law_source", "_law_bound"]) (fun _ _ _ _ _ _ us hl => match us, hl with | [_, _], _ => rfl)
    f__law_table := _
    d__law_table := _
    F__law_table := fun_mk (st := s__law_table) l7 c7 k7
    g__law_table := PySem.W.mg_of X G a7
    b__law_table := (fun_mk (st := s__law_table) l7 c7 k7).binds (ps := ["_law_size_so"]) (fun _ _ _ _ _ _ us hl => match us, hl with | [_], _ => rfl)
    f__law_ribbons := _
    d__law_ribbons := _
    F__law_ribbons := fun_mk (st := s__law_ribbons) l8 c8 k8
    g__law_ribbons := PySem.W.mg_of X G a8
    b__law_ribbons := (fun_mk (st := s__law_ribbons) l8 c8 k8).binds (ps := ["_law_many"]) (fun _ _ _ _ _ _ us hl => match us, hl with | [_], _ => rfl)
    f_word_of_format := _
    d_word_of_format := _
    F_word_of_format := fun_mk (st := s_word_of_format) l9 c9 k9
    g_word_of_format := PySem.W.mg_of X G a9
    b_word_of_format := (fun_mk (st := s_word_of_format) l9 c9 k9).binds (ps := ["level", "mask"]) (fun _ _ _ _ _ _ us hl => match us, hl with | [_, _], _ => rfl)
    f_as_bits := _
    d_as_bits := _
    F_as_bits := fun_mk (st := s_as_bits) l10 c10 k10
    g_as_bits := PySem.W.mg_of X G a10
    b_as_bits := (fun_mk (st := s_as_bits) l10 c10 k10).binds (ps := ["number", "many"]) (fun _ _ _ _ _ _ us hl => match us, hl with | [_, _], _ => rfl)
    f_strip_shades := _
    d_strip_shades := _
    F_strip_shades := fun_mk (st := s_strip_shades) l11 c11 k11
    g_strip_shades := PySem.W.mg_of X G a11
    b_strip_shades := (fun_mk (st := s_strip_shades) l11 c11 k11).binds (ps := ["level", "mask"]) (fun _ _ _ _ _ _ us hl => match us, hl with | [_, _], _ => rfl)
    f__law_written := _
    d__law_written := _
    F__law_written := fun_mk (st := s__law_written) l12 c12 k12
    g__law_written := PySem.W.mg_of X G a12
    b__law_written := (fun_mk (st := s__law_written) l12 c12 k12).binds (ps := ["_law_level_so", "_law_mask_so"]) (fun _ _ _ _ _ _ us hl => match us, hl with | [_, _], _ => rfl)
    f_format_word := _
    d_format_word := _
    F_format_word := fun_mk (st := s_format_word) l13 c13 k13
    g_format_word := PySem.W.mg_of X G a13
    b_format_word := (fun_mk (st := s_format_word) l13 c13 k13).binds (ps := ["level", "mask"]) (fun _ _ _ _ _ _ us hl => match us, hl with | [_, _], _ => rfl)
    f_strip_dots := _
    d_strip_dots := _
    F_strip_dots := fun_mk (st := s_strip_dots) l14 c14 k14
    g_strip_dots := PySem.W.mg_of X G a14
    b_strip_dots := (fun_mk (st := s_strip_dots) l14 c14 k14).binds (ps := ["size"]) (fun _ _ _ _ _ _ us hl => match us, hl with | [_], _ => rfl)
    f_format_dots := _
    d_format_dots := _
    F_format_dots := fun_mk (st := s_format_dots) l15 c15 k15
    g_format_dots := PySem.W.mg_of X G a15
    b_format_dots := (fun_mk (st := s_format_dots) l15 c15 k15).binds (ps := ["size", "level", "mask"]) (fun _ _ _ _ _ _ us hl => match us, hl with | [_, _, _], _ => rfl)
    f__law_ones := _
    d__law_ones := _
    F__law_ones := fun_mk (st := s__law_ones) l16 c16 k16
    g__law_ones := PySem.W.mg_of X G a16
    b__law_ones := (fun_mk (st := s__law_ones) l16 c16 k16).binds (ps := ["_law_number"]) (fun _ _ _ _ _ _ us hl => match us, hl with | [_], _ => rfl)
    f__law_right := _
    d__law_right := _
    F__law_right := fun_mk (st := s__law_right) l17 c17 k17
    g__law_right := PySem.W.mg_of X G a17
    b__law_right := (fun_mk (st := s__law_right) l17 c17 k17).binds (ps := ["_law_size_so", "_law_level_so", "_law_mask_so"]) (fun _ _ _ _ _ _ us hl => match us, hl with | [_, _, _], _ => rfl)
    f_law := _
    d_law := _
    F_law := fun_mk (st := s_law) l18 c18 k18
    g_law := PySem.W.mg_of X G a18
    b_law := (fun_mk (st := s_law) l18 c18 k18).binds (ps := ["_law_script"]) (fun _ _ _ _ _ _ us hl => match us, hl with | [_], _ => rfl)
    n_bool := PySem.W.mg_none_of X G z_bool
    n_dict := PySem.W.mg_none_of X G z_dict
    n_divmod := PySem.W.mg_none_of X G z_divmod
    n_enumerate := PySem.W.mg_none_of X G z_enumerate
    n_int := PySem.W.mg_none_of X G z_int
    n_isinstance := PySem.W.mg_none_of X G z_isinstance
    n_len := PySem.W.mg_none_of X G z_len
    n_list := PySem.W.mg_none_of X G z_list
    n_max := PySem.W.mg_none_of X G z_max
    n_min := PySem.W.mg_none_of X G z_min
    n_range := PySem.W.mg_none_of X G z_range
    n_repr := PySem.W.mg_none_of X G z_repr
    n_sorted := PySem.W.mg_none_of X G z_sorted
    n_str := PySem.W.mg_none_of X G z_str
    n_sum := PySem.W.mg_none_of X G z_sum
    n_tuple := PySem.W.mg_none_of X G z_tuple
    n_type := PySem.W.mg_none_of X G z_type
    n_zip := PySem.W.mg_none_of X G z_zip
    a_FORMAT_WORDS := d_FORMAT_WORDS
    g_FORMAT_WORDS := PySem.W.mg_of X G a_FORMAT_WORDS
    l_FORMAT_WORDS := t_FORMAT_WORDS
    g_LEVELS := ⟨_, PySem.W.mg_of X G a_LEVELS⟩
    g_MASKS := ⟨_, PySem.W.mg_of X G a_MASKS⟩
    a_SIDES := d_SIDES
    g_SIDES := PySem.W.mg_of X G a_SIDES
    l_SIDES := t_SIDES
    g_STRIP := ⟨_, PySem.W.mg_of X G a_STRIP⟩
    c_STRIPS0 := c_STRIPS0
    t_STRIPS0 := t_STRIPS0
    c_STRIPS1 := c_STRIPS1
    t_STRIPS1 := t_STRIPS1
    c_STRIPS2 := c_STRIPS2
    t_STRIPS2 := t_STRIPS2
    c_STRIPS3 := c_STRIPS3
    t_STRIPS3 := t_STRIPS3
    c_STRIPS4 := c_STRIPS4
    t_STRIPS4 := t_STRIPS4
    a_STRIPS := d_STRIPS
    g_STRIPS := PySem.W.mg_of X G a_STRIPS
    l_STRIPS := ⟨_, _, l_STRIPS⟩ }
  exact ⟨T.d_law, fun s v => .of_eq rfl, fun base _ _ => ok_law T⟩
end My
open PySem PySem.W PyProof.Rows
set_option maxHeartbeats 0 in
theorem PySem.Challenge.cw_dotquilts_k33_format_words_holds : PySem.Challenge.rw_dotquilts_k33_format_words.Holds := by
  w_on; o_law; k_head; (case hw => w_witness2)
  k_fill
  refine L2.walk_of (l := PySem.Challenge.rw_dotquilts_k33_format_words) (n := 63) (k := 6) (x := "_law_script") (CX := fun _ => L2.CX0) (sp := fun w => My.sp_law _) rfl (by decide) rfl ⟨rfl, by decide, by decide⟩ (fun w h Y => PySem.W.kIn_of Y) ?F (fun _ _ a ns hl _ hS => ⟨a, ns, rfl, hS, hl, fun _ => rfl⟩) (fun _ _ _ _ _ h => h)
  case F =>
    intro w mg fa h KX G hmg
    refine' My.all_mk KX G hmg ?a0 ?l0 ?c0 ?k0 ?a1 ?l1 ?c1 ?k1 ?a2 ?l2 ?c2 ?k2 ?a3 ?l3 ?c3 ?k3 ?a4 ?l4 ?c4 ?k4 ?a5 ?l5 ?c5 ?k5 ?a6 ?l6 ?c6 ?k6 ?a7 ?l7 ?c7 ?k7 ?a8 ?l8 ?c8 ?k8 ?a9 ?l9 ?c9 ?k9 ?a10 ?l10 ?c10 ?k10 ?a11 ?l11 ?c11 ?k11 ?a12 ?l12 ?c12 ?k12 ?a13 ?l13 ?c13 ?k13 ?a14 ?l14 ?c14 ?k14 ?a15 ?l15 ?c15 ?k15 ?a16 ?l16 ?c16 ?k16 ?a17 ?l17 ?c17 ?k17 ?a18 ?l18 ?c18 ?k18 ?z_bool ?z_dict ?z_divmod ?z_enumerate ?z_int ?z_isinstance ?z_len ?z_list ?z_max ?z_min ?z_range ?z_repr ?z_sorted ?z_str ?z_sum ?z_tuple ?z_type ?z_zip ?a_FORMAT_WORDS ?t_FORMAT_WORDS ?a_LEVELS ?a_MASKS ?a_SIDES ?t_SIDES ?a_STRIP ?a_STRIPS ?l_STRIPS ?t_STRIPS0 ?t_STRIPS1 ?t_STRIPS2 ?t_STRIPS3 ?t_STRIPS4
    (case a0 => k_is)
    (case l0 => k_is)
    (case c0 => k_is)
    (case k0 => k_is)
    (case a1 => k_is)
    (case l1 => k_is)
    (case c1 => k_is)
    (case k1 => k_is)
    (case a2 => k_is)
    (case l2 => k_is)
    (case c2 => k_is)
    (case k2 => k_is)
    (case a3 => k_is)
    (case l3 => k_is)
    (case c3 => k_is)
    (case k3 => k_is)
    (case a4 => k_is)
    (case l4 => k_is)
    (case c4 => k_is)
    (case k4 => k_is)
    (case a5 => k_is)
    (case l5 => k_is)
    (case c5 => k_is)
    (case k5 => k_is)
    (case a6 => k_is)
    (case l6 => k_is)
    (case c6 => k_is)
    (case k6 => k_is)
    (case a7 => k_is)
    (case l7 => k_is)
    (case c7 => k_is)
    (case k7 => k_is)
    (case a8 => k_is)
    (case l8 => k_is)
    (case c8 => k_is)
    (case k8 => k_is)
    (case a9 => k_is)
    (case l9 => k_is)
    (case c9 => k_is)
    (case k9 => k_is)
    (case a10 => k_is)
    (case l10 => k_is)
    (case c10 => k_is)
    (case k10 => k_is)
    (case a11 => k_is)
    (case l11 => k_is)
    (case c11 => k_is)
    (case k11 => k_is)
    (case a12 => k_is)
    (case l12 => k_is)
    (case c12 => k_is)
    (case k12 => k_is)
    (case a13 => k_is)
    (case l13 => k_is)
    (case c13 => k_is)
    (case k13 => k_is)
    (case a14 => k_is)
    (case l14 => k_is)
    (case c14 => k_is)
    (case k14 => k_is)
    (case a15 => k_is)
    (case l15 => k_is)
    (case c15 => k_is)
    (case k15 => k_is)
    (case a16 => k_is)
    (case l16 => k_is)
    (case c16 => k_is)
    (case k16 => k_is)
    (case a17 => k_is)
    (case l17 => k_is)
    (case c17 => k_is)
    (case k17 => k_is)
    (case a18 => k_is)
    (case l18 => k_is)
    (case c18 => k_is)
    (case k18 => k_is)
    (case z_bool => k_is)
    (case z_dict => k_is)
    (case z_divmod => k_is)
    (case z_enumerate => k_is)
    (case z_int => k_is)
    (case z_isinstance => k_is)
    (case z_len => k_is)
    (case z_list => k_is)
    (case z_max => k_is)
    (case z_min => k_is)
    (case z_range => k_is)
    (case z_repr => k_is)
    (case z_sorted => k_is)
    (case z_str => k_is)
    (case z_sum => k_is)
    (case z_tuple => k_is)
    (case z_type => k_is)
    (case z_zip => k_is)
    (case a_FORMAT_WORDS => k_is)
    (case t_FORMAT_WORDS => first | rfl | decide +kernel | k_is)
    (case a_LEVELS => k_is)
    (case a_MASKS => k_is)
    (case a_SIDES => k_is)
    (case t_SIDES => first | rfl | decide +kernel | k_is)
    (case a_STRIP => k_is)
    (case a_STRIPS => k_is)
    (case l_STRIPS => k_is)
    (case t_STRIPS0 => first | rfl | decide +kernel | k_is)
    (case t_STRIPS1 => first | rfl | decide +kernel | k_is)
    (case t_STRIPS2 => first | rfl | decide +kernel | k_is)
    (case t_STRIPS3 => first | rfl | decide +kernel | k_is)
    (case t_STRIPS4 => first | rfl | decide +kernel | k_is)

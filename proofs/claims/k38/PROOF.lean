import PyProof.Rows.All
import Wide.All
import OpenK.AllK
import Wide.FinOn
import HandS.ForMost
import HandS.IsInst
import HandS.SortInts
import HandS.Evl
import HandS.Conv
import HandS.Walk
import KE.GoesEnum
import KE.GoesMore
import HandS.Defaults
import HandS.Rev
import HandS.TupAny
import HandS.TupMul
import HandS.Dict
import HandS.Sort
import HandS.Flow
import HandS.More
import HandS.Zip
import HandS.TupLe
import PyProof.ReprRoads
import HandS.Ends
import KE.DataAny
import PyProof.ZipIter
import PyProof.Draws
import KE.KStar
import HandS.Star
import HandS.Style
import HandS.Strs
import HandS.List
import HandS.Wide
import PyProof.ListRange
import PyProof.WalkInts
import PyProof.SumWalk
import HandS.ExcValue
import HandS.ExcOwn
import HandS.TupSets
import HandS.SortOrd
import HandS.SortRule
import HandS.Deep
import HandS.NoneIn
import HandS.FStr
import PyProof.Rows.StrIntSpec
import HandS.IntHex
import PyProof.StrLawsIn
import HandS.CallLocal
import HandS.Small
import PySem.Challenge.RW_dotquilts_k38_whole_symbols_of_data_word
set_option Elab.async false
set_option linter.all false
set_option maxRecDepth 100000
set_option maxHeartbeats 4000000
namespace My
open PySem PySem.Spec PyProof.Rows L2
/-! ### a dict of the module with int keys -/
inductive EntI : List DictEntry → List (Int × Int) → Prop where
  | nil : EntI [] []
  | cons {k v : Int} {t u : Tok} {es : List DictEntry} {kvs : List (Int × Int)} (h : EntI es kvs) (hk : hashInt k = k := by decide +kernel) : EntI (⟨k, .int k t, .int v u⟩ :: es) ((k, v) :: kvs)
def KInt (K : PySem.W.Frag) (d : Addr) (kvs : List (Int × Int)) : Prop :=
  ∃ (es : Array DictEntry) (n : Nat), K.lookup d = some ⟨.type "dict", none, .dict es n, #[]⟩ ∧ EntI es.toList kvs ∧ (d == sysModules) = false
theorem EntI.all {es : List DictEntry} {kvs : List (Int × Int)} (h : EntI es kvs) : ∀ e ∈ es, ∃ k t, e.key = .int k t ∧ e.hash = hashInt k := by
  induction h with
  | nil => intro e he; cases he
  | cons h hk ih =>
    intro e he
    cases he with
    | head => exact ⟨_, _, rfl, hk.symm⟩
    | tail _ m => exact ih e m
def getI (k : Int) : List (Int × Int) → Option Int
  | [] => none
  | (k', v) :: r => if k' = k then some v else getI k r
theorem EntI.find {es : List DictEntry} {kvs : List (Int × Int)} (h : EntI es kvs) (k : Int) :
    (getI k kvs = none → findBy Value.isInt es.toArray k = none) ∧ (∀ v, getI k kvs = some v → ∃ u, findBy Value.isInt es.toArray k = some (.int v u)) := by
  unfold findBy
  rw [List.find?_toArray]
  induction h with
  | nil => exact ⟨fun _ => rfl, fun v z => by cases z⟩
  | @cons k' v t u es kvs h hk ih =>
    rw [List.find?_cons]
    by_cases e : k' = k
    · have q : Value.isInt k (Value.int k' t) = true := by show (k' == k) = true; simp [e]
      simp only [q]
      refine ⟨fun z => ?_, fun v' z => ?_⟩
      · unfold getI at z; rw [if_pos e] at z; cases z
      · unfold getI at z; rw [if_pos e] at z; cases z; exact ⟨u, rfl⟩
    · have q : Value.isInt k (Value.int k' t) = false := by show (k' == k) = false; simp [e]
      simp only [q]
      unfold getI
      rw [if_neg e]
      exact ih
section
variable {X : Cx} {d : Addr} {kvs : List (Int × Int)}
theorem mapInt_K {prog : Program} {w : World} {K : PySem.W.Frag} {h : Heap} {es : Array DictEntry} {n : Nat} (X : K.In h) (hl : K.lookup d = some ⟨.type "dict", none, .dict es n, #[]⟩) (hk : EntI es.toList kvs) :
    h.MapOf (intKind prog w) d (fun k => findBy Value.isInt es k) :=
  ⟨_, es, n, X _ _ hl, ⟨rfl, rfl, rfl⟩, rfl, fun e he => by
    obtain ⟨x, t, e1, e2⟩ := hk.all e (Array.mem_toList_iff.mpr he)
    exact ⟨x, by rw [e1]; exact intKind_is prog w x t, e2⟩, fun _ => rfl⟩
/-- d[k] -/
def rKI (d : Addr) (kvs : List (Int × Int)) : R2 := fun x y H Q => ∃ k v, x = .ref d ∧ y = .int k ∧ getI k kvs = some v ∧ Q (.int v) H
theorem ix_kint (D : KInt X.K d kvs) : IxR X (rKI d kvs) := by
  intro value slice pins s σ H x y v u Q I rx ry h hs
  obtain ⟨k, r, rfl, rfl, e, q⟩ := h
  obtain ⟨es, n, hl, hk, hd⟩ := D
  obtain rfl : v = Value.ref d := rx
  obtain ⟨t, rfl⟩ := ry
  have hm := mapInt_K (prog := X.prog) (w := X.w) I.kIn hl hk
  obtain ⟨u0, eu⟩ := (hk.find k).2 r e
  exact tail_any hm.typeIs slot_dict_getitem.lookup (wpAny_getItem_of (intKind_is X.prog X.w k t) hm eu ⟨.int r, H, I.tok _, ⟨_, rfl⟩, q⟩) hs
/-- k in d, k not in d -/
def rInKI (d : Addr) (kvs : List (Int × Int)) (neg : Bool) : R2 := fun x y H Q => ∃ k, x = .int k ∧ y = .ref d ∧ Q (.bl (if neg then !(getI k kvs).isSome else (getI k kvs).isSome)) H
theorem find_is {es : Array DictEntry} (hk : EntI es.toList kvs) (k : Int) : (findBy Value.isInt es k).isSome = (getI k kvs).isSome := by
  have q : findBy Value.isInt es k = findBy Value.isInt es.toList.toArray k := by simp
  cases e : getI k kvs with
  | none => rw [q, (hk.find k).1 e] <;> rfl
  | some v =>
    obtain ⟨u, eu⟩ := (hk.find k).2 v e
    rw [q, eu]
    rfl
theorem op_inKI (D : KInt X.K d kvs) : OpR X (compareOp .In) (rInKI d kvs false) := by
  intro pins s σ H x y v u Q I rx ry h
  obtain ⟨k, rfl, rfl, q⟩ := h
  obtain ⟨es, n, hl, hk, hd⟩ := D
  obtain ⟨t, rfl⟩ := rx
  cases ry
  refine wpAny_in_of (intKind_is X.prog X.w k t) hd (mapInt_K (prog := X.prog) (w := X.w) I.kIn hl hk) ?_
  exact ⟨.bl _, H, I.tok _, rfl, by rw [find_is hk]; exact q⟩
theorem op_notInKI (D : KInt X.K d kvs) : OpR X (compareOp .NotIn) (rInKI d kvs true) := by
  intro pins s σ H x y v u Q I rx ry h
  obtain ⟨k, rfl, rfl, q⟩ := h
  obtain ⟨es, n, hl, hk, hd⟩ := D
  obtain ⟨t, rfl⟩ := rx
  cases ry
  refine wpAny_notIn_of (intKind_is X.prog X.w k t) hd (mapInt_K (prog := X.prog) (w := X.w) I.kIn hl hk) ?_
  exact ⟨.bl _, H, I.tok _, rfl, by rw [find_is hk]; exact q⟩
/-- xs + ys, whatever kind of lists stand there (the script, too) -/
def rCatL (K : PySem.W.Frag) : R2 := fun x y H Q => ∃ l b xs zs, x = .ref l ∧ y = .ref b ∧ SqL K H l xs ∧ SqL K H b zs ∧ xs.length + zs.length ≤ sizeLine ∧ ∀ p, H p = none → Q (.ref p) (upd H p (.lst (xs ++ zs)))
theorem op_catL : OpR X (binaryOp .Add) (rCatL X.K) := by
  intro pins s σ H x y v u Q I rx ry h
  obtain ⟨l, b, xs, zs, rfl, rfl, hl, hb, hz, q⟩ := h
  cases rx
  cases ry
  obtain ⟨its, r, ⟨⟨cls, dd, data, sl⟩, n, ho, hc, hd, hs⟩, z1⟩ := I.list hl
  obtain ⟨its2, r2, ⟨⟨cls2, dd2, data2, sl2⟩, n2, ho2, hc2, hd2, hs2⟩, z2⟩ := I.list hb
  have e1 := r.length
  have e2 := r2.length
  simp only at hc hd hs hc2 hd2 hs2
  subst hc hd hs hc2 hd2 hs2
  have e : its.toArray ++ its2.toArray = (its ++ its2).toArray := by simp
  refine concat_meets ⟨_, ho, rfl⟩ ⟨_, ho2, rfl⟩ noFill_list_add seq_list_add PySem.F.slot_list_add PySem.F.entry_list_add (PySem.F.args_list_add_2 _ _) (list_addW l b its.toArray its2.toArray n n2 none none sl sl2 (by simp; omega)) ⟨ho, ho2, ?_⟩
  rw [e]
  exact ⟨.ref _, _, I.lnew (t' := s.toks) (r.append r2) (by rw [List.length_append]; omega), rfl, q _ I.fresh⟩
/-- name op= e, by the in-place operator's rule -/
theorem pip_of {op : Operator} {r : R2} (h : OpR X (inplaceOp op) r) : PIp X op r := h
end
end My

set_option Elab.async false
set_option linter.all false
set_option maxRecDepth 100000
set_option maxHeartbeats 4000000
namespace My
open PySem PySem.Spec PyProof.Rows L2
/-! ### bits of ints that are not negative -/
theorem bx (a b : Nat) : Builtin.bitXor (a : Int) (b : Int) = ((a ^^^ b : Nat) : Int) := by
  have h := Bits.bitXor_pp (x := (a : Int)) (y := (b : Int)) (by omega) (by omega)
  simpa using h
theorem band1 (a : Nat) : Builtin.bitAnd (a : Int) 1 = ((a % 2 : Nat) : Int) := by
  have h := Bits.bitAnd_mask (x := (a : Int)) 1 (by omega)
  simpa using h
/-! ### the field: words as natural numbers -/
def span (b : Nat) : Nat := cond (Nat.beq b 4) 16 256
def foldw (b : Nat) : Nat := cond (Nat.beq b 4) 9 113
def turn (b : Nat) : Nat := cond (Nat.beq b 4) 15 255
def dbl (b x : Nat) : Nat := cond (Nat.blt (2 * x) (span b)) (2 * x) ((2 * x - span b) ^^^ foldw b)
def mulF (b : Nat) : Nat → Nat → Nat → Nat
  | 0, _, _ => 0
  | n + 1, x, y => (cond (Nat.beq (y % 2) 1) x 0) ^^^ mulF b n (dbl b x) (y / 2)
def mul (b x y : Nat) : Nat := mulF b b x y
def pw (b : Nat) : Nat → Nat
  | 0 => 1
  | n + 1 => dbl b (pw b n)
def pws (b : Nat) : List Nat := (List.range (turn b)).map (pw b)
def Wd (b : Nat) : Prop := b = 4 ∨ b = 8
def allB (p : Nat → Nat → Bool) (n : Nat) : Bool := (List.range n).all fun x => (List.range n).all fun y => p x y
theorem allB_ok {p : Nat → Nat → Bool} {n : Nat} (h : allB p n = true) {x y : Nat} (hx : x < n) (hy : y < n) : p x y = true :=
  List.all_eq_true.mp (List.all_eq_true.mp h x (List.mem_range.mpr hx)) y (List.mem_range.mpr hy)
def linB (b : Nat) (x y : Nat) : Bool := Nat.beq (dbl b (x ^^^ y)) (dbl b x ^^^ dbl b y)
theorem lin4 : allB (linB 4) 16 = true := by decide +kernel
theorem lin8 : allB (linB 8) 256 = true := by decide +kernel
theorem dbl_lin {b x y : Nat} (hb : Wd b) (hx : x < span b) (hy : y < span b) : dbl b (x ^^^ y) = dbl b x ^^^ dbl b y := by
  rcases hb with rfl | rfl
  · exact Nat.eq_of_beq_eq_true (allB_ok lin4 hx hy)
  · exact Nat.eq_of_beq_eq_true (allB_ok lin8 hx hy)
theorem dbl_lt {b x : Nat} (hb : Wd b) (hx : x < span b) : dbl b x < span b := by
  rcases hb with rfl | rfl
  · exact (by decide +kernel : ∀ x, x < 16 → dbl 4 x < 16) x hx
  · exact (by decide +kernel : ∀ x, x < 256 → dbl 8 x < 256) x hx
theorem dbl_zero {b : Nat} (hb : Wd b) : dbl b 0 = 0 := by rcases hb with rfl | rfl <;> rfl
theorem span_pow {b : Nat} (hb : Wd b) : span b = 2 ^ b := by rcases hb with rfl | rfl <;> rfl
theorem xor_lt {b x y : Nat} (hb : Wd b) (hx : x < span b) (hy : y < span b) : x ^^^ y < span b := by
  rw [span_pow hb] at *
  exact Nat.xor_lt_two_pow hx hy
theorem mulF_lt {b : Nat} (hb : Wd b) : ∀ (n x y : Nat), x < span b → mulF b n x y < span b
  | 0, _, _, _ => by
    show 0 < span b
    rcases hb with rfl | rfl <;> decide
  | n + 1, x, y, hx => by
    refine xor_lt hb ?_ (mulF_lt hb n _ _ (dbl_lt hb hx))
    cases Nat.beq (y % 2) 1
    · show 0 < span b; rcases hb with rfl | rfl <;> decide
    · exact hx
theorem mulF_zero {b : Nat} (x : Nat) : ∀ n x, mulF b n x 0 = 0
  | 0, _ => rfl
  | n + 1, x => by
    show (0 : Nat) ^^^ mulF b n (dbl b x) 0 = 0
    rw [mulF_zero x n _]
    rfl
theorem zero_mulF {b : Nat} (hb : Wd b) : ∀ n y, mulF b n 0 y = 0
  | 0, _ => rfl
  | n + 1, y => by
    show (cond (Nat.beq (y % 2) 1) 0 0) ^^^ mulF b n (dbl b 0) (y / 2) = 0
    rw [dbl_zero hb, zero_mulF hb n]
    cases Nat.beq (y % 2) 1 <;> rfl
theorem mulF_lin {b : Nat} (hb : Wd b) : ∀ (n x z y : Nat), x < span b → z < span b → mulF b n (x ^^^ z) y = mulF b n x y ^^^ mulF b n z y
  | 0, _, _, _, _, _ => by
    show (0 : Nat) = 0 ^^^ 0
    rfl
  | n + 1, x, z, y, hx, hz => by
    show (cond (Nat.beq (y % 2) 1) (x ^^^ z) 0) ^^^ mulF b n (dbl b (x ^^^ z)) (y / 2) = ((cond (Nat.beq (y % 2) 1) x 0) ^^^ mulF b n (dbl b x) (y / 2)) ^^^ ((cond (Nat.beq (y % 2) 1) z 0) ^^^ mulF b n (dbl b z) (y / 2))
    rw [dbl_lin hb hx hz, mulF_lin hb n _ _ _ (dbl_lt hb hx) (dbl_lt hb hz)]
    cases Nat.beq (y % 2) 1
    · simp
    · show (x ^^^ z) ^^^ (_ ^^^ _) = (x ^^^ _) ^^^ (z ^^^ _)
      ac_rfl
theorem mulF_dbl {b : Nat} (hb : Wd b) : ∀ (n x y : Nat), x < span b → mulF b n (dbl b x) y = dbl b (mulF b n x y)
  | 0, _, _, _ => (dbl_zero hb).symm
  | n + 1, x, y, hx => by
    show (cond (Nat.beq (y % 2) 1) (dbl b x) 0) ^^^ mulF b n (dbl b (dbl b x)) (y / 2) = dbl b ((cond (Nat.beq (y % 2) 1) x 0) ^^^ mulF b n (dbl b x) (y / 2))
    rw [mulF_dbl hb n _ _ (dbl_lt hb hx)]
    cases Nat.beq (y % 2) 1
    · simp
    · show dbl b x ^^^ _ = dbl b (x ^^^ _)
      rw [dbl_lin hb hx (mulF_lt hb _ _ _ (dbl_lt hb hx))]
theorem one_mul {b y : Nat} (hb : Wd b) (hy : y < span b) : mul b 1 y = y := by
  rcases hb with rfl | rfl
  · exact (by decide +kernel : ∀ x, x < 16 → mul 4 1 x = x) y hy
  · exact (by decide +kernel : ∀ x, x < 256 → mul 8 1 x = x) y hy
theorem pw_lt {b : Nat} (hb : Wd b) : ∀ n, pw b n < span b
  | 0 => by rcases hb with rfl | rfl <;> decide
  | n + 1 => dbl_lt hb (pw_lt hb n)
theorem mul_lt {b x y : Nat} (hb : Wd b) (hx : x < span b) : mul b x y < span b := mulF_lt hb _ _ _ hx
theorem pw_mul {b : Nat} (hb : Wd b) (j : Nat) : ∀ i, mul b (pw b i) (pw b j) = pw b (i + j)
  | 0 => by rw [Nat.zero_add]; exact one_mul hb (pw_lt hb j)
  | i + 1 => by
    show mulF b b (dbl b (pw b i)) (pw b j) = _
    rw [mulF_dbl hb _ _ _ (pw_lt hb i)]
    have h := pw_mul hb j i
    unfold mul at h
    rw [h, show i + 1 + j = (i + j) + 1 by omega]
    rfl
theorem pw_turn {b : Nat} (hb : Wd b) : pw b (turn b) = 1 := by rcases hb with rfl | rfl <;> decide +kernel
theorem pw_add_turn {b : Nat} (hb : Wd b) (i : Nat) : pw b (i + turn b) = pw b i := by
  rw [← pw_mul hb, pw_turn hb]
  have h := pw_mul hb 0 i
  exact h
theorem pw_add_mul {b : Nat} (hb : Wd b) (i : Nat) : ∀ k, pw b (i + k * turn b) = pw b i
  | 0 => by rw [Nat.zero_mul, Nat.add_zero]
  | k + 1 => by
    rw [Nat.succ_mul, ← Nat.add_assoc, pw_add_turn hb, pw_add_mul hb i k]
theorem pw_mod {b : Nat} (hb : Wd b) (i : Nat) : pw b i = pw b (i % turn b) := by
  have h := pw_add_mul hb (i % turn b) (i / turn b)
  have e : i % turn b + i / turn b * turn b = i := by
    have := Nat.mod_add_div i (turn b)
    rw [Nat.mul_comm] at this
    exact this
  rw [e] at h
  exact h
def lg (b x : Nat) : Nat := (pws b).idxOf x
def memB (b : Nat) (x : Nat) : Bool := Nat.beq x 0 || (pws b).any fun y => Nat.beq x y
theorem mem_pws {b x : Nat} (hb : Wd b) (hx : x < span b) (h0 : x ≠ 0) : x ∈ pws b := by
  have q : memB b x = true := by
    rcases hb with rfl | rfl
    · exact List.all_eq_true.mp (by decide +kernel : ((List.range 16).all fun x => memB 4 x) = true) x (List.mem_range.mpr hx)
    · exact List.all_eq_true.mp (by decide +kernel : ((List.range 256).all fun x => memB 8 x) = true) x (List.mem_range.mpr hx)
  rcases (Bool.or_eq_true _ _).mp q with h | h
  · exact absurd (Nat.eq_of_beq_eq_true h) h0
  · obtain ⟨y, hy, e⟩ := List.any_eq_true.mp h
    rw [Nat.eq_of_beq_eq_true e]
    exact hy
theorem pws_len (b : Nat) : (pws b).length = turn b := by simp [pws]
theorem pws_at {b i : Nat} (h : i < turn b) : (pws b)[i]? = some (pw b i) := by
  simp [pws, h]
theorem lg_lt {b x : Nat} (hb : Wd b) (hx : x < span b) (h0 : x ≠ 0) : lg b x < turn b := by
  rw [← pws_len b]
  exact List.idxOf_lt_length_of_mem (mem_pws hb hx h0)
theorem pw_lg {b x : Nat} (hb : Wd b) (hx : x < span b) (h0 : x ≠ 0) : pw b (lg b x) = x := by
  have h := lg_lt hb hx h0
  have e := pws_at h
  have e2 : (pws b)[lg b x]? = some x := by
    unfold lg
    rw [List.getElem?_eq_getElem (List.idxOf_lt_length_of_mem (mem_pws hb hx h0)), List.getElem_idxOf]
  rw [e] at e2
  exact Option.some.inj e2
theorem pw_ne {b : Nat} (hb : Wd b) (i : Nat) : pw b i ≠ 0 := by
  intro h
  have e := pw_mul hb ((turn b - i % turn b)) (i % turn b)
  rw [← pw_mod hb i, h] at e
  have ht : i % turn b < turn b := Nat.mod_lt _ (by rcases hb with rfl | rfl <;> decide)
  rw [show i % turn b + (turn b - i % turn b) = turn b by omega, pw_turn hb] at e
  unfold mul at e
  rw [zero_mulF hb] at e
  cases e
/-- before its place a word does not stand in the list of powers -/
theorem lg_first {b x m z : Nat} (hm : m < lg b x) (hz : (pws b)[m]? = some z) : z ≠ x := by
  intro e
  subst e
  have := List.not_of_lt_findIdx (xs := pws b) (p := (· == z)) (i := m) hm
  obtain ⟨hl, he⟩ := List.getElem?_eq_some_iff.mp hz
  simp [he] at this
theorem mul_comm {b x y : Nat} (hb : Wd b) (hx : x < span b) (hy : y < span b) : mul b x y = mul b y x := by
  by_cases h1 : x = 0
  · subst h1
    unfold mul
    rw [zero_mulF hb, mulF_zero 0]
  · by_cases h2 : y = 0
    · subst h2
      unfold mul
      rw [zero_mulF hb, mulF_zero 0]
    · rw [← pw_lg hb hx h1, ← pw_lg hb hy h2, pw_mul hb, pw_mul hb, Nat.add_comm]
theorem mulF_more {b : Nat} : ∀ (n x y : Nat), y < 2 ^ n → ∀ m, n ≤ m → mulF b m x y = mulF b n x y
  | 0, x, y, h, m, _ => by
    have : y = 0 := by simpa using h
    subst this
    rw [mulF_zero 0]
    rfl
  | n + 1, x, y, h, m, hm => by
    cases m with
    | zero => omega
    | succ m =>
      show (cond (Nat.beq (y % 2) 1) x 0) ^^^ mulF b m (dbl b x) (y / 2) = (cond (Nat.beq (y % 2) 1) x 0) ^^^ mulF b n (dbl b x) (y / 2)
      rw [mulF_more n _ _ (by rw [Nat.pow_succ] at h; omega) m (by omega)]
end My

set_option Elab.async false
set_option linter.all false
set_option maxRecDepth 100000
set_option maxHeartbeats 4000000
/-! ### enumerate of a tuple -/
namespace EnT
open PySem PySem.Spec PyProof.Rows
theorem meets_enumerate_newT (l : Addr) (items : Array Value) (n : Nat) (dct : Option Addr) (sl : Array (Option Value)) :
    Meets (Builtin.«enumerate.__new__» ⟨[.type "enumerate", .ref l], []⟩) (fun _ R s => s.heap.get? l = some { cls := .type "tuple", dict := dct, data := .seq items n, slots := sl } ∧
      R (.ok (.ret (.ref (s.heap.push { cls := .type "tuple_iterator", data := .fields #[.ref l, .int 0 0] }).objs.size)))
        { s with heap := (s.heap.push { cls := .type "tuple_iterator", data := .fields #[.ref l, .int 0 0] }).push { cls := .type "enumerate", data := .fields #[.none, .bool false, .ref s.heap.objs.size, rawInt 0, .none, .none] } }) :=
  .of_wp fun prog w A R s h => by
    obtain ⟨hp, g, d, tk, os⟩ := s; obtain ⟨hl, h⟩ := h
    have hsub := sub_enumerate
    have hL : Heap.IsTuple (Shared.heap ⟨hp, g, d, tk, os⟩) l items := ⟨_, hl, rfl, n, rfl⟩
    wp_walk using wpAny_loadPart' hl
    refine wpAny_stack_any fun st => wpAny_pure ?_
    split
    · rename_i c _ _ _ _ _
      cases (c == Value.type "enumerate")
      · wp_walk using wpAny_loadPart' hl, wpAny_pyIter_tuple hL
        exact ⟨_, rfl, h⟩
      · wp_walk using wpAny_loadPart' hl, wpAny_pyIter_tuple hL
        exact ⟨_, rfl, h⟩
    · wp_walk using wpAny_loadPart' hl, wpAny_pyIter_tuple hL
      exact ⟨_, rfl, h⟩
theorem call_enumerate_tuple {prog : Program} {w : World} {A : Around} {E : Value → Shared → Prop} {s : Shared} {l : Addr} {items : Array Value} {Q : Value → Shared → Prop} (hL : s.heap.IsTuple l items)
    (h : ∀ h', IsEnum h' (s.heap.objs.size + 1) s.heap.objs.size 0 .none → h'.IsTupleIter s.heap.objs.size l 0 → h'.objs.size = s.heap.objs.size + 2 →
      (∀ b o, s.heap.get? b = some o → h'.get? b = some o) → Q (.ref (s.heap.objs.size + 1)) { s with heap := h' }) :
    wpAny (model prog w) A (call (.type "enumerate") [.ref l]) Q E s := by
  obtain ⟨⟨c, dct, dt, sl⟩, hl, hc, n, hd⟩ := hL
  replace hc : c = .type "tuple" := hc
  replace hd : dt = .seq items n := hd
  subst hc hd
  refine callType_new F.called_enumerate (by decide) (F.typeCall_enumerate_1 _) (F.newCall_enumerate_1 _) (fun obj => F.args_object_init_2 obj _) F.entry_enumerate_new
    (meets_enumerate_newT l items n dct sl) ⟨hl, ?_⟩
  have hz : (s.heap.push { cls := .type "tuple_iterator", data := .fields #[.ref l, .int 0 0] }).objs.size = s.heap.objs.size + 1 := Heap.size_push ..
  show _ ∧ _
  rw [hz]
  have he : IsEnum ((s.heap.push { cls := .type "tuple_iterator", data := .fields #[.ref l, .int 0 0] }).push
      { cls := .type "enumerate", data := .fields #[.none, .bool false, .ref s.heap.objs.size, rawInt 0, .none, .none] }) (s.heap.objs.size + 1) s.heap.objs.size 0 .none := by
    have := Heap.get?_push_size (s.heap.push { cls := .type "tuple_iterator", data := .fields #[.ref l, .int 0 0] })
      (o := { cls := .type "enumerate", data := .fields #[.none, .bool false, .ref s.heap.objs.size, rawInt 0, .none, .none] }) rfl
    rw [hz] at this; exact this
  refine ⟨⟨_, he, rfl⟩, h _ he ⟨_, Heap.get?_push_of_some _ (Heap.get?_push_size _ rfl), rfl, rfl⟩ (by rw [Heap.size_push, hz]) fun b o x => Heap.get?_push_of_some _ (Heap.get?_push_of_some _ x)⟩
open L2
def IteT (K : PySem.W.Frag) (a : Addr) : It :=
  ⟨fun i H => ∃ (xs : List V) (x : V), SqT K H a xs ∧ xs[i]? = some x, fun i H v H' => ∃ T x, v = .ref T ∧ H T = none ∧ H' = upd H T (.tup [.int (i : Nat), x]) ∧ ∀ xs, SqT K H a xs → xs[i]? = some x, fun i H => ∃ xs : List V, SqT K H a xs ∧ xs.length = i⟩
theorem turn_enumT {P : Program} {w : World} {K : PySem.W.Frag} {elts : List Expr} {kk : Nat} {tpos : Pos} (a e it : Addr) :
    Turn P w K (.Tuple elts kk tpos) (IteT K a) [e, it] e (fun i h => (∃ old, IsEnum h e it ((i : Nat) : Int) old) ∧ h.IsTupleIter it a i ∧ e ≠ it ∧ a ≠ it ∧ e ≠ a) where
  mem := by simp
  obj := fun i h st b hb => by
    obtain ⟨⟨old, he⟩, ⟨o, ho, hc, hd⟩, _⟩ := st
    have e' : b = e ∨ b = it := by simpa using hb
    rcases e' with z | z
    · rw [z]; exact ⟨_, he, fun v q => nomatch q⟩
    · rw [z]; exact ⟨o, ho, fun v q => by rw [hd] at q; cases q⟩
  keep := fun i h h' st k => let ⟨⟨old, he⟩, hi, hne⟩ := st; ⟨⟨old, k e (by simp) _ he⟩, hi.at fun o q => k it (by simp) o q, hne⟩
  item := by
    intro X hP hw hK hc i pins s σ H E I hf st hg
    subst hP hw hK
    obtain ⟨⟨old, he⟩, hit, hne, hai, hea⟩ := st
    obtain ⟨xs, x, hq, hx⟩ := hg
    obtain ⟨its, rv, p, hz⟩ := I.tuple hq
    obtain ⟨u, hu, ru⟩ := rv.get hx
    have hel : e < s.heap.objs.size := Heap.lt_size he
    have hil : it < s.heap.objs.size := by obtain ⟨_, q, _⟩ := hit; exact Heap.lt_size q
    have hin : i < its.toArray.size := by
      have := (List.getElem?_eq_some_iff.mp hu).1
      simpa using this
    have hd0 : X.A.in1.handled = none := I.ok.hd hc
    refine wpAny_pyNext_enum_itemC (Draws.tuple hd0 it a hai its.toArray) he ⟨hit, p⟩ hin hne (by simp [hne, hea]) fun y h' tk hy ho hst' hT hsz hk => ?_
    obtain rfl : y = u := by
      have : its.toArray[i]? = some y := hy
      simp at this
      rw [hu] at this
      exact (Option.some.inj this).symm
    have hit' := hst'.1
    refine ⟨_, rfl, wpAny_letOwnedTupleGo_enum (s := { s with heap := h', toks := tk + 1 }) ho fun h'' he' sb => ?_⟩
    have hT2 : h''.get? s.heap.objs.size = some { cls := .type "tuple", data := .seq #[.int i tk, y] } := (sb.2 _ (Nat.ne_of_gt hel)).trans hT
    have new : ObjOk X.prog X.w (upd H s.heap.objs.size (.tup [.int (i : Nat), x])) h'' s.heap.objs.size (.tup [.int (i : Nat), x]) :=
      ⟨by show 2 ≤ sizeLine; decide, [.int i tk, y], .cons ⟨_, rfl⟩ (.cons ru .nil), ⟨_, hT2, rfl, _, rfl⟩⟩
    have I1 : Inv X pins σ (upd H s.heap.objs.size (.tup [.int (i : Nat), x])) { s with heap := h'', toks := tk + 1 } :=
      I.turnedNew (ch := [e, it]) (fun b ob hb q => (sb.2 b (fun z => hb (by simp [z]))).trans (hk b ob (fun z => hb (by simp [z])) (fun z => hb (by simp [z])) q)) hf (Nat.le_refl _) new
    refine ⟨.ref s.heap.objs.size, _, I1, rfl, ⟨_, x, rfl, I.hok.fresh (Nat.le_refl _), rfl, fun ys hy => by rw [I.tuple_inj hy hq]; exact hx⟩, ⟨⟨y, ?_⟩, hit'.at fun o q => (sb.2 it (Ne.symm hne)).trans q, hne, hai, hea⟩, fun b hb => ?_⟩
    · have e1 : ((i + 1 : Nat) : Int) = (i : Int) + 1 := by omega
      rw [e1]; exact he'
    · have hb' : b < s.heap.objs.size := by
        have e' : b = e ∨ b = it := by simpa using hb
        rcases e' with z | z
        · rw [z]; exact hel
        · rw [z]; exact hil
      rw [upd_ne (Nat.ne_of_lt hb')]
      exact (hf b hb).1
  done := by
    intro X hP hw hK hc i pins s σ H E I hf st hg
    subst hP hw hK
    obtain ⟨⟨old, he⟩, hit, hne, hai, hea⟩ := st
    obtain ⟨xs, hq, hx⟩ := hg
    obtain ⟨its, rv, p, hz⟩ := I.tuple hq
    obtain ⟨f0, f1, f2, f3, f4, f5⟩ := hf it (by simp)
    have hl := rv.length
    have hd0 : X.A.in1.handled = none := I.ok.hd hc
    have en : its.toArray.size = i := by simp; omega
    have hst : s.heap.IsTupleIter it a its.toArray.size ∧ s.heap.IsTuple a its.toArray := ⟨by rw [en]; exact hit, p⟩
    exact wpAny_pyNext_enum_endD (Draws.tuple hd0 it a hai its.toArray) he hst fun h' eb => ⟨rfl, I.turned (t' := s.toks) (fun b o hb q => eb b o hb q) f0 f1 f3 f4 f5⟩
  self := fun A i s Q E st h => let ⟨⟨_, he⟩, _⟩ := st; wpAny_pyIter_enum he h
def iEnumT (K : PySem.W.Frag) (ta : TA) : TI := fun σ H R => ta σ H fun vs H1 => ∃ a xs, vs = [.ref a] ∧ SqT K H1 a xs ∧ R (IteT K a) H1
theorem pi_enumT {X : Cx} {e : Expr} {ta : TA} {p pos tpos : Pos} {elts : List Expr} {kk : Nat} (hg : Gl X "enumerate") (hm : X.mg "enumerate" = none) (ha : PA X [e] ta) (hs : starEach [e] X.env = [(false, eval e X.env)] := by rfl) :
    PI X (.Tuple elts kk tpos) (.Call (.Name "enumerate" p) [e] [] pos) (iEnumT X.K ta) := by
  refine ⟨fun pins s σ H R I h => ?_⟩
  refine Call_ (ld_blt I hg hm boot_enumerate (PyProof.Rows.callWith_type1 (thn (ha.run pos pins s σ H _ I h) fun us s1 ⟨vs, H1, I1, r1, q1⟩ => ?_) hs rfl))
  obtain ⟨a, xs, ex, hq, q⟩ := q1
  subst ex
  cases r1 with
  | cons r rr =>
    cases rr
    cases r
    obtain ⟨its, rv, p', hz⟩ := I1.tuple hq
    have hal : a < s1.heap.objs.size := by obtain ⟨_, q, _⟩ := p'; exact Heap.lt_size q
    refine call_enumerate_tuple p' fun h' he hit hsz hk => wpAny_pyIter_enum he ?_
    have I2 : Inv X pins σ H1 { s1 with heap := h' } := I1.kept (t' := s1.toks) hk
    refine ⟨s1.heap.objs.size + 1, [s1.heap.objs.size + 1, s1.heap.objs.size], _, _, H1, rfl, I2, turn_enumT a (s1.heap.objs.size + 1) s1.heap.objs.size, ⟨⟨.none, he⟩, hit, Nat.succ_ne_self _, Nat.ne_of_lt hal, Nat.ne_of_gt (Nat.lt_succ_of_lt hal)⟩, fun b hb => ?_, q⟩
    have e' : b = s1.heap.objs.size + 1 ∨ b = s1.heap.objs.size := by simpa using hb
    have hle : s1.heap.objs.size ≤ b := by
      rcases e' with z | z
      · rw [z]; exact Nat.le_add_right _ _
      · rw [z]; exact Nat.le_refl _
    exact I1.fpOk hle (I1.hok.fresh hle)
theorem walk_enumT {K : PySem.W.Frag} {a : Addr} {xs : List V} : Walk (IteT K a) xs.length (fun H => SqT K H a xs) (YPair (fun i => some (.int (i : Nat))) (fun i => xs[i]?)) where
  goes := fun i H hi h => ⟨xs, xs[i], h, List.getElem?_eq_getElem hi⟩
  stops := fun H h => ⟨xs, h, rfl⟩
  yields := fun i H x H' hi h y => by
    obtain ⟨T, z, e1, e2, e3, e4⟩ := y
    exact ⟨T, _, z, e1, e2, e3, rfl, e4 xs h⟩
end EnT

set_option Elab.async false
set_option linter.all false
set_option maxRecDepth 100000
set_option maxHeartbeats 4000000
/-! ### rows: lists (true) and tuples (false) in one -/
namespace My
open PySem PySem.Spec PyProof.Rows L2
def SqB (b : Bool) (K : PySem.W.Frag) (H : Hp) (a : Addr) (xs : List V) : Prop := if b = true then SqL K H a xs else SqT K H a xs
def ItB (b : Bool) (K : PySem.W.Frag) (a : Addr) : It := if b = true then Itl K a else Itt K a
def IteB (b : Bool) (K : PySem.W.Frag) (a : Addr) : It := if b = true then Ite K a else EnT.IteT K a
section
variable {b : Bool} {K : PySem.W.Frag} {H H' : Hp} {a : Addr} {xs : List V}
theorem SqB.or (h : SqB b K H a xs) : SqL K H a xs ∨ SqT K H a xs := by
  cases b
  · exact .inr h
  · exact .inl h
theorem Same.sqt (e : Same H H') (h : SqT K H a xs) : SqT K H' a xs := by
  rcases h with (h | ⟨o, h⟩) | h
  · exact .inl (.inl (e _ _ h))
  · exact .inl (.inr ⟨o, e _ _ h⟩)
  · exact .inr h
theorem Same.sqb (e : Same H H') (h : SqB b K H a xs) : SqB b K H' a xs := by
  cases b
  · exact Same.sqt e h
  · exact e.seq h
theorem SqB.lst (h : H a = some (.lst xs)) : SqB true K H a xs := .inl (.inl h)
theorem SqB.tup (h : H a = some (.tup xs)) : SqB false K H a xs := .inl (.inl h)
theorem SqB.ty (h : SqB b K H a xs) : TyX K H (.ref a) (.type (if b = true then "list" else "tuple")) := by
  cases b
  · rcases h with (h | ⟨o, h⟩) | ⟨o, its, n, hk, hc, _⟩
    · exact .base (.tup h)
    · exact .fTuple h
    · exact .kTuple hk hc
  · rcases h with (h | ⟨o, h⟩) | ⟨o, its, n, hk, hc, _⟩
    · exact .base (.lst h)
    · exact .base (.frz h)
    · exact .kList hk hc
theorem walk_seq : Walk (ItB b K a) xs.length (fun H => SqB b K H a xs) (YAt xs) := by
  cases b
  · exact walk_tup
  · exact walk_list
theorem walk_enumS : Walk (IteB b K a) xs.length (fun H => SqB b K H a xs) (YPair (fun i => some (.int (i : Nat))) (fun i => xs[i]?)) := by
  cases b
  · exact EnT.walk_enumT
  · exact walk_enum
end
section
variable {X : Cx} {tg : Expr}
def iSeq (K : PySem.W.Frag) (tl : TE) : TI := fun σ H R => tl σ H fun x H1 => ∃ a xs b, x = .ref a ∧ SqB b K H1 a xs ∧ R (ItB b K a) H1
theorem pi_seq {l : Expr} {tl : TE} (hl : PE X l tl) : PI X tg l (iSeq X.K tl) := by
  refine ⟨fun pins s σ H R I h => ?_⟩
  refine thn (hl.run pins s σ H _ I h) fun v s1 ⟨x, H1, I1, r1, q1⟩ => ?_
  obtain ⟨a, xs, b, e, hq, q⟩ := q1
  subst e
  cases r1
  cases b
  · obtain ⟨its, rv, p, hz⟩ := I1.tuple hq
    refine wpAny_pyIter_tuple (show s1.heap.IsTuple a its.toArray from p) ?_
    refine ⟨s1.heap.objs.size, [s1.heap.objs.size], _, _, H1, rfl, I1.kept (t' := s1.toks) fun b o e => Heap.get?_push_of_some _ e, turn_tuple a _, ⟨_, Heap.get?_push_size _ rfl, rfl, rfl⟩, fun b hb => ?_, q⟩
    have e : b = s1.heap.objs.size := by simpa using hb
    subst e
    exact I1.fpOk (Nat.le_refl _) (I1.hok.fresh (Nat.le_refl _))
  · obtain ⟨its, rv, p, hz⟩ := I1.list hq
    refine wpAny_pyIter_list p.isList ?_
    refine ⟨s1.heap.objs.size, [s1.heap.objs.size], _, _, H1, rfl, I1.kept (t' := s1.toks) fun b o e => Heap.get?_push_of_some _ e, turn_list a _, ⟨_, Heap.get?_push_size _ rfl, rfl, rfl⟩, fun b hb => ?_, q⟩
    have e : b = s1.heap.objs.size := by simpa using hb
    subst e
    exact I1.fpOk (Nat.le_refl _) (I1.hok.fresh (Nat.le_refl _))
def iEnumS (K : PySem.W.Frag) (ta : TA) : TI := fun σ H R => ta σ H fun vs H1 => ∃ a xs b, vs = [.ref a] ∧ SqB b K H1 a xs ∧ R (IteB b K a) H1
theorem pi_enumS {e : Expr} {ta : TA} {p pos tpos : Pos} {elts : List Expr} {kk : Nat} (hg : Gl X "enumerate") (hm : X.mg "enumerate" = none) (ha : PA X [e] ta) (hs : starEach [e] X.env = [(false, eval e X.env)] := by rfl) :
    PI X (.Tuple elts kk tpos) (.Call (.Name "enumerate" p) [e] [] pos) (iEnumS X.K ta) := by
  refine ⟨fun pins s σ H R I h => ?_⟩
  refine Call_ (ld_blt I hg hm boot_enumerate (PyProof.Rows.callWith_type1 (thn (ha.run pos pins s σ H _ I h) fun us s1 ⟨vs, H1, I1, r1, q1⟩ => ?_) hs rfl))
  obtain ⟨a, xs, b, ex, hq, q⟩ := q1
  subst ex
  cases r1 with
  | cons r rr =>
    cases rr
    cases r
    cases b
    · obtain ⟨its, rv, p', hz⟩ := I1.tuple hq
      have hal : a < s1.heap.objs.size := by obtain ⟨_, q, _⟩ := p'; exact Heap.lt_size q
      refine EnT.call_enumerate_tuple p' fun h' he hit hsz hk => wpAny_pyIter_enum he ?_
      have I2 : Inv X pins σ H1 { s1 with heap := h' } := I1.kept (t' := s1.toks) hk
      refine ⟨s1.heap.objs.size + 1, [s1.heap.objs.size + 1, s1.heap.objs.size], _, _, H1, rfl, I2, EnT.turn_enumT a (s1.heap.objs.size + 1) s1.heap.objs.size, ⟨⟨.none, he⟩, hit, Nat.succ_ne_self _, Nat.ne_of_lt hal, Nat.ne_of_gt (Nat.lt_succ_of_lt hal)⟩, fun b hb => ?_, q⟩
      have e' : b = s1.heap.objs.size + 1 ∨ b = s1.heap.objs.size := by simpa using hb
      have hle : s1.heap.objs.size ≤ b := by
        rcases e' with z | z
        · rw [z]; exact Nat.le_add_right _ _
        · rw [z]; exact Nat.le_refl _
      exact I1.fpOk hle (I1.hok.fresh hle)
    · obtain ⟨its, rv, p', hz⟩ := I1.list hq
      refine call_enumerate_list p'.isList fun h' he hit hsz hk => wpAny_pyIter_enum he ?_
      have I2 : Inv X pins σ H1 { s1 with heap := h' } := I1.kept (t' := s1.toks) hk
      refine ⟨s1.heap.objs.size + 1, [s1.heap.objs.size + 1, s1.heap.objs.size], _, _, H1, rfl, I2, turn_enum a (s1.heap.objs.size + 1) s1.heap.objs.size, ⟨⟨.none, he⟩, hit, Nat.succ_ne_self _⟩, fun b hb => ?_, q⟩
      have e' : b = s1.heap.objs.size + 1 ∨ b = s1.heap.objs.size := by simpa using hb
      have hle : s1.heap.objs.size ≤ b := by
        rcases e' with z | z
        · rw [z]; exact Nat.le_add_right _ _
        · rw [z]; exact Nat.le_refl _
      exact I1.fpOk hle (I1.hok.fresh hle)
/-- xs[i] of a list or a tuple -/
def rIxB (K : PySem.W.Frag) : R2 := fun x y H Q => ∃ p xs i v b, x = .ref p ∧ y = .int i ∧ SqB b K H p xs ∧ atI xs i = some v ∧ Q v H
theorem ix_rowB : IxR X (rIxB X.K) := by
  intro value slice pins s σ H x y v u Q I rx ry h hs
  obtain ⟨p, xs, i, z, b, rfl, rfl, hq, ha, q⟩ := h
  refine ix_seq value slice pins s σ H _ _ v u Q I rx ry ?_ hs
  cases b
  · exact .inr (.inl ⟨p, xs, i, z, rfl, rfl, hq, ha, q⟩)
  · exact .inl ⟨p, xs, i, z, rfl, rfl, hq, ha, q⟩
end
end My

set_option Elab.async false
set_option linter.all false
set_option maxRecDepth 100000
set_option maxHeartbeats 4000000
namespace My
open PySem PySem.Spec PyProof.Rows L2
section
variable {X : Cx}
/-- xs[i] of a list, by the item's own rule (for xs[i] op= e) -/
def rGetL (K : PySem.W.Frag) : V → V → Hp → VK → Prop := fun x y H Q => ∃ p xs v, ∃ j : Nat, x = .ref p ∧ y = .int (j : Int) ∧ SqL K H p xs ∧ xs[j]? = some v ∧ Q v H
theorem get_list : PGet X (rGetL X.K) := by
  intro pins s σ H x y v u Q I rx ry h
  obtain ⟨p, xs, z, j, rfl, rfl, hq, he, q⟩ := h
  cases rx
  obtain ⟨t, rfl⟩ := ry
  obtain ⟨its, r, pl, hz⟩ := I.list hq
  obtain ⟨w, ew, rw'⟩ := r.get he
  have hl := r.length
  have hn := line63
  have hj : j < xs.length := (List.getElem?_eq_some_iff.mp he).1
  exact wpAny_getItem_list pl.isList (by omega) (by omega) (by simpa using ew) ⟨z, H, I, rw', q⟩
end
end My

set_option Elab.async false
set_option linter.all false
set_option maxRecDepth 100000
set_option maxHeartbeats 1000000
/-! ### two values the other way round -/
namespace My
open PySem PySem.Spec PyProof.Rows L2
/-- two values the other way round -/
def rev2 {α : Type} : List α → List α
  | [a, b] => [b, a]
  | l => l
theorem rev2_rel {zs : List V} {ws : List Value} (r : Vals zs ws) : Vals (rev2 zs) (rev2 ws) := by
  cases r with
  | nil => exact .nil
  | cons r1 r =>
    cases r with
    | nil => exact .cons r1 .nil
    | cons r2 r =>
      cases r with
      | nil => exact .cons r2 (.cons r1 .nil)
      | cons r3 r => exact .cons r1 (.cons r2 (.cons r3 r))
end My

set_option Elab.async false
set_option linter.all false
set_option maxRecDepth 100000
set_option maxHeartbeats 4000000
/-! ### written tuples of ints, dicts of the module from ints to objects -/
namespace My
open PySem PySem.Spec PyProof.Rows L2
def intsB : List Value → List Int → Bool
  | [], [] => true
  | .int i _ :: vs, j :: xs => (i == j) && intsB vs xs
  | _, _ => false
def tupB (K : PySem.W.Frag) (a : Addr) (xs : List Int) : Bool :=
  match K.lookup a with
  | some ⟨.type s, none, .seq its _, _⟩ => s == "tuple" && Nat.ble its.size 1000 && intsB its.toList xs
  | _ => false
theorem intsB_ok : ∀ {vs : List Value} {xs : List Int}, intsB vs xs = true → Vals (xs.map V.int) vs
  | [], [], _ => .nil
  | .int i t :: vs, j :: xs, h => by
    have h' : ((i == j) && intsB vs xs) = true := h
    rw [Bool.and_eq_true] at h'
    have e : i = j := by simpa using h'.1
    subst e
    exact .cons ⟨t, rfl⟩ (intsB_ok h'.2)
theorem tupB_ok {K : PySem.W.Frag} {a : Addr} {xs : List Int} {H : Hp} (h : tupB K a xs = true) : SqT K H a (xs.map V.int) := by
  unfold tupB at h
  split at h
  · next s its n _ e =>
    rw [Bool.and_eq_true, Bool.and_eq_true] at h
    have es : s = "tuple" := by simpa using h.1.1
    subst es
    exact .inr ⟨_, its, n, e, rfl, rfl, Nat.le_trans (Nat.le_of_ble_eq_true h.1.2) (by decide), intsB_ok h.2⟩
  · cases h
theorem tupB_ty {K : PySem.W.Frag} {a : Addr} {xs : List Int} (h : tupB K a xs = true) : ∃ o, K.lookup a = some o ∧ o.cls = .type "tuple" ∧ o.dict = none := by
  unfold tupB at h
  split at h
  · next s its n _ e =>
    rw [Bool.and_eq_true, Bool.and_eq_true] at h
    have es : s = "tuple" := by simpa using h.1.1
    subst es
    exact ⟨_, e, rfl, rfl⟩
  · cases h
inductive EntR : List DictEntry → List (Int × Addr) → Prop where
  | nil : EntR [] []
  | cons {k : Int} {v : Addr} {t : Tok} {es : List DictEntry} {kvs : List (Int × Addr)} (h : EntR es kvs) (hk : hashInt k = k := by decide +kernel) : EntR (⟨k, .int k t, .ref v⟩ :: es) ((k, v) :: kvs)
def KRef (K : PySem.W.Frag) (d : Addr) (kvs : List (Int × Addr)) : Prop :=
  ∃ (es : Array DictEntry) (n : Nat), K.lookup d = some ⟨.type "dict", none, .dict es n, #[]⟩ ∧ EntR es.toList kvs ∧ (d == sysModules) = false
theorem EntR.all {es : List DictEntry} {kvs : List (Int × Addr)} (h : EntR es kvs) : ∀ e ∈ es, ∃ k t, e.key = .int k t ∧ e.hash = hashInt k := by
  induction h with
  | nil => intro e he; cases he
  | cons h hk ih =>
    intro e he
    cases he with
    | head => exact ⟨_, _, rfl, hk.symm⟩
    | tail _ m => exact ih e m
def getA (k : Int) : List (Int × Addr) → Option Addr
  | [] => none
  | (k', v) :: r => if k' = k then some v else getA k r
theorem EntR.find {es : List DictEntry} {kvs : List (Int × Addr)} (h : EntR es kvs) (k : Int) :
    (getA k kvs = none → findBy Value.isInt es.toArray k = none) ∧ (∀ v, getA k kvs = some v → findBy Value.isInt es.toArray k = some (.ref v)) := by
  unfold findBy
  rw [List.find?_toArray]
  induction h with
  | nil => exact ⟨fun _ => rfl, fun v z => by cases z⟩
  | @cons k' v t es kvs h hk ih =>
    rw [List.find?_cons]
    by_cases e : k' = k
    · have q : Value.isInt k (Value.int k' t) = true := by show (k' == k) = true; simp [e]
      simp only [q]
      refine ⟨fun z => ?_, fun v' z => ?_⟩
      · unfold getA at z; rw [if_pos e] at z; cases z
      · unfold getA at z; rw [if_pos e] at z; cases z; rfl
    · have q : Value.isInt k (Value.int k' t) = false := by show (k' == k) = false; simp [e]
      simp only [q]
      unfold getA
      rw [if_neg e]
      exact ih
section
variable {X : Cx} {d : Addr} {kvs : List (Int × Addr)}
theorem mapInt_R {prog : Program} {w : World} {K : PySem.W.Frag} {h : Heap} {es : Array DictEntry} {n : Nat} (X : K.In h) (hl : K.lookup d = some ⟨.type "dict", none, .dict es n, #[]⟩) (hk : EntR es.toList kvs) :
    h.MapOf (intKind prog w) d (fun k => findBy Value.isInt es k) :=
  ⟨_, es, n, X _ _ hl, ⟨rfl, rfl, rfl⟩, rfl, fun e he => by
    obtain ⟨x, t, e1, e2⟩ := hk.all e (Array.mem_toList_iff.mpr he)
    exact ⟨x, by rw [e1]; exact intKind_is prog w x t, e2⟩, fun _ => rfl⟩
/-- d[k] -/
def rKR (d : Addr) (kvs : List (Int × Addr)) : R2 := fun x y H Q => ∃ k v, x = .ref d ∧ y = .int k ∧ getA k kvs = some v ∧ Q (.ref v) H
theorem ix_kref (D : KRef X.K d kvs) : IxR X (rKR d kvs) := by
  intro value slice pins s σ H x y v u Q I rx ry h hs
  obtain ⟨k, r, rfl, rfl, e, q⟩ := h
  obtain ⟨es, n, hl, hk, hd⟩ := D
  obtain rfl : v = Value.ref d := rx
  obtain ⟨t, rfl⟩ := ry
  have hm := mapInt_R (prog := X.prog) (w := X.w) I.kIn hl hk
  have eu := (hk.find k).2 r e
  exact tail_any hm.typeIs slot_dict_getitem.lookup (wpAny_getItem_of (intKind_is X.prog X.w k t) hm eu ⟨.ref r, H, I.tok _, rfl, q⟩) hs
end
end My

set_option Elab.async false
set_option linter.all false
set_option maxRecDepth 100000
set_option maxHeartbeats 4000000
/-! ### the program's tables of powers and exponents -/
namespace My
open PySem PySem.Spec PyProof.Rows L2
def E4 : List Int := [0, 0, 1, 12, 2, 9, 13, 7, 3, 4, 10, 5, 14, 11, 8, 6]
def E8 : List Int := [0, 0, 1, 231, 2, 207, 232, 59, 3, 35, 208, 154, 233, 20, 60, 183, 4, 159, 36, 66, 209, 118, 155, 251, 234, 245, 21, 11, 61, 130, 184, 146, 5, 122, 160, 79, 37, 113, 67, 106, 210, 224, 119, 221, 156, 242, 252, 32, 235, 213, 246, 135, 22, 42, 12, 140, 62, 227, 131, 75, 185, 191, 147, 94, 6, 70, 123, 195, 161, 53, 80, 167, 38, 109, 114, 203, 68, 51, 107, 49, 211, 40, 225, 189, 120, 111, 222, 240, 157, 116, 243, 128, 253, 205, 33, 18, 236, 163, 214, 98, 247, 55, 136, 102, 23, 82, 43, 177, 13, 169, 141, 89, 63, 8, 228, 151, 132, 72, 76, 218, 186, 125, 192, 200, 148, 197, 95, 174, 7, 150, 71, 217, 124, 199, 196, 173, 162, 97, 54, 101, 81, 176, 168, 88, 39, 188, 110, 239, 115, 127, 204, 17, 69, 194, 52, 166, 108, 202, 50, 48, 212, 134, 41, 139, 226, 74, 190, 93, 121, 78, 112, 105, 223, 220, 241, 31, 158, 65, 117, 250, 244, 10, 129, 145, 254, 230, 206, 58, 34, 153, 19, 182, 237, 15, 164, 46, 215, 171, 99, 86, 248, 143, 56, 180, 137, 91, 103, 29, 24, 25, 83, 26, 44, 84, 178, 27, 14, 45, 170, 85, 142, 179, 90, 28, 64, 249, 9, 144, 229, 57, 152, 181, 133, 138, 73, 92, 77, 104, 219, 30, 187, 238, 126, 16, 193, 165, 201, 47, 149, 216, 198, 172, 96, 100, 175, 87]
def P4 : List Int := [1, 2, 4, 8, 9, 11, 15, 7, 14, 5, 10, 13, 3, 6, 12]
def P8 : List Int := [1, 2, 4, 8, 16, 32, 64, 128, 113, 226, 181, 27, 54, 108, 216, 193, 243, 151, 95, 190, 13, 26, 52, 104, 208, 209, 211, 215, 223, 207, 239, 175, 47, 94, 188, 9, 18, 36, 72, 144, 81, 162, 53, 106, 212, 217, 195, 247, 159, 79, 158, 77, 154, 69, 138, 101, 202, 229, 187, 7, 14, 28, 56, 112, 224, 177, 19, 38, 76, 152, 65, 130, 117, 234, 165, 59, 118, 236, 169, 35, 70, 140, 105, 210, 213, 219, 199, 255, 143, 111, 222, 205, 235, 167, 63, 126, 252, 137, 99, 198, 253, 139, 103, 206, 237, 171, 39, 78, 156, 73, 146, 85, 170, 37, 74, 148, 89, 178, 21, 42, 84, 168, 33, 66, 132, 121, 242, 149, 91, 182, 29, 58, 116, 232, 161, 51, 102, 204, 233, 163, 55, 110, 220, 201, 227, 183, 31, 62, 124, 248, 129, 115, 230, 189, 11, 22, 44, 88, 176, 17, 34, 68, 136, 97, 194, 245, 155, 71, 142, 109, 218, 197, 251, 135, 127, 254, 141, 107, 214, 221, 203, 231, 191, 15, 30, 60, 120, 240, 145, 83, 166, 61, 122, 244, 153, 67, 134, 125, 250, 133, 123, 246, 157, 75, 150, 93, 186, 5, 10, 20, 40, 80, 160, 49, 98, 196, 249, 131, 119, 238, 173, 43, 86, 172, 41, 82, 164, 57, 114, 228, 185, 3, 6, 12, 24, 48, 96, 192, 241, 147, 87, 174, 45, 90, 180, 25, 50, 100, 200, 225, 179, 23, 46, 92, 184]
def tabE (b : Nat) : List Int := cond (Nat.beq b 4) E4 E8
def tabP (b : Nat) : List Int := cond (Nat.beq b 4) P4 P8
theorem lgpw' {b i : Nat} (hb : Wd b) (h : i < turn b) : lg b (pw b i) = i := by
  have q : ((List.range (turn b)).all fun i => Nat.beq (lg b (pw b i)) i) = true := by rcases hb with rfl | rfl <;> decide +kernel
  exact Nat.eq_of_beq_eq_true (List.all_eq_true.mp q i (List.mem_range.mpr h))
def goodE (b : Nat) (x : Nat) : Bool := match (tabE b)[x]? with
  | some (Int.ofNat e) => Nat.beq x 0 || (Nat.blt e (turn b) && Nat.beq (pw b e) x)
  | _ => false
theorem goodE_all {b : Nat} (hb : Wd b) : ((List.range (span b)).all (goodE b)) = true := by rcases hb with rfl | rfl <;> decide +kernel
theorem tabE_at {b x : Nat} (hb : Wd b) (hx : x < span b) (h0 : x ≠ 0) : (tabE b)[x]? = some (lg b x : Int) := by
  have h := List.all_eq_true.mp (goodE_all hb) x (List.mem_range.mpr hx)
  unfold goodE at h
  split at h
  · next e he =>
    rcases (Bool.or_eq_true _ _).mp h with z | z
    · exact absurd (Nat.eq_of_beq_eq_true z) h0
    · rw [Bool.and_eq_true] at z
      have h1 : e < turn b := by
        have := z.1
        rw [Nat.blt_eq] at this
        exact this
      have h2 := Nat.eq_of_beq_eq_true z.2
      rw [he, ← h2, lgpw' hb h1]
      rfl
  · cases h
theorem tabE_len {b : Nat} (hb : Wd b) : (tabE b).length = span b := by rcases hb with rfl | rfl <;> decide +kernel
theorem tabP_is {b : Nat} (hb : Wd b) : tabP b = (pws b).map (fun n : Nat => (n : Int)) := by rcases hb with rfl | rfl <;> decide +kernel
theorem tabP_len {b : Nat} (hb : Wd b) : (tabP b).length = turn b := by rw [tabP_is hb, List.length_map, pws_len]
theorem tabP_at {b i : Nat} (hb : Wd b) (h : i < turn b) : (tabP b)[i]? = some (pw b i : Int) := by
  rw [tabP_is hb, List.getElem?_map, pws_at h]
  rfl
end My

set_option Elab.async false
set_option linter.all false
set_option maxRecDepth 100000
set_option maxHeartbeats 4000000
/-! ### polynomials over the field -/
namespace My
theorem span_eq' {b : Nat} (hb : Wd b) : span b = turn b + 1 := by rcases hb with rfl | rfl <;> rfl
theorem turn_pos {b : Nat} (hb : Wd b) : 0 < turn b := by rcases hb with rfl | rfl <;> decide
/-- the quotient: the word whose product with y is x -/
def quo (b x y : Nat) : Nat := mul b x (pw b (lg b y * (turn b - 1)))
theorem quo_mul {b x y : Nat} (hb : Wd b) (hx : x < span b) (hy : y < span b) (h1 : y ≠ 0) : quo b (mul b x y) y = x := by
  unfold quo
  by_cases h0 : x = 0
  · subst h0
    have e : mul b 0 y = 0 := zero_mulF hb _ _
    rw [e]
    exact zero_mulF hb _ _
  · have ex := pw_lg hb hx h0
    have ey := pw_lg hb hy h1
    have e : mul b x y = pw b (lg b x + lg b y) := by rw [← pw_mul hb, ex, ey]
    rw [e, pw_mul hb]
    have h := pw_add_mul hb (lg b x) (lg b y)
    have e2 : lg b x + lg b y + lg b y * (turn b - 1) = lg b x + lg b y * turn b := by
      have ht := turn_pos hb
      have : lg b y * turn b = lg b y * (turn b - 1) + lg b y := by
        rw [← Nat.mul_succ]
        rw [show (turn b - 1).succ = turn b by omega]
      omega
    rw [e2, h, ex]
theorem mul_quo {b x y : Nat} (hb : Wd b) (hx : x < span b) (hy : y < span b) (h1 : y ≠ 0) : mul b (quo b x y) y = x := by
  unfold quo
  by_cases h0 : x = 0
  · subst h0
    have e : mul b 0 (pw b (lg b y * (turn b - 1))) = 0 := zero_mulF hb _ _
    rw [e]
    exact zero_mulF hb _ _
  · have ex := pw_lg hb hx h0
    have ey := pw_lg hb hy h1
    have e : mul b x (pw b (lg b y * (turn b - 1))) = pw b (lg b x + lg b y * (turn b - 1)) := by rw [← pw_mul hb, ex]
    have e3 : mul b (pw b (lg b x + lg b y * (turn b - 1))) y = pw b (lg b x + lg b y * (turn b - 1) + lg b y) := by
      rw [← pw_mul hb _ (lg b x + lg b y * (turn b - 1)), ey]
    rw [e, e3]
    have h := pw_add_mul hb (lg b x) (lg b y)
    have e2 : lg b x + lg b y * (turn b - 1) + lg b y = lg b x + lg b y * turn b := by
      have ht := turn_pos hb
      have : lg b y * turn b = lg b y * (turn b - 1) + lg b y := by
        rw [← Nat.mul_succ]
        rw [show (turn b - 1).succ = turn b by omega]
      omega
    rw [e2, h, ex]
theorem mul_zero {b x : Nat} : mul b x 0 = 0 := mulF_zero 0 _ _
theorem zero_mul {b y : Nat} (hb : Wd b) : mul b 0 y = 0 := zero_mulF hb _ _
theorem span_pos {b : Nat} (hb : Wd b) : 1 < span b := by rcases hb with rfl | rfl <;> decide
theorem mul_one {b x : Nat} (hb : Wd b) (hx : x < span b) : mul b x 1 = x := by
  rw [mul_comm hb hx (span_pos hb)]
  exact one_mul hb hx
theorem mul_xor_l {b x z y : Nat} (hb : Wd b) (hx : x < span b) (hz : z < span b) : mul b (x ^^^ z) y = mul b x y ^^^ mul b z y := mulF_lin hb _ _ _ _ hx hz
theorem mul_xor_r {b x z y : Nat} (hb : Wd b) (hx : x < span b) (hz : z < span b) (hy : y < span b) : mul b y (x ^^^ z) = mul b y x ^^^ mul b y z := by
  rw [mul_comm hb hy (xor_lt hb hx hz), mul_xor_l hb hx hz, mul_comm hb hx hy, mul_comm hb hz hy]
theorem mul_assoc {b x y z : Nat} (hb : Wd b) (hx : x < span b) (hy : y < span b) (hz : z < span b) : mul b (mul b x y) z = mul b x (mul b y z) := by
  by_cases h1 : x = 0
  · subst h1
    rw [zero_mul hb, zero_mul hb, zero_mul hb]
  · by_cases h2 : y = 0
    · subst h2
      rw [mul_zero, zero_mul hb, mul_zero]
    · by_cases h3 : z = 0
      · subst h3
        rw [mul_zero, mul_zero, mul_zero]
      · rw [← pw_lg hb hx h1, ← pw_lg hb hy h2, ← pw_lg hb hz h3, pw_mul hb, pw_mul hb, pw_mul hb, pw_mul hb, Nat.add_assoc]
/-- a row of words of so many bits -/
def Ws (b : Nat) (ws : List Nat) : Prop := ∀ w ∈ ws, w < span b
def evF (b t : Nat) (acc : Nat) (ws : List Nat) : Nat := ws.foldl (fun acc w => mul b acc t ^^^ w) acc
def evl (b t : Nat) (ws : List Nat) : Nat := evF b t 0 ws
def powT (b t : Nat) : Nat → Nat
  | 0 => 1
  | n + 1 => mul b (powT b t n) t
theorem powT_lt {b t : Nat} (hb : Wd b) : ∀ n, powT b t n < span b
  | 0 => span_pos hb
  | n + 1 => mul_lt hb (powT_lt hb n)
theorem evF_lt {b t : Nat} (hb : Wd b) : ∀ (ws : List Nat) (acc : Nat), acc < span b → Ws b ws → evF b t acc ws < span b
  | [], _, h, _ => h
  | w :: r, acc, h, hw => evF_lt hb r _ (xor_lt hb (mul_lt hb h) (hw w (List.mem_cons_self ..))) fun x hx => hw x (List.mem_cons_of_mem _ hx)
theorem evl_lt {b t : Nat} {ws : List Nat} (hb : Wd b) (h : Ws b ws) : evl b t ws < span b := evF_lt hb ws 0 (by have := span_pos hb; omega) h
theorem evF_xor {b t : Nat} (hb : Wd b) (ht : t < span b) : ∀ (ws : List Nat) (acc : Nat), acc < span b → Ws b ws → evF b t acc ws = mul b acc (powT b t ws.length) ^^^ evl b t ws
  | [], acc, h, _ => by
    show acc = mul b acc 1 ^^^ 0
    rw [mul_one hb h, Nat.xor_zero]
  | w :: r, acc, h, hw => by
    have hr : Ws b r := fun x hx => hw x (List.mem_cons_of_mem _ hx)
    have hw0 := hw w (List.mem_cons_self ..)
    have hz : (0 : Nat) < span b := by have := span_pos hb; omega
    show evF b t (mul b acc t ^^^ w) r = mul b acc (mul b (powT b t r.length) t) ^^^ evF b t (mul b 0 t ^^^ w) r
    rw [evF_xor hb ht r _ (xor_lt hb (mul_lt hb h) hw0) hr, evF_xor hb ht r _ (xor_lt hb (mul_lt hb hz) hw0) hr, zero_mul hb, Nat.zero_xor, mul_xor_l hb (mul_lt hb h) hw0,
      mul_assoc hb h ht (powT_lt hb _), mul_comm hb ht (powT_lt hb _), Nat.xor_assoc]
theorem evl_cons {b t w : Nat} {r : List Nat} (hb : Wd b) (ht : t < span b) (hw : w < span b) (hr : Ws b r) : evl b t (w :: r) = mul b w (powT b t r.length) ^^^ evl b t r := by
  show evF b t (mul b 0 t ^^^ w) r = _
  rw [zero_mul hb, Nat.zero_xor]
  exact evF_xor hb ht r w hw hr
theorem evl_snoc {b t w : Nat} {r : List Nat} : evl b t (r ++ [w]) = mul b (evl b t r) t ^^^ w := by
  show (r ++ [w]).foldl _ 0 = _
  rw [List.foldl_append]
  rfl
theorem evl_zeros {b t : Nat} (hb : Wd b) : ∀ n, evl b t (List.replicate n 0) = 0
  | 0 => rfl
  | n + 1 => by
    rw [List.replicate_succ', evl_snoc, evl_zeros hb n, zero_mul hb]
    rfl
theorem evl_pad {b t : Nat} (hb : Wd b) (n : Nat) (ws : List Nat) : evl b t (List.replicate n 0 ++ ws) = evl b t ws := by
  show (List.replicate n 0 ++ ws).foldl _ 0 = _
  rw [List.foldl_append]
  have h := evl_zeros (t := t) hb n
  unfold evl evF at h
  rw [h]
  rfl
/-- sums, word by word, by the places below n -/
def xsum (n : Nat) (f : Nat → Nat) : Nat := (List.range n).foldl (fun acc i => acc ^^^ f i) 0
theorem xsum_succ (n : Nat) (f : Nat → Nat) : xsum (n + 1) f = xsum n f ^^^ f n := by
  unfold xsum
  rw [List.range_succ, List.foldl_append]
  rfl
theorem xsum_congr {n : Nat} {f g : Nat → Nat} (h : ∀ i, i < n → f i = g i) : xsum n f = xsum n g := by
  induction n with
  | zero => rfl
  | succ n ih => rw [xsum_succ, xsum_succ, ih fun i hi => h i (by omega), h n (by omega)]
theorem xsum_lt {b n : Nat} {f : Nat → Nat} (hb : Wd b) (h : ∀ i, i < n → f i < span b) : xsum n f < span b := by
  induction n with
  | zero => have := span_pos hb; show 0 < span b; omega
  | succ n ih =>
    rw [xsum_succ]
    exact xor_lt hb (ih fun i hi => h i (by omega)) (h n (by omega))
/-- the i-th word times the (k - i)-th word of the other -/
def term (b : Nat) (f g : Nat → Nat) (k i : Nat) : Nat := if i ≤ k then mul b (f i) (g (k - i)) else 0
def gd (ws : List Nat) (i : Nat) : Nat := ws.getD i 0
theorem gd_lt {b : Nat} {ws : List Nat} (hb : Wd b) (h : Ws b ws) (i : Nat) : gd ws i < span b := by
  unfold gd
  by_cases hi : i < ws.length
  · rw [List.getD_eq_getElem?_getD, List.getElem?_eq_getElem hi]
    exact h _ (List.getElem_mem hi)
  · rw [List.getD_eq_getElem?_getD, List.getElem?_eq_none (by omega)]
    have := span_pos hb
    show 0 < span b
    omega
theorem gd_out {ws : List Nat} {i : Nat} (h : ws.length ≤ i) : gd ws i = 0 := by
  unfold gd
  rw [List.getD_eq_getElem?_getD, List.getElem?_eq_none h]
  rfl
theorem gd_in {ws : List Nat} {i : Nat} (h : i < ws.length) : ws[i]? = some (gd ws i) := by
  unfold gd
  rw [List.getD_eq_getElem?_getD, List.getElem?_eq_getElem h]
  rfl
theorem gd_list (ws : List Nat) : (List.range ws.length).map (gd ws) = ws := by
  refine List.ext_getElem? fun i => ?_
  by_cases h : i < ws.length
  · rw [gd_in h]
    simp [h]
  · rw [List.getElem?_eq_none (by simp; omega), List.getElem?_eq_none (by omega)]
def cf (b : Nat) (xs ys : List Nat) (k : Nat) : Nat := xsum xs.length (term b (gd xs) (gd ys) k)
/-- the product -/
def conv (b : Nat) (xs ys : List Nat) : List Nat := if xs = [] ∨ ys = [] then [] else (List.range (xs.length + ys.length - 1)).map (cf b xs ys)
theorem term_lt {b : Nat} {f g : Nat → Nat} {k i : Nat} (hb : Wd b) (h : f i < span b) : term b f g k i < span b := by
  unfold term
  split
  · exact mul_lt hb h
  · have := span_pos hb; omega
theorem cf_lt {b k : Nat} {xs ys : List Nat} (hb : Wd b) (hx : Ws b xs) : cf b xs ys k < span b := xsum_lt hb fun i _ => term_lt hb (gd_lt hb hx i)
theorem conv_ws {b : Nat} {xs ys : List Nat} (hb : Wd b) (hx : Ws b xs) : Ws b (conv b xs ys) := by
  intro w hw
  unfold conv at hw
  split at hw
  · cases hw
  · obtain ⟨k, _, rfl⟩ := List.mem_map.mp hw
    exact cf_lt hb hx
/-- sums of two rows of one length -/
def zx (xs ys : List Nat) : List Nat := (List.range xs.length).map fun k => gd xs k ^^^ gd ys k
theorem evl_fn {b t : Nat} (hb : Wd b) (ht : t < span b) (f g : Nat → Nat) (hf : ∀ i, f i < span b) (hg : ∀ i, g i < span b) : ∀ n, evl b t ((List.range n).map fun k => f k ^^^ g k) = evl b t ((List.range n).map f) ^^^ evl b t ((List.range n).map g)
  | 0 => by
    show (0 : Nat) = 0 ^^^ 0
    rfl
  | n + 1 => by
    have w1 : Ws b ((List.range n).map f) := fun w hw => by obtain ⟨k, _, rfl⟩ := List.mem_map.mp hw; exact hf k
    have w2 : Ws b ((List.range n).map g) := fun w hw => by obtain ⟨k, _, rfl⟩ := List.mem_map.mp hw; exact hg k
    rw [List.range_succ, List.map_append, List.map_append, List.map_append]
    show evl b t (_ ++ [f n ^^^ g n]) = evl b t (_ ++ [_]) ^^^ evl b t (_ ++ [_])
    rw [evl_snoc, evl_snoc, evl_snoc, evl_fn hb ht f g hf hg n, mul_xor_l hb (evl_lt hb w1) (evl_lt hb w2)]
    generalize mul b (evl b t (List.map f (List.range n))) t = u
    generalize mul b (evl b t (List.map g (List.range n))) t = v
    generalize f n = c
    generalize g n = d
    ac_rfl
theorem evl_scale {b t x : Nat} (hb : Wd b) (ht : t < span b) (hx : x < span b) (g : Nat → Nat) (hg : ∀ i, g i < span b) : ∀ n, evl b t ((List.range n).map fun k => mul b x (g k)) = mul b x (evl b t ((List.range n).map g))
  | 0 => mul_zero.symm
  | n + 1 => by
    have w2 : Ws b ((List.range n).map g) := fun w hw => by obtain ⟨k, _, rfl⟩ := List.mem_map.mp hw; exact hg k
    rw [List.range_succ, List.map_append, List.map_append]
    show evl b t (_ ++ [_]) = mul b x (evl b t (_ ++ [_]))
    rw [evl_snoc, evl_snoc, evl_scale hb ht hx g hg n, mul_xor_r hb (mul_lt hb (evl_lt hb w2)) (hg n) hx, mul_assoc hb hx (evl_lt hb w2) ht]
/-- the value of a product -/
theorem evl_sum {b t : Nat} (hb : Wd b) (ht : t < span b) (f g : Nat → Nat) (hf : ∀ i, f i < span b) (hg : ∀ i, g i < span b) (m : Nat) (hm : 0 < m) (hout : ∀ i, m ≤ i → g i = 0) :
    ∀ n, evl b t ((List.range (n + m - 1)).map fun k => xsum n (term b f g k)) = mul b (evl b t ((List.range n).map f)) (evl b t ((List.range m).map g))
  | 0 => by
    show evl b t ((List.range (0 + m - 1)).map fun k => 0) = mul b 0 _
    rw [zero_mul hb]
    have e : (List.range (0 + m - 1)).map (fun _ => 0) = List.replicate (0 + m - 1) 0 := by
      rw [List.map_const', List.length_range]
    rw [e, evl_zeros hb]
  | n + 1 => by
    have ih := evl_sum hb ht f g hf hg m hm hout n
    have w1 : Ws b ((List.range n).map f) := fun w hw => by obtain ⟨k, _, rfl⟩ := List.mem_map.mp hw; exact hf k
    have w2 : Ws b ((List.range m).map g) := fun w hw => by obtain ⟨k, _, rfl⟩ := List.mem_map.mp hw; exact hg k
    have e1 : (List.range (n + 1 + m - 1)).map (fun k => xsum (n + 1) (term b f g k)) = (List.range (n + 1 + m - 1)).map fun k => xsum n (term b f g k) ^^^ term b f g k n := by
      refine List.map_congr_left fun k _ => xsum_succ _ _
    have t1 : ∀ k, xsum n (term b f g k) < span b := fun k => xsum_lt hb fun i _ => term_lt hb (hf i)
    rw [e1, evl_fn hb ht _ _ t1 (fun k => term_lt hb (hf n))]
    have e2 : evl b t ((List.range (n + 1 + m - 1)).map fun k => xsum n (term b f g k)) = mul b (mul b (evl b t ((List.range n).map f)) (evl b t ((List.range m).map g))) t := by
      rw [show n + 1 + m - 1 = (n + m - 1) + 1 by omega, List.range_succ, List.map_append]
      show evl b t (_ ++ [_]) = _
      rw [evl_snoc, ih]
      show _ ^^^ xsum n (term b f g (n + m - 1)) = _
      have z : xsum n (term b f g (n + m - 1)) = 0 := by
        have : xsum n (term b f g (n + m - 1)) = xsum n fun _ => 0 := by
          refine xsum_congr fun i hi => ?_
          unfold term
          rw [if_pos (by omega), hout _ (by omega), mul_zero]
        rw [this]
        clear this ih e1 w1 t1
        induction n with
        | zero => rfl
        | succ n ih => rw [xsum_succ, ih]; rfl
      rw [z, Nat.xor_zero]
    have e3 : evl b t ((List.range (n + 1 + m - 1)).map fun k => term b f g k n) = mul b (f n) (evl b t ((List.range m).map g)) := by
      rw [show n + 1 + m - 1 = n + m by omega, List.range_add, List.map_append]
      have z : (List.range n).map (fun k => term b f g k n) = List.replicate n 0 := by
        refine List.ext_getElem? fun i => ?_
        by_cases h : i < n
        · simp [h, term]
          omega
        · rw [List.getElem?_eq_none (by simp; omega), List.getElem?_eq_none (by simp; omega)]
      rw [z, evl_pad hb, List.map_map]
      have z2 : (List.range m).map ((fun k => term b f g k n) ∘ (n + ·)) = (List.range m).map fun k => mul b (f n) (g k) := by
        refine List.map_congr_left fun k _ => ?_
        show term b f g (n + k) n = _
        unfold term
        rw [if_pos (by omega), show n + k - n = k by omega]
      rw [z2, evl_scale hb ht (hf n) g hg]
    rw [e2, e3, List.range_succ, List.map_append]
    show _ = mul b (evl b t (_ ++ [f n])) _
    rw [evl_snoc, mul_xor_l hb (mul_lt hb (evl_lt hb w1)) (hf n)]
    congr 1
    rw [mul_assoc hb (evl_lt hb w1) (evl_lt hb w2) ht, mul_comm hb (evl_lt hb w2) ht, ← mul_assoc hb (evl_lt hb w1) ht (evl_lt hb w2)]
theorem evl_conv {b t : Nat} {xs ys : List Nat} (hb : Wd b) (ht : t < span b) (hx : Ws b xs) (hy : Ws b ys) (h0 : xs ≠ []) (h1 : ys ≠ []) : evl b t (conv b xs ys) = mul b (evl b t xs) (evl b t ys) := by
  have hl : 0 < ys.length := by cases ys with | nil => exact absurd rfl h1 | cons _ _ => simp
  unfold conv
  rw [if_neg (by simp [h0, h1])]
  have h := evl_sum hb ht (gd xs) (gd ys) (gd_lt hb hx) (gd_lt hb hy) ys.length hl (fun i hi => gd_out hi) xs.length
  rw [gd_list, gd_list] at h
  exact h
/-! ### the quotient and the remainder -/
def divStep (b : Nat) (c : Nat → Nat) (m : Nat) (r : Nat → Nat) (s : Nat) : Nat → Nat := fun k => if k = s then quo b (r s) (c 0) else if s < k ∧ k < s + m then r k ^^^ mul b (quo b (r s) (c 0)) (c (k - s)) else r k
def dvN (b : Nat) (c : Nat → Nat) (m : Nat) (w : Nat → Nat) : Nat → Nat → Nat
  | 0 => w
  | s + 1 => divStep b c m (dvN b c m w s) s
theorem quo_lt' {b x y : Nat} (hb : Wd b) (hx : x < span b) : quo b x y < span b := mul_lt hb hx
theorem dvN_lt {b : Nat} {c w : Nat → Nat} {m : Nat} (hb : Wd b) (hw : ∀ k, w k < span b) : ∀ s k, dvN b c m w s k < span b
  | 0, k => hw k
  | s + 1, k => by
    show divStep b c m (dvN b c m w s) s k < span b
    unfold divStep
    have h := dvN_lt (c := c) (m := m) hb hw s
    split
    · exact quo_lt' hb (h s)
    · split
      · exact xor_lt hb (h k) (mul_lt hb (quo_lt' hb (h s)))
      · exact h k
theorem dvN_keep {b : Nat} {c w : Nat → Nat} {m : Nat} {i : Nat} : ∀ s j, i < s → dvN b c m w (s + j) i = dvN b c m w s i
  | s, 0, _ => rfl
  | s, j + 1, h => by
    show divStep b c m (dvN b c m w (s + j)) (s + j) i = _
    unfold divStep
    rw [if_neg (by omega), if_neg (by omega)]
    exact dvN_keep s j h
theorem div_spec {b : Nat} {c w : Nat → Nat} {m : Nat} (hb : Wd b) (hw : ∀ k, w k < span b) (hc : ∀ k, c k < span b) (h0 : c 0 ≠ 0) (hout : ∀ k, m ≤ k → c k = 0) :
    ∀ s k, w k = xsum s (term b (dvN b c m w s) c k) ^^^ (if k < s then 0 else dvN b c m w s k)
  | 0, k => by
    show w k = 0 ^^^ w k
    rw [Nat.zero_xor]
  | s + 1, k => by
    have ih := div_spec hb hw hc h0 hout s k
    have e1 : xsum s (term b (dvN b c m w (s + 1)) c k) = xsum s (term b (dvN b c m w s) c k) := by
      refine xsum_congr fun i hi => ?_
      unfold term
      rw [dvN_keep s 1 hi]
    rw [xsum_succ, e1]
    have hr := dvN_lt (c := c) (m := m) hb hw s
    have eq : dvN b c m w (s + 1) s = quo b (dvN b c m w s s) (c 0) := by
      show divStep b c m (dvN b c m w s) s s = _
      unfold divStep
      rw [if_pos rfl]
    by_cases h1 : k < s
    · rw [if_pos h1, Nat.xor_zero] at ih
      rw [if_pos (by omega), Nat.xor_zero, ← ih]
      unfold term
      rw [if_neg (by omega), Nat.xor_zero]
    · rw [if_neg h1] at ih
      by_cases h2 : k = s
      · subst h2
        rw [if_pos (by omega), Nat.xor_zero, ih]
        unfold term
        rw [if_pos (Nat.le_refl _), eq, Nat.sub_self, mul_quo hb (hr _) (hc 0) h0]
      · rw [if_neg (by omega), ih]
        have et : term b (dvN b c m w (s + 1)) c k s = mul b (quo b (dvN b c m w s s) (c 0)) (c (k - s)) := by
          unfold term
          rw [if_pos (by omega), eq]
        have ed : dvN b c m w (s + 1) k = dvN b c m w s k ^^^ mul b (quo b (dvN b c m w s s) (c 0)) (c (k - s)) := by
          show divStep b c m (dvN b c m w s) s k = _
          unfold divStep
          rw [if_neg h2]
          by_cases h3 : k < s + m
          · rw [if_pos ⟨by omega, h3⟩]
          · rw [if_neg (by omega), hout (k - s) (by omega), mul_zero, Nat.xor_zero]
        rw [et, ed]
        generalize xsum s (term b (dvN b c m w s) c k) = u
        generalize dvN b c m w s k = v
        generalize mul b (quo b (dvN b c m w s s) (c 0)) (c (k - s)) = z
        rw [Nat.xor_assoc, ← Nat.xor_assoc z v z, Nat.xor_comm z v, Nat.xor_assoc v z z, Nat.xor_self, Nat.xor_zero]
/-- quotient and remainder, as lists -/
def steps (ws os : List Nat) : Nat := ws.length + 1 - os.length
def quoL (b : Nat) (ws os : List Nat) : List Nat := (List.range (steps ws os)).map (dvN b (gd os) os.length (gd ws) (steps ws os))
def remL (b : Nat) (ws os : List Nat) : List Nat := (List.range (ws.length - steps ws os)).map fun j => dvN b (gd os) os.length (gd ws) (steps ws os) (steps ws os + j)
/-- what lies behind the law's sum: other * quotient and the remainder, padded -/
def pad (n : Nat) (ws : List Nat) : List Nat := List.replicate n 0 ++ ws
theorem gd_pad {n k : Nat} {ws : List Nat} : gd (pad n ws) k = if k < n then 0 else gd ws (k - n) := by
  unfold gd pad
  rw [List.getD_eq_getElem?_getD, List.getD_eq_getElem?_getD, List.getElem?_append]
  by_cases h : k < n
  · simp [h]
  · simp [h]
theorem gd_map {n k : Nat} {f : Nat → Nat} : gd ((List.range n).map f) k = if k < n then f k else 0 := by
  unfold gd
  rw [List.getD_eq_getElem?_getD]
  by_cases h : k < n
  · simp [h]
  · simp [h]
theorem div_lists {b : Nat} {ws os : List Nat} (hb : Wd b) (hw : Ws b ws) (ho : Ws b os) (h0 : gd os 0 ≠ 0) (hl : os.length ≤ ws.length) (hp : 0 < os.length) :
    (List.range ws.length).map (fun k => gd (conv b (quoL b ws os) os) k ^^^ gd (pad (steps ws os) (remL b ws os)) k) = ws := by
  have hs : 0 < steps ws os := by unfold steps; omega
  have hs2 : steps ws os + os.length - 1 = ws.length := by unfold steps; omega
  have hq : quoL b ws os ≠ [] := by
    intro z
    have := congrArg List.length z
    unfold quoL at this
    simp at this
    omega
  have hon : os ≠ [] := by intro z; rw [z] at hp; simp at hp
  have hql : (quoL b ws os).length = steps ws os := by unfold quoL; simp
  refine Eq.trans (List.map_congr_left fun k hk => ?_) (gd_list ws)
  have hk' : k < ws.length := List.mem_range.mp hk
  have spec := div_spec (c := gd os) (w := gd ws) (m := os.length) hb (gd_lt hb hw) (gd_lt hb ho) h0 (fun i hi => gd_out hi) (steps ws os) k
  refine Eq.trans ?_ spec.symm
  have e1 : gd (conv b (quoL b ws os) os) k = xsum (steps ws os) (term b (dvN b (gd os) os.length (gd ws) (steps ws os)) (gd os) k) := by
    unfold conv
    rw [if_neg (by simp [hq, hon]), gd_map, hql, if_pos (by omega)]
    unfold cf
    rw [hql]
    refine xsum_congr fun i hi => ?_
    unfold term
    have : gd (quoL b ws os) i = dvN b (gd os) os.length (gd ws) (steps ws os) i := by
      unfold quoL
      rw [gd_map, if_pos hi]
    rw [this]
  have e2 : gd (pad (steps ws os) (remL b ws os)) k = if k < steps ws os then 0 else dvN b (gd os) os.length (gd ws) (steps ws os) k := by
    rw [gd_pad]
    by_cases h : k < steps ws os
    · rw [if_pos h, if_pos h]
    · rw [if_neg h, if_neg h]
      unfold remL
      rw [gd_map, if_pos (by omega), show steps ws os + (k - steps ws os) = k by omega]
  rw [e1, e2]
end My

set_option Elab.async false
set_option linter.all false
set_option maxRecDepth 100000
set_option maxHeartbeats 4000000
/-! ### f(k = v, ..) without positional arguments -/
namespace My
open PySem PySem.Spec PyProof.Rows L2
def tCallZ (m : Nat) (sp : Sp) (gV : List V → List V) (E : XK) (tk : TA) : TE := fun σ H Q => tk σ H fun zs H2 => zs.length = m ∧ sp (gV zs) H2 Q E
section
variable {X : Cx} {CX : CXT} {k : Nat} {f : Addr} {fd : FuncData} {ps ks : List Str} {sp : Sp} {E : XK} {x : Str} {p pos : Pos} {kws : List Keyword} {tk : TA} {g : List Value → List Value} {gV : List V → List V}
theorem pe_callZ (F : FnOk X.prog X.w X.K X.mg X.base CX k f fd ps sp) (hr : Room k X.A) (hg : Gl X x) (hm : X.mg x = some (.ref f)) (hk : PySem.W.keepIn X.K (.ref f) = true) (hb : KBn X.K fd ps 0 ks (fun _ ws => g ws) (fun _ zs => gV zs)) (hx : Passes CX X E)
    (hkw : PK X kws tk) (hall : (backToKw pos (keywordEach kws X.env)).all (·.1.isSome) = true := by rfl) (hks : (backToKw pos (keywordEach kws X.env)).filterMap (·.1) = ks := by rfl)
    (hdb : (x == ("__debug__" : Str)) = false := by decide)
    (hpl : ((backTo pos (starEach [] X.env)).any (·.1) || (backToKw pos (keywordEach kws X.env)).any (·.1.isNone)) = false := by rfl) :
    PE X (.Call (.Name x p) [] kws pos) (tCallZ ks.length sp gV E tk) := by
  refine ⟨fun pins s σ H Q I h => ?_⟩
  refine wpAny_Call_Name_kw (ld_glob I hg hm ?_ hdb)
  refine PySem.W.callWith_KW0 (h₀ := X.base) I.ok.mod.kin hk hall (thn (hkw.run pos pins s σ H _ I h) fun ws s2 ⟨zs, H2, I2, rz, l2, q2⟩ => ⟨I2.kIn, ?_⟩) hpl
  rw [hks]
  exact run_fnN (us := []) (vs := []) F hr hb hx I2 .nil rz rfl l2 q2
end
theorem kb0 {K : PySem.W.Frag} {x qual : Str} {st : Stmt} {f : Addr} {fd : FuncData} {ps ks : List Str} (F : Fun K x qual st f fd) (g : {α : Type} → List α → List α)
    (hrel : ∀ {zs : List V} {ws : List Value}, Vals zs ws → Vals (g zs) (g ws))
    (h : ∀ (kV doc pm : Value) (an : Option Addr) (cdv ct : Value) (ws : List Value), ws.length = ks.length → bindArgs (PySem.W.fnOf x qual (defArgs st) (defBody st) (defScope st) .none kV doc pm an cdv ct) ⟨[], ks.zip ws⟩ = pure (ps.zip (g ws))) :
    KBn K fd ps 0 ks (fun _ ws => g ws) (fun _ zs => g zs) := by
  obtain ⟨oc, od, kV, doc, pm, an, cdv, ct, osl, rfl, lk, hcd⟩ := F.ex
  refine ⟨fun s us ws X l1 l2 => ?_, fun _ r2 => hrel r2⟩
  have e : us = [] := List.length_eq_zero_iff.mp l1
  subst e
  exact .of_eq (h kV doc pm an cdv ct ws l2)
/-- three values the other way round -/
def rev3 {α : Type} : List α → List α
  | [a, b, c] => [c, b, a]
  | l => l
theorem rev3_rel {zs : List V} {ws : List Value} (r : Vals zs ws) : Vals (rev3 zs) (rev3 ws) := by
  cases r with
  | nil => exact .nil
  | cons r1 r =>
    cases r with
    | nil => exact .cons r1 .nil
    | cons r2 r =>
      cases r with
      | nil => exact .cons r1 (.cons r2 .nil)
      | cons r3 r =>
        cases r with
        | nil => exact .cons r3 (.cons r2 (.cons r1 .nil))
        | cons r4 r => exact .cons r1 (.cons r2 (.cons r3 (.cons r4 r)))
end My

set_option Elab.async false
set_option linter.all false
set_option maxRecDepth 100000
set_option maxHeartbeats 4000000
/-! ### lists of words, compared -/
namespace My
open PySem PySem.Spec PyProof.Rows L2
theorem same_upd {H : Hp} {p : Addr} {o : HO} (h : H p = none) : Same H (upd H p o) := fun b x e => by
  rw [upd_ne (ne_of_none e h)]
  exact e
/-- a word as a value -/
def vN (n : Nat) : V := .int (n : Int)
def dI (n : Nat) : PyData := .int (n : Int)
def dN (ws : List Nat) : PyData := .list (ws.map dI)
theorem lay_all : ∀ ws : List Nat, PyData.canLayAll0 (ws.map dI) = true
  | [] => rfl
  | w :: r => by
    show (PyData.canLay0 (dI w) && PyData.canLayAll0 (r.map dI)) = true
    rw [lay_all r]
    rfl
theorem depth_all : ∀ ws : List Nat, PyData.depthAll (ws.map dI) = 0
  | [] => rfl
  | w :: r => by
    show max (PyData.depth (dI w)) (PyData.depthAll (r.map dI)) = 0
    rw [depth_all r]
    rfl
theorem dN_lay (ws : List Nat) : (dN ws).canLay0 = true := lay_all ws
theorem dN_depth (ws : List Nat) : (dN ws).depth = 1 := by
  show PyData.depthAll (ws.map dI) + 1 = 1
  rw [depth_all]
theorem dN_shaped (ws : List Nat) : SeqAt.shaped (dN ws) = true := by
  unfold SeqAt.shaped
  rw [dN_lay, dN_depth]
  rfl
theorem eqv_all : ∀ xs ys : List Nat, PyData.eqvAll (xs.map dI) (ys.map dI) = decide (xs = ys)
  | [], [] => rfl
  | [], _ :: _ => by simp [PyData.eqvAll]
  | _ :: _, [] => by simp [PyData.eqvAll]
  | x :: r, y :: t => by
    show (PyData.eqv (dI x) (dI y) && PyData.eqvAll (r.map dI) (t.map dI)) = decide (x :: r = y :: t)
    rw [eqv_all r t]
    have e : PyData.eqv (dI x) (dI y) = decide (x = y) := by
      show ((x : Int) == (y : Int)) = decide (x = y)
      by_cases h : x = y
      · subst h; simp
      · simp [h]
        omega
    rw [e]
    by_cases h : x = y
    · by_cases h2 : r = t
      · simp [h, h2]
      · simp [h, h2]
    · simp [h]
theorem dN_eqv (xs ys : List Nat) : PyData.eqv (dN xs) (dN ys) = decide (xs = ys) := eqv_all xs ys
theorem dp_all {K : PySem.W.Frag} {H : Hp} : ∀ ws : List Nat, DpAll K H (ws.map vN) (ws.map dI)
  | [] => .nil
  | w :: r => .cons (.int _) (dp_all r)
theorem dN_dp {K : PySem.W.Frag} {H : Hp} {a : Addr} {ws : List Nat} (h : SqL K H a (ws.map vN)) : Dp K H (.ref a) (dN ws) := .lst h (dp_all ws)
end My

set_option Elab.async false
set_option linter.all false
set_option maxRecDepth 100000
set_option maxHeartbeats 4000000
/-! ### slices of rows, lists (true) or tuples (false); the powers twice -/
namespace My
open PySem PySem.Spec PyProof.Rows L2
section
variable {X : Cx}
def rSlB (K : PySem.W.Frag) : V → Option Int → Option Int → Hp → VK → Prop := fun x lo hi H Q => ∃ a xs k, x = .ref a ∧ SqB k K H a xs ∧ ∀ p H', Same H H' → SqB k K H' p (cutV xs lo hi) → Q (.ref p) H'
theorem sl_rowB : SlR X (rSlB X.K) := by
  intro pins s σ H x v vl vu lo hi sl Q I rx hs pl pu h
  obtain ⟨a, xs, k, rfl, hx, q⟩ := h
  cases k
  · refine sl_tupA pins s σ H _ v vl vu lo hi sl Q I rx hs pl pu ⟨a, xs, rfl, hx, fun hw => q a H (Same.refl _) ?_, fun _ p hp => q p _ (same_upd hp) (.inl (.inl upd_same))⟩
    have e : cutV xs lo hi = xs := by
      unfold cutV
      rw [hw.1, hw.2]
      simp
    rw [e]
    exact hx
  · exact sl_list pins s σ H _ v vl vu lo hi sl Q I rx hs pl pu ⟨a, xs, rfl, hx, fun p hp => q p _ (same_upd hp) (.inl (.inl upd_same))⟩
end
theorem turn_pos' {b : Nat} (hb : Wd b) : 0 < turn b := by rcases hb with rfl | rfl <;> decide
/-- the powers, twice -/
def PP (b : Nat) : List V := (List.replicate (2 : Int).toNat ((tabP b).map V.int)).flatten
theorem PP_is (b : Nat) : PP b = (tabP b).map V.int ++ (tabP b).map V.int := by
  unfold PP
  show (List.replicate 2 _).flatten = _
  simp [List.replicate]
theorem PP_at {b i : Nat} (hb : Wd b) (h : i < 2 * turn b) : (PP b)[i]? = some (V.int (pw b i : Int)) := by
  have hl : ((tabP b).map V.int).length = turn b := by rw [List.length_map, tabP_len hb]
  rw [PP_is]
  by_cases h1 : i < turn b
  · rw [List.getElem?_append_left (by rw [hl]; exact h1), List.getElem?_map, tabP_at hb h1]
    rfl
  · rw [List.getElem?_append_right (by rw [hl]; omega), hl, List.getElem?_map, tabP_at hb (by omega)]
    have e : pw b i = pw b (i - turn b) := by
      rw [← pw_add_turn hb (i - turn b), show i - turn b + turn b = i by omega]
    rw [e]
    rfl
theorem PP_len {b : Nat} (hb : Wd b) : (PP b).length = 2 * turn b := by
  rw [PP_is, List.length_append, List.length_map, tabP_len hb]
  omega
theorem tabP_small {b : Nat} (hb : Wd b) : ((tabP b).map V.int).length ≤ 1000 ∧ (tabP b).map V.int ≠ [] := by
  have e := tabP_len hb
  have t := turn_pos' hb
  refine ⟨?_, fun z => ?_⟩
  · rw [List.length_map, e]
    rcases hb with rfl | rfl <;> decide
  · have := congrArg List.length z
    rw [List.length_map, e] at this
    simp at this
    omega
theorem sum_at {b x y : Nat} (hb : Wd b) (hx : x < span b) (hy : y < span b) (h0 : x ≠ 0) (h1 : y ≠ 0) : atI (PP b) ((lg b x : Int) + (lg b y : Int)) = some (V.int (mul b x y : Int)) := by
  have l1 := lg_lt hb hx h0
  have l2 := lg_lt hb hy h1
  rw [show (lg b x : Int) + (lg b y : Int) = ((lg b x + lg b y : Nat) : Int) by omega]
  refine atI_nat ?_
  rw [PP_at hb (by omega), ← pw_mul hb, pw_lg hb hx h0, pw_lg hb hy h1]
theorem diff_at {b x y : Nat} (hb : Wd b) (hx : x < span b) (hy : y < span b) (h0 : x ≠ 0) (h1 : y ≠ 0) : atI (PP b) ((lg b x : Int) - (lg b y : Int) + (turn b : Int)) = some (V.int (quo b x y : Int)) := by
  have l1 := lg_lt hb hx h0
  have l2 := lg_lt hb hy h1
  rw [show (lg b x : Int) - (lg b y : Int) + (turn b : Int) = ((lg b x + (turn b - lg b y) : Nat) : Int) by omega]
  refine atI_nat ?_
  rw [PP_at hb (by omega)]
  unfold quo
  have e : pw b (lg b y * (turn b - 1)) = pw b (turn b - lg b y) := by
    have h := pw_add_mul hb (turn b - lg b y) (lg b y)
    have h2 := pw_add_turn hb (lg b y * (turn b - 1))
    have h3 : turn b - lg b y + lg b y * turn b = lg b y * (turn b - 1) + turn b := by
      have h4 : lg b y * turn b = lg b y * (turn b - 1) + lg b y := by
        rw [← Nat.mul_succ]
        rw [show (turn b - 1).succ = turn b by omega]
      omega
    rw [h3] at h
    rw [← h2, h]
  rw [e, ← pw_mul hb, pw_lg hb hx h0]
end My
namespace My
open PySem PySem.Spec PyProof.Rows L2
theorem ix_rowBK {X : Cx} {K : PySem.W.Frag} (h : X.K = K) : IxR X (rIxB K) := by
  subst h
  exact ix_rowB
end My
namespace My
open PySem PySem.Spec PyProof.Rows L2
theorem pe_ifName {X : Cx} {K : PySem.W.Frag} {x : Str} {p : Pos} {a b : Expr} {pos : Pos} {tc ta tb : TE} (h : X.K = K) (hc : PE X (.Name x p) tc) (ha : PE X a ta) (hb : PE X b tb) :
    PE X (.IfExp (.Name x p) a b pos) (tIf (fun σ H Q => tc σ H fun x H' => ∃ k, TruV K x H' k ∧ Q k H') ta tb) := by
  subst h
  exact pe_ifExp (pt_truth hc (fun _ => rfl)) ha hb
end My

set_option Elab.async false
set_option linter.all false
set_option maxRecDepth 100000
set_option maxHeartbeats 4000000
/-! ### check words made one data word after the other -/
namespace My
open PySem PySem.Spec PyProof.Rows L2
def tE (b x : Nat) : Int := ((tabE b)[x]?).getD 0
def pwI (b : Nat) (e : Int) : Nat := pw b (e % (turn b : Int)).toNat
theorem pwI_lt {b : Nat} (hb : Wd b) (e : Int) : pwI b e < span b := pw_lt hb _
theorem pwI_nat {b : Nat} (hb : Wd b) (n : Nat) : pwI b (n : Int) = pw b n := by
  unfold pwI
  rw [pw_mod hb n, ← Int.natCast_emod, Int.toNat_natCast]
theorem pwI_add {b : Nat} (hb : Wd b) (n : Nat) (e : Int) : pwI b ((n : Int) + e) = mul b (pw b n) (pwI b e) := by
  have ht : (0 : Int) < (turn b : Int) := by have := turn_pos hb; omega
  have h0 := Int.emod_nonneg e (by omega : (turn b : Int) ≠ 0)
  unfold pwI
  rw [pw_mul hb, pw_mod hb (n + _)]
  refine congrArg (pw b) ?_
  have h1 : (((n + (e % (turn b : Int)).toNat) % turn b : Nat) : Int) = ((n : Int) + e) % (turn b : Int) := by
    rw [Int.natCast_emod, Int.natCast_add, Int.toNat_of_nonneg h0, Int.add_emod_emod]
  rw [← h1, Int.toNat_natCast]
/-- the exponents of the factor's words -/
def cfE (b s m : Nat) : Nat → Int
  | 0 => 0
  | j + 1 => cfE b s m j + ((s : Int) + (j : Int) + tE b (pw b (m - j) ^^^ 1) - tE b (pw b (j + 1) ^^^ 1))
def cfL (b s m : Nat) : List Nat := (List.range m).map fun j => pwI b (cfE b s m (j + 1))
theorem cfL_len (b s m : Nat) : (cfL b s m).length = m := by unfold cfL; simp
theorem cfL_ws {b s m : Nat} (hb : Wd b) : Ws b (cfL b s m) := fun x hx => by
  unfold cfL at hx
  obtain ⟨k, _, rfl⟩ := List.mem_map.mp hx
  exact pwI_lt hb _
theorem cfE_start (b s m : Nat) : ∀ j, cfE b s m j = ((s * j : Nat) : Int) + cfE b 0 m j
  | 0 => by simp [cfE]
  | j + 1 => by
    unfold cfE
    rw [cfE_start b s m j, Nat.mul_succ]
    generalize s * j = u
    omega
def cfG (b m : Nat) : Nat → Nat → Int → List Nat
  | 0, _, _ => []
  | n + 1, j, e => (fun e' => pwI b e' :: cfG b m n (j + 1) e') (e + (((0 : Nat) : Int) + (j : Int) + tE b (pw b (m - j) ^^^ 1) - tE b (pw b (j + 1) ^^^ 1)))
theorem cfG_is (b m : Nat) : ∀ n j, cfG b m n j (cfE b 0 m j) = (List.range n).map fun k => pwI b (cfE b 0 m (j + k + 1))
  | 0, j => rfl
  | n + 1, j => by
    have h := cfG_is b m n (j + 1)
    rw [List.range_succ_eq_map, List.map_cons, List.map_map]
    show pwI b (cfE b 0 m (j + 1)) :: cfG b m n (j + 1) (cfE b 0 m (j + 1)) = _
    rw [h]
    refine congrArg _ (List.map_congr_left fun k _ => ?_)
    show pwI b (cfE b 0 m (j + 1 + k + 1)) = pwI b (cfE b 0 m (j + (k + 1) + 1))
    rw [show j + 1 + k + 1 = j + (k + 1) + 1 by omega]
def stG (b n : Nat) (g : List Nat) : List Nat := List.zipWith (fun x y => x ^^^ y) (g ++ [0]) (0 :: g.map fun x => mul b x (pw b n))
def gq (b : Nat) : Nat → List Nat
  | 0 => [1]
  | n + 1 => stG b n (gq b n)
def eqL : List Nat → List Nat → Bool
  | [], [] => true
  | x :: xs, y :: ys => Nat.beq x y && eqL xs ys
  | _, _ => false
theorem eqL_ok : ∀ {xs ys : List Nat}, eqL xs ys = true → xs = ys
  | [], [], _ => rfl
  | x :: xs, y :: ys, h => by
    have h' : (Nat.beq x y && eqL xs ys) = true := h
    rw [Bool.and_eq_true] at h'
    rw [Nat.eq_of_beq_eq_true h'.1, eqL_ok h'.2]
def mostN (b : Nat) : Nat := cond (Nat.beq b 4) 14 40
def okG (b M : Nat) : Bool := (List.range (M + 1)).all fun m => eqL (1 :: cfG b m m 0 0) (gq b m)
theorem okG4 : okG 4 14 = true := by decide +kernel
theorem okG8 : okG 8 40 = true := by decide +kernel
theorem cf_gq {b m : Nat} (hb : Wd b) (hm : m ≤ mostN b) : 1 :: cfL b 0 m = gq b m := by
  have h : okG b (mostN b) = true := by
    rcases hb with rfl | rfl
    · exact okG4
    · exact okG8
  have e := eqL_ok (List.all_eq_true.mp h m (List.mem_range.mpr (by omega)))
  rw [← e]
  have h2 := cfG_is b m m 0
  have h3 : cfE b 0 m 0 = 0 := rfl
  rw [h3] at h2
  rw [h2]
  unfold cfL
  refine congrArg _ (List.map_congr_left fun k _ => ?_)
  rw [Nat.zero_add]
/-! values -/
theorem evF_zip {b t : Nat} (hb : Wd b) : ∀ (xs ys : List Nat) (a c : Nat), xs.length = ys.length → a < span b → c < span b → Ws b xs → Ws b ys → evF b t (a ^^^ c) (List.zipWith (fun x y => x ^^^ y) xs ys) = evF b t a xs ^^^ evF b t c ys
  | [], [], a, c, _, _, _, _, _ => rfl
  | [], _ :: _, _, _, h, _, _, _, _ => by cases h
  | _ :: _, [], _, _, h, _, _, _, _ => by cases h
  | x :: xs, y :: ys, a, c, h, ha, hc, hx, hy => by
    have x1 := hx x (by simp)
    have y1 := hy y (by simp)
    show evF b t (mul b (a ^^^ c) t ^^^ (x ^^^ y)) (List.zipWith (fun x y => x ^^^ y) xs ys) = evF b t (mul b a t ^^^ x) xs ^^^ evF b t (mul b c t ^^^ y) ys
    have e : mul b (a ^^^ c) t ^^^ (x ^^^ y) = (mul b a t ^^^ x) ^^^ (mul b c t ^^^ y) := by
      rw [mul_xor_l hb ha hc]
      ac_rfl
    rw [e]
    exact evF_zip hb xs ys _ _ (Nat.succ.inj h) (xor_lt hb (mul_lt hb ha) x1) (xor_lt hb (mul_lt hb hc) y1) (fun z hz => hx z (by simp [hz])) (fun z hz => hy z (by simp [hz]))
theorem mul_swap {b x y z : Nat} (hb : Wd b) (hx : x < span b) (hy : y < span b) (hz : z < span b) : mul b (mul b x y) z = mul b (mul b x z) y := by
  rw [mul_assoc hb hx hy hz, mul_assoc hb hx hz hy, mul_comm hb hy hz]
theorem evF_mul {b t p : Nat} (hb : Wd b) (ht : t < span b) (hp : p < span b) : ∀ (xs : List Nat) (a : Nat), a < span b → Ws b xs → evF b t (mul b a p) (xs.map fun x => mul b x p) = mul b (evF b t a xs) p
  | [], a, _, _ => rfl
  | x :: xs, a, ha, hx => by
    have x1 := hx x (by simp)
    show evF b t (mul b (mul b a p) t ^^^ mul b x p) (xs.map fun x => mul b x p) = mul b (evF b t (mul b a t ^^^ x) xs) p
    rw [mul_swap hb ha hp ht, ← mul_xor_l hb (mul_lt hb ha) x1]
    exact evF_mul hb ht hp xs _ (xor_lt hb (mul_lt hb ha) x1) (fun z hz => hx z (by simp [hz]))
theorem gq_ok {b : Nat} (hb : Wd b) : ∀ n, Ws b (gq b n) ∧ (gq b n).length = n + 1
  | 0 => ⟨fun x hx => by
      have := span_pos hb
      have e : x = 1 := by simpa [gq] using hx
      omega, rfl⟩
  | n + 1 => by
    obtain ⟨h1, h2⟩ := gq_ok hb n
    refine ⟨fun x hx => ?_, ?_⟩
    · have hx' : x ∈ List.zipWith (fun x y => x ^^^ y) (gq b n ++ [0]) (0 :: (gq b n).map fun x => mul b x (pw b n)) := hx
      rw [← List.map_uncurry_zip_eq_zipWith] at hx'
      obtain ⟨⟨u, v⟩, hz, rfl⟩ := List.mem_map.mp hx'
      have hu := (List.of_mem_zip hz).1
      have hv := (List.of_mem_zip hz).2
      have := span_pos hb
      refine xor_lt hb ?_ ?_
      · rcases List.mem_append.mp hu with h | h
        · exact h1 u h
        · rw [List.mem_singleton.mp h]
          omega
      · rcases List.mem_cons.mp hv with h | h
        · rw [h]
          omega
        · obtain ⟨y, hy, rfl⟩ := List.mem_map.mp h
          exact mul_lt hb (h1 y hy)
    · show (List.zipWith _ (gq b n ++ [0]) (0 :: (gq b n).map _)).length = _
      simp [h2]
theorem gq_root {b : Nat} (hb : Wd b) : ∀ n i, i < n → evl b (pw b i) (gq b n) = 0
  | 0, i, h => absurd h (by omega)
  | n + 1, i, h => by
    obtain ⟨h1, h2⟩ := gq_ok hb n
    have hs := span_pos hb
    have h0 : (0 : Nat) < span b := by omega
    have w1 : Ws b (gq b n ++ [0]) := fun x hx => by
      rcases List.mem_append.mp hx with z | z
      · exact h1 x z
      · rw [List.mem_singleton.mp z]
        exact h0
    have w2 : Ws b ((gq b n).map fun x => mul b x (pw b n)) := fun x hx => by
      obtain ⟨y, hy, rfl⟩ := List.mem_map.mp hx
      exact mul_lt hb (h1 y hy)
    have w3 : Ws b (0 :: (gq b n).map fun x => mul b x (pw b n)) := fun x hx => by
      rcases List.mem_cons.mp hx with z | z
      · rw [z]
        exact h0
      · exact w2 x z
    have e := evF_zip (t := pw b i) hb (gq b n ++ [0]) (0 :: (gq b n).map fun x => mul b x (pw b n)) 0 0 (by simp) h0 h0 w1 w3
    have e1 : evF b (pw b i) 0 (gq b n ++ [0]) = mul b (evl b (pw b i) (gq b n)) (pw b i) ^^^ 0 := evl_snoc
    have e2 : evF b (pw b i) 0 (0 :: (gq b n).map fun x => mul b x (pw b n)) = mul b (evl b (pw b i) (gq b n)) (pw b n) := by
      show evF b (pw b i) (mul b 0 (pw b i) ^^^ 0) _ = _
      rw [zero_mul hb, Nat.xor_zero]
      have e3 := evF_mul hb (pw_lt hb i) (pw_lt hb n) (gq b n) 0 h0 h1
      rw [zero_mul hb] at e3
      exact e3
    rw [Nat.xor_self] at e
    show evF b (pw b i) 0 (List.zipWith (fun x y => x ^^^ y) (gq b n ++ [0]) (0 :: (gq b n).map fun x => mul b x (pw b n))) = 0
    rw [e, e1, e2, Nat.xor_zero]
    by_cases hi : i = n
    · subst hi
      exact Nat.xor_self _
    · rw [gq_root hb n i (by omega), zero_mul hb, zero_mul hb]
      rfl
/-! another start -/
def sc (b s : Nat) : Nat → List Nat → List Nat
  | _, [] => []
  | j, x :: xs => mul b x (pw b (s * j)) :: sc b s (j + 1) xs
theorem sc_root {b s i : Nat} (hb : Wd b) : ∀ (xs : List Nat) (j acc : Nat), acc < span b → Ws b xs → evF b (pw b (s + i)) (mul b acc (pw b (s * j))) (sc b s (j + 1) xs) = mul b (evF b (pw b i) acc xs) (pw b (s * (j + xs.length)))
  | [], j, acc, _, _ => rfl
  | x :: xs, j, acc, ha, hx => by
    have x1 := hx x (by simp)
    show evF b (pw b (s + i)) (mul b (mul b acc (pw b (s * j))) (pw b (s + i)) ^^^ mul b x (pw b (s * (j + 1)))) (sc b s (j + 1 + 1) xs) = mul b (evF b (pw b i) (mul b acc (pw b i) ^^^ x) xs) (pw b (s * (j + (xs.length + 1))))
    have e : mul b (mul b acc (pw b (s * j))) (pw b (s + i)) = mul b (mul b acc (pw b i)) (pw b (s * (j + 1))) := by
      rw [mul_assoc hb ha (pw_lt hb _) (pw_lt hb _), mul_assoc hb ha (pw_lt hb _) (pw_lt hb _), pw_mul hb, pw_mul hb, Nat.mul_succ, show s * j + (s + i) = i + (s * j + s) by omega]
    rw [e, ← mul_xor_l hb (mul_lt hb ha) x1, sc_root hb xs (j + 1) _ (xor_lt hb (mul_lt hb ha) x1) (fun z hz => hx z (by simp [hz])), show j + 1 + xs.length = j + (xs.length + 1) by omega]
theorem sc_range {b s : Nat} : ∀ (n j : Nat) (f : Nat → Nat), sc b s j ((List.range n).map f) = (List.range n).map fun k => mul b (f k) (pw b (s * (j + k)))
  | 0, _, _ => rfl
  | n + 1, j, f => by
    rw [List.range_succ_eq_map, List.map_cons, List.map_map, List.map_cons, List.map_map]
    show mul b (f 0) (pw b (s * j)) :: sc b s (j + 1) ((List.range n).map (f ∘ Nat.succ)) = _
    rw [sc_range n (j + 1) (f ∘ Nat.succ)]
    refine congrArg _ (List.map_congr_left fun k _ => ?_)
    show mul b (f (k + 1)) (pw b (s * (j + 1 + k))) = mul b (f (k + 1)) (pw b (s * (j + (k + 1))))
    rw [show j + 1 + k = j + (k + 1) by omega]
theorem cfL_sc {b s m : Nat} (hb : Wd b) : cfL b s m = sc b s 1 (cfL b 0 m) := by
  unfold cfL
  rw [sc_range]
  refine List.map_congr_left fun k _ => ?_
  rw [cfE_start b s m (k + 1), pwI_add hb, mul_comm hb (pw_lt hb _) (pwI_lt hb _), Nat.add_comm 1 k]
theorem cf_root {b s m k : Nat} (hb : Wd b) (hm : m ≤ mostN b) (hk : k < m) : evl b (pw b (s + k)) (1 :: cfL b s m) = 0 := by
  have h1 : (1 : Nat) < span b := span_pos hb
  have e0 := gq_root hb m k hk
  rw [← cf_gq hb hm] at e0
  have start : ∀ t, t < span b → ∀ xs, evl b t (1 :: xs) = evF b t 1 xs := fun t ht xs => by
    show evF b t (mul b 0 t ^^^ 1) xs = _
    rw [zero_mul hb, Nat.zero_xor]
  rw [start _ (pw_lt hb _)] at e0
  rw [start _ (pw_lt hb _), cfL_sc hb]
  have e := sc_root (s := s) (i := k) hb (cfL b 0 m) 0 1 h1 (cfL_ws hb)
  have e1 : mul b 1 (pw b (s * 0)) = 1 := one_mul hb (pw_lt hb _)
  rw [e1] at e
  rw [e, e0, zero_mul hb]
/-! the rest after one more word -/
def nxt (b m : Nat) (g r : List Nat) (w : Nat) : List Nat := (List.range m).map fun i => gd r (i + 1) ^^^ mul b (gd g i) (gd r 0 ^^^ w)
theorem nxt_len (b m : Nat) (g r : List Nat) (w : Nat) : (nxt b m g r w).length = m := by unfold nxt; simp
theorem nxt_ws {b m : Nat} {g r : List Nat} {w : Nat} (hb : Wd b) (hg : Ws b g) (hr : Ws b r) : Ws b (nxt b m g r w) := fun x hx => by
  unfold nxt at hx
  obtain ⟨k, _, rfl⟩ := List.mem_map.mp hx
  exact xor_lt hb (gd_lt hb hr _) (mul_lt hb (gd_lt hb hg _))
def chkF (b m : Nat) (g r ws : List Nat) : List Nat := ws.foldl (nxt b m g) r
theorem chkF_ok {b m : Nat} {g : List Nat} (hb : Wd b) (hg : Ws b g) : ∀ (ws r : List Nat), Ws b r → r.length = m → Ws b (chkF b m g r ws) ∧ (chkF b m g r ws).length = m
  | [], r, hr, hl => ⟨hr, hl⟩
  | w :: ws, r, hr, hl => chkF_ok hb hg ws (nxt b m g r w) (nxt_ws hb hg hr) (nxt_len _ _ _ _ _)
theorem evl_app2 {b t : Nat} {xs ys : List Nat} (hb : Wd b) (ht : t < span b) (hx : Ws b xs) (hy : Ws b ys) : evl b t (xs ++ ys) = mul b (evl b t xs) (powT b t ys.length) ^^^ evl b t ys := by
  show (xs ++ ys).foldl _ 0 = _
  rw [List.foldl_append]
  exact evF_xor hb ht ys _ (evl_lt hb hx) hy
theorem xor00 {a b : Nat} (h : a ^^^ b = 0) : a = b := by
  have e : a ^^^ b ^^^ b = 0 ^^^ b := by rw [h]
  rw [Nat.xor_assoc, Nat.xor_self, Nat.xor_zero, Nat.zero_xor] at e
  exact e
theorem shift_row {r : List Nat} {m : Nat} (hl : r.length = m) (hm : 0 < m) : ∃ r0 r', r = r0 :: r' ∧ r'.length + 1 = m ∧ (List.range m).map (fun i => gd r (i + 1)) = r' ++ [0] := by
  match r, hl with
  | [], h => exact absurd h.symm (by simp; omega)
  | r0 :: r', h =>
    refine ⟨r0, r', rfl, by simpa using h, ?_⟩
    have hl : m = r'.length + 1 := by simpa using h.symm
    subst hl
    rw [List.range_succ, List.map_append]
    have e1 : (List.range r'.length).map (fun i => gd (r0 :: r') (i + 1)) = r' := gd_list r'
    rw [e1]
    refine congrArg _ ?_
    show [gd r' r'.length] = [0]
    rw [gd_out (Nat.le_refl _)]
theorem powT_succ (b t n : Nat) (hb : Wd b) (ht : t < span b) : mul b (powT b t n) t = powT b t (n + 1) := by
  first
    | rfl
    | (show mul b (powT b t n) t = mul b t (powT b t n); exact mul_comm hb (powT_lt hb n) ht)
theorem nxt_val {b t m w : Nat} {g r : List Nat} (hb : Wd b) (ht : t < span b) (hm : 0 < m) (hg : Ws b g) (gl : g.length = m) (h0 : evl b t (1 :: g) = 0) (hr : Ws b r) (rl : r.length = m) (hw : w < span b) :
    evl b t (nxt b m g r w) = mul b (evl b t r) t ^^^ mul b w (powT b t m) := by
  obtain ⟨r0, r', rfl, l', e'⟩ := shift_row rl hm
  have hr0 : r0 < span b := hr r0 (by simp)
  have hr' : Ws b r' := fun z hz => hr z (by simp [hz])
  have h1 : (1 : Nat) < span b := span_pos hb
  have hP := powT_lt (t := t) hb m
  have eg : evl b t g = powT b t m := by
    rw [evl_cons hb ht h1 hg, gl, one_mul hb hP] at h0
    exact (xor00 h0).symm
  have hc : r0 ^^^ w < span b := xor_lt hb hr0 hw
  have a1 := evl_fn hb ht (fun i => gd (r0 :: r') (i + 1)) (fun i => mul b (gd g i) (r0 ^^^ w)) (fun i => gd_lt hb hr _) (fun i => mul_lt hb (gd_lt hb hg i)) m
  have a2 : nxt b m g (r0 :: r') w = (List.range m).map fun k => gd (r0 :: r') (k + 1) ^^^ mul b (gd g k) (r0 ^^^ w) := rfl
  have a3 : (List.range m).map (fun i => mul b (gd g i) (r0 ^^^ w)) = (List.range m).map (fun i => mul b (r0 ^^^ w) (gd g i)) := List.map_congr_left fun k _ => mul_comm hb (gd_lt hb hg k) hc
  have a4 := evl_scale hb ht hc (gd g) (gd_lt hb hg) m
  have a5 : (List.range m).map (gd g) = g := by rw [← gl]; exact gd_list g
  rw [a2, a1, e', a3, a4, a5, eg, evl_snoc, Nat.xor_zero, evl_cons hb ht hr0 hr', mul_xor_l hb (mul_lt hb hr0) (evl_lt hb hr'), mul_assoc hb hr0 (powT_lt hb _) ht, powT_succ b t _ hb ht, l', mul_xor_l hb hr0 hw]
  generalize mul b r0 (powT b t m) = u
  generalize mul b (evl b t r') t = v
  generalize mul b w (powT b t m) = z
  have e : v ^^^ (u ^^^ z) = u ^^^ v ^^^ z := by ac_rfl
  exact e
theorem chkF_root {b t m : Nat} {g : List Nat} (hb : Wd b) (ht : t < span b) (hm : 0 < m) (hg : Ws b g) (gl : g.length = m) (h0 : evl b t (1 :: g) = 0) : ∀ (ws r : List Nat) (a : Nat), a < span b → Ws b ws → Ws b r → r.length = m →
    mul b a (powT b t m) ^^^ evl b t r = 0 → mul b (evF b t a ws) (powT b t m) ^^^ evl b t (chkF b m g r ws) = 0
  | [], r, a, _, _, _, _, h => h
  | w :: ws, r, a, ha, hw, hr, hl, h => by
    have w1 := hw w (by simp)
    have hP := powT_lt (t := t) hb m
    refine chkF_root hb ht hm hg gl h0 ws (nxt b m g r w) _ (xor_lt hb (mul_lt hb ha) w1) (fun z hz => hw z (by simp [hz])) (nxt_ws hb hg hr) (nxt_len _ _ _ _ _) ?_
    rw [nxt_val hb ht hm hg gl h0 hr hl w1, mul_xor_l hb (mul_lt hb ha) w1, mul_swap hb ha ht hP]
    have e : mul b a (powT b t m) = evl b t r := xor00 h
    rw [e]
    generalize mul b (evl b t r) t = u
    generalize mul b w (powT b t m) = v
    exact Nat.xor_self _
def chk (b s m : Nat) (ws : List Nat) : List Nat := chkF b m (cfL b s m) (List.replicate m 0) ws
theorem rep_ws {b m : Nat} (hb : Wd b) : Ws b (List.replicate m 0) := fun x hx => by
  have := span_pos hb
  rw [List.eq_of_mem_replicate hx]
  omega
theorem chk_len {b s m : Nat} {ws : List Nat} (hb : Wd b) : (chk b s m ws).length = m := (chkF_ok hb (cfL_ws hb) ws _ (rep_ws hb) (by simp)).2
theorem chk_ws {b s m : Nat} {ws : List Nat} (hb : Wd b) (hw : Ws b ws) : Ws b (chk b s m ws) := (chkF_ok hb (cfL_ws hb) ws _ (rep_ws hb) (by simp)).1
theorem chk_root {b s m k : Nat} {ws : List Nat} (hb : Wd b) (hm : m ≤ mostN b) (hw : Ws b ws) (hk : k < m) : evl b (pw b (s + k)) (ws ++ chk b s m ws) = 0 := by
  have ht := pw_lt hb (s + k)
  have hs := span_pos hb
  have wc := chk_ws (s := s) (m := m) hb hw
  have lc := chk_len (s := s) (m := m) (ws := ws) hb
  have h := chkF_root hb ht (by omega) (cfL_ws hb) (cfL_len b s m) (cf_root hb hm hk) ws (List.replicate m 0) 0 (by omega) hw (rep_ws hb) (by simp) (by rw [zero_mul hb, evl_zeros hb]; rfl)
  rw [evl_app2 hb ht hw wc, lc]
  exact h
theorem gd_rep (m i : Nat) : gd (List.replicate m 0) i = 0 := by
  unfold gd
  by_cases h : i < m
  · simp [List.getD, List.getElem?_replicate, h]
  · simp [List.getD, List.getElem?_replicate, h]
theorem nxt_nought (b m : Nat) (g : List Nat) : nxt b m g (List.replicate m 0) 0 = List.replicate m 0 := by
  unfold nxt
  have e : (fun i => gd (List.replicate m 0) (i + 1) ^^^ mul b (gd g i) (gd (List.replicate m 0) 0 ^^^ 0)) = fun _ => 0 := by
    funext i
    rw [gd_rep, gd_rep, Nat.xor_zero, mul_zero]
    rfl
  rw [e, List.map_const', List.length_range]
theorem chk_noughts {b s m : Nat} {ws : List Nat} (hb : Wd b) : ∀ n, chk b s m (List.replicate n 0 ++ ws) = chk b s m ws
  | 0 => rfl
  | n + 1 => by
    rw [List.replicate_succ]
    refine Eq.trans ?_ (chk_noughts hb n)
    show chkF b m (cfL b s m) (nxt b m (cfL b s m) (List.replicate m 0) 0) _ = _
    rw [nxt_nought]
    rfl
theorem zx_len (xs ys : List Nat) : (zx xs ys).length = xs.length := by unfold zx; simp
theorem gd_zx {xs ys : List Nat} (h : xs.length = ys.length) (k : Nat) : gd (zx xs ys) k = gd xs k ^^^ gd ys k := by
  unfold zx
  rw [gd_map]
  by_cases hk : k < xs.length
  · rw [if_pos hk]
  · rw [if_neg hk, gd_out (by omega), gd_out (by omega)]
    rfl
theorem nxt_sum {b m : Nat} {g r q : List Nat} {w v : Nat} (hb : Wd b) (hg : Ws b g) (hr : Ws b r) (hq : Ws b q) (hl : r.length = q.length) (hw : w < span b) (hv : v < span b) : nxt b m g (zx r q) (w ^^^ v) = zx (nxt b m g r w) (nxt b m g q v) := by
  have e : zx (nxt b m g r w) (nxt b m g q v) = (List.range m).map fun k => gd (nxt b m g r w) k ^^^ gd (nxt b m g q v) k := by
    show (List.range (nxt b m g r w).length).map _ = _
    rw [nxt_len]
  rw [e]
  refine List.map_congr_left fun k hk => ?_
  have hk := List.mem_range.mp hk
  unfold nxt
  rw [gd_map, gd_map, if_pos hk, if_pos hk, gd_zx hl, gd_zx hl]
  have e2 : gd r 0 ^^^ gd q 0 ^^^ (w ^^^ v) = (gd r 0 ^^^ w) ^^^ (gd q 0 ^^^ v) := by ac_rfl
  rw [e2, mul_xor_r hb (xor_lt hb (gd_lt hb hr 0) hw) (xor_lt hb (gd_lt hb hq 0) hv) (gd_lt hb hg k)]
  ac_rfl
theorem chkF_sum {b m : Nat} {g : List Nat} (hb : Wd b) (hg : Ws b g) : ∀ (xs ys r q : List Nat), xs.length = ys.length → Ws b xs → Ws b ys → Ws b r → Ws b q → r.length = m → q.length = m →
    chkF b m g (zx r q) (List.zipWith (fun x y => x ^^^ y) xs ys) = zx (chkF b m g r xs) (chkF b m g q ys)
  | [], [], r, q, _, _, _, _, _, _, _ => rfl
  | [], _ :: _, _, _, h, _, _, _, _, _, _ => by cases h
  | _ :: _, [], _, _, h, _, _, _, _, _, _ => by cases h
  | x :: xs, y :: ys, r, q, h, hx, hy, hr, hq, l1, l2 => by
    have x1 := hx x (by simp)
    have y1 := hy y (by simp)
    show chkF b m g (nxt b m g (zx r q) (x ^^^ y)) (List.zipWith (fun x y => x ^^^ y) xs ys) = zx (chkF b m g (nxt b m g r x) xs) (chkF b m g (nxt b m g q y) ys)
    rw [nxt_sum hb hg hr hq (by omega) x1 y1]
    exact chkF_sum hb hg xs ys _ _ (Nat.succ.inj h) (fun z hz => hx z (by simp [hz])) (fun z hz => hy z (by simp [hz])) (nxt_ws hb hg hr) (nxt_ws hb hg hq) (nxt_len _ _ _ _ _) (nxt_len _ _ _ _ _)
theorem zx_zip {xs ys : List Nat} (h : xs.length = ys.length) : zx xs ys = List.zipWith (fun x y => x ^^^ y) xs ys := by
  refine List.ext_getElem? fun i => ?_
  unfold zx
  rw [List.getElem?_zipWith, List.getElem?_map]
  by_cases hi : i < xs.length
  · rw [List.getElem?_range hi, gd_in hi, gd_in (by omega : i < ys.length)]
    rfl
  · rw [List.getElem?_eq_none (by simp; omega), List.getElem?_eq_none (show xs.length ≤ i by omega)]
    rfl
theorem chk_sum {b s m : Nat} {xs ys : List Nat} (hb : Wd b) (hx : Ws b xs) (hy : Ws b ys) (hl : ys.length = xs.length) : chk b s m (zx xs ys) = zx (chk b s m xs) (chk b s m ys) := by
  have e : zx (List.replicate m 0) (List.replicate m 0) = List.replicate m 0 := by
    unfold zx
    have e2 : (fun k => gd (List.replicate m 0) k ^^^ gd (List.replicate m 0) k) = fun _ => 0 := by
      funext k
      exact Nat.xor_self _
    rw [e2, List.map_const', List.length_range, List.length_replicate]
  have h := chkF_sum (m := m) hb (cfL_ws (s := s) (m := m) hb) xs ys (List.replicate m 0) (List.replicate m 0) hl.symm hx hy (rep_ws hb) (rep_ws hb) (by simp) (by simp)
  rw [e, ← zx_zip hl.symm] at h
  exact h
end My

set_option Elab.async false
set_option linter.all false
set_option maxRecDepth 100000
set_option maxHeartbeats 4000000
namespace My
open PySem PySem.Spec PyProof.Rows L2
theorem evl_app {b t : Nat} {xs ys : List Nat} (hb : Wd b) (ht : t < span b) (hx : Ws b xs) (hy : Ws b ys) : evl b t (xs ++ ys) = mul b (evl b t xs) (powT b t ys.length) ^^^ evl b t ys := evl_app2 hb ht hx hy
/-! one or two check words are told by the noughts -/
theorem lgpw {b i : Nat} (hb : Wd b) (h : i < turn b) : lg b (pw b i) = i := by
  have q : ((List.range (turn b)).all fun i => Nat.beq (lg b (pw b i)) i) = true := by rcases hb with rfl | rfl <;> decide +kernel
  exact Nat.eq_of_beq_eq_true (List.all_eq_true.mp q i (List.mem_range.mpr h))
theorem pw_next {b i s : Nat} (hb : Wd b) : pw b (i + s) ≠ pw b (i + (s + 1)) := by
  intro h
  have ht := turn_pos hb
  rw [pw_mod hb (i + s), pw_mod hb (i + (s + 1))] at h
  have h2 := congrArg (lg b) h
  rw [lgpw hb (Nat.mod_lt _ ht), lgpw hb (Nat.mod_lt _ ht)] at h2
  rcases hb with rfl | rfl
  · rw [show turn 4 = 15 from rfl] at h2
    omega
  · rw [show turn 8 = 255 from rfl] at h2
    omega
theorem xor0 {a b : Nat} (h : a ^^^ b = 0) : a = b := by
  have e : a ^^^ b ^^^ b = 0 ^^^ b := by rw [h]
  rw [Nat.xor_assoc, Nat.xor_self, Nat.xor_zero, Nat.zero_xor] at e
  exact e
theorem two_zero {b s d e : Nat} (hb : Wd b) (hd : d < span b) (h1 : mul b d (pw b s) ^^^ e = 0) (h2 : mul b d (pw b (s + 1)) ^^^ e = 0) : d = 0 ∧ e = 0 := by
  have z1 := xor0 h1
  have z2 := xor0 h2
  by_cases h0 : d = 0
  · subst h0
    rw [zero_mul hb] at z1
    exact ⟨rfl, z1.symm⟩
  · exfalso
    have e1 := z1.trans z2.symm
    rw [← pw_lg hb hd h0, pw_mul hb, pw_mul hb] at e1
    exact pw_next hb e1
theorem nought_same {b s k : Nat} {ws r q : List Nat} (hb : Wd b) (hw : Ws b ws) (hr : Ws b r) (hq : Ws b q) (hl : r.length = q.length) (h1 : evl b (pw b (s + k)) (ws ++ r) = 0) (h2 : evl b (pw b (s + k)) (ws ++ q) = 0) : evl b (pw b (s + k)) r = evl b (pw b (s + k)) q := by
  have ht := pw_lt hb (s + k)
  rw [evl_app hb ht hw hr, hl] at h1
  rw [evl_app hb ht hw hq] at h2
  exact (xor0 h1).symm.trans (xor0 h2)
/-- one check word -/
theorem alone_one {b s x y : Nat} {ws : List Nat} (hb : Wd b) (hw : Ws b ws) (hx : x < span b) (hy : y < span b) (h1 : evl b (pw b (s + 0)) (ws ++ [x]) = 0) (h2 : evl b (pw b (s + 0)) (ws ++ [y]) = 0) : x = y := by
  have e := nought_same (r := [x]) (q := [y]) hb hw (fun z hz => by rw [List.mem_singleton.mp hz]; exact hx) (fun z hz => by rw [List.mem_singleton.mp hz]; exact hy) rfl h1 h2
  have g : ∀ {x : Nat}, evl b (pw b (s + 0)) [x] = x := fun {x} => by
    show mul b 0 _ ^^^ x = x
    rw [zero_mul hb, Nat.zero_xor]
  rw [g, g] at e
  exact e
/-- two check words -/
theorem alone_two {b s x y u v : Nat} {ws : List Nat} (hb : Wd b) (hw : Ws b ws) (hx : x < span b) (hy : y < span b) (hu : u < span b) (hv : v < span b)
    (h1 : ∀ k, k < 2 → evl b (pw b (s + k)) (ws ++ [x, y]) = 0) (h2 : ∀ k, k < 2 → evl b (pw b (s + k)) (ws ++ [u, v]) = 0) : x = u ∧ y = v := by
  have w1 : Ws b [x, y] := fun z hz => by
    simp at hz
    rcases hz with rfl | rfl
    · exact hx
    · exact hy
  have w2 : Ws b [u, v] := fun z hz => by
    simp at hz
    rcases hz with rfl | rfl
    · exact hu
    · exact hv
  have g : ∀ {t x y : Nat}, evl b t [x, y] = mul b x t ^^^ y := fun {t x y} => by
    show mul b (mul b 0 t ^^^ x) t ^^^ y = _
    rw [zero_mul hb, Nat.zero_xor]
  have q : ∀ k, k < 2 → mul b (x ^^^ u) (pw b (s + k)) ^^^ (y ^^^ v) = 0 := fun k hk => by
    have e := nought_same hb hw w1 w2 rfl (h1 k hk) (h2 k hk)
    rw [g, g] at e
    rw [mul_xor_l hb hx hu]
    generalize mul b x (pw b (s + k)) = p at e ⊢
    generalize mul b u (pw b (s + k)) = r at e ⊢
    have e2 : p ^^^ r ^^^ (y ^^^ v) = (p ^^^ y) ^^^ (r ^^^ v) := by ac_rfl
    rw [e2, e, Nat.xor_self]
  obtain ⟨z1, z2⟩ := two_zero hb (xor_lt hb hx hu) (q 0 (by decide)) (q 1 (by decide))
  exact ⟨xor0 z1, xor0 z2⟩
end My

set_option Elab.async false
set_option linter.all false
set_option maxRecDepth 100000
set_option maxHeartbeats 4000000
/-! ### range(n) as a value; not in a range -/
namespace My
open PySem PySem.Spec PyProof.Rows L2
def rNotRng : R2 := fun x y H Q => ∃ i a lo hi, x = V.int i ∧ y = V.ref a ∧ H a = some (.rng lo hi) ∧ Q (.bl (!decide (lo ≤ i ∧ i < hi))) H
theorem op_notIn_rng {X : Cx} : OpR X (compareOp .NotIn) rNotRng := by
  intro pins s σ H x y v u Q I rx ry h
  obtain ⟨i, a, lo, hi, rfl, rfl, ha, q⟩ := h
  obtain ⟨k, rfl⟩ := rx
  cases ry
  obtain ⟨t1, t2, t3, ho⟩ := I.hok a _ ha
  refine NotIn_slot ⟨_, ho, rfl⟩ F.slot_range_contains (call_meets F.slot_range_contains ⟨_, ho, rfl⟩ F.entry_range_contains (F.args_range_contains_2 _ _) (q_contains a lo hi i t1 t2 t3 k) ⟨ho, wpAny_truthy_bool ?_⟩)
  refine ⟨.bl _, H, I, rfl, ?_⟩
  rw [place1]
  exact q
def rRange1 : List V → Hp → VK → Prop := fun vs H Q => ∃ n, vs = [V.int n] ∧ ∀ p, H p = none → Q (.ref p) (upd H p (.rng 0 n))
theorem cr_range1 {X : Cx} : CallR X (.type "range") rRange1 := by
  intro pins s σ H vs us Q I r h
  obtain ⟨n, rfl, q⟩ := h
  cases r with
  | cons r1 r =>
    cases r
    obtain ⟨t, rfl⟩ := r1
    exact call_range_1 ⟨.ref s.heap.objs.size, upd H s.heap.objs.size (.rng 0 n), I.laid (fun b o e => Heap.get?_push_of_some _ e) (Nat.le_refl _) ⟨_, _, _, Heap.get?_push_size s.heap rfl⟩, rfl, q _ (I.hok.fresh (Nat.le_refl _))⟩
end My

set_option Elab.async false
set_option linter.all false
set_option maxRecDepth 100000
set_option maxHeartbeats 4000000
/-! ### rows of plain words; values of polynomials by exponents -/
namespace My
open PySem PySem.Spec PyProof.Rows L2
theorem pt_truthK {X : Cx} {K : PySem.W.Frag} {a : Expr} {ta : TE} (h : X.K = K) (ha : PE X a ta) (he : ∀ whole, isTrue a X.env whole = (do let v ← whole; standAt a.pos; holding [v] (truthy v))) :
    PT X a (fun σ H Q => ta σ H fun x H' => ∃ k, TruV K x H' k ∧ Q k H') := by
  subst h
  exact pt_truth ha he
theorem SqB.truB {b : Bool} {K : PySem.W.Frag} {H : Hp} {a : Addr} {xs : List V} (h : SqB b K H a xs) : TruV K (.ref a) H (!xs.isEmpty) := by
  cases b
  · exact .inr (.inl ⟨xs, h, rfl⟩)
  · exact .inl ⟨xs, h, rfl⟩
theorem word_shr {b x : Nat} (hb : Wd b) (hx : x < span b) : ((x : Int) / 2 ^ ((b : Int)).toNat != 0) = false := by
  have e : ((x : Int) / 2 ^ ((b : Int)).toNat) = ((x / 2 ^ b : Nat) : Int) := by
    rw [Int.toNat_natCast]
    norm_cast
  rw [e, Nat.div_eq_of_lt (by rw [← span_pow hb]; exact hx)]
  rfl
theorem evl_at0 {b : Nat} (ws : List Nat) : evl b 0 ws = ws.getLastD 0 := by
  rcases List.eq_nil_or_concat ws with rfl | ⟨r, w, rfl⟩
  · rfl
  · rw [List.concat_eq_append, evl_snoc, mul_zero, Nat.zero_xor]
    simp
end My

set_option Elab.async false
set_option linter.all false
set_option maxRecDepth 100000
set_option maxHeartbeats 4000000
/-! ### right rows: sums, multiples, moved rows, one changed word -/
namespace My
theorem zero_lt {b : Nat} (hb : Wd b) : 0 < span b := by have := span_pos hb; omega
theorem evl_zx {b t : Nat} {ws os : List Nat} (hb : Wd b) (hl : ws.length = os.length) (hw : Ws b ws) (ho : Ws b os) : evl b t (zx ws os) = evl b t ws ^^^ evl b t os := by
  rw [zx_zip hl]
  have h := evF_zip (t := t) hb ws os 0 0 hl (zero_lt hb) (zero_lt hb) hw ho
  exact h
theorem zx_ws {b : Nat} {ws os : List Nat} (hb : Wd b) (hw : Ws b ws) (ho : Ws b os) : Ws b (zx ws os) := fun x hx => by
  obtain ⟨k, _, rfl⟩ := List.mem_map.mp hx
  exact xor_lt hb (gd_lt hb hw k) (gd_lt hb ho k)
theorem evl_mulL {b t p : Nat} {ws : List Nat} (hb : Wd b) (ht : t < span b) (hp : p < span b) (hw : Ws b ws) : evl b t (ws.map fun x => mul b x p) = mul b (evl b t ws) p := by
  have h := evF_mul hb ht hp ws 0 (zero_lt hb) hw
  rw [zero_mul hb] at h
  exact h
theorem powT_pw {b e : Nat} (hb : Wd b) : ∀ k, powT b (pw b e) k = pw b (e * k)
  | 0 => rfl
  | k + 1 => by
    show mul b (powT b (pw b e) k) (pw b e) = _
    rw [powT_pw hb k, pw_mul hb]
    rfl
/-- a row, each word times a power that grows by one from word to word -/
def mvL (b : Nat) (c : Int) (ws : List Nat) (n : Nat) : List Nat := (List.range n).map fun k => mul b (gd ws k) (pwI b ((k : Int) + c))
theorem mvL_ws {b n : Nat} {c : Int} {ws : List Nat} (hb : Wd b) (hw : Ws b ws) : Ws b (mvL b c ws n) := fun x hx => by
  obtain ⟨k, _, rfl⟩ := List.mem_map.mp hx
  exact mul_lt hb (gd_lt hb hw k)
theorem pwI_step {b t : Nat} (hb : Wd b) (e : Int) : mul b (pwI b (e - 1)) (pw b (t + 1)) = mul b (pw b t) (pwI b e) := by
  rw [mul_comm hb (pwI_lt hb _) (pw_lt hb _), ← pwI_add hb, ← pwI_add hb]
  congr 1
  omega
theorem take_snoc {ws : List Nat} {i : Nat} (h : i < ws.length) : ws.take (i + 1) = ws.take i ++ [gd ws i] := by
  rw [List.take_add_one, gd_in h]
  rfl
theorem evl_mv {b t : Nat} {c : Int} {ws : List Nat} (hb : Wd b) (hw : Ws b ws) : ∀ i, i ≤ ws.length → evl b (pw b (t + 1)) (mvL b c ws i) = mul b (evl b (pw b t) (ws.take i)) (pwI b ((i : Int) - 1 + c))
  | 0, _ => (zero_mul hb).symm
  | i + 1, h => by
    have ih := evl_mv (t := t) (c := c) hb hw i (by omega)
    have wt : Ws b (ws.take i) := fun x hx => hw x (List.mem_of_mem_take hx)
    have e1 : mvL b c ws (i + 1) = mvL b c ws i ++ [mul b (gd ws i) (pwI b ((i : Int) + c))] := by
      unfold mvL
      rw [List.range_succ, List.map_append]
      rfl
    rw [e1, evl_snoc, take_snoc (by omega), evl_snoc, ih]
    have lE := evl_lt (t := pw b t) hb wt
    have lw := gd_lt hb hw i
    have e2 : ((i + 1 : Nat) : Int) - 1 + c = (i : Int) + c := by omega
    rw [e2, mul_xor_l hb (mul_lt hb lE) lw, mul_assoc hb lE (pwI_lt hb _) (pw_lt hb _), mul_assoc hb lE (pw_lt hb _) (pwI_lt hb _)]
    have e3 : (i : Int) - 1 + c = ((i : Int) + c) - 1 := by omega
    rw [e3, pwI_step hb]
theorem evl_moved {b t : Nat} {ws : List Nat} (hb : Wd b) (hw : Ws b ws) : evl b (pw b (t + 1)) (mvL b (1 - (ws.length : Int)) ws ws.length) = evl b (pw b t) ws := by
  rw [evl_mv hb hw _ (Nat.le_refl _), List.take_length]
  have e : ((ws.length : Int) - 1 + (1 - (ws.length : Int))) = ((0 : Nat) : Int) := by omega
  rw [e, pwI_nat hb]
  exact mul_one hb (evl_lt hb hw)
theorem drop_at {ws : List Nat} {i : Nat} (h : i < ws.length) : ws = ws.take i ++ gd ws i :: ws.drop (i + 1) := by
  have e := (List.take_append_drop i ws).symm
  rw [List.drop_eq_getElem_cons h] at e
  have e2 : ws[i] = gd ws i := by
    have := gd_in h
    rw [List.getElem?_eq_getElem h] at this
    exact Option.some.inj this
  rw [e2] at e
  exact e
/-- a row with one word changed -/
theorem evl_bent {b t x at' : Nat} {ws : List Nat} (hb : Wd b) (ht : t < span b) (hw : Ws b ws) (hx : x < span b) (h : at' < ws.length) :
    evl b t (ws.take at' ++ (gd ws at' ^^^ x) :: ws.drop (at' + 1)) = evl b t ws ^^^ mul b x (powT b t (ws.length - 1 - at')) := by
  have hA : Ws b (ws.take at') := fun y hy => hw y (List.mem_of_mem_take hy)
  have hR : Ws b (ws.drop (at' + 1)) := fun y hy => hw y (List.mem_of_mem_drop hy)
  have lw := gd_lt hb hw at'
  have c1 : Ws b ((gd ws at' ^^^ x) :: ws.drop (at' + 1)) := fun y hy => by
    rcases List.mem_cons.mp hy with rfl | hy
    · exact xor_lt hb lw hx
    · exact hR y hy
  have c2 : Ws b (gd ws at' :: ws.drop (at' + 1)) := fun y hy => by
    rcases List.mem_cons.mp hy with rfl | hy
    · exact lw
    · exact hR y hy
  have e0 : evl b t ws = evl b t (ws.take at' ++ gd ws at' :: ws.drop (at' + 1)) := by rw [← drop_at h]
  rw [e0, evl_app2 hb ht hA c1, evl_app2 hb ht hA c2, evl_cons hb ht (xor_lt hb lw hx) hR, evl_cons hb ht lw hR, mul_xor_l hb lw hx]
  simp only [List.length_cons]
  have e : (ws.drop (at' + 1)).length = ws.length - 1 - at' := by rw [List.length_drop]; omega
  rw [e]
  ac_rfl
theorem mul_ne {b x y : Nat} (hb : Wd b) (hx : x < span b) (hy : y < span b) (h0 : x ≠ 0) (h1 : y ≠ 0) : mul b x y ≠ 0 := by
  rw [← pw_lg hb hx h0, ← pw_lg hb hy h1, pw_mul hb]
  exact pw_ne hb _
end My
namespace My
open PySem PySem.Spec PyProof.Rows L2
theorem cut_to (xs : List V) (k : Nat) (h : k ≤ xs.length) : cutV xs none (some (k : Int)) = xs.take k := by
  unfold cutV
  rw [HT.sIx_none, HT.sIx_nat, Nat.min_eq_left h, List.drop_zero, Nat.sub_zero]
theorem bent_set {ws : List Nat} {i x : Nat} (h : i < ws.length) : (ws.take i ++ x :: ws.drop (i + 1)).set i (gd ws i) = ws := by
  have hl : (ws.take i).length = i := by rw [List.length_take]; omega
  rw [List.set_append_right _ _ (by omega), hl, Nat.sub_self, List.set_cons_zero]
  exact (drop_at h).symm
end My

set_option Elab.async false
set_option linter.all false
set_option maxRecDepth 100000
set_option maxHeartbeats 4000000
/-! ### defs that show lists: they do their work where nothing is being shown -/
namespace My
open PySem PySem.Spec PyProof.Rows L2
/-- nothing is being shown around -/
def Still (A : Around) : Prop := A.guards = some []
theorem still_caller : Still callerA := rfl
theorem Still.in1 {A : Around} (g : Still A) : Still A.in1 := g
theorem Still.deeper {A : Around} {env : Env} (g : Still A) : Still (A.deeper env) := g
/-- FnOk for such an around -/
structure FnG (Pr : Program) (wd : World) (K : PySem.W.Frag) (mg : Str → Option Value) (base : Heap) (CX : CXT)
    (k : Nat) (f : Addr) (fd : FuncData) (ps : List Str) (sp : Sp) : Prop where
  len : ∀ xs H Q E, sp xs H Q E → xs.length = ps.length
  run : ∀ (A : Around) (out : List Env) (s : Shared) (H : Hp) (ar : Args) (us : List Value) (xs : List V) (Q : VK) (E : XK),
    Still A → Room k A → Env0 Pr wd K mg base A out s H → BindsTo s fd ar (ps.zip us) → Vals xs us → sp xs H Q E →
    codeAny (model Pr wd) A (.call (.ref f) ar)
      (CR CX out Pr wd H s Q E) s
theorem FnG.of {Pr : Program} {wd : World} {K : PySem.W.Frag} {mg : Str → Option Value} {base : Heap} {CX : CXT} {k : Nat} {f : Addr} {fd : FuncData} {ps : List Str} {sp : Sp}
    (F : FnOk Pr wd K mg base CX k f fd ps sp) : FnG Pr wd K mg base CX k f fd ps sp :=
  ⟨F.len, fun A out s H ar us xs Q E _ => F.run A out s H ar us xs Q E⟩
section
variable {X : Cx}
/-- repr of plain data -/
def rRepr (K : PySem.W.Frag) : List V → Hp → VK → Prop := fun xs H Q => ∃ (a : Addr) (d : PyData), xs = [.ref a] ∧ Dp K H (.ref a) d ∧ d.showable = true ∧ d.hasDict = false ∧ d.depth ≤ 60 ∧ d.shown.length ≤ sizeLine ∧ Q (.str d.shown) H
theorem call_reprD (g : Still X.A) (hu : X.A.units + 64 < cLine) : CallR X (.builtin "repr") (rRepr X.K) := by
  intro pins s σ H xs us Q I r h
  obtain ⟨a, d, rfl, hd, hs, hn, hp, hz, q⟩ := h
  cases r with
  | @cons _ u _ ur ra rr =>
    cases rr
    obtain ⟨as, rd⟩ := Dp.reads I d _ u hd ra
    cases (show u = Value.ref a from ra)
    refine repr_of_reads' rd hs (fun z => by rw [hn] at z; cases z) g (by omega) (fun _ _ e => e) (fun h' v tk hk => ?_) hz
    exact ⟨.str d.shown, H, I.kept hk, ⟨v, rfl⟩, q⟩
/-- f(e, ..) of such a def -/
theorem callG {CX : CXT} {f : Addr} {fd : FuncData} {ps : List Str} {sp : Sp} {E : XK} {k : Nat} {ds : List Value} {dvs : List V} (F : FnG X.prog X.w X.K X.mg X.base CX k f fd ps sp) (g : Still X.A) (hr : Room k X.A) (hb : Binds X.K fd ps ds) (hd : Vals dvs ds) (hx : Passes CX X E)
    {pins : List (Addr × Obj)} {σ : L2.St} {H : Hp} {s : Shared} {Q : VK} {us : List Value} {vs : List V} (I : Inv X pins σ H s) (r : Vals vs us) (h : sp (vs ++ dvs) H Q E) :
    wpAny (model X.prog X.w) X.A (call (.ref f) us) (EP X pins σ Q) X.xe s := by
  have rr : Vals (vs ++ dvs) (us ++ ds) := r.append hd
  have n : (us ++ ds).length = ps.length := rr.length.symm.trans (F.len _ _ _ _ h)
  have z := F.run X.A X.stack s H ⟨us, []⟩ (us ++ ds) (vs ++ dvs) Q E g hr I.env0 (hb s us I.kIn n) rr h
  refine wpAny_call (codeAny_mono z fun res s' q => ?_)
  match res, q with
  | .error e, q => exact hx pins σ H s e s' I q
  | .ok (.ret u), q => exact I.after q
  | .ok .next, q => exact False.elim q
  | .ok .brk, q => exact False.elim q
  | .ok .cont, q => exact False.elim q
theorem pe_callG {CX : CXT} {f : Addr} {fd : FuncData} {ps : List Str} {sp : Sp} {E : XK} {k : Nat} {ds : List Value} {dvs : List V} {x : Str} {e : Expr} {es : List Expr} {t : TA} {p pos : Pos} (F : FnG X.prog X.w X.K X.mg X.base CX k f fd ps sp) (g : Still X.A) (hr : Room k X.A) (hg : Gl X x) (hm : X.mg x = some (.ref f))
    (hk : PySem.W.keepIn X.K (.ref f) = true) (hb : Binds X.K fd ps ds) (hd : Vals dvs ds) (hx : Passes CX X E) (ha : PA X (e :: es) t)
    (hdb : (x == ("__debug__" : Str)) = false := by decide) (he : starEach (e :: es) X.env = (false, eval e X.env) :: starEach es X.env := by rfl) (hpl : (backTo pos (starEach es X.env)).any (·.1) = false := by rfl) :
    PE X (.Call (.Name x p) (e :: es) [] pos) (tCall sp dvs E t) :=
  ⟨fun pins s σ H Q I h => wpAny_Call_Name_kw (ld_glob I hg hm (PySem.W.callWith_K (h₀ := X.base) I.ok.mod.kin hk
    (thn (ha.run pos pins s σ H _ I h) fun us s1 z => by
      obtain ⟨vs, H1, I1, r, q⟩ := z
      exact ⟨I1.kIn, callG F g hr hb hd hx I1 r q⟩) he hpl) hdb)⟩
end
section
variable {Pr : Program} {wd : World} {K : PySem.W.Frag} {mg : Str → Option Value} {base : Heap}
/-- such a def by its body -/
theorem okStill {x qual : Str} {st : Stmt} {f : Addr} {fd : FuncData} {N ps : List Str} {k : Nat} {sp : Sp} (F : Fun K x qual st f fd) (S : FnScope N ps (defScope st)) (len : ∀ xs H Q E, sp xs H Q E → xs.length = ps.length)
    (body : ∀ (cdv : Value) (A : Around) (out : List Env) (s : Shared) (H : Hp) (xs : List V) (Q : VK) (E : XK), Still A → Room k (A.deeper (envOfC qual (defScope st) s.heap.objs.size f cdv)) → sp xs H Q E →
      ∃ t, PSs (cxOf CX0 Pr wd K mg base N qual (defScope st) f cdv A out s H E).nox (defBody st) t ∧ t { nx := fun _ H' => Q .non H', rt := Q } (start N xs) H) :
    FnG Pr wd K mg base CX0 (k + 1) f fd ps sp := by
  obtain ⟨oc, od, kV, doc, pm, an, cdv, ct, osl, rfl, lk, hcd⟩ := F.ex
  refine ⟨len, fun A out s H ar us xs Q E g hr e0 hb r h => ?_⟩
  have old : ∀ b o, base.get? b = some o → s.heap.get? b = some o := fun b o e => (e0.bs b o e).1
  have inK := e0.mod.kin.keeps old
  have kinds : ∀ y ∈ ps.zip us, (defScope st).names.lookup y.1 = some .local ∨
      ((defScope st).names.lookup y.1 = some .cell ∧ ((cellsFrom (s.heap.objs.size + 1) (defScope st).names []).lookup y.1).isSome = true) := by
    rintro ⟨y, z⟩ hy
    exact (S.par y (List.of_mem_zip hy).1).imp id fun c => ⟨c, PySem.W.cellsFrom_some _ _ _ (.inl c)⟩
  refine codeAny_call_function hr.depth (inK _ _ lk) rfl S.co S.gen rfl (PySem.W.codeRec_of inK hcd) (hb _ _ _ _ (wpAny_newFunctionEnv_cells S.kind kinds fun en he s1 y => ?_))
  subst he
  refine ⟨(e0.mod.nolimit.keeps old).keeps y.toInCall.keep, codeAny_func ?_⟩
  obtain ⟨t, ht, q⟩ := body cdv A out s H xs Q E g (hr.deeper _) h
  have I : Inv (cxOf CX0 Pr wd K mg base N qual (defScope st) f cdv A out s H E) [] (start N xs) H s1 :=
    inv_start S hr.hd e0 (len _ _ _ _ h) r y
  refine wpAny_mono (ht.nox.run [] s1 (start N xs) H _ I q) (fun fl s' z => ?_) fun _ _ z => z
  match fl, z with
  | .ret u, ⟨v, σ', H', J, rv, qv⟩ => exact ⟨v, H', J.os, J.bare, J.base, J.hok, rv, qv⟩
  | .next, ⟨σ', H', J, qv⟩ => exact ⟨.non, H', J.os, J.bare, J.base, J.hok, rfl, qv⟩
  | .brk, ⟨_, _, _, no⟩ => exact False.elim no
  | .cont, ⟨_, _, _, no⟩ => exact False.elim no
end
end My

set_option Elab.async false
set_option linter.all false
set_option maxRecDepth 100000
set_option maxHeartbeats 4000000
/-! ### the way in from the claim's caller, around whom nothing is being shown -/
namespace My
open PySem PySem.Spec PyProof.Rows L2
theorem lawG {Pr : Program} {wd : World} {K : PySem.W.Frag} {mg mb : Str → Option Value} {CX : CXT} {k : Nat} {fa a : Addr} {fd : FuncData} {x : Str} {sp : Sp} {s1 : Shared} {us : List Value} {ns : List Int}
    (kin : K.In s1.heap) (hns : s1.heap.Ns mainGlobals mg) (hbn : s1.heap.Ns builtinsNs mb) (hbt : ∀ y : Str, y ≠ "__name__" → mb y = bootBuiltins y) (nol : s1.heap.NoLimit) (gen0 : s1.gens = #[])
    (ha : s1.heap.get? a = some { cls := .type "list", data := .seq us.toArray }) (hints : IntsAre us ns) (len : ns.length ≤ sizeLine) (room : Room k callerA)
    (F : ∀ B : Heap, K.In B → B.Ns mainGlobals mg → FnG Pr wd K mg B CX k fa fd [x] sp) (bind : ∀ (s : Shared) (u : Value), BindsTo s fd ⟨[u], []⟩ [(x, u)])
    (keeps : ∀ H : Hp, Only H → SqL K H a (ns.map V.int) → sp [.ref a] H (fun v _ => v = .bl true) fun _ _ _ => False)
    (calm : ∀ H e s', CX [] H s1 (fun _ _ _ => False) e s' → False) :
    codeAny (model Pr wd) callerA (.call (.ref fa) ⟨[.ref a], []⟩)
      (fun r s' => r = .ok (.ret (.bool true)) ∧ OldK s1.heap s'.heap ∧ s'.os = s1.os ∧ AllBare s'.gens) s1 := by
  have rel := vals_ints hints
  -- from a heap of words in which at most the script stands, and only where it is not of the written part
  have go : ∀ H : Hp, Only H → SqL K H a (ns.map V.int) → HOk Pr wd H s1.heap → (∀ b, H b ≠ none → b = a ∧ K.lookup a = none) →
      codeAny (model Pr wd) callerA (.call (.ref fa) ⟨[.ref a], []⟩)
        (fun r s' => r = .ok (.ret (.bool true)) ∧ OldK s1.heap s'.heap ∧ s'.os = s1.os ∧ AllBare s'.gens) s1 := by
    intro H only sq ok few
    have away : ∀ {b : Addr}, ¬ (b = a ∧ K.lookup a = none) → H b = none := fun {b} z => Classical.byContradiction fun y => z (few b y)
    have kin' : K.In (hidT s1.heap H) := fun b o e => hidT_get (kin b o e) (away fun z => by
      obtain ⟨rfl, y⟩ := z
      rw [y] at e
      cases e)
    have ns' : ∀ {b : Addr} {m : Str → Option Value}, s1.heap.Ns b m → (hidT s1.heap H).Ns b m := by
      rintro b m ⟨o, es, ep, e, d, r⟩
      refine ⟨o, es, ep, hidT_get e (away ?_), d, r⟩
      rintro ⟨rfl, _⟩
      cases ha.symm.trans e
      cases d
    obtain ⟨mc, l1, l2⟩ := nol
    have env : Env0 Pr wd K mg (hidT s1.heap H) callerA [] s1 H :=
      ⟨rfl, ⟨kin', ns' hns, ⟨mb, ns' hbn, hbt⟩, mc, ns' l1, l2⟩, fun b o e => of_hidT e, Nat.le_of_eq (hidT_size _ _), trivial, fun b z => (nomatch (show b ∈ ([] : List Addr) from z)), ok, .of_eq gen0⟩
    have run := (F _ kin' (ns' hns)).run callerA [] s1 H ⟨[.ref a], []⟩ [.ref a] [.ref a] _ _ still_caller room env (bind s1 (.ref a)) (.cons rfl .nil) (keeps H only sq)
    refine codeAny_mono run fun res s' z => ?_
    match res, z with
    | .error e, z => exact (calm H e s' z).elim
    | .ok .next, z => exact False.elim z
    | .ok .brk, z => exact False.elim z
    | .ok .cont, z => exact False.elim z
    | .ok (.ret u), ⟨v, H', os, bare, un, ok', rv, qv⟩ =>
      cases (show v = .bl true from qv)
      cases (show u = Value.bool true from rv)
      refine ⟨rfl, OldK.of_keep fun b o e => ?_, os, bare⟩
      rcases only b with n | ⟨ob, ys, n⟩
      · exact un.keep b o e n (fun z => nomatch (show b ∈ ([] : List Addr) from z)) (fun z => nomatch z)
      · have e1 := (ok b _ n).1
        have e2 := (ok' b _ (un.frzs b ob _ n)).1
        cases e.symm.trans e1
        exact e2
  cases hk : K.lookup a with
  | some o =>
    cases ha.symm.trans (kin a o hk)
    refine go (fun _ => none) (fun _ => .inl rfl) (.inr ⟨_, us.toArray, _, hk, rfl, rfl, rfl, ?_, by simpa using rel⟩) (fun b u z => nomatch (show (none : Option HO) = some u from z)) fun b z => absurd rfl z
    rw [List.size_toArray, hints.length]
    exact len
  | none =>
    have here : (fun b => if b = a then some (HO.frz { cls := .type "list", data := .seq us.toArray } (.lst (ns.map V.int))) else none : Hp) a = some (HO.frz { cls := .type "list", data := .seq us.toArray } (.lst (ns.map V.int))) := if_pos rfl
    have there : ∀ {b : Addr}, b ≠ a → (fun b => if b = a then some (HO.frz { cls := .type "list", data := .seq us.toArray } (.lst (ns.map V.int))) else none : Hp) b = none := fun n => if_neg n
    generalize (fun b => if b = a then some (HO.frz { cls := .type "list", data := .seq us.toArray } (.lst (ns.map V.int))) else none : Hp) = H at here there
    have two : ∀ b : Addr, b = a ∨ H b = none := fun b => (Classical.em (b = a)).imp id there
    refine go H (fun b => ?_) (.inl (.inr ⟨_, here⟩)) (fun b u z => ?_) fun b z => ⟨(two b).resolve_right z, hk⟩
    · rcases two b with rfl | n
      · exact .inr ⟨_, _, here⟩
      · exact .inl n
    · rcases two b with rfl | n
      · cases here.symm.trans z
        exact ⟨ha, by rw [List.length_map]; exact len, us, _, rel, ha⟩
      · cases n.symm.trans z
theorem walkG {l : PySem.W.OpenLaw} {n k : Nat} {q : Program} {loose : List Str} {XP : (Str → Option Value) → Heap → Prop} {YP : World → Heap → Prop} {d : DefRec} {K : Params → PySem.W.Frag} {CX : World → CXT} {sp : World → Sp} {x : Str}
    (most : l.most = some n) (nl : n ≤ sizeLine) (nod : d.params.defaults = []) (room : Room k callerA) (hY : ∀ (wd : World) (h : Heap), YP wd h → (K wd.params).In h)
    (F : ∀ (wd : World) (mg : Str → Option Value) (fa : Addr) (h : Heap), (K wd.params).In h → h.Ns mainGlobals mg → mg d.name = some (.ref fa) →
      ∃ fd : FuncData, (∀ (s : Shared) (u : Value), BindsTo s fd ⟨[u], []⟩ [(x, u)]) ∧ ∀ B : Heap, (K wd.params).In B → B.Ns mainGlobals mg → FnG l.prog wd (K wd.params) mg B (CX wd) k fa fd [x] (sp wd))
    (keeps : ∀ (wd : World) (H : Hp) (a : Addr) (ns : List Int), ns.length ≤ n → Only H → SqL (K wd.params) H a (ns.map V.int) → sp wd [.ref a] H (fun v _ => v = .bl true) fun _ _ _ => False)
    (calm : ∀ (wd : World) (H : Hp) (s : Shared) (e : Value) (s' : Shared), CX wd [] H s (fun _ _ _ => False) e s' → False) :
    PySem.W.WalkO q loose XP YP l.row.toRowW d [] (fun f vs => PySem.call f vs) :=
  Att.attach_call most nod fun wd s0 s1 mg mb fa o pm cd doc a us ns G Y ho hd hcd hmg hobj hints len gen0 => by
    obtain ⟨fd, hb, hF⟩ := F wd mg fa _ (hY wd _ Y) G.T.g hmg
    exact lawG (hY wd _ Y) G.T.g G.T.b G.T.builtins G.T.nolimit gen0 hobj hints (Nat.le_trans len nl) room hF hb (fun H => keeps wd H a ns len) fun H e s' => calm wd H s1 e s'
end My

set_option Elab.async false
set_option linter.all false
set_option maxRecDepth 100000
set_option maxHeartbeats 4000000
/-! ### any() over words -/
namespace My
open PySem PySem.Spec PyProof.Rows L2
theorem words_plain : ∀ ws : List Nat, PyData.plainAll (ws.map dI) = true
  | [] => rfl
  | w :: r => by
    show (PyData.plain (dI w) && PyData.plainAll (r.map dI)) = true
    rw [words_plain r]
    rfl
theorem words_any (ws : List Nat) : (ws.map dI).any PyData.truthy = ws.any fun w => decide (w ≠ 0) := by
  rw [List.any_map]
  congr 1
  funext w
  show ((w : Int) != 0) = decide (w ≠ 0)
  by_cases h : w = 0
  · subst h
    rfl
  · simp [h]
section
variable {X : Cx}
def rAnyN (K : PySem.W.Frag) : List V → Hp → VK → Prop := fun vs H Q => ∃ (a : Addr) (ws : List Nat), vs = [V.ref a] ∧ SqL K H a (ws.map vN) ∧ Q (.bl (ws.any fun w => decide (w ≠ 0))) H
theorem cr_anyN (hc : X.calm = true) : CallR X (.builtin "any") (rAnyN X.K) := by
  intro pins s σ H vs us Q I r h
  obtain ⟨a, ws, rfl, hs, q⟩ := h
  obtain ⟨its, rv, hl, _⟩ := I.list hs
  rw [Vals.ref1 r]
  obtain ⟨as, ra⟩ := Dp.readsAll I (ws.map dI) (ws.map vN) its (dp_all ws) rv
  refine PySem.W.any_list_data (I.ok.hd hc) hl.isList ra (words_plain ws) (fun x hx => ?_) fun h' tk hk => ?_
  · obtain ⟨w, _, rfl⟩ := List.mem_map.mp hx
    trivial
  · rw [words_any]
    exact ⟨.bl _, H, I.kept hk, rfl, q⟩
end
end My

set_option Elab.async false
set_option linter.all false
set_option maxRecDepth 100000
set_option maxHeartbeats 1000000
/-! ### zip of any number of lists -/
namespace My
open PySem
open PySem.Sem (wp)
section
variable {prog : Program} {w : World} {A : Around} {E : Value → Shared → Prop}
/-- a for over a list, with a word for each turn -/
theorem wp_for {α β : Type} {f : α → β → Sem (ForInStep β)} {Q : β → Shared → Prop} (W : Nat → β → Shared → Prop) : ∀ (l : List α) (k : Nat) (b : β) (s : Shared),
    (∀ j x b s, l[j]? = some x → W (k + j) b s → wpAny (model prog w) A (f x b) (fun r s' => ∃ b', r = .yield b' ∧ W (k + j + 1) b' s') E s) → W k b s → (∀ b s, W (k + l.length) b s → Q b s) → wpAny (model prog w) A (forIn l b f) Q E s
  | [], k, b, s, _, h0, hq => by
    rw [List.forIn_nil]
    exact wpAny_pure (hq b s h0)
  | x :: l, k, b, s, hs, h0, hq => by
    rw [List.forIn_cons]
    refine wpAny_bind (wpAny_mono (hs 0 x b s rfl h0) (fun r s' h => ?_) fun _ _ h => h)
    obtain ⟨b', e, h1⟩ := h
    subst e
    refine wp_for W l (k + 1) b' s' (fun j y b2 s2 hy h2 => ?_) h1 (fun b2 s2 h2 => hq b2 s2 ?_)
    · have e : k + 1 + j = k + (j + 1) := by omega
      rw [e] at h2 ⊢
      exact hs (j + 1) y b2 s2 (by simpa using hy) h2
    · have e : k + 1 + l.length = k + (x :: l).length := by rw [List.length_cons]; omega
      rw [← e]
      exact h2
/-- the iterators of a zip, made one behind the other -/
theorem wp_iterAll {L : List Addr} {s : Shared} {Q : List Value → Shared → Prop} (hl : ∀ l ∈ L, ∃ xs, s.heap.IsList l xs)
    (hq : ∀ h', h'.objs.size = s.heap.objs.size + L.length → (∀ j l, L[j]? = some l → h'.IsListIter (s.heap.objs.size + j) l 0) → (∀ c o, s.heap.get? c = some o → h'.get? c = some o) →
      Q ((List.range L.length).map fun j => .ref (s.heap.objs.size + j)) { s with heap := h' }) :
    wpAny (model prog w) A (Builtin.SmallTypes.iterAll (L.map .ref)) Q E s := by
  unfold Builtin.SmallTypes.iterAll
  refine wpAny_bind (wp_for (fun k (b : Array Value) s' => ∃ h', s' = { s with heap := h' } ∧ b.toList = (List.range k).map (fun j => Value.ref (s.heap.objs.size + j)) ∧ h'.objs.size = s.heap.objs.size + k ∧ (∀ j l, j < k → L[j]? = some l → h'.IsListIter (s.heap.objs.size + j) l 0) ∧ (∀ c o, s.heap.get? c = some o → h'.get? c = some o)) _ 0 _ _ ?_ ⟨s.heap, rfl, rfl, rfl, fun j l z _ => absurd z (Nat.not_lt_zero _), fun _ _ e => e⟩ ?_)
  · rintro j x b s' hx ⟨h', rfl, hb, hsz, hi, hk⟩
    rw [Nat.zero_add] at hb hsz hi ⊢
    rw [List.getElem?_map] at hx
    cases hL : L[j]? with
    | none => rw [hL] at hx; cases hx
    | some l =>
      rw [hL] at hx
      cases hx
      obtain ⟨xs, o, ho, hc, hd⟩ := hl l (List.mem_of_getElem? hL)
      have hl' : Heap.IsList h' l xs := ⟨o, hk _ _ ho, hc, hd⟩
      refine wpAny_bind (wpAny_holding (wpAny_pyIter_list (s := { s with heap := h' }) hl' (wpAny_pure ⟨_, rfl, _, rfl, ?_, ?_, ?_, ?_⟩)))
      · show (b.push _).toList = _
        rw [Array.toList_push, hb, List.range_succ, List.map_append, hsz]
        rfl
      · show (Heap.push h' _).objs.size = _
        rw [Heap.size_push, hsz]
        omega
      · intro j2 l2 hj h2
        by_cases e : j2 = j
        · subst e
          rw [hL] at h2
          cases h2
          rw [← hsz]
          exact ⟨_, Heap.get?_push_size _ rfl, rfl, rfl⟩
        · exact (hi j2 l2 (by omega) h2).at fun o q => Heap.get?_push_of_some _ q
      · exact fun c o q => Heap.get?_push_of_some _ (hk c o q)
  · rintro b s' ⟨h', rfl, hb, hsz, hi, hk⟩
    rw [List.length_map, Nat.zero_add] at hb hsz hi
    refine wpAny_pure ?_
    rw [hb]
    exact hq h' hsz (fun j l h => hi j l (List.getElem?_eq_some_iff.mp h).1 h) hk
theorem typeCall_zip (l : List Value) : checkTypeCall "zip" ⟨l, []⟩ = pure () := by kernel_rfl
theorem newCall_zip (a : Value) (l : List Value) : checkBuiltinCall "zip.__new__" ⟨.type "zip" :: a :: l, []⟩ = pure () := by kernel_rfl
theorem args_init_any (a : Value) (l : List Value) : argsOk "object.__init__" ⟨a :: l, []⟩ := by unfold argsOk; kernel_rfl
/-- a zip object, its parts in the two cells behind the iterators -/
abbrev ZRec (h : Heap) (z TI TO : Addr) (f0 : Value) (b : Bool) : Prop :=
  h.get? z = some { cls := .type "zip", dict := none, data := .fields #[f0, .bool b, .bool false, .ref TI, .ref TO], slots := #[] }
abbrev STup (h : Heap) (T : Addr) (a : Array Value) : Prop := h.get? T = some { cls := .type "tuple", data := .seq a }
def refsOf (b n : Nat) : List Value := (List.range n).map fun j => .ref (b + j)
theorem meets_zip_n (L : List Addr) (hn : L.length ≤ sizeLine) :
    Meets (Builtin.«zip.__new__» ⟨.type "zip" :: L.map .ref, []⟩) (fun _ R s => (∀ l ∈ L, ∃ xs, s.heap.IsList l xs) ∧
      ∀ h', ZRec h' (s.heap.objs.size + L.length + 2) (s.heap.objs.size + L.length) (s.heap.objs.size + L.length + 1) .none false → STup h' (s.heap.objs.size + L.length) (refsOf s.heap.objs.size L.length).toArray →
        (∃ a, STup h' (s.heap.objs.size + L.length + 1) a ∧ a.size = L.length) → (∀ j l, L[j]? = some l → h'.IsListIter (s.heap.objs.size + j) l 0) → (∀ c o, s.heap.get? c = some o → h'.get? c = some o) →
        R (.ok (.ret (.ref (s.heap.objs.size + L.length + 2)))) { s with heap := h' }) :=
  .of_wp fun prog w A R s h => by
    obtain ⟨hp, g, d, tk, os⟩ := s
    obtain ⟨hl, h⟩ := h
    have hsub := sub_zip
    wp_walk using wp_iterAll hl
    intro h1 hsz hi hk
    refine wpAny_bind (wpAny_newTuple ?_ (by simpa using hn))
    refine wpAny_bind (wpAny_newTuple ?_ (by simpa using hn))
    have n2 : (h1.push { cls := .type "tuple", data := .seq (refsOf hp.objs.size L.length).toArray }).objs.size = hp.objs.size + L.length + 1 := by rw [Heap.size_push, hsz]
    generalize ea : (List.map (fun _ => Value.none) (List.map (fun j => Value.ref (hp.objs.size + j)) (List.range L.length))).toArray = a0
    have la : a0.size = L.length := by rw [← ea]; simp
    have n3 : ((h1.push { cls := .type "tuple", data := .seq (refsOf hp.objs.size L.length).toArray }).push { cls := .type "tuple", data := .seq a0 }).objs.size = hp.objs.size + L.length + 2 := by rw [Heap.size_push, n2]
    unfold Builtin.SmallTypes.newRecord
    wp_walk
    refine ⟨_, rfl, ?_⟩
    have ev : (Shared.heap ⟨hp, g, d, tk, os⟩) = hp := rfl
    rw [ev] at h
    have key := h (((h1.push { cls := .type "tuple", data := .seq (refsOf hp.objs.size L.length).toArray }).push { cls := .type "tuple", data := .seq a0 }).push { cls := .type "zip", data := .fields #[.none, .bool false, .bool false, .ref (hp.objs.size + L.length), .ref (hp.objs.size + L.length + 1)] })
      (by rw [← n3]; exact Heap.get?_push_size _ rfl) (Heap.get?_push_of_some _ (Heap.get?_push_of_some _ (by rw [← hsz]; exact Heap.get?_push_size _ rfl))) ⟨a0, Heap.get?_push_of_some _ (by rw [← n2]; exact Heap.get?_push_size _ rfl), la⟩
      (fun j l e => (hi j l e).at fun o q => Heap.get?_push_of_some _ (Heap.get?_push_of_some _ (Heap.get?_push_of_some _ q))) (fun c o q => Heap.get?_push_of_some _ (Heap.get?_push_of_some _ (Heap.get?_push_of_some _ (hk c o q))))
    have hsz' : h1.objs.size = hp.objs.size + L.length := hsz
    show R (.ok (.ret (.ref (((h1.push { cls := .type "tuple", data := .seq (refsOf hp.objs.size L.length).toArray }).push { cls := .type "tuple", data := .seq a0 }).objs.size)))) ⟨((h1.push { cls := .type "tuple", data := .seq (refsOf hp.objs.size L.length).toArray }).push { cls := .type "tuple", data := .seq a0 }).push { cls := .type "zip", data := .fields #[.none, .bool false, .bool false, .ref h1.objs.size, .ref (h1.push { cls := .type "tuple", data := .seq (refsOf hp.objs.size L.length).toArray }).objs.size] }, g, d, tk, os⟩
    rw [n3, n2, hsz']
    exact key
end
section
variable {prog : Program} {w : World} {A : Around} {E : Value → Shared → Prop} {s : Shared}
/-- the parts of a zip of the lists L, all iterators at i -/
structure ZAt (L : List Addr) (b i : Nat) (h : Heap) : Prop where
  z : ∃ f0 c, ZRec h (b + L.length + 2) (b + L.length) (b + L.length + 1) f0 c ∧ (f0 = .none ∨ ∃ T : Nat, f0 = rawInt T)
  ti : STup h (b + L.length) (refsOf b L.length).toArray
  to : ∃ a, STup h (b + L.length + 1) a ∧ a.size = L.length
  its : ∀ j l, L[j]? = some l → h.IsListIter (b + j) l i
def Zpart (L : List Addr) (b : Nat) (c : Addr) : Prop := c = b + L.length + 2 ∨ c = b + L.length + 1 ∨ ∃ j, j < L.length ∧ c = b + j
theorem za1 (b n : Nat) : b + n ≠ b + n + 2 := by omega
theorem za2 (b n : Nat) : b + n + 1 ≠ b + n + 2 := by omega
theorem za3 {b n j : Nat} (h : j < n) : b + j ≠ b + n + 2 := by omega
theorem za4 {b n j : Nat} (h : j < n) : b + j ≠ b + n + 1 := by omega
theorem za5 {b n l : Nat} (h : l < b) : l ≠ b + n + 2 := by omega
theorem za6 {b n l : Nat} (h : l < b) : l ≠ b + n + 1 := by omega
theorem za7 {b j l : Nat} (h : l < b) : l ≠ b + j := by omega
theorem za8 (b n : Nat) : b + n ≠ b + n + 1 := by omega
theorem za9 {b n j : Nat} (h : j < n) : b + n ≠ b + j := by omega
theorem zb1 {b n j : Nat} (h : j < n) : b + n + 1 ≠ b + j := by omega
theorem zb2 {b n j : Nat} (h : j < n) : b + n + 2 ≠ b + j := by omega
theorem zb3 {b j k : Nat} (h : j ≠ k) : b + j ≠ b + k := by omega
theorem low_not {L : List Addr} {b c : Nat} (h : c < b) : ¬ Zpart L b c := by
  rintro (e | e | ⟨j, _, e⟩)
  · exact za5 h e
  · exact za6 h e
  · exact za7 h e
theorem ti_not {L : List Addr} {b : Nat} : ¬ Zpart L b (b + L.length) := by
  rintro (e | e | ⟨j, h, e⟩)
  · exact za1 _ _ e
  · exact za8 _ _ e
  · exact za9 h e
theorem alive_any {a : Addr} {Q : Option Obj → Shared → Prop} (h : Q (s.heap.get? a) s) : wpAny (model prog w) A (loadIfAlive a) Q E s := fun _ _ _ => h
theorem owned_ask {z TI TO : Addr} {f0 : Value} {c0 : Bool} {Q : Bool → Shared → Prop} (hz : ZRec s.heap z TI TO f0 c0) (hf : f0 = .none ∨ ∃ T : Nat, f0 = rawInt T)
    (hQ : ∀ r h' c', ZRec h' z TI TO f0 c' → Heap.SameBut z s.heap h' → Q r { s with heap := h' }) : wpAny (model prog w) A (Builtin.SmallTypes.ownedTupleIsFree (.ref z)) Q E s := by
  unfold Builtin.SmallTypes.ownedTupleIsFree
  rcases hf with rfl | ⟨T, rfl⟩
  · exact wpAny_bind (wpAny_field hz rfl (x := .none) rfl (wpAny_pure (hQ true s.heap c0 hz (Heap.SameBut.refl _ _))))
  · refine wpAny_bind (wpAny_field hz rfl (x := rawInt T) rfl ?_)
    show wpAny _ _ (loadIfAlive ((T : Int).toNat) >>= _) _ _ _
    rw [Int.toNat_natCast]
    refine wpAny_bind (alive_any ?_)
    cases s.heap.get? T with
    | none =>
      simp only [Option.isNone_none, if_true]
      exact wpAny_pure (hQ true s.heap c0 hz (Heap.SameBut.refl _ _))
    | some oT =>
      simp only [Option.isNone_some, Bool.false_eq_true, if_false]
      refine wpAny_bind (wpAny_field hz rfl (x := .bool c0) rfl ?_)
      cases c0 with
      | true =>
        rw [if_neg (show ¬ ((Value.bool true != Value.bool true) = true) from Bool.false_ne_true)]
        exact wpAny_pure (hQ false s.heap true hz (Heap.SameBut.refl _ _))
      | false =>
        rw [if_pos (show (Value.bool false != Value.bool true) = true from rfl)]
        exact wpAny_bind (wpAny_setField_rec hz (by simp) fun h₁ hz₁ hs₁ => wpAny_pure (hQ false h₁ true hz₁ hs₁))
theorem refs_at {b n j : Nat} {x : Value} (h : (refsOf b n)[j]? = some x) : j < n ∧ x = .ref (b + j) := by
  unfold refsOf at h
  rw [List.getElem?_map] at h
  by_cases c : j < n
  · rw [List.getElem?_range c] at h
    exact ⟨c, (Option.some.inj h).symm⟩
  · rw [List.getElem?_eq_none (by rw [List.length_range]; omega)] at h
    cases h
theorem zipN_next {L : List Addr} {b i : Nat} {col : Nat → Value} {Q : Value → Shared → Prop} (hn : L.length ≤ sizeLine) (h0 : L ≠ []) (hlow : ∀ l ∈ L, l < b) (Z : ZAt L b i s.heap)
    (hl : ∀ j l, L[j]? = some l → ∃ xs, s.heap.IsList l xs ∧ xs[i]? = some (col j))
    (hQ : ∀ h', ZAt L b (i + 1) h' → STup h' s.heap.objs.size ((List.range L.length).map col).toArray → (∀ c o, ¬ Zpart L b c → s.heap.get? c = some o → h'.get? c = some o) → Q (.ref s.heap.objs.size) { s with heap := h' }) :
    wpAny (model prog w) A (Builtin.«zip.__next__» ⟨[.ref (b + L.length + 2)], []⟩) (fun fin s' => ∃ v, fin = .done (.ret v) ∧ Q v s') E s := by
  obtain ⟨⟨f0, c0, hz, hf⟩, ti, to, its⟩ := Z
  have n0 : 0 < L.length := List.length_pos_iff.mpr h0
  show wpAny _ _ (field (.ref _) 2 >>= _) _ _ _
  refine wpAny_bind (wpAny_field hz rfl (x := .bool false) rfl ?_)
  show wpAny _ _ (field (.ref _) 3 >>= _) _ _ _
  refine wpAny_bind (wpAny_field hz rfl (x := .ref (b + L.length)) rfl (wpAny_bind (wpAny_seqItems ti rfl ?_)))
  have he : (refsOf b L.length).toArray.isEmpty = false := by
    unfold refsOf
    simp
    omega
  show wpAny (model prog w) A (if (refsOf b L.length).toArray.isEmpty = true then _ else _) _ E s
  rw [if_neg (by rw [he]; exact Bool.false_ne_true)]
  refine wpAny_bind (owned_ask hz hf fun r h1 c1 hz1 sb1 => ?_)
  have e1 := sb1.extBut
  have ti1 : STup h1 (b + L.length) (refsOf b L.length).toArray := e1 _ _ (za1 _ _) ti
  obtain ⟨a0, to0, la0⟩ := to
  have to1 : STup h1 (b + L.length + 1) a0 := e1 _ _ (za2 _ _) to0
  have its1 : ∀ j l, L[j]? = some l → h1.IsListIter (b + j) l i := fun j l h => (its j l h).extBut e1 (za3 (List.getElem?_eq_some_iff.mp h).1)
  have k1 : ∀ c o, ¬ Zpart L b c → s.heap.get? c = some o → h1.get? c = some o := fun c o n q => e1 _ _ (fun e => n (.inl e)) q
  cases r with
  | true =>
    rw [if_pos rfl]
    refine wpAny_bind (wpAny_rule (wpAny_bind (wpAny_field (s := { s with heap := h1 }) hz1 rfl (x := .ref (b + L.length + 1)) rfl (wpAny_bind (wpAny_setField_rec (s := { s with heap := h1 }) hz1 (by simp) fun h2 hz2 sb2 => ?_)))))
    replace hz2 : ZRec h2 (b + L.length + 2) (b + L.length) (b + L.length + 1) .ellipsis c1 := hz2
    replace sb2 : Heap.SameBut (b + L.length + 2) h1 h2 := sb2
    have e2 := sb2.extBut
    have nsz : h2.objs.size = s.heap.objs.size := by rw [sb2.1, sb1.1]
    refine wpAny_bind (wp_for (fun k (bb : Option PySem.Fin × Unit) s' => ∃ h' a, s' = { s with heap := h' } ∧ bb = (none, ()) ∧ h'.objs.size = s.heap.objs.size ∧ ZRec h' (b + L.length + 2) (b + L.length) (b + L.length + 1) .ellipsis c1 ∧ STup h' (b + L.length + 1) a ∧ a.size = L.length ∧ (∀ j, j < k → a[j]? = some (col j)) ∧
      (∀ (j : Nat) (l : Addr), L[j]? = some l → h'.IsListIter (b + j) l (if j < k then i + 1 else i)) ∧ (∀ c o, ¬ Zpart L b c → s.heap.get? c = some o → h'.get? c = some o)) _ 0 _ _ ?_ ?_ ?_)
    · rintro j ⟨it, kk⟩ bb s' hx ⟨h', a, rfl, rfl, hsz, hzz, hto, la, hc, hit, hkp⟩
      rw [Nat.zero_add] at hc hit ⊢
      rw [List.getElem?_zipIdx] at hx
      obtain ⟨it2, hx1, hx2⟩ := Option.map_eq_some_iff.mp hx
      cases hx2
      obtain ⟨hj, rfl⟩ := refs_at hx1
      have hL : L[j]? = some (L[j]) := List.getElem?_eq_getElem hj
      obtain ⟨xs, hls, hxs⟩ := hl j _ hL
      have hls' : h'.IsList L[j] xs := by
        obtain ⟨o, ho, r⟩ := hls
        exact ⟨o, hkp _ _ (low_not (hlow _ (List.getElem_mem hj))) ho, r⟩
      have hi' := hit j _ hL
      rw [if_neg (Nat.lt_irrefl j)] at hi'
      refine wpAny_bind (wpAny_onRaise ?_)
      show wpAny _ _ (Builtin.SmallTypes.nextOf (.ref (b + j)) >>= _) _ _ _
      refine wpAny_bind (wpAny_nextOf_list_item (s := { s with heap := h' }) hi' hls' hxs fun g2 p2 s2 => wpAny_pure ?_)
      replace s2 : Heap.SameBut (b + j) h' g2 := s2
      have c2 := s2.extBut
      have t2 : STup g2 (b + L.length + 1) a := c2 _ _ (zb1 hj) hto
      refine wpAny_bind (wpAny_seqItems (s := { s with heap := g2 }) t2 rfl (wpAny_bind (wpAny_updateSeq (s := { s with heap := g2 }) t2 rfl ?_ (by rw [la]; exact hn) (by rw [Array.size_setIfInBounds, la]; omega))))
      have s3 : Heap.SameBut (b + L.length + 1) g2 (g2.update (b + L.length + 1) (Obj.mapSeq fun x => x.setIfInBounds (0 + j) (col j))) := Heap.SameBut.update ..
      have t3 : STup (g2.update (b + L.length + 1) (Obj.mapSeq fun x => x.setIfInBounds (0 + j) (col j))) (b + L.length + 1) (a.setIfInBounds (0 + j) (col j)) := by
        show Heap.get? _ _ = _
        rw [Heap.get?_update_self _ t2 rfl]
        simp [Obj.mapSeq]
      have c3 := s3.extBut
      refine wpAny_bind (wpAny_letGo (wpAny_pure ⟨_, rfl, _, (a.setIfInBounds (0 + j) (col j)), rfl, rfl, ?_, ?_, t3, ?_, ?_, ?_, ?_⟩))
      · show (Heap.objs _).size = _
        rw [s3.1, s2.1, hsz]
      · exact c3 _ _ (za2 _ _).symm (c2 _ _ (zb2 hj) hzz)
      · rw [Array.size_setIfInBounds, la]
      · intro j2 h2
        rw [Nat.zero_add, Array.getElem?_setIfInBounds]
        by_cases e : j = j2
        · subst e
          rw [if_pos rfl, if_pos (by rw [la]; exact hj)]
        · rw [if_neg e]
          exact hc j2 (by omega)
      · intro j2 l2 h2
        by_cases e : j2 = j
        · subst e
          rw [if_pos (Nat.lt_succ_self _)]
          rw [hL] at h2
          cases h2
          exact p2.extBut c3 (za4 hj)
        · have q := ((hit j2 l2 h2).extBut c2 (zb3 e)).extBut c3 (za4 (List.getElem?_eq_some_iff.mp h2).1)
          by_cases e2 : j2 < j
          · rw [if_pos e2] at q
            rw [if_pos (by omega)]
            exact q
          · rw [if_neg e2] at q
            rw [if_neg (by omega)]
            exact q
      · intro c o n q
        exact c3 _ _ (fun e => n (.inr (.inl e))) (c2 _ _ (fun e => n (.inr (.inr ⟨j, hj, e⟩))) (hkp c o n q))
    · refine ⟨h2, a0, rfl, rfl, nsz, hz2, e2 _ _ (za2 _ _) to1, la0, fun j z => absurd z (Nat.not_lt_zero _), fun j l h => ?_, fun c o n q => e2 _ _ (fun e => n (.inl e)) (k1 c o n q)⟩
      rw [if_neg (Nat.not_lt_zero _)]
      exact (its1 j l h).extBut e2 (za3 (List.getElem?_eq_some_iff.mp h).1)
    · rintro bb s' ⟨h', a, rfl, rfl, hsz, hzz, hto, la, hc, hit, hkp⟩
      have ll : (refsOf b L.length).toArray.toList.zipIdx.length = L.length := by
        unfold refsOf
        simp
      rw [ll, Nat.zero_add] at hc hit
      have ea : a = ((List.range L.length).map col).toArray := by
        refine Array.ext_getElem? fun j => ?_
        by_cases c : j < L.length
        · rw [hc j c]
          simp [c]
        · rw [Array.getElem?_eq_none (by rw [la]; omega), Array.getElem?_eq_none (by simp; omega)]
      subst ea
      refine wpAny_bind (wpAny_seqItems (s := { s with heap := h' }) hto rfl (wpAny_bind (wpAny_newTuple ?_ (by simpa using hn))))
      show wpAny _ _ (Builtin.SmallTypes.ownedTupleHandOut (.ref _) (.ref h'.objs.size) >>= _) _ _ ⟨h'.push { cls := .type "tuple", data := .seq ((List.range L.length).map col).toArray }, s.gens, s.drawn, s.toks, s.os⟩
      unfold Builtin.SmallTypes.ownedTupleHandOut
      have y6 : ZRec (h'.push { cls := .type "tuple", data := .seq ((List.range L.length).map col).toArray }) (b + L.length + 2) (b + L.length) (b + L.length + 1) .ellipsis c1 := Heap.get?_push_of_some _ hzz
      refine wpAny_bind (wpAny_bind (wpAny_setField_rec (s := ⟨h'.push { cls := .type "tuple", data := .seq ((List.range L.length).map col).toArray }, s.gens, s.drawn, s.toks, s.os⟩) y6 (by simp) fun g7 y7 s7 => ?_))
      replace y7 : ZRec g7 (b + L.length + 2) (b + L.length) (b + L.length + 1) (rawInt h'.objs.size) c1 := y7
      refine wpAny_setField_rec (s := ⟨g7, s.gens, s.drawn, s.toks, s.os⟩) y7 (by simp) fun g8 y8 s8 => ?_
      replace y8 : ZRec g8 (b + L.length + 2) (b + L.length) (b + L.length + 1) (rawInt h'.objs.size) false := y8
      have up : ∀ c o, c ≠ b + L.length + 2 → h'.get? c = some o → g8.get? c = some o := fun c o n p => s8.extBut _ _ n (s7.extBut _ _ n (Heap.get?_push_of_some _ p))
      have zl : b + L.length + 2 < h'.objs.size := Heap.lt_size hzz
      have new : STup g8 h'.objs.size ((List.range L.length).map col).toArray := s8.extBut _ _ (Nat.ne_of_gt zl) (s7.extBut _ _ (Nat.ne_of_gt zl) (Heap.get?_push_size _ rfl))
      rw [hsz] at new
      refine wpAny_pure ⟨_, rfl, ?_⟩
      show Q (.ref h'.objs.size) _
      rw [hsz]
      refine hQ g8 ⟨⟨_, _, y8, .inr ⟨_, rfl⟩⟩, up _ _ (za1 _ _) (hkp _ _ ti_not ti), ⟨_, up _ _ (za2 _ _) hto, by simp⟩, fun j l h => ?_⟩ new fun c o n q => up _ _ (fun e => n (.inl e)) (hkp c o n q)
      have q := hit j l h
      rw [if_pos (List.getElem?_eq_some_iff.mp h).1] at q
      exact q.at fun o e => up _ o (za3 (List.getElem?_eq_some_iff.mp h).1) e
  | false =>
    rw [if_neg Bool.false_ne_true]
    dsimp only
    rw [← Array.forIn_toList]
    refine wpAny_bind (wp_for (fun k (bb : Option PySem.Fin × Array Value) s' => ∃ h' a, s' = { s with heap := h' } ∧ bb = (none, a) ∧ h'.objs.size = s.heap.objs.size ∧ ZRec h' (b + L.length + 2) (b + L.length) (b + L.length + 1) f0 c1 ∧ a.toList = (List.range k).map col ∧
      (∀ (j : Nat) (l : Addr), L[j]? = some l → h'.IsListIter (b + j) l (if j < k then i + 1 else i)) ∧ (∀ c o, (¬ Zpart L b c ∨ c = b + L.length + 1) → s.heap.get? c = some o → h'.get? c = some o)) _ 0 _ _ ?_ ?_ ?_)
    · rintro j it bb s' hx ⟨h', a, rfl, rfl, hsz, hzz, hto, hit, hkp⟩
      rw [Nat.zero_add] at hto hit ⊢
      have hx1 : (refsOf b L.length)[j]? = some it := by simpa using hx
      obtain ⟨hj, rfl⟩ := refs_at hx1
      have hL : L[j]? = some (L[j]) := List.getElem?_eq_getElem hj
      obtain ⟨xs, hls, hxs⟩ := hl j _ hL
      have hls' : h'.IsList L[j] xs := by
        obtain ⟨o, ho, r⟩ := hls
        exact ⟨o, hkp _ _ (.inl (low_not (hlow _ (List.getElem_mem hj)))) ho, r⟩
      have hi' := hit j _ hL
      rw [if_neg (Nat.lt_irrefl j)] at hi'
      refine wpAny_bind (wpAny_holding ?_)
      show wpAny _ _ (Builtin.SmallTypes.nextOf (.ref (b + j)) >>= _) _ _ _
      refine wpAny_bind (wpAny_nextOf_list_item (s := { s with heap := h' }) hi' hls' hxs fun g2 p2 s2 => wpAny_pure (wpAny_pure ?_))
      replace s2 : Heap.SameBut (b + j) h' g2 := s2
      have c2 := s2.extBut
      refine ⟨_, rfl, _, _, rfl, rfl, ?_, c2 _ _ (zb2 hj) hzz, ?_, ?_, ?_⟩
      · rw [s2.1, hsz]
      · rw [Array.toList_push, hto, List.range_succ, List.map_append]
        rfl
      · intro j2 l2 h2
        by_cases e : j2 = j
        · subst e
          rw [if_pos (Nat.lt_succ_self _)]
          rw [hL] at h2
          cases h2
          exact p2
        · have q := (hit j2 l2 h2).extBut c2 (zb3 e)
          by_cases e2 : j2 < j
          · rw [if_pos e2] at q
            rw [if_pos (by omega)]
            exact q
          · rw [if_neg e2] at q
            rw [if_neg (by omega)]
            exact q
      · intro c o n q
        refine c2 _ _ (fun e => ?_) (hkp c o n q)
        rcases n with n | n
        · exact n (.inr (.inr ⟨j, hj, e⟩))
        · exact zb1 hj (n.symm.trans e)
    · refine ⟨h1, #[], rfl, rfl, sb1.1, hz1, rfl, fun j l h => ?_, fun c o n q => e1 _ _ (fun e => ?_) q⟩
      · rw [if_neg (Nat.not_lt_zero _)]
        exact its1 j l h
      · rcases n with n | n
        · exact n (.inl e)
        · exact za2 _ _ (n.symm.trans e)
    · rintro bb s' ⟨h', a, rfl, rfl, hsz, hzz, hto, hit, hkp⟩
      have ll : (refsOf b L.length).toArray.toList.length = L.length := by
        unfold refsOf
        simp
      rw [ll, Nat.zero_add] at hto hit
      have ea : a = ((List.range L.length).map col).toArray := by rw [← hto]
      subst ea
      refine wpAny_bind (wpAny_newTuple ?_ (by simpa using hn))
      have zl : b + L.length + 2 < h'.objs.size := Heap.lt_size hzz
      have up : ∀ c o, h'.get? c = some o → (h'.push { cls := .type "tuple", data := .seq ((List.range L.length).map col).toArray }).get? c = some o := fun c o p => Heap.get?_push_of_some _ p
      have new : STup (h'.push { cls := .type "tuple", data := .seq ((List.range L.length).map col).toArray }) h'.objs.size ((List.range L.length).map col).toArray := Heap.get?_push_size _ rfl
      refine wpAny_pure ⟨_, rfl, ?_⟩
      show Q (.ref h'.objs.size) _
      rw [hsz] at new ⊢
      refine hQ _ ⟨⟨_, _, up _ _ hzz, hf⟩, up _ _ (hkp _ _ (.inl ti_not) ti), ⟨_, up _ _ (hkp _ _ (.inr rfl) to0), la0⟩, fun j l h => ?_⟩ new fun c o n q => up _ _ (hkp c o (.inl n) q)
      have q := hit j l h
      rw [if_pos (List.getElem?_eq_some_iff.mp h).1] at q
      exact q.at fun o e => up _ o e
theorem zipN_end {L : List Addr} {b i : Nat} {l0 : Addr} {xs0 : Array Value} {Q : Value → Shared → Prop} (hh : A.handled = none) (h0 : L[0]? = some l0) (hlow : ∀ l ∈ L, l < b) (Z : ZAt L b i s.heap)
    (hl : s.heap.IsList l0 xs0) (hx : xs0[i]? = none)
    (hE : ∀ h' e, (∀ c o, ¬ Zpart L b c → s.heap.get? c = some o → h'.get? c = some o) → (∃ o, h'.get? e = some o ∧ o.cls = .type "StopIteration") → E (.ref e) { s with heap := h' }) :
    wpAny (model prog w) A (Builtin.«zip.__next__» ⟨[.ref (b + L.length + 2)], []⟩) (fun fin s' => ∃ v, fin = .done (.ret v) ∧ Q v s') E s := by
  obtain ⟨⟨f0, c0, hz, hf⟩, ti, to, its⟩ := Z
  have n0 : 0 < L.length := (List.getElem?_eq_some_iff.mp h0).1
  show wpAny _ _ (field (.ref _) 2 >>= _) _ _ _
  refine wpAny_bind (wpAny_field hz rfl (x := .bool false) rfl ?_)
  show wpAny _ _ (field (.ref _) 3 >>= _) _ _ _
  refine wpAny_bind (wpAny_field hz rfl (x := .ref (b + L.length)) rfl (wpAny_bind (wpAny_seqItems ti rfl ?_)))
  have he : (refsOf b L.length).toArray.isEmpty = false := by
    unfold refsOf
    simp
    intro e
    subst e
    exact absurd n0 (Nat.lt_irrefl 0)
  have hr : ∃ r, refsOf b L.length = .ref (b + 0) :: r := by
    unfold refsOf
    obtain ⟨m, e⟩ : ∃ m, L.length = m + 1 := ⟨L.length - 1, by omega⟩
    rw [e, List.range_succ_eq_map]
    exact ⟨_, rfl⟩
  obtain ⟨rr, er⟩ := hr
  have l0b : l0 < b := hlow l0 (List.mem_of_getElem? h0)
  show wpAny (model prog w) A (if (refsOf b L.length).toArray.isEmpty = true then _ else _) _ E s
  rw [if_neg (by rw [he]; exact Bool.false_ne_true)]
  refine wpAny_bind (owned_ask hz hf fun r h1 c1 hz1 sb1 => ?_)
  have e1 := sb1.extBut
  have it1 : h1.IsListIter (b + 0) l0 i := (its 0 l0 h0).extBut e1 (za3 n0)
  have hl1 : h1.IsList l0 xs0 := hl.extBut e1 (za5 l0b)
  cases r with
  | true =>
    rw [if_pos rfl]
    refine wpAny_bind (wpAny_rule (wpAny_bind (wpAny_field (s := { s with heap := h1 }) hz1 rfl (x := .ref (b + L.length + 1)) rfl (wpAny_bind (wpAny_setField_rec (s := { s with heap := h1 }) hz1 (by simp) fun h2 hz2 sb2 => ?_)))))
    replace hz2 : ZRec h2 (b + L.length + 2) (b + L.length) (b + L.length + 1) .ellipsis c1 := hz2
    replace sb2 : Heap.SameBut (b + L.length + 2) h1 h2 := sb2
    have e2 := sb2.extBut
    have eL : (refsOf b L.length).toArray.toList.zipIdx = (.ref (b + 0), 0) :: rr.zipIdx 1 := by
      rw [List.toList_toArray, er]
      rfl
    rw [eL, List.forIn_cons]
    refine wpAny_bind (wpAny_bind (wpAny_bind (wpAny_onRaise ?_)))
    show wpAny _ _ (Builtin.SmallTypes.nextOf (.ref (b + 0)) >>= _) _ _ _
    refine wpAny_bind (wpAny_nextOf_list_end (s := { s with heap := h2 }) hh (it1.extBut e2 (za3 n0)) (hl1.extBut e2 (za5 l0b)) hx fun g2 e s2 he => ?_)
    replace s2 : Heap.ExtBut (b + 0) h2 g2 := s2
    have z2 : ZRec g2 (b + L.length + 2) (b + L.length) (b + L.length + 1) .ellipsis c1 := s2 _ _ (zb2 n0) hz2
    obtain ⟨o, ho, hc⟩ := he
    have n : e ≠ b + L.length + 2 := fun x => by subst x; rw [z2] at ho; cases ho; simp at hc
    refine wpAny_setField_rec (s := { s with heap := g2 }) z2 (by simp) fun h' _ sb => ?_
    replace sb : Heap.SameBut (b + L.length + 2) g2 h' := sb
    exact hE h' e (fun c o n q => sb.extBut _ _ (fun e => n (.inl e)) (s2 _ _ (fun e => n (.inr (.inr ⟨0, n0, e⟩))) (e2 _ _ (fun e => n (.inl e)) (e1 _ _ (fun e => n (.inl e)) q)))) ⟨o, sb.extBut _ _ n ho, hc⟩
  | false =>
    rw [if_neg Bool.false_ne_true]
    dsimp only
    rw [← Array.forIn_toList]
    have eL : (refsOf b L.length).toArray.toList = .ref (b + 0) :: rr := by rw [List.toList_toArray, er]
    rw [eL, List.forIn_cons]
    refine wpAny_bind (wpAny_bind (wpAny_bind (wpAny_holding ?_)))
    show wpAny _ _ (Builtin.SmallTypes.nextOf (.ref (b + 0)) >>= _) _ _ _
    refine wpAny_bind (wpAny_nextOf_list_end (s := { s with heap := h1 }) hh it1 hl1 hx fun g2 e s2 he => ?_)
    exact hE g2 e (fun c o n q => s2 _ _ (fun e => n (.inr (.inr ⟨0, n0, e⟩))) (e1 _ _ (fun e => n (.inl e)) q)) he
theorem zipN_ask {L : List Addr} {b i : Nat} {col : Nat → Value} {Q : Option Value → Shared → Prop} (hn : L.length ≤ sizeLine) (h0 : L ≠ []) (hlow : ∀ l ∈ L, l < b) (Z : ZAt L b i s.heap)
    (hl : ∀ j l, L[j]? = some l → ∃ xs, s.heap.IsList l xs ∧ xs[i]? = some (col j))
    (hQ : ∀ h', ZAt L b (i + 1) h' → STup h' s.heap.objs.size ((List.range L.length).map col).toArray → (∀ c o, ¬ Zpart L b c → s.heap.get? c = some o → h'.get? c = some o) → Q (some (.ref s.heap.objs.size)) { s with heap := h' }) :
    wpAny (model prog w) A (pyNext (.ref (b + L.length + 2))) Q E s := by
  obtain ⟨f0, c0, hz, _⟩ := Z.z
  have hT : s.TypeIs (.ref (b + L.length + 2)) "zip" := ⟨_, hz, rfl⟩
  unfold pyNext
  exact wpAny_bind (wpAny_attempt (wpAny_callSpecial?_slot (name := Str.ofString "__next__") hT F.slot_zip_next (wpAny_call_entry F.slot_zip_next hT F.entry_zip_next
    (zipN_next hn h0 hlow Z hl fun h' a1 a2 a3 => wpAny_pure (hQ h' a1 a2 a3)) (F.args_zip_next_1 _))))
theorem zipN_stop {L : List Addr} {b i : Nat} {l0 : Addr} {xs0 : Array Value} {Q : Option Value → Shared → Prop} (hh : A.handled = none) (h0 : L[0]? = some l0) (hlow : ∀ l ∈ L, l < b) (Z : ZAt L b i s.heap)
    (hl : s.heap.IsList l0 xs0) (hx : xs0[i]? = none) (hE : ∀ h', (∀ c o, ¬ Zpart L b c → s.heap.get? c = some o → h'.get? c = some o) → Q none { s with heap := h' }) :
    wpAny (model prog w) A (pyNext (.ref (b + L.length + 2))) Q E s := by
  obtain ⟨f0, c0, hz, _⟩ := Z.z
  have hT : s.TypeIs (.ref (b + L.length + 2)) "zip" := ⟨_, hz, rfl⟩
  unfold pyNext
  refine wpAny_bind (wpAny_attempt (wpAny_callSpecial?_slot (name := Str.ofString "__next__") hT F.slot_zip_next (wpAny_call_entry F.slot_zip_next hT F.entry_zip_next
    (zipN_end hh h0 hlow Z hl hx fun h' e lf he => ?_) (F.args_zip_next_1 _))))
  obtain ⟨o, ho, hc⟩ := he
  exact wpAny_bind (wpAny_isInstance (T := "StopIteration") (b := true) ⟨o, ho, hc⟩ isSubtype_stop (wpAny_pure (hE h' lf)))
theorem call_zipN {L : List Addr} {Q : Value → Shared → Prop} (hn : L.length ≤ sizeLine) (h0 : L ≠ []) (hl : ∀ l ∈ L, ∃ xs, s.heap.IsList l xs)
    (h : ∀ h', ZAt L s.heap.objs.size 0 h' → (∀ c o, s.heap.get? c = some o → h'.get? c = some o) → Q (.ref (s.heap.objs.size + L.length + 2)) { s with heap := h' }) :
    wpAny (model prog w) A (call (.type "zip") (L.map .ref)) Q E s := by
  cases L with
  | nil => exact absurd rfl h0
  | cons l L =>
    refine callType_new F.called_zip (by decide) (typeCall_zip _) (newCall_zip _ _) (fun obj => args_init_any obj _) F.entry_zip_new (meets_zip_n (l :: L) hn) ⟨hl, fun h' hz ti to hi hk => ?_⟩
    exact ⟨⟨_, hz, rfl⟩, h h' ⟨⟨_, _, hz, .inl rfl⟩, ti, to, hi⟩ hk⟩
end
end My

set_option Elab.async false
set_option linter.all false
set_option maxRecDepth 100000
set_option maxHeartbeats 1000000
/-! ### zip(*rows), in a comprehension -/
namespace My
open PySem PySem.Spec PyProof.Rows L2
/-- the lists of rows -/
def RowsL (K : PySem.W.Frag) (H : Hp) (L : List Addr) (rows : List (List V)) : Prop := L.length = rows.length ∧ ∀ (j : Nat) (l : Addr) (r : List V), L[j]? = some l → rows[j]? = some r → SqL K H l r
theorem Same.rows {K : PySem.W.Frag} {H H' : Hp} {L : List Addr} {rows : List (List V)} (s : Same H H') (h : RowsL K H L rows) : RowsL K H' L rows := ⟨h.1, fun j l r e1 e2 => s.seq (h.2 j l r e1 e2)⟩
def colAt (rows : List (List V)) (i : Nat) : List V := rows.map fun r => r.getD i .non
def ItZs (K : PySem.W.Frag) (L : List Addr) : It :=
  ⟨fun i H => ∃ rows, RowsL K H L rows ∧ ∀ r ∈ rows, i < r.length,
    fun i H v H' => ∃ T, ∃ xs : List V, v = .ref T ∧ H T = none ∧ H' = upd H T (.tup xs) ∧ ∀ rows, RowsL K H L rows → xs = colAt rows i,
    fun i H => ∃ (rows : List (List V)) (r : List V), RowsL K H L rows ∧ rows[0]? = some r ∧ r.length ≤ i⟩
/-- a new tuple of the i-th of each row -/
def YCol (rows : List (List V)) : Nat → Hp → V → Hp → Prop := fun i H v H' => ∃ T, v = .ref T ∧ H T = none ∧ H' = upd H T (.tup (colAt rows i))
theorem walk_zipS {K : PySem.W.Frag} {L : List Addr} {rows : List (List V)} {n : Nat} (h0 : rows ≠ []) (hn : ∀ r ∈ rows, r.length = n) : Walk (ItZs K L) n (fun H => RowsL K H L rows) (YCol rows) where
  goes i _ hi q := ⟨rows, q, fun r hr => by rw [hn r hr]; exact hi⟩
  stops _ q := by
    cases rows with
    | nil => exact absurd rfl h0
    | cons r rs => exact ⟨r :: rs, r, q, rfl, Nat.le_of_eq (hn r (by simp))⟩
  yields i H v H' _ q y := by
    obtain ⟨T, xs, h1, h2, h3, h4⟩ := y
    rw [h4 rows q] at h3
    exact ⟨T, h1, h2, h3⟩
section
variable {prog : Program} {w : World} {A : Around} {E : Value → Shared → Prop} {s : Shared}
theorem iter_zs {L : List Addr} {b i : Nat} {Q : Value → Shared → Prop} (Z : ZAt L b i s.heap) (h : Q (.ref (b + L.length + 2)) s) : wpAny (model prog w) A (pyIter (.ref (b + L.length + 2))) Q E s := by
  obtain ⟨f0, c0, hz, _⟩ := Z.z
  have hT : s.TypeIs (.ref (b + L.length + 2)) "zip" := ⟨_, hz, rfl⟩
  refine wpAny_pyIter_slot hT F.slot_zip_iter (wpAny_call_entry F.slot_zip_iter hT F.entry_zip_iter ?_ (F.args_zip_iter_1 _))
  show wpAny _ _ (ret (.ref _)) _ _ s
  exact wpAny_pure ⟨_, rfl, "zip", _, hT, F.slot_zip_next.lookup, h⟩
end
def zfp (L : List Addr) (b : Nat) : List Addr := (List.range (L.length + 3)).map fun j => b + j
theorem zfp_part {L : List Addr} {b c : Nat} (h : c ∉ zfp L b) : ¬ Zpart L b c := by
  unfold zfp at h
  intro z
  refine h (List.mem_map.mpr ?_)
  rcases z with e | e | ⟨j, hj, e⟩
  · exact ⟨L.length + 2, List.mem_range.mpr (by omega), by rw [e]; rfl⟩
  · exact ⟨L.length + 1, List.mem_range.mpr (by omega), by rw [e]; rfl⟩
  · exact ⟨j, List.mem_range.mpr (by omega), by rw [e]⟩
theorem zfp_in {L : List Addr} {b : Nat} (j : Nat) (h : j < L.length + 3) : b + j ∈ zfp L b := List.mem_map.mpr ⟨j, List.mem_range.mpr h, rfl⟩
theorem zfp_2 {L : List Addr} {b : Nat} : b + L.length + 2 ∈ zfp L b := zfp_in (L.length + 2) (by omega)
theorem zfp_1 {L : List Addr} {b : Nat} : b + L.length + 1 ∈ zfp L b := zfp_in (L.length + 1) (by omega)
theorem zfp_0 {L : List Addr} {b : Nat} : b + L.length ∈ zfp L b := zfp_in (L.length) (by omega)
theorem near4 {j n : Nat} (h : j < n + 3) : j < n ∨ j = n ∨ j = n + 1 ∨ j = n + 2 := by omega
theorem lt3 {j n : Nat} (h : j < n) : j < n + 3 := by omega
theorem ZAt.keep {L : List Addr} {b i : Nat} {h h' : Heap} (Z : ZAt L b i h) (k : ∀ c ∈ zfp L b, ∀ o, h.get? c = some o → h'.get? c = some o) : ZAt L b i h' := by
  obtain ⟨⟨f0, c0, hz, hf⟩, ti, ⟨a, to, la⟩, its⟩ := Z
  exact ⟨⟨f0, c0, k _ zfp_2 _ hz, hf⟩, k _ zfp_0 _ ti, ⟨a, k _ zfp_1 _ to, la⟩, fun j l e => (its j l e).at fun o q => k _ (zfp_in j (lt3 (List.getElem?_eq_some_iff.mp e).1)) o q⟩
theorem ZAt.obj {L : List Addr} {b i : Nat} {h : Heap} (Z : ZAt L b i h) : ∀ c ∈ zfp L b, ∃ o, h.get? c = some o ∧ ∀ v, o.data ≠ .cell v := by
  obtain ⟨⟨f0, c0, hz, hf⟩, ti, ⟨a, to, la⟩, its⟩ := Z
  intro c hc
  obtain ⟨j, hj, rfl⟩ := List.mem_map.mp hc
  rcases near4 (List.mem_range.mp hj) with c1 | rfl | rfl | rfl
  · obtain ⟨o, ho, _, hd⟩ := its j _ (List.getElem?_eq_getElem c1)
    exact ⟨o, ho, fun v q => by rw [hd] at q; cases q⟩
  · exact ⟨_, ti, fun v q => nomatch q⟩
  · exact ⟨_, to, fun v q => nomatch q⟩
  · exact ⟨_, hz, fun v q => nomatch q⟩
theorem vals_from {f : Nat → Value} : ∀ (xs : List V) (k : Nat), (∀ (j : Nat) (x : V), xs[j]? = some x → RelV x (f (k + j))) → Vals xs ((List.range' k xs.length).map f)
  | [], k, _ => .nil
  | x :: xs, k, h => by
    rw [List.length_cons, List.range'_succ, List.map_cons]
    exact .cons (h 0 x rfl) (vals_from xs (k + 1) fun j y e => by
      have q := h (j + 1) y (by simpa using e)
      rwa [show k + (j + 1) = k + 1 + j by omega] at q)
theorem rows_inj {X : Cx} {pins : List (Addr × Obj)} {σ : L2.St} {H : Hp} {s : Shared} {L : List Addr} {r1 r2 : List (List V)} (I : Inv X pins σ H s) (h1 : RowsL X.K H L r1) (h2 : RowsL X.K H L r2) : r1 = r2 := by
  refine List.ext_getElem? fun j => ?_
  have l1 := h1.1
  have l2 := h2.1
  by_cases c : j < L.length
  · have e1 : r1[j]? = some (r1[j]'(by omega)) := List.getElem?_eq_getElem _
    have e2 : r2[j]? = some (r2[j]'(by omega)) := List.getElem?_eq_getElem _
    have q := I.list_inj (h1.2 j _ _ (List.getElem?_eq_getElem c) e1) (h2.2 j _ _ (List.getElem?_eq_getElem c) e2)
    rw [e1, e2, q]
  · rw [List.getElem?_eq_none (by omega), List.getElem?_eq_none (by omega)]
theorem turn_zipS {P : Program} {w : World} {K : PySem.W.Frag} {x : Str} {xp : Pos} {L : List Addr} {b : Nat} (hn : L.length ≤ sizeLine) (h0 : L ≠ []) (hlow : ∀ l ∈ L, l < b) :
    Turn P w K (.Name x xp) (ItZs K L) (zfp L b) (b + L.length + 2) (fun i h => ZAt L b i h) where
  mem := zfp_2
  obj := fun i h st => st.obj
  keep := fun i h h' st k => st.keep k
  item := by
    intro X hP hw hK hc i pins s σ H E I hf st hg
    subst hP hw hK
    obtain ⟨rows, hr, hi⟩ := hg
    have each : ∀ j : Nat, ∃ u : Value, ∀ l, L[j]? = some l → (∃ xs, s.heap.IsList l xs ∧ xs[i]? = some u) ∧ (∀ r, rows[j]? = some r → RelV (r.getD i .non) u) := fun j => by
      cases e1 : L[j]? with
      | none => exact ⟨.none, fun l z => by cases z⟩
      | some l =>
        have hj : j < rows.length := by rw [← hr.1]; exact (List.getElem?_eq_some_iff.mp e1).1
        have e2 : rows[j]? = some rows[j] := List.getElem?_eq_getElem hj
        have hq := hr.2 j l _ e1 e2
        obtain ⟨its, rv, p, hz⟩ := I.list hq
        have hij : i < rows[j].length := hi _ (List.getElem_mem hj)
        obtain ⟨u, hu, ru⟩ := rv.get (List.getElem?_eq_getElem hij)
        refine ⟨u, fun l2 z => ?_⟩
        cases z
        refine ⟨⟨_, p.isList, by simpa using hu⟩, fun r z => ?_⟩
        rw [e2] at z
        cases z
        rw [List.getD_eq_getElem?_getD, List.getElem?_eq_getElem hij]
        exact ru
    let col : Nat → Value := fun j => Classical.choose (each j)
    have hcol : ∀ j l, L[j]? = some l → (∃ xs, s.heap.IsList l xs ∧ xs[i]? = some (col j)) ∧ (∀ r, rows[j]? = some r → RelV (r.getD i .non) (col j)) := fun j => Classical.choose_spec (each j)
    refine zipN_ask hn h0 hlow st (fun j l e => (hcol j l e).1) fun h' Z' hT lf => ?_
    refine ⟨_, rfl, wpAny_pure ?_⟩
    have rel : Vals (colAt rows i) ((List.range L.length).map col) := by
      have q := vals_from (f := col) (colAt rows i) 0 fun j x e => by
        unfold colAt at e
        rw [List.getElem?_map] at e
        obtain ⟨r, e1, e2⟩ := Option.map_eq_some_iff.mp e
        subst e2
        have hj : j < L.length := by rw [hr.1]; exact (List.getElem?_eq_some_iff.mp e1).1
        rw [Nat.zero_add]
        exact (hcol j _ (List.getElem?_eq_getElem hj)).2 r e1
      have el : (colAt rows i).length = L.length := by unfold colAt; rw [List.length_map, hr.1]
      rw [el, ← List.range_eq_range'] at q
      exact q
    have new : ObjOk X.prog X.w (upd H s.heap.objs.size (.tup (colAt rows i))) h' s.heap.objs.size (.tup (colAt rows i)) :=
      ⟨by show (colAt rows i).length ≤ sizeLine; unfold colAt; rw [List.length_map, ← hr.1]; exact hn, _, rel, ⟨_, hT, rfl, _, rfl⟩⟩
    have I1 : Inv X pins σ (upd H s.heap.objs.size (.tup (colAt rows i))) { s with heap := h' } := I.turnedNew (t' := s.toks) (ch := zfp L b) (fun c o hb q => lf c o (zfp_part hb) q) hf (Nat.le_refl _) new
    refine ⟨.ref s.heap.objs.size, _, I1, rfl, ⟨_, _, rfl, I.hok.fresh (Nat.le_refl _), rfl, fun rows2 h2 => ?_⟩, Z', fun c hcm => ?_⟩
    · rw [rows_inj I h2 hr]
    · obtain ⟨o, ho, _⟩ := st.obj c hcm
      rw [upd_ne (Nat.ne_of_lt (Heap.lt_size ho))]
      exact (hf c hcm).1
  done := by
    intro X hP hw hK hc i pins s σ H E I hf st hg
    subst hP hw hK
    obtain ⟨rows, r, hr, e0, hend⟩ := hg
    have n0 : 0 < L.length := by rw [hr.1]; exact (List.getElem?_eq_some_iff.mp e0).1
    have e1 : L[0]? = some L[0] := List.getElem?_eq_getElem n0
    obtain ⟨its, rv, p, hz⟩ := I.list (hr.2 0 _ _ e1 e0)
    have hl := rv.length
    exact zipN_stop (I.ok.hd hc) e1 hlow st p.isList (by simp; omega) fun h' lf => ⟨rfl, I.turnedL (t' := s.toks) (ch := zfp L b) (fun c o hb q => lf c o (zfp_part hb) q) hf⟩
  self := fun A i s Q E st h => iter_zs st h
def iZipS (K : PySem.W.Frag) (te : TE) : TI := fun σ H R => te σ H fun v H1 => ∃ (a : Addr) (L : List Addr) (rows : List (List V)), v = .ref a ∧ SqL K H1 a (L.map V.ref) ∧ RowsL K H1 L rows ∧ L ≠ [] ∧ R (ItZs K L) H1
theorem refs_vals : ∀ {L : List Addr} {us : List Value}, Vals (L.map V.ref) us → us = L.map Value.ref
  | [], _, .nil => rfl
  | l :: L, u :: us, .cons r t => by
    rw [refs_vals t, List.map_cons]
    cases r
    rfl
theorem pi_zipS {X : Cx} {e : Expr} {te : TE} {x : Str} {xp p sp pos : Pos} (hg : Gl X "zip") (hm : X.mg "zip" = none) (he : PE X e te)
    (hst : starEach [.Starred e sp] X.env = [(true, eval e X.env)] := by rfl) :
    PI X (.Name x xp) (.Call (.Name "zip" p) [.Starred e sp] [] pos) (iZipS X.K te) := by
  refine ⟨fun pins s σ H R I h => ?_⟩
  refine Call_ (ld_blt I hg hm PyProof.Rows.boot_zip ?_)
  rw [hst]
  refine PySem.W.ks_call (P := fun _ => True) rfl (fun h _ => ⟨.machine, .inr (.inl rfl), PySem.W.Looks.of_pure rfl⟩) (PySem.W.ks_lone (thn (he.run pins s σ H _ I h) fun v s1 ⟨y, H1, I1, ry, a, L, rows, ey, hq, hr, h0, q⟩ => ?_))
  subst ey
  obtain rfl : v = Value.ref a := ry
  refine StX.star_any I1 (.inr hq) fun us s2 I2 rv => ⟨trivial, ?_⟩
  obtain rfl := refs_vals rv
  have hn : L.length ≤ sizeLine := by
    obtain ⟨its, rv2, p2, hz⟩ := I2.list hq
    rw [List.length_map] at hz
    exact hz
  have each : ∀ l ∈ L, ∃ xs, s2.heap.IsList l xs ∧ l < s2.heap.objs.size := fun l hl => by
    obtain ⟨j, hj, rfl⟩ := List.mem_iff_getElem.mp hl
    obtain ⟨its, rv2, p2, hz⟩ := I2.list (hr.2 j _ _ (List.getElem?_eq_getElem hj) (List.getElem?_eq_getElem (by rw [← hr.1]; exact hj)))
    obtain ⟨o, ho, r⟩ := p2.isList
    exact ⟨_, ⟨o, ho, r⟩, Heap.lt_size ho⟩
  show wpAny _ _ (call (.type "zip") (L.map .ref)) _ _ _
  refine call_zipN hn h0 (fun l hl => let ⟨xs, h1, _⟩ := each l hl; ⟨xs, h1⟩) fun h' Z hk => iter_zs (s := { s2 with heap := h' }) Z ?_
  have I3 : Inv X pins σ H1 { s2 with heap := h' } := I2.kept (t' := s2.toks) hk
  refine ⟨s2.heap.objs.size + L.length + 2, zfp L s2.heap.objs.size, _, _, H1, rfl, I3, turn_zipS hn h0 (fun l hl => (each l hl).choose_spec.2), Z, fun c hcm => ?_, q⟩
  obtain ⟨j, hj, rfl⟩ := List.mem_map.mp hcm
  exact I2.fpOk (Nat.le_add_right _ _) (I2.hok.fresh (Nat.le_add_right _ _))
end My

set_option Elab.async false
set_option linter.all false
set_option maxRecDepth 100000
set_option maxHeartbeats 1000000
/-! ### rows, lists or tuples, from the end to the front; the index of a number in a tuple -/
namespace My
open PySem PyProof.Rows HT
open PySem.Sem (wp)
section
variable {prog : Program} {w : World} {A : Around} {E : Value → Shared → Prop} {s : Shared}
theorem adjust_back (n : Nat) : Builtin.Slice.sliceAdjust none none (-1) (n : Int) = ((n : Int) - 1, -1) := by
  unfold Builtin.Slice.sliceAdjust
  simp
theorem places_back (n : Nat) : Builtin.Slice.slicePlaces ((n : Int) - 1) (-1) (-1) = n := by
  unfold Builtin.Slice.slicePlaces
  rw [if_neg (by decide)]
  by_cases h : (n : Int) - 1 > -1
  · rw [if_pos h, show (- -1 : Int) = 1 by decide, Int.ediv_one]
    omega
  · rw [if_neg h]
    omega
theorem fm_congr {α β : Type} {f g : α → Option β} : ∀ {l : List α}, (∀ x ∈ l, f x = g x) → l.filterMap f = l.filterMap g
  | [], _ => rfl
  | x :: l, h => by
    rw [List.filterMap_cons, List.filterMap_cons, h x (by simp), fm_congr fun y hy => h y (List.mem_cons_of_mem _ hy)]
theorem sliceApplied_back {sl : Addr} {vl vu vs : Value} {n : Nat} {Q : Int × Int × Nat → Shared → Prop} (hs : s.heap.IsSliceOf sl vl vu vs) (pl : IsPart vl none) (pu : IsPart vu none) (ps : IsPart vs (some (-1)))
    (h : Q ((n : Int) - 1, -1, n) s) : wpAny (model prog w) A (Builtin.Slice.sliceApplied (.ref sl) (pure (n : Int))) Q E s := by
  obtain ⟨os, hos, hcs, hds⟩ := id hs
  unfold Builtin.Slice.sliceApplied Builtin.Slice.sliceFields
  refine wpAny_bind (wpAny_bind (wpAny_field hos hds (x := vl) rfl (wpAny_bind (wpAny_field hos hds (x := vu) rfl (wpAny_bind (wpAny_field hos hds (x := vs) rfl (wpAny_pure ?_)))))))
  refine wpAny_bind (slicePart_ ps ?_)
  show wpAny _ _ (if ((-1 : Int) == 0) = true then _ else _) _ _ s
  rw [if_neg (by decide)]
  refine wpAny_bind (slicePart_ pl (wpAny_bind (slicePart_ pu (wpAny_bind (wpAny_pure ?_)))))
  show wpAny _ _ (match Builtin.Slice.sliceAdjust none none (-1) (n : Int) with | (lo, hi) => pure (lo, (-1 : Int), Builtin.Slice.slicePlaces lo hi (-1))) _ _ s
  rw [adjust_back n]
  show wpAny _ _ (pure ((n : Int) - 1, (-1 : Int), Builtin.Slice.slicePlaces ((n : Int) - 1) (-1) (-1))) _ _ s
  rw [places_back]
  exact wpAny_pure h
theorem pick_back (xs : Array Value) : ((List.range xs.size).filterMap fun (m : Nat) => xs[(((xs.size : Int) - 1) + (m : Int) * (-1)).toNat]?).toArray = xs.toList.reverse.toArray := by
  have e : (List.range xs.size).filterMap (fun (m : Nat) => xs[(((xs.size : Int) - 1) + (m : Int) * (-1)).toNat]?) = ((List.range xs.size).map fun k => xs.size - 1 - k).filterMap (xs[·]?) := by
    rw [List.filterMap_map]
    refine fm_congr fun m hm => ?_
    have hm := List.mem_range.mp hm
    have : (((xs.size : Int) - 1) + (m : Int) * (-1)).toNat = xs.size - 1 - m := by omega
    simp only [Function.comp, this]
  rw [e, PySem.W.krv_range, List.filterMap_reverse, PySem.W.krv_all]
theorem getItem_tuple_back {t sl : Addr} {items : Array Value} {vl vu vs : Value} {Q : Value → Shared → Prop} (ht : IsTup s.heap t items) (hs : s.heap.IsSliceOf sl vl vu vs) (pl : IsPart vl none) (pu : IsPart vu none) (ps : IsPart vs (some (-1)))
    (h : Q (.ref s.heap.objs.size) { s with heap := s.heap.push { cls := .type "tuple", data := .seq items.toList.reverse.toArray } })
    (hsz : items.size ≤ sizeLine) : wpAny (model prog w) A (getItem (.ref t) (.ref sl)) Q E s := by
  have htake : sizeOk (.seq items.toList.reverse.toArray) := by
    show (items.toList.reverse.toArray).size ≤ sizeLine
    simpa using hsz
  obtain ⟨os, hos, hcs, hds⟩ := id hs
  have hTs : s.TypeIs (.ref sl) "slice" := ⟨os, hos, hcs⟩
  unfold getItem
  try with_reducible refine wpAny_holding ?_
  first | refine wpAny_bind (wpAny_pure ?_) | skip
  refine wpAny_bind (wpAny_sequenceKey ht.typeIs (by decide) ?_)
  refine wpAny_bind (wpAny_callSpecial?_slot (name := Str.ofString "__getitem__") ht.typeIs PyProof.Rows.slot_tuple_getitem
    (wpAny_call_entry PyProof.Rows.slot_tuple_getitem ht.typeIs entry_tuple_getitem ?_ (args_tuple_getitem _ _)))
  show wpAny _ _ (Builtin.Tuple.tupleItemsOf (.ref t) >>= _) _ _ s
  refine wpAny_bind (tupleItemsOf_ ht ?_)
  refine wpAny_bind (wpAny_typeOf hTs ?_)
  rw [if_pos (by decide)]
  refine wpAny_bind (sliceApplied_back hs pl pu ps ?_)
  have hno : ¬ ((((items.size : Int) - 1) == 0 && (-1 : Int) == 1 && items.size == items.size) = true) := by
    simp
  show wpAny _ _ (if (((items.size : Int) - 1) == 0 && (-1 : Int) == 1 && items.size == items.size) = true then _ else _) _ _ s
  rw [if_neg hno, pick_back]
  first
    | exact wpAny_bind (m := Builtin.Tuple.tupleExact _) (wpAny_newObj_type (wpAny_pure ⟨_, rfl, wpAny_pure h⟩) htake)
    | exact wpAny_bind (m := Builtin.Tuple.tupleExact _) (wpAny_newObj_type (wpAny_bind (wpAny_pure (wpAny_pure ⟨_, rfl, wpAny_pure h⟩))) htake)
    | exact wpAny_bind (wpAny_bind (m := Builtin.Tuple.tupleExact _) (wpAny_newObj_type (wpAny_pure (wpAny_pure ⟨_, rfl, wpAny_pure h⟩)) htake))
    | exact wpAny_bind (wpAny_bind (m := Builtin.Tuple.tupleExact _) (wpAny_newObj_type (wpAny_pure ⟨_, rfl, wpAny_pure h⟩) htake))
end
end My
namespace My
open PySem PySem.Spec PyProof.Rows L2
/-- xs[::-1] of a list or a tuple -/
def tRevB (K : PySem.W.Frag) (te : TE) : TE := fun σ H Q => te σ H fun x H1 => ∃ a xs b, x = .ref a ∧ SqB b K H1 a xs ∧ ∀ p H2, Same H1 H2 → H1 p = none → H2 p = some (if b = true then .lst xs.reverse else .tup xs.reverse) → Q (.ref p) H2
theorem pe_revB {X : Cx} {K : PySem.W.Frag} {e : Expr} {te : TE} {k : Nat} {p1 p2 p3 pos : Pos} (hK : X.K = K) (he : PE X e te) : PE X (.Subscript e (.Slice none none (some (.UnaryOp .USub (.Constant (.int 1) k p1) p2)) p3) pos) (tRevB K te) := by
  subst hK
  refine ⟨fun pins s σ H Q I h => ?_⟩
  refine Subscript_ (thn (he.run pins s σ H _ I h) fun v s1 ⟨x, H1, I1, r1, q1⟩ => ?_)
  obtain ⟨a, xs, b, ex, hx, q⟩ := q1
  subst ex
  cases r1
  have hst : PO X (some (.UnaryOp .USub (.Constant (.int 1) k p1) p2)) (tPart (tUn (rU fun i => .int (-i)) (tC (.int 1)))) := po_some (pe_un un_neg pe_int)
  refine wpAny_Slice (thn (po_none.run pins s1 σ H1 (fun o H2 => o = none ∧ H2 = H1) I1 ⟨rfl, rfl⟩) fun vl s2 ⟨l, H2, I2, pl, el, e2⟩ => ?_)
  subst el e2
  refine thn (po_none.run pins s2 σ H2 (fun o H3 => o = none ∧ H3 = H2) I2 ⟨rfl, rfl⟩) fun vu s3 ⟨u, H3, I3, pu, eu, e3⟩ => ?_
  subst eu e3
  refine thn (hst.run pins s3 σ H3 (fun o H4 => o = some (-1) ∧ H4 = H3) I3 ⟨1, rfl, -1, rfl, rfl, rfl⟩) fun vs s4 ⟨o, H4, I4, ps, eo, e4⟩ => ?_
  subst eo e4
  have I5 : Inv X pins σ H4 { s4 with heap := s4.heap.push { cls := .type "slice", data := .fields #[vl, vu, vs] } } := I4.kept (t' := s4.toks) fun b ob q => Heap.get?_push_of_some _ q
  cases b with
  | true =>
    obtain ⟨its, r, ht, hz⟩ := I5.list hx
    have hlen := r.length
    show wpAny (model X.prog X.w) X.A (subscriptTail e (.Slice none none (some (.UnaryOp .USub (.Constant (.int 1) k p1) p2)) p3) (.ref a) (.ref s4.heap.objs.size)) (EP X pins σ Q) X.xe { s4 with heap := s4.heap.push { cls := .type "slice", data := .fields #[vl, vu, vs] } }
    refine tail_any (ops := [.ref a, .ref s4.heap.objs.size]) ht.isList.typeIs (PySem.slot_list_getitem.lookup) ?_ (by with_unfolding_all rfl)
    refine wpAny_getItem_list_slice ht.isList (Heap.IsSliceOf.new _ vl vu vs) pl pu ps (by decide) ?_ (by rw [List.size_toArray]; omega)
    rw [PySem.W.krv_pick]
    refine ⟨.ref _, _, I5.laid (t' := s4.toks) (o := .lst xs.reverse) (fun b ob q => Heap.get?_push_of_some _ q) (Nat.le_refl _) ?_, rfl, q _ _ (same_upd (I5.hok.fresh (Nat.le_refl _))) (I5.hok.fresh (Nat.le_refl _)) upd_same⟩
    exact ⟨by rw [List.length_reverse]; exact hz, _, 0, r.reverse, Heap.get?_push_size _ rfl⟩
  | false =>
    obtain ⟨its, r, ht, hz⟩ := I5.tuple hx
    have hlen := r.length
    show wpAny (model X.prog X.w) X.A (subscriptTail e (.Slice none none (some (.UnaryOp .USub (.Constant (.int 1) k p1) p2)) p3) (.ref a) (.ref s4.heap.objs.size)) (EP X pins σ Q) X.xe { s4 with heap := s4.heap.push { cls := .type "slice", data := .fields #[vl, vu, vs] } }
    refine tail_any (ops := [.ref a, .ref s4.heap.objs.size]) ht.typeIs (PyProof.Rows.slot_tuple_getitem.lookup) ?_ (by with_unfolding_all rfl)
    refine getItem_tuple_back ht (Heap.IsSliceOf.new _ vl vu vs) pl pu ps ?_ (by rw [List.size_toArray]; omega)
    refine ⟨.ref _, _, I5.laid (t' := s4.toks) (o := .tup xs.reverse) (fun b ob q => Heap.get?_push_of_some _ q) (Nat.le_refl _) ?_, rfl, q _ _ (same_upd (I5.hok.fresh (Nat.le_refl _))) (I5.hok.fresh (Nat.le_refl _)) upd_same⟩
    exact ⟨by rw [List.length_reverse]; exact hz, _, r.reverse, IsTup.new _ _⟩
theorem flat_ints (ys : List Int) : (ys.map V.int).all flatV = true := by
  rw [List.all_map]
  exact List.all_eq_true.mpr fun _ _ => rfl
/-- t.index(n), the first place -/
def rTupIx (K : PySem.W.Frag) : V → List V → Hp → VK → Prop := fun x xs H Q => ∃ (p : Addr) (ys : List Int) (z : Int) (j : Nat), x = V.ref p ∧ xs = [.int z] ∧ SqT K H p (ys.map V.int) ∧ ys[j]? = some z ∧ (∀ m, m < j → ys[m]? ≠ some z) ∧ Q (.int (j : Nat)) H
theorem mt_tup_ixI {X : Cx} : MtR X "tuple.index" (rTupIx X.K) := by
  intro pins s σ H x xs v us Q I rx rs h
  obtain ⟨p, ys, z, j, rfl, rfl, hq, hy, hno, q⟩ := h
  cases rx
  obtain ⟨u, rfl, t, rfl⟩ := vals1 rs
  obtain ⟨its, r, pl, hz⟩ := I.tuple hq
  obtain ⟨⟨cls, dd, dt, sl⟩, ho, hc, n, hd⟩ := pl
  simp only at hc hd
  subst hc
  subst hd
  have hl : its.toArray.size = ys.length := by rw [List.size_toArray, ← r.length, List.length_map]
  have hj : j < its.toArray.size := by rw [hl]; exact (List.getElem?_eq_some_iff.mp hy).1
  have at' : ∀ (m : Nat) (hm : m < its.toArray.size), ∃ y t', ys[m]? = some y ∧ its.toArray[m] = Value.int y t' := fun m hm => by
    have hm' : m < ys.length := by rw [← hl]; exact hm
    obtain ⟨w, hw, t', hw'⟩ := r.get (i := m) (x := .int ys[m]) (by simp [hm'])
    refine ⟨ys[m], t', List.getElem?_eq_getElem hm', ?_⟩
    have e := (List.getElem?_eq_some_iff.mp hw).2
    rw [← hw', ← e]
    simp
  refine call_meets PySem.F.slot_tuple_index ⟨_, ho, rfl⟩ PySem.F.entry_tuple_index (PySem.F.args_tuple_index_2 _ _) (TI.tuple_indexAt p its.toArray n dd sl (.int z t) (eqU (.int z)) j hj ?_ ?_)
    ⟨ho, fun w hw => mem_eqAt (x := .int z) ⟨t, rfl⟩ rfl r (flat_ints ys) w (by simpa using hw), ⟨.int (j : Nat), H, I.tok _, ⟨_, rfl⟩, q⟩⟩
  · obtain ⟨y, t', h1, h2⟩ := at' j hj
    rw [hy] at h1
    cases h1
    rw [h2]
    show (z == z) = true
    exact beq_self_eq_true z
  · intro m hm hmj
    obtain ⟨y, t', h1, h2⟩ := at' m hm
    rw [h2]
    show (y == z) = false
    exact beq_eq_false_iff_ne.mpr fun e => hno m hmj (e ▸ h1)
end My

set_option Elab.async false
set_option linter.all false
set_option maxRecDepth 100000
set_option maxHeartbeats 1000000
/-! ### grids of dots: rows of 0, 1, none; turned, mirrored; as they lie on the heap -/
namespace My
open PySem PySem.Spec PyProof.Rows L2
abbrev Grid := List (List (Option Nat))
def vG : Option Nat → V
  | none => .non
  | some n => vN n
def dG : Option Nat → PyData
  | none => .none
  | some n => dI n
def DotOk (o : Option Nat) : Prop := o = none ∨ o = some 0 ∨ o = some 1
structure Sq (n : Nat) (g : Grid) : Prop where
  len : g.length = n
  row : ∀ r ∈ g, r.length = n
  dot : ∀ r ∈ g, ∀ o ∈ r, DotOk o
def SideOk (n : Nat) : Prop := n = 8 ∨ n = 12 ∨ n = 16 ∨ n = 20 ∨ n = 24
def cell (g : Grid) (i j : Nat) : Option Nat := (g.getD i []).getD j none
def rot (g : Grid) : Grid := (List.range g.length).map fun i => g.reverse.map fun r => r.getD i none
def rotK : Nat → Grid → Grid
  | 0, g => g
  | k + 1, g => rot (rotK k g)
def mir (g : Grid) : Grid := g.map List.reverse
theorem getD_in {α : Type} {l : List α} {i : Nat} {d : α} (h : i < l.length) : l.getD i d = l[i] := by
  rw [List.getD_eq_getElem?_getD, List.getElem?_eq_getElem h]
  rfl
theorem getD_mem {α : Type} {l : List α} {i : Nat} {d : α} (h : i < l.length) : l.getD i d ∈ l := by
  rw [getD_in h]
  exact List.getElem_mem h
theorem dot_getD {r : List (Option Nat)} {i : Nat} (h : ∀ o ∈ r, DotOk o) : DotOk (r.getD i none) := by
  by_cases c : i < r.length
  · exact h _ (getD_mem c)
  · rw [List.getD_eq_getElem?_getD, List.getElem?_eq_none (by omega)]
    exact .inl rfl
theorem rot_sq {n : Nat} {g : Grid} (h : Sq n g) : Sq n (rot g) where
  len := by unfold rot; rw [List.length_map, List.length_range, h.len]
  row r hr := by
    obtain ⟨i, _, rfl⟩ := List.mem_map.mp hr
    rw [List.length_map, List.length_reverse, h.len]
  dot r hr o ho := by
    obtain ⟨i, _, rfl⟩ := List.mem_map.mp hr
    obtain ⟨q, hq, rfl⟩ := List.mem_map.mp ho
    exact dot_getD (h.dot q (List.mem_reverse.mp hq))
theorem mir_sq {n : Nat} {g : Grid} (h : Sq n g) : Sq n (mir g) where
  len := by unfold mir; rw [List.length_map, h.len]
  row r hr := by
    obtain ⟨q, hq, rfl⟩ := List.mem_map.mp hr
    rw [List.length_reverse, h.row q hq]
  dot r hr o ho := by
    obtain ⟨q, hq, rfl⟩ := List.mem_map.mp hr
    exact h.dot q hq o (List.mem_reverse.mp ho)
theorem rotK_sq {n : Nat} {g : Grid} (h : Sq n g) : ∀ k, Sq n (rotK k g)
  | 0 => h
  | k + 1 => rot_sq (rotK_sq h k)
theorem mir_mir (g : Grid) : mir (mir g) = g := by
  unfold mir
  rw [List.map_map]
  have e : (List.reverse ∘ List.reverse : List (Option Nat) → List (Option Nat)) = id := funext fun l => List.reverse_reverse l
  rw [e, List.map_id]
theorem grid_ext {n : Nat} {g h : Grid} (a : Sq n g) (b : Sq n h) (e : ∀ i j, i < n → j < n → cell g i j = cell h i j) : g = h := by
  have l1 := a.len
  have l2 := b.len
  refine List.ext_getElem (by rw [l1, l2]) fun i h1 h2 => ?_
  have r1 := a.row _ (List.getElem_mem h1)
  have r2 := b.row _ (List.getElem_mem h2)
  refine List.ext_getElem (by rw [r1, r2]) fun j h3 h4 => ?_
  have q := e i j (by omega) (by omega)
  unfold cell at q
  rw [getD_in h1, getD_in h2, getD_in h3, getD_in h4] at q
  exact q
theorem cell_rot {n : Nat} {g : Grid} (h : Sq n g) {i j : Nat} (hi : i < n) (hj : j < n) : cell (rot g) i j = cell g (n - 1 - j) i := by
  have l := h.len
  have lr : (rot g).length = n := (rot_sq h).len
  unfold cell
  rw [getD_in (l := rot g) (by omega)]
  have e : (rot g)[i]'(by omega) = g.reverse.map fun r => r.getD i none := by
    unfold rot
    rw [List.getElem_map, List.getElem_range]
  rw [e, getD_in (l := g.reverse.map _) (by rw [List.length_map, List.length_reverse]; omega), List.getElem_map, List.getElem_reverse, getD_in (l := g) (by omega)]
  simp only [l]
theorem rotK_add (a b : Nat) (g : Grid) : rotK (a + b) g = rotK a (rotK b g) := by
  induction a with
  | zero => rw [Nat.zero_add]; rfl
  | succ a ih =>
    rw [show a + 1 + b = (a + b) + 1 by omega]
    show rot (rotK (a + b) g) = rot (rotK a (rotK b g))
    rw [ih]
theorem rot4 {n : Nat} {g : Grid} (h : Sq n g) : rotK 4 g = g := by
  refine grid_ext (rotK_sq h 4) h fun i j hi hj => ?_
  show cell (rot (rotK 3 g)) i j = _
  rw [cell_rot (rotK_sq h 3) hi hj]
  show cell (rot (rotK 2 g)) (n - 1 - j) i = _
  rw [cell_rot (rotK_sq h 2) (by omega) hi]
  show cell (rot (rotK 1 g)) (n - 1 - i) (n - 1 - j) = _
  rw [cell_rot (rotK_sq h 1) (by omega) (by omega)]
  show cell (rot g) (n - 1 - (n - 1 - j)) (n - 1 - i) = _
  rw [cell_rot h (by omega) (by omega)]
  congr 1 <;> omega
def posedG (g : Grid) (t : Nat) (f : Bool) : Grid := rotK t (if f then mir g else g)
def unposedG (g : Grid) (t : Nat) (f : Bool) : Grid := if f then mir (rotK ((4 - t) % 4) g) else rotK ((4 - t) % 4) g
theorem rot_back {n t : Nat} {g : Grid} (h : Sq n g) (ht : t < 4) : rotK ((4 - t) % 4) (rotK t g) = g ∧ rotK t (rotK ((4 - t) % 4) g) = g := by
  rw [← rotK_add, ← rotK_add]
  by_cases c : t = 0
  · subst c
    exact ⟨rfl, rfl⟩
  · have e1 : (4 - t) % 4 + t = 4 := by omega
    have e2 : t + (4 - t) % 4 = 4 := by omega
    rw [e1, e2]
    exact ⟨rot4 h, rot4 h⟩
theorem unposed_posed {n t : Nat} {f : Bool} {g : Grid} (h : Sq n g) (ht : t < 4) : unposedG (posedG g t f) t f = g := by
  unfold unposedG posedG
  cases f
  · exact (rot_back h ht).1
  · simp only [if_true]
    rw [(rot_back (mir_sq h) ht).1, mir_mir]
theorem posed_unposed {n t : Nat} {f : Bool} {g : Grid} (h : Sq n g) (ht : t < 4) : posedG (unposedG g t f) t f = g := by
  unfold unposedG posedG
  cases f
  · exact (rot_back h ht).2
  · simp only [if_true]
    rw [mir_mir, (rot_back h ht).2]
theorem posed_sq {n t : Nat} {f : Bool} {g : Grid} (h : Sq n g) : Sq n (posedG g t f) := by
  unfold posedG
  cases f
  · exact rotK_sq h t
  · exact rotK_sq (mir_sq h) t
theorem unposed_sq {n t : Nat} {f : Bool} {g : Grid} (h : Sq n g) : Sq n (unposedG g t f) := by
  unfold unposedG
  cases f
  · exact rotK_sq h _
  · exact mir_sq (rotK_sq h _)
/-! ### on the heap -/
structure GrB (k : Bool) (K : PySem.W.Frag) (H : Hp) (a : Addr) (g : Grid) : Prop where
  ex : ∃ L : List Addr, SqB k K H a (L.map V.ref) ∧ L.length = g.length ∧ ∀ (j : Nat) (l : Addr) (r : List (Option Nat)), L[j]? = some l → g[j]? = some r → SqB k K H l (r.map vG)
theorem GrB.same {k : Bool} {K : PySem.W.Frag} {H H' : Hp} {a : Addr} {g : Grid} (h : GrB k K H a g) (s : Same H H') : GrB k K H' a g := by
  obtain ⟨L, h1, h2, h3⟩ := h.ex
  exact ⟨L, Same.sqb s h1, h2, fun j l r e1 e2 => Same.sqb s (h3 j l r e1 e2)⟩
structure FrI (H H' : Hp) (D : Addr) (L : List Addr) (g : Grid) (i : Nat) : Prop where
  same : Same H H'
  out : H' D = some (.lst (L.map V.ref))
  len : L.length = i
  row : ∀ (j : Nat) (l : Addr) (r : List (Option Nat)), L[j]? = some l → g[j]? = some r → H l = none ∧ l ≠ D ∧ H' l = some (.lst (r.map vG))
theorem FrI.start {H : Hp} {D : Addr} {g : Grid} (h : H D = none) : FrI H (upd H D (.lst [])) D [] g 0 := ⟨same_upd h, upd_same, rfl, fun j l r e => by cases e⟩
theorem FrI.step {H H' H2 : Hp} {D c : Addr} {L : List Addr} {g : Grid} {i : Nat} {r : List (Option Nat)} (F : FrI H H' D L g i) (hD : H D = none) (hr : g[i]? = some r) (s : Same H' H2) (hc : H' c = none) (e : H2 c = some (.lst (r.map vG))) :
    FrI H (upd H2 D (.lst (L.map V.ref ++ [V.ref c]))) D (L ++ [c]) g (i + 1) := by
  obtain ⟨s0, out, len, row⟩ := F
  have ncD : c ≠ D := fun z => by rw [z, out] at hc; cases hc
  refine ⟨fun b o hb => ?_, ?_, by rw [List.length_append, len]; rfl, fun j l q e1 e2 => ?_⟩
  · rw [upd_ne (ne_of_none hb hD)]
    exact s _ _ (s0 _ _ hb)
  · rw [upd_same, List.map_append]
    rfl
  · by_cases cj : j < i
    · rw [List.getElem?_append_left (by rw [len]; exact cj)] at e1
      obtain ⟨q1, q2, q3⟩ := row j l q e1 e2
      exact ⟨q1, q2, by rw [upd_ne q2]; exact s _ _ q3⟩
    · have hl := (List.getElem?_eq_some_iff.mp e1).1
      rw [List.length_append, len] at hl
      have ej : j = i := by simp at hl; omega
      subst ej
      rw [List.getElem?_append_right (by rw [len]; exact Nat.le_refl _), len, Nat.sub_self] at e1
      cases e1
      rw [hr] at e2
      cases e2
      exact ⟨Same.free s0 hc, ncD, by rw [upd_ne ncD]; exact e⟩
/-- a new grid of new rows -/
def Fr (H H' : Hp) (D : Addr) (g : Grid) : Prop := H D = none ∧ ∃ L, FrI H H' D L g g.length
theorem Fr.same0 {H H' : Hp} {D : Addr} {g : Grid} (h : Fr H H' D g) : Same H H' := let ⟨_, _, F⟩ := h; F.same
theorem Fr.ext {H H' H2 : Hp} {D : Addr} {g : Grid} (h : Fr H H' D g) (s : Same H' H2) : Fr H H2 D g := by
  obtain ⟨hD, L, F⟩ := h
  exact ⟨hD, L, F.same.trans s, s _ _ F.out, F.len, fun j l r e1 e2 => let ⟨q1, q2, q3⟩ := F.row j l r e1 e2; ⟨q1, q2, s _ _ q3⟩⟩
theorem Fr.back {H0 H H' : Hp} {D : Addr} {g : Grid} (h : Fr H H' D g) (s : Same H0 H) : Fr H0 H' D g := by
  obtain ⟨hD, L, F⟩ := h
  exact ⟨Same.free s hD, L, s.trans F.same, F.out, F.len, fun j l r e1 e2 => let ⟨q1, q2, q3⟩ := F.row j l r e1 e2; ⟨Same.free s q1, q2, q3⟩⟩
theorem Fr.gr {K : PySem.W.Frag} {H H' : Hp} {D : Addr} {g : Grid} (h : Fr H H' D g) : GrB true K H' D g := by
  obtain ⟨_, L, F⟩ := h
  exact ⟨L, .lst F.out, F.len, fun j l r e1 e2 => .lst (F.row j l r e1 e2).2.2⟩
/-! ### compared -/
def dRow (r : List (Option Nat)) : PyData := .list (r.map dG)
def dGr (g : Grid) : PyData := .list (g.map dRow)
theorem dG_lay : ∀ row : List (Option Nat), PyData.canLayAll0 (row.map dG) = true
  | [] => rfl
  | o :: r => by
    show (PyData.canLay0 (dG o) && PyData.canLayAll0 (r.map dG)) = true
    rw [dG_lay r]
    cases o <;> rfl
theorem dG_depth : ∀ row : List (Option Nat), PyData.depthAll (row.map dG) = 0
  | [] => rfl
  | o :: r => by
    show max (PyData.depth (dG o)) (PyData.depthAll (r.map dG)) = 0
    rw [dG_depth r]
    cases o <;> rfl
theorem dRow_lay : ∀ g : Grid, PyData.canLayAll0 (g.map dRow) = true
  | [] => rfl
  | r :: g => by
    show (PyData.canLay0 (dRow r) && PyData.canLayAll0 (g.map dRow)) = true
    rw [dRow_lay g, Bool.and_true]
    exact dG_lay r
theorem dRow_depth : ∀ g : Grid, PyData.depthAll (g.map dRow) ≤ 1
  | [] => Nat.zero_le _
  | r :: g => by
    show max (PyData.depthAll (r.map dG) + 1) (PyData.depthAll (g.map dRow)) ≤ 1
    have := dRow_depth g
    rw [dG_depth r]
    omega
theorem dGr_shaped (g : Grid) : SeqAt.shaped (dGr g) = true := by
  unfold SeqAt.shaped
  have h1 : (dGr g).canLay0 = true := dRow_lay g
  have h2 : (dGr g).depth ≤ 64 := by
    show PyData.depthAll (g.map dRow) + 1 ≤ 64
    have := dRow_depth g
    omega
  rw [h1, Bool.true_and]
  exact decide_eq_true h2
theorem dGr_eq (g : Grid) : PyData.eqv (dGr g) (dGr g) = true := SeqAt.eqv_refl _ (dRow_lay g)
theorem dG_all {K : PySem.W.Frag} {H : Hp} : ∀ row : List (Option Nat), DpAll K H (row.map vG) (row.map dG)
  | [] => .nil
  | none :: r => .cons .non (dG_all r)
  | some n :: r => .cons (.int _) (dG_all r)
theorem rows_dp {K : PySem.W.Frag} {H : Hp} : ∀ (L : List Addr) (g : Grid), L.length = g.length → (∀ (j : Nat) (l : Addr) (r : List (Option Nat)), L[j]? = some l → g[j]? = some r → SqL K H l (r.map vG)) → DpAll K H (L.map V.ref) (g.map dRow)
  | [], [], _, _ => .nil
  | [], _ :: _, h, _ => by cases h
  | _ :: _, [], h, _ => by cases h
  | l :: L, r :: g, h, f => .cons (.lst (f 0 l r rfl rfl) (dG_all r)) (rows_dp L g (Nat.succ.inj h) fun j l' r' e1 e2 => f (j + 1) l' r' e1 e2)
theorem GrB.dp {K : PySem.W.Frag} {H : Hp} {a : Addr} {g : Grid} (h : GrB true K H a g) : Dp K H (.ref a) (dGr g) := by
  obtain ⟨L, h1, h2, h3⟩ := h.ex
  exact .lst h1 (rows_dp L g h2 h3)
end My

set_option Elab.async false
set_option linter.all false
set_option maxRecDepth 100000
set_option maxHeartbeats 1000000
/-! ### rules that name K, for comprehensions; type() of a dot; a second for of a comprehension -/
namespace My
open PySem PySem.Spec PyProof.Rows L2
theorem call_len_seqG {X : Cx} {K : PySem.W.Frag} (h : X.K = K) : CallR X (.builtin "len") (fun xs H Q => ∃ p ys, xs = [V.ref p] ∧ (SqL K H p ys ∨ SqT K H p ys) ∧ Q (.int (ys.length : Nat)) H) := by
  subst h
  exact call_len_seq
theorem pe_tupleOfK {X : Cx} {K : PySem.W.Frag} {a : Expr} {ta : TE} {p pos : Pos} (hK : X.K = K) (hg : Gl X "tuple") (hm : X.mg "tuple" = none) (ha : PE X a ta) (na : starEach [a] X.env = (false, eval a X.env) :: starEach [] X.env := by rfl) :
    PE X (.Call (.Name "tuple" p) [a] [] pos) (tThen ta (kTup K)) := by
  subst hK
  exact pe_tupleOf hg hm ha na
theorem call_listOfK {X : Cx} {K : PySem.W.Frag} (h : X.K = K) : CallR X (.type "list") (fun xs H Q => ∃ p ys, xs = [.ref p] ∧ (SqL K H p ys ∨ SqT K H p ys) ∧ ∀ l, H l = none → Q (.ref l) (upd H l (.lst ys))) := by
  subst h
  exact call_list_of
theorem call_isiTK {X : Cx} {K : PySem.W.Frag} (h : X.K = K) : CallR X (.builtin "isinstance") (rIsiT K) := by
  subst h
  exact call_isiT
theorem pi_seqK {X : Cx} {K : PySem.W.Frag} {tg : Expr} {l : Expr} {tl : TE} (h : X.K = K) (hl : PE X l tl) : PI X tg l (iSeq K tl) := by
  subst h
  exact pi_seq hl
theorem pt_never {X : Cx} {e : Expr} : PT X e (fun _ _ _ => False) := ⟨fun _ _ _ _ _ _ h => h.elim⟩
def sidesI : List Int := [8, 12, 16, 20, 24]
theorem side_at {n : Nat} (h : SideOk n) : ∃ i : Nat, i < 5 ∧ sidesI[i]? = some (n : Int) ∧ ∀ m, m < i → sidesI[m]? ≠ some (n : Int) := by
  rcases h with rfl | rfl | rfl | rfl | rfl
  · exact ⟨0, by decide, rfl, by decide⟩
  · exact ⟨1, by decide, rfl, by decide⟩
  · exact ⟨2, by decide, rfl, by decide⟩
  · exact ⟨3, by decide, rfl, by decide⟩
  · exact ⟨4, by decide, rfl, by decide⟩
theorem side_in {n : Nat} (h : SideOk n) : inV (vN n) (sidesI.map V.int) = true := by
  rcases h with rfl | rfl | rfl | rfl | rfl <;> decide
theorem side_le {n : Nat} (h : SideOk n) : 8 ≤ n ∧ n ≤ 24 := by
  rcases h with rfl | rfl | rfl | rfl | rfl <;> decide
def tyG : Option Nat → String
  | none => "NoneType"
  | some _ => "int"
def rTyG : List V → Hp → VK → Prop := fun xs H Q => ∃ o : Option Nat, xs = [vG o] ∧ Q (.ty (tyG o)) H
theorem call_typeG {X : Cx} : CallR X (.type "type") rTyG := by
  intro pins s σ H xs us Q I r h
  obtain ⟨o, rfl, q⟩ := h
  obtain ⟨u, rfl, rx⟩ := vals1 r
  cases o with
  | none =>
    cases (show u = Value.none from rx)
    exact call_type_of (Tx := "NoneType") rfl (by decide +kernel) ⟨.ty "NoneType", H, I, rfl, q⟩
  | some n =>
    obtain ⟨t, rfl⟩ := (show ∃ t, u = Value.int n t from rx)
    exact call_type_of (Tx := "int") rfl (by decide +kernel) ⟨.ty "int", H, I, rfl, q⟩
section
variable {J : It} {n : Nat} {G : Hp → Prop} {Y : Nat → Hp → V → Hp → Prop}
/-- the turns of a first for that holds a second one -/
theorem lc2_it (w : Walk J n G Y) {g g1 : TG} {tt tt1 : TT} {wi1 : TI} {te : TE} {vs vs1 : List Nat} {σ : L2.St} {H1 : Hp} {D : Addr} {Qd : Hp → Prop} (Pv : Nat → Hp → Prop) (h0 : Pv 0 (upd H1 D (.lst []))) (hG : ∀ i H, i ≤ n → Pv i H → G H)
    (hs : ∀ i x H H', i < n → Pv i H → Y i H x H' → g x (wipe σ vs) H' fun σ2 H2 => wipe σ2 vs = wipe σ vs ∧ tt σ2 H2 fun b H3 =>
      if b = true then wi1 σ2 H3 fun J1 H4 => ∃ W1 : Nat → Nat → Hp → Prop, (∃ m, W1 0 m H4) ∧ ∀ j k H, W1 j k H →
        (J1.stop j H ∧ Pv (i + 1) H) ∨ (J1.go j H ∧ ∃ Nx1 : Hp → Prop, (∀ H', Nx1 H' → ∃ k', k' < k ∧ W1 (j + 1) k' H') ∧ ∀ x H', J1.yld j H x H' → g1 x (wipe σ2 vs1) H' fun σ3 H5 => wipe σ3 vs1 = wipe σ2 vs1 ∧ tt1 σ3 H5 fun b H6 =>
          if b = true then te σ3 H6 fun y H7 => ∃ acc, H7 D = some (.lst acc) ∧ acc.length < sizeLine ∧ Nx1 (upd H7 D (.lst (acc ++ [y]))) else Nx1 H6)
      else Pv (i + 1) H3) (hd : ∀ H, Pv n H → Qd H) :
    ∃ W : Nat → Nat → Hp → Prop, (∃ m, W 0 m (upd H1 D (.lst []))) ∧ ∀ i m H, W i m H →
      (J.stop i H ∧ Qd H) ∨ (J.go i H ∧ ∃ Nx : Hp → Prop, (∀ H', Nx H' → ∃ m', m' < m ∧ W (i + 1) m' H') ∧ ∀ x H', J.yld i H x H' → g x (wipe σ vs) H' fun σ2 H2 => wipe σ2 vs = wipe σ vs ∧ tt σ2 H2 fun b H3 =>
        if b = true then wi1 σ2 H3 fun J1 H4 => ∃ W1 : Nat → Nat → Hp → Prop, (∃ m, W1 0 m H4) ∧ ∀ j k H, W1 j k H →
          (J1.stop j H ∧ Nx H) ∨ (J1.go j H ∧ ∃ Nx1 : Hp → Prop, (∀ H', Nx1 H' → ∃ k', k' < k ∧ W1 (j + 1) k' H') ∧ ∀ x H', J1.yld j H x H' → g1 x (wipe σ2 vs1) H' fun σ3 H5 => wipe σ3 vs1 = wipe σ2 vs1 ∧ tt1 σ3 H5 fun b H6 =>
            if b = true then te σ3 H6 fun y H7 => ∃ acc, H7 D = some (.lst acc) ∧ acc.length < sizeLine ∧ Nx1 (upd H7 D (.lst (acc ++ [y]))) else Nx1 H6)
        else Nx H3) := by
  refine ⟨fun i m H => m = n - i ∧ i ≤ n ∧ Pv i H, ⟨n, by simp, Nat.zero_le _, h0⟩, ?_⟩
  rintro i m H ⟨rfl, hi, p⟩
  have q := hG i H hi p
  by_cases hlt : i < n
  · exact .inr ⟨w.goes i H hlt q, Pv (i + 1), fun H' p' => ⟨n - (i + 1), by omega, rfl, hlt, p'⟩, fun x H' y => hs i x H H' hlt p (w.yields i H x H' hlt q y)⟩
  · have e : i = n := by omega
    subst e
    exact .inl ⟨w.stops H q, hd H p⟩
/-- the turns of a second for -/
theorem lc_in (w : Walk J n G Y) {g : TG} {tt : TT} {te : TE} {vs : List Nat} {σ : L2.St} {H1 : Hp} {D : Addr} {Qd : Hp → Prop} (Pv : Nat → Hp → Prop) (h0 : Pv 0 H1) (hG : ∀ i H, i ≤ n → Pv i H → G H)
    (hs : ∀ i x H H', i < n → Pv i H → Y i H x H' → g x (wipe σ vs) H' fun σ2 H2 => wipe σ2 vs = wipe σ vs ∧ tt σ2 H2 fun b H3 =>
      if b = true then te σ2 H3 fun y H4 => ∃ acc, H4 D = some (.lst acc) ∧ acc.length < sizeLine ∧ Pv (i + 1) (upd H4 D (.lst (acc ++ [y]))) else Pv (i + 1) H3) (hd : ∀ H, Pv n H → Qd H) :
    ∃ W : Nat → Nat → Hp → Prop, (∃ m, W 0 m H1) ∧ ∀ i m H, W i m H →
      (J.stop i H ∧ Qd H) ∨ (J.go i H ∧ ∃ Nx : Hp → Prop, (∀ H', Nx H' → ∃ m', m' < m ∧ W (i + 1) m' H') ∧ ∀ x H', J.yld i H x H' → g x (wipe σ vs) H' fun σ2 H2 => wipe σ2 vs = wipe σ vs ∧ tt σ2 H2 fun b H3 =>
        if b = true then te σ2 H3 fun y H4 => ∃ acc, H4 D = some (.lst acc) ∧ acc.length < sizeLine ∧ Nx (upd H4 D (.lst (acc ++ [y]))) else Nx H3) := by
  refine ⟨fun i m H => m = n - i ∧ i ≤ n ∧ Pv i H, ⟨n, by simp, Nat.zero_le _, h0⟩, ?_⟩
  rintro i m H ⟨rfl, hi, p⟩
  have q := hG i H hi p
  by_cases hlt : i < n
  · exact .inr ⟨w.goes i H hlt q, Pv (i + 1), fun H' p' => ⟨n - (i + 1), by omega, rfl, hlt, p'⟩, fun x H' y => hs i x H H' hlt p (w.yields i H x H' hlt q y)⟩
  · have e : i = n := by omega
    subst e
    exact .inl ⟨w.stops H q, hd H p⟩
end
end My

set_option Elab.async false
set_option linter.all false
set_option maxRecDepth 100000
set_option maxHeartbeats 1000000
/-! ### a module's tuples of tuples; min of a tuple; list(range(a, b, c)); sum of lists -/
namespace My
open PySem PySem.Spec PyProof.Rows L2
def KTupR (K : PySem.W.Frag) (a : Addr) (cs : List Addr) : Prop := ∃ (n : Nat) (sl : Array (Option Value)), K.lookup a = some ⟨.type "tuple", none, .seq (cs.map Value.ref).toArray n, sl⟩
theorem refs_of : ∀ cs : List Addr, Vals (cs.map V.ref) (cs.map Value.ref)
  | [] => .nil
  | c :: cs => .cons rfl (refs_of cs)
theorem KTupR.sq {K : PySem.W.Frag} {a : Addr} {cs : List Addr} {H : Hp} (h : KTupR K a cs) (hz : cs.length ≤ 1000 := by decide) : SqT K H a (cs.map V.ref) := by
  obtain ⟨n, sl, e⟩ := h
  exact .inr ⟨_, (cs.map Value.ref).toArray, n, e, rfl, rfl, by rw [List.size_toArray, List.length_map]; exact Nat.le_trans hz (by decide), by simpa using refs_of cs⟩
section
variable {prog : Program} {w : World} {A : Around} {E : Value → Shared → Prop} {s : Shared} {l : Addr} {xs : Array (Int × Tok)}
theorem min_intTuple {Q : Value → Shared → Prop} (hh : A.handled = none) (hl : s.heap.IsTuple l (intItems xs)) (hne : 0 < xs.size)
    (h : ∀ v h' tk, (intItems xs)[argBest (fun i j => decide (numAt xs i < numAt xs j)) (xs.size - 1)]? = some v → (∀ b o, s.heap.get? b = some o → h'.get? b = some o) → Q v { s with heap := h', toks := tk }) :
    wpAny (model prog w) A (call (.builtin "min") [.ref l]) Q E s := by
  have hlt : l < s.heap.objs.size := by obtain ⟨o, e, _⟩ := hl; exact Heap.lt_size e
  refine call_min_walk (wpAny_pyIter_tuple hl ?_)
  refine ⟨_, [_, l], [_], _, _, _, _, rfl, Walks.tuple (A := A.in1) hh _ l (Nat.ne_of_lt hlt) (intItems xs),
    ⟨⟨_, Heap.get?_push_size _ rfl, rfl, rfl⟩, hl.push _⟩, fun c hc => ?_, by simpa [intItems] using hne, CmpOf.ints_lt (numAt xs) (fun _ _ => intItems_at), fun v h' tk hP hk => ?_⟩
  · show c < (s.heap.push _).objs.size
    rw [Heap.size_push]
    rcases List.mem_cons.mp hc with rfl | hc
    · exact Nat.lt_succ_self _
    · rw [List.mem_singleton.mp hc]
      exact Nat.lt_succ_of_lt hlt
  · refine h v h' tk (by simpa [intItems] using hP) fun b o e => hk b o ?_ (Heap.get?_push_of_some _ e)
    intro hb
    rw [List.mem_singleton.mp hb] at e
    exact absurd (Heap.lt_size e) (Nat.lt_irrefl _)
end
end My
namespace My
open PySem PySem.Spec PyProof.Rows L2
section
variable {X : Cx}
/-- min(t) of a tuple of ints -/
def rMinT (K : PySem.W.Frag) : List V → Hp → VK → Prop := fun vs H Q => ∃ (a : Addr) (ns : List Int), vs = [V.ref a] ∧ SqT K H a (ns.map V.int) ∧ 0 < ns.length ∧ ∀ m, m ∈ ns → (∀ y, y ∈ ns → m ≤ y) → Q (.int m) H
theorem cr_minT (hc : X.calm = true) : CallR X (.builtin "min") (rMinT X.K) := by
  intro pins s σ H vs us Q I r h
  obtain ⟨a, ns, rfl, hs, hne, q⟩ := h
  obtain ⟨its, rv, hl, _⟩ := I.tuple hs
  rw [Vals.ref1 r]
  have hi := rv.ints
  obtain ⟨xs, e⟩ := hi.allInts.items
  have hn : numsOf (intItems xs).toList = ns := by rw [← e]; exact hi.numsOf
  rw [nums_intItems] at hn
  subst hn
  have hl' : s.heap.IsTuple a (intItems xs) := by rw [← e]; exact hl
  have hsz : 0 < xs.size := by simpa using hne
  refine min_intTuple (I.ok.hd hc) hl' hsz fun v h' tk hv hk => ?_
  obtain ⟨t, rfl⟩ := intItems_at hv
  obtain ⟨h1, h2⟩ := argBest_lt (numAt xs) (xs.size - 1)
  refine ⟨.int _, H, I.kept hk, ⟨_, rfl⟩, q _ ?_ fun b hb => ?_⟩
  · rw [numAt_eq]; exact PySem.getD_mem (by rw [List.length_map, Array.length_toList]; omega)
  · obtain ⟨j, hj, rfl⟩ := mem_getD hb
    rw [List.length_map, Array.length_toList] at hj
    rw [← numAt_eq]; exact h2 j (by omega)
/-- a range object with a step -/
def RngO (r : Addr) (i j c : Int) : HO := .ext fun h => ∃ t u v, h.get? r = some { cls := .type "range", dict := none, data := .fields #[.int i t, .int j u, .int c v], slots := #[] }
def rRange3 : List V → Hp → VK → Prop := fun vs H Q => ∃ (i j c : Int) (n : Nat), vs = [.int i, .int j, .int c] ∧ RgC i j c n ∧ ∀ p, H p = none → Q (.ref p) (upd H p (RngO p i j c))
theorem cr_range3 : CallR X (.type "range") rRange3 := by
  intro pins s σ H vs us Q I r h
  obtain ⟨i, j, k, n, rfl, ⟨c0, c1, c2, c3⟩, q⟩ := h
  cases r with
  | cons r rr =>
    cases rr with
    | cons r' rr =>
      cases rr with
      | cons r'' rr =>
        cases rr
        obtain ⟨t, rfl⟩ := r
        obtain ⟨t', rfl⟩ := r'
        obtain ⟨t'', rfl⟩ := r''
        refine call_range_3 c0 ?_ (.inl (PyProof.noPylong_small c1))
        refine ⟨.ref s.heap.objs.size, _, I.laid (t' := s.toks) (o := RngO s.heap.objs.size i j k) (fun b o e => Heap.get?_push_of_some _ e) (Nat.le_refl _) ?_, rfl, q _ (I.hok.fresh (Nat.le_refl _))⟩
        refine ⟨⟨t, t', t'', Heap.get?_push_size _ rfl⟩, ⟨_, Heap.get?_push_size _ rfl⟩, fun h1 h2 ⟨a, b, c, e⟩ k => ⟨a, b, c, k _ e⟩⟩
def rngL (i c : Int) (n : Nat) : List Int := (List.range n).map fun (k : Nat) => i + (k : Int) * c
def rListR : List V → Hp → VK → Prop := fun vs H Q => ∃ (p : Addr) (i j c : Int) (n : Nat), vs = [.ref p] ∧ H p = some (RngO p i j c) ∧ RgC i j c n ∧ n ≤ 1000 ∧ ∀ l, H l = none → Q (.ref l) (upd H l (.lst ((rngL i c n).map V.int)))
theorem cr_listR (hc : X.calm = true) : CallR X (.type "list") rListR := by
  intro pins s σ H vs us Q I r h
  obtain ⟨p, i, j, k, n, rfl, hp, ⟨c0, c1, c2, c3⟩, hn, q⟩ := h
  rw [Vals.ref1 r]
  obtain ⟨⟨t, u, v, e⟩, _, _⟩ := I.hok p _ hp
  refine call_list_range (I.ok.hd hc) e c2 c3 (Nat.le_trans hn (by decide)) fun h' tk acc c' hk hl hi => ?_
  have lr : (rngL i k n).length = n := by unfold rngL; rw [List.length_map, List.length_range]
  refine ⟨.ref s.heap.objs.size, _, I.laid (t' := tk) (o := .lst ((rngL i k n).map V.int)) hk (Nat.le_refl _) ?_, rfl, q _ (I.hok.fresh (Nat.le_refl _))⟩
  refine ⟨by rw [List.length_map, lr]; exact Nat.le_trans hn (by decide), acc.toList, c', ?_, by rw [Array.toArray_toList]; exact hl⟩
  refine vals_of_idx _ _ (by rw [List.length_map, lr, Array.length_toList]; exact hi.1) fun j w hj => ?_
  obtain ⟨tt, rfl⟩ := hi.2 j w (by rw [← Array.getElem?_toList]; exact hj)
  have hjn : j < n := by
    have := (List.getElem?_eq_some_iff.mp hj).1
    rw [Array.length_toList, hi.1] at this
    exact this
  refine ⟨.int (i + (j : Int) * k), ?_, ⟨_, rfl⟩⟩
  unfold rngL
  rw [List.getElem?_map, List.getElem?_map, List.getElem?_range hjn]
  rfl
end
end My
namespace PySem.F
theorem args_sum2 (a b : Value) : argsOk "sum" ⟨[a, b], []⟩ := by unfold argsOk; kernel_rfl
end PySem.F
namespace My
open PySem PySem.Spec PyProof.Rows L2
open PySem.Sem (wp)
section
variable {prog : Program} {w : World} {A : Around} {E : Value → Shared → Prop} {s : Shared}
def LstO (h : Heap) (a : Addr) (vs : List Value) : Prop := ∃ c : Nat, h.get? a = some { cls := .type "list", dict := none, data := .seq vs.toArray c, slots := #[] }
theorem LstO.at {h h' : Heap} {a : Addr} {vs : List Value} (x : LstO h a vs) (k : ∀ o, h.get? a = some o → h'.get? a = some o) : LstO h' a vs := let ⟨c, e⟩ := x; ⟨c, k _ e⟩
/-- the sum of lists, as it goes on -/
theorem sum_lists_loop (hh : A.handled = none) {R : Result → Shared → Prop} {I l S : Addr} {Ls : List Addr} {X : Nat → List Value} (hIl : l ≠ I) (hSI : S ≠ I) (hSl : S ≠ l) (hsz : ((List.range Ls.length).map X).flatten.length ≤ sizeLine) :
    ∀ (k i : Nat) (s : Shared) (T : Addr) (c : Nat), Ls.length - i = k → i ≤ Ls.length → (s.heap.IsListIter I l i ∧ s.heap.IsList l (Ls.map Value.ref).toArray) → T ≠ I → T ≠ S →
      (∀ (j : Nat) (a : Addr), Ls[j]? = some a → a ≠ I ∧ a ≠ S ∧ s.heap.IsList a (X j).toArray) →
      s.heap.get? S = some { cls := .type "list", dict := none, data := .seq #[.ref T] c, slots := #[] } → LstO s.heap T (((List.range i).map X).flatten) →
      (∀ h' tk T', (∀ b o, b ≠ I → b ≠ S → s.heap.get? b = some o → h'.get? b = some o) → LstO h' T' (((List.range Ls.length).map X).flatten) → (T' = T ∨ s.heap.get? T' = none) → R (.ok (.ret (.ref T'))) { s with heap := h', toks := tk }) →
      codeAny (model prog w) A (.builtin "sum.loop" ⟨[.ref I, .ref S, rawInt 2, rawInt 0], []⟩) R s := by
  intro k
  induction k with
  | zero =>
    intro i s T c hk hi hst hTI hTS hL hS hT hR
    have W := Walks.list (prog := prog) (w := w) (A := A.in1) hh I l hIl (Ls.map Value.ref).toArray
    have hin : i = Ls.length := by omega
    subst hin
    refine codeAny_builtin F.entry_sum_loop ?_
    rw [Around.under_plainId F.plain_sum_loop _]
    show wpAny _ A.in1 (seqItems? (.ref S) >>= _) _ _ s
    refine wpAny_bind (wpAny_seqItems hS rfl ?_)
    show wpAny _ A.in1 (tryCatch (pyNext (.ref I)) _ >>= _) _ _ s
    refine wpAny_bind (wpAny_tryCatch (W.done s _ _ (by simpa using hst) fun h' tk hk' => ?_))
    refine wpAny_pure (hR h' tk T (fun b o hbw _ e => hk' b o (by simpa using hbw) e) ?_ (.inl rfl))
    exact hT.at fun o e => hk' _ _ (by simpa using hTI) e
  | succ k ih =>
    intro i s T c hk hi hst hTI hTS hL hS hT hR
    have W := Walks.list (prog := prog) (w := w) (A := A.in1) hh I l hIl (Ls.map Value.ref).toArray
    have hlt : i < Ls.length := by omega
    refine codeAny_builtin F.entry_sum_loop ?_
    rw [Around.under_plainId F.plain_sum_loop _]
    show wpAny _ A.in1 (seqItems? (.ref S) >>= _) _ _ s
    refine wpAny_bind (wpAny_seqItems hS rfl ?_)
    show wpAny _ A.in1 (tryCatch (pyNext (.ref I)) _ >>= _) _ _ s
    refine wpAny_bind (wpAny_tryCatch (W.item i s _ _ (by simpa using hlt) hst fun v h' tk hPi hst' hk' => ?_))
    have e1 : Ls[i]? = some Ls[i] := List.getElem?_eq_getElem hlt
    have hv : v = .ref Ls[i] := by
      have : (Ls.map Value.ref).toArray[i]? = some v := hPi
      rw [List.getElem?_toArray, List.getElem?_map, e1] at this
      exact (Option.some.inj this).symm
    subst hv
    have kk : ∀ b o, b ≠ I → s.heap.get? b = some o → h'.get? b = some o := fun b o n e => hk' b o (by simpa using n) e
    have hS' := kk S _ hSI hS
    obtain ⟨a1, a2, ⟨⟨cls, dd, data, sl⟩, ho, hc, nn, hd⟩⟩ := hL i _ e1
    obtain ⟨nn2, ho2⟩ := hT
    simp only at hc hd
    subst hc hd
    have ho' := kk _ _ a1 ho
    have ho2' := kk _ _ hTI ho2
    have er : ((List.range (i + 1)).map X).flatten = ((List.range i).map X).flatten ++ X i := by rw [List.range_succ, List.map_append, List.flatten_append]; simp
    have hle : ((List.range (i + 1)).map X).flatten.length ≤ sizeLine := by
      refine Nat.le_trans ?_ hsz
      have es : List.range Ls.length = List.range (i + 1) ++ (List.range' (i + 1) (Ls.length - (i + 1))) := by
        have h := List.range'_append_1 (s := 0) (m := i + 1) (n := Ls.length - (i + 1))
        rw [Nat.zero_add] at h
        rw [List.range_eq_range', List.range_eq_range', h]
        congr 1
        omega
      rw [es, List.map_append, List.flatten_append, List.length_append]
      omega
    show wpAny _ A.in1 ((holding [.ref Ls[i]] (binaryOp .Add (.ref T) (.ref Ls[i]))).attempt >>= _) _ _ _
    refine wpAny_bind (wpAny_attempt (wpAny_holding (concat_meets ⟨_, ho2', rfl⟩ ⟨_, ho', rfl⟩ noFill_list_add seq_list_add PySem.F.slot_list_add PySem.F.entry_list_add (PySem.F.args_list_add_2 _ _) (list_addW T Ls[i] _ _ nn2 nn none dd #[] sl (by
      rw [er, List.length_append] at hle
      simpa using hle)) ⟨ho2', ho', ?_⟩)))
    have hI' : I < h'.objs.size := by obtain ⟨o, e, _⟩ := hst'.1; exact Heap.lt_size e
    have hSs : S < h'.objs.size := Heap.lt_size hS'
    have hll : l < h'.objs.size := by obtain ⟨o, e, _⟩ := hst'.2; exact Heap.lt_size e
    have up : ∀ b o, h'.get? b = some o → (h'.push { cls := .type "list", data := .seq ((((List.range i).map X).flatten).toArray ++ (X i).toArray) }).get? b = some o := fun b o e => Heap.get?_push_of_some _ e
    have gT : (h'.push { cls := .type "list", data := .seq ((((List.range i).map X).flatten).toArray ++ (X i).toArray) }).get? h'.objs.size = some { cls := .type "list", data := .seq ((((List.range i).map X).flatten).toArray ++ (X i).toArray) } := Heap.get?_push_size _ rfl
    have eT : (((List.range i).map X).flatten).toArray ++ (X i).toArray = (((List.range (i + 1)).map X).flatten).toArray := by rw [er]; simp
    rw [eT] at up gT
    have hS2 := up _ _ hS'
    rw [eT]
    generalize (h'.push { cls := .type "list", data := .seq (((List.range (i + 1)).map X).flatten).toArray }) = h2 at up gT hS2 ⊢
    show wpAny _ A.in1 (updateSeq S (fun _ => #[.ref h'.objs.size]) >>= _) _ _ ⟨h2, s.gens, s.drawn, tk, s.os⟩
    refine wpAny_bind (wpAny_updateSeq hS2 rfl ?_)
    refine wpAny_bind (wpAny_letGo ?_)
    have hS3 : (h2.update S (Obj.mapSeq fun _ => #[.ref h'.objs.size])).get? S = some { cls := .type "list", dict := none, data := .seq #[.ref h'.objs.size] c, slots := #[] } := Heap.get?_update_self (Obj.mapSeq fun _ => #[.ref h'.objs.size]) hS2 rfl
    have s3 : Heap.SameBut S h2 (h2.update S (Obj.mapSeq fun _ => #[.ref h'.objs.size])) := Heap.SameBut.update ..
    generalize (h2.update S (Obj.mapSeq fun _ => #[.ref h'.objs.size])) = h3 at hS3 s3 ⊢
    show wpAny _ A.in1 (updateSeq S (fun _ => #[.ref h'.objs.size]) >>= _) _ _ ⟨h3, s.gens, s.drawn, tk, s.os⟩
    refine wpAny_bind (wpAny_updateSeq hS3 rfl ?_)
    have hS4 : (h3.update S (Obj.mapSeq fun _ => #[.ref h'.objs.size])).get? S = some { cls := .type "list", dict := none, data := .seq #[.ref h'.objs.size] c, slots := #[] } := Heap.get?_update_self (Obj.mapSeq fun _ => #[.ref h'.objs.size]) hS3 rfl
    have s4 : Heap.SameBut S h3 (h3.update S (Obj.mapSeq fun _ => #[.ref h'.objs.size])) := Heap.SameBut.update ..
    generalize (h3.update S (Obj.mapSeq fun _ => #[.ref h'.objs.size])) = h4 at hS4 s4 ⊢
    have all : ∀ b o, b ≠ S → h'.get? b = some o → h4.get? b = some o := fun b o n e => s4.extBut _ _ n (s3.extBut _ _ n (up _ _ e))
    have nTI : h'.objs.size ≠ I := Nat.ne_of_gt hI'
    have nTS : h'.objs.size ≠ S := Nat.ne_of_gt hSs
    refine wpAny_pure ⟨plainId_quiet F.plain_sum_loop _, ih (i + 1) ⟨h4, s.gens, s.drawn, tk, s.os⟩ h'.objs.size c (by omega) hlt ⟨hst'.1.at fun o e => all _ _ hSI.symm e, ?_⟩ nTI nTS (fun j a e => ?_) hS4 ?_ fun h5 tk5 T5 k5 hT5 hf5 => ?_⟩
    · exact hst'.2.at fun o e => all _ _ hSl.symm e
    · obtain ⟨b1, b2, b3⟩ := hL j a e
      exact ⟨b1, b2, b3.at fun o e => all _ _ b2 (kk _ _ b1 e)⟩
    · exact ⟨0, s4.extBut _ _ nTS (s3.extBut _ _ nTS gT)⟩
    · refine hR h5 tk5 T5 (fun b o n1 n2 e => k5 b o n1 n2 (all _ _ n2 (kk _ _ n1 e))) hT5 (.inr ?_)
      cases hx : s.heap.get? T5 with
      | none => rfl
      | some o =>
        exfalso
        by_cases n1 : T5 = I
        · rcases hf5 with z | z
          · exact nTI (z.symm.trans n1)
          · have := all _ _ hSI.symm (hst'.1.choose_spec.1)
            rw [n1] at z
            rw [z] at this
            cases this
        · by_cases n2 : T5 = S
          · rcases hf5 with z | z
            · exact nTS (z.symm.trans n2)
            · rw [n2, show Heap.get? h4 S = some _ from hS4] at z
              cases z
          · have h4x := all _ _ n2 (kk _ _ n1 hx)
            rcases hf5 with z | z
            · rw [z] at hx
              exact absurd (Heap.lt_size (kk _ _ nTI hx)) (Nat.lt_irrefl _)
            · rw [show Heap.get? h4 T5 = none from z] at h4x
              cases h4x
theorem call_sum_lists {l T : Addr} {Ls : List Addr} {X : Nat → List Value} {Q : Value → Shared → Prop} (hh : A.handled = none) (hl : s.heap.IsList l (Ls.map Value.ref).toArray) (hT : LstO s.heap T []) (hL : ∀ (j : Nat) (a : Addr), Ls[j]? = some a → s.heap.IsList a (X j).toArray)
    (hsz : ((List.range Ls.length).map X).flatten.length ≤ sizeLine)
    (h : ∀ h' tk T', (∀ b o, s.heap.get? b = some o → h'.get? b = some o) → LstO h' T' (((List.range Ls.length).map X).flatten) → (T' = T ∨ s.heap.get? T' = none) → Q (.ref T') { s with heap := h', toks := tk }) :
    wpAny (model prog w) A (call (.builtin "sum") [.ref l, .ref T]) Q E s := by
  have hll : l < s.heap.objs.size := by obtain ⟨o, e, _⟩ := hl; exact Heap.lt_size e
  have hTl : T < s.heap.objs.size := by obtain ⟨c, e⟩ := hT; exact Heap.lt_size e
  refine call_function_tree F.kind_sum F.plain_sum F.entry_sum (F.args_sum2 _ _) ?_
  unfold Builtin.«sum»
  simp only [List.length_cons, List.length_nil]
  rw [if_neg (by decide)]
  refine wpAny_bind (wpAny_of_eq (show Builtin.Builtins.bindParams "sum" ["start"] 0 ⟨[.ref T], []⟩ = pure [some (.ref T)] from rfl) ?_)
  refine wpAny_bind (wpAny_pyIter_list hl ?_)
  have k1 : ∀ b o, s.heap.get? b = some o → (s.heap.push { cls := .type "list_iterator", data := .fields #[.ref l, .int 0 0] }).get? b = some o := fun b o e => Heap.get?_push_of_some _ e
  have hit : (s.heap.push { cls := .type "list_iterator", data := .fields #[.ref l, .int 0 0] }).IsListIter s.heap.objs.size l 0 := ⟨_, Heap.get?_push_size _ rfl, rfl, rfl⟩
  have z1 : (s.heap.push { cls := .type "list_iterator", data := .fields #[.ref l, .int 0 0] }).objs.size = s.heap.objs.size + 1 := Heap.size_push ..
  generalize (s.heap.push { cls := .type "list_iterator", data := .fields #[.ref l, .int 0 0] }) = h1 at k1 hit z1 ⊢
  have hT1 : h1.IsList T #[] := let ⟨c, e⟩ := hT; ⟨_, k1 _ _ e, rfl, c, rfl⟩
  have hl1 := hl.at (k1 l)
  show wpAny _ A.in1 ((pure (.ref T, (2 : Int)) : Sem (Value × Int)) >>= _) _ _ _
  refine wpAny_bind (wpAny_pure ?_)
  simp only [List.forIn_cons, List.forIn_nil]
  refine wpAny_bind (wpAny_bind (wpAny_bind (wpAny_isInstance (s := { s with heap := h1 }) (T := "list") (b := false) hT1.typeIs F.sub_list_str ?_)))
  simp only [Bool.false_eq_true, if_false]
  refine wpAny_pure (wpAny_bind (wpAny_bind (wpAny_isInstance (s := { s with heap := h1 }) (T := "list") (b := false) hT1.typeIs F.sub_list_bytes ?_)))
  simp only [Bool.false_eq_true, if_false]
  refine wpAny_pure (wpAny_bind (wpAny_bind (wpAny_isInstance (s := { s with heap := h1 }) (T := "list") (b := false) hT1.typeIs F.sub_list_bytearray ?_)))
  simp only [Bool.false_eq_true, if_false]
  refine wpAny_pure (wpAny_pure ?_)
  refine wpAny_bind (wpAny_newObj_type ?_)
  have k2 : ∀ b o, h1.get? b = some o → (h1.push { cls := .type "list", data := .seq #[.ref T] }).get? b = some o := fun b o e => Heap.get?_push_of_some _ e
  have hS : (h1.push { cls := .type "list", data := .seq #[.ref T] }).get? h1.objs.size = some { cls := .type "list", data := .seq #[.ref T] } := Heap.get?_push_size _ rfl
  generalize (h1.push { cls := .type "list", data := .seq #[.ref T] }) = h2 at k2 hS ⊢
  have old : ∀ b o, s.heap.get? b = some o → h2.get? b = some o := fun b o e => k2 _ _ (k1 _ _ e)
  have lt1 : ∀ b, b < s.heap.objs.size → b ≠ s.heap.objs.size ∧ b ≠ h1.objs.size := fun b hb => ⟨Nat.ne_of_lt hb, Nat.ne_of_lt (Nat.lt_of_lt_of_le hb (by rw [z1]; exact Nat.le_succ _))⟩
  refine wpAny_pure ⟨plainId_quiet F.plain_sum_loop _, sum_lists_loop (X := X) (Ls := Ls) (l := l) hh (lt1 l hll).1 ?_ (lt1 l hll).2.symm hsz Ls.length 0 ⟨h2, s.gens, s.drawn, s.toks, s.os⟩ T 0 (by omega) (Nat.zero_le _) ⟨hit.at fun o e => k2 _ _ e, hl.at fun o e => old _ _ e⟩ (lt1 T hTl).1 (lt1 T hTl).2 (fun j a e => ?_) hS ?_ fun h' tk T' k3 hT' hf => ?_⟩
  · rw [z1]
    exact Nat.succ_ne_self _
  · have ha := hL j a e
    have hal : a < s.heap.objs.size := by obtain ⟨o, e, _⟩ := ha; exact Heap.lt_size e
    exact ⟨(lt1 a hal).1, (lt1 a hal).2, ha.at fun o e => old _ _ e⟩
  · exact hT.at fun o e => old _ _ e
  · refine h h' tk T' (fun b o e => k3 b o (lt1 b (Heap.lt_size e)).1 (lt1 b (Heap.lt_size e)).2 (old _ _ e)) hT' ?_
    rcases hf with z | z
    · exact .inl z
    · right
      cases hx : s.heap.get? T' with
      | none => rfl
      | some o =>
        have := old _ _ hx
        rw [show h2.get? T' = none from z] at this
        cases this
end
end My
namespace My
open PySem PySem.Spec PyProof.Rows L2
section
variable {X : Cx}
/-- sum(xs, []) of lists -/
def rSumL (K : PySem.W.Frag) : List V → Hp → VK → Prop := fun vs H Q => ∃ (l T : Addr) (Ls : List Addr) (rows : List (List V)), vs = [.ref l, .ref T] ∧ SqL K H l (Ls.map V.ref) ∧ H T = some (.lst []) ∧ RowsL K H Ls rows ∧ rows.flatten.length ≤ 1000 ∧ rows ≠ [] ∧
  ∀ p H', Same H H' → H' p = some (.lst rows.flatten) → Q (.ref p) H'
theorem cr_sumL (hc : X.calm = true) : CallR X (.builtin "sum") (rSumL X.K) := by
  intro pins s σ H vs us Q I r h
  obtain ⟨l, T, Ls, rows, rfl, hl, hT, hr, hz, h0, q⟩ := h
  cases r with
  | cons r rr =>
    cases rr with
    | cons r' rr =>
      cases rr
      cases r
      cases r'
      obtain ⟨its, rv, p1, _⟩ := I.list hl
      obtain rfl := refs_vals rv
      have hT2 := I.hok T _ hT
      obtain ⟨_, itsT, cT, rvT, eT⟩ := hT2
      cases rvT
      have each : ∀ j : Nat, ∃ u : List Value, ∀ a, Ls[j]? = some a → s.heap.IsList a u.toArray ∧ ∀ r, rows[j]? = some r → Vals r u := fun j => by
        cases e1 : Ls[j]? with
        | none => exact ⟨[], fun a z => by cases z⟩
        | some a =>
          have hj : j < rows.length := by rw [← hr.1]; exact (List.getElem?_eq_some_iff.mp e1).1
          have e2 : rows[j]? = some rows[j] := List.getElem?_eq_getElem hj
          obtain ⟨its2, rv2, p2, _⟩ := I.list (hr.2 j a _ e1 e2)
          refine ⟨its2, fun a2 z => ?_⟩
          cases z
          refine ⟨p2.isList, fun r z => ?_⟩
          rw [e2] at z
          cases z
          exact rv2
      let X2 : Nat → List Value := fun j => Classical.choose (each j)
      have hX : ∀ j a, Ls[j]? = some a → s.heap.IsList a (X2 j).toArray ∧ ∀ r, rows[j]? = some r → Vals r (X2 j) := fun j => Classical.choose_spec (each j)
      have rel : ∀ n, n ≤ rows.length → Vals ((rows.take n).flatten) ((List.range n).map X2).flatten := fun n => by
        induction n with
        | zero => exact fun _ => .nil
        | succ n ih =>
          intro hn
          have e2 : rows[n]? = some (rows[n]'(by omega)) := List.getElem?_eq_getElem _
          have e1 : Ls[n]? = some (Ls[n]'(by rw [hr.1]; omega)) := List.getElem?_eq_getElem _
          rw [List.take_add_one, e2, List.range_succ, List.map_append, List.flatten_append, List.flatten_append]
          simp only [Option.toList_some, List.flatten_cons, List.flatten_nil, List.append_nil, List.map_cons, List.map_nil]
          exact (ih (by omega)).append ((hX n _ e1).2 _ e2)
      have relA : Vals rows.flatten ((List.range Ls.length).map X2).flatten := by
        have := rel rows.length (Nat.le_refl _)
        rw [List.take_length] at this
        rw [hr.1]
        exact this
      have len := relA.length
      refine call_sum_lists (X := X2) (I.ok.hd hc) p1.isList ⟨cT, eT⟩ (fun j a e => (hX j a e).1) (by rw [← len]; exact Nat.le_trans hz (by decide)) fun h' tk T' k ⟨c', e'⟩ hf => ?_
      rcases hf with rfl | hn
      · have eN : ((List.range Ls.length).map X2).flatten = [] := by
          have := k _ _ eT
          rw [e'] at this
          have h2 : (((List.range Ls.length).map X2).flatten).toArray = #[] := by
            have h3 := congrArg Obj.data (Option.some.inj this)
            exact (Data.seq.inj h3).1
          simpa using congrArg Array.toList h2
        have eR : rows.flatten = [] := by rw [eN] at len; exact List.eq_nil_of_length_eq_zero len
        refine ⟨.ref T', H, I.kept (t' := tk) k, rfl, q T' H (Same.refl _) ?_⟩
        rw [eR]
        exact hT
      · have hN : H T' = none := I.hok.gone hn
        refine ⟨.ref T', upd H T' (.lst rows.flatten), I.laidN (t' := tk) k hn hN ?_, rfl, q T' _ (same_upd hN) upd_same⟩
        exact ⟨Nat.le_trans hz (by decide), _, c', relA, e'⟩
end
end My

set_option Elab.async false
set_option linter.all false
set_option maxRecDepth 100000
set_option maxHeartbeats 1000000
/-! ### a module's tuples of tuples of tuples of whole numbers, and its tuples of functions, checked by one question -/
namespace My
open PySem PySem.Spec PyProof.Rows L2
def refsB : List Value → Option (List Addr)
  | [] => some []
  | .ref a :: vs => (refsB vs).map (a :: ·)
  | _ :: _ => none
theorem refsB_ok : ∀ {vs : List Value} {cs : List Addr}, refsB vs = some cs → vs = cs.map Value.ref
  | [], cs, h => by cases h; rfl
  | .ref a :: vs, cs, h => by
    obtain ⟨r, e, rfl⟩ := Option.map_eq_some_iff.mp (show (refsB vs).map (a :: ·) = some cs from h)
    rw [refsB_ok e]
    rfl
/-- the addresses that a tuple of the written part holds -/
def tupRefs (K : PySem.W.Frag) (a : Addr) : Option (List Addr) :=
  match K.lookup a with
  | some ⟨.type s, none, .seq its _, _⟩ => if s == "tuple" && Nat.ble its.size 1000 then refsB its.toList else none
  | _ => none
theorem tupRefs_ok {K : PySem.W.Frag} {a : Addr} {cs : List Addr} (h : tupRefs K a = some cs) : KTupR K a cs ∧ cs.length ≤ 1000 := by
  unfold tupRefs at h
  split at h
  · next s its n sl e =>
    split at h
    · next c =>
      rw [Bool.and_eq_true] at c
      have es : s = "tuple" := by simpa using c.1
      subst es
      have ev := refsB_ok h
      have hl : cs.length = its.size := by rw [← Array.length_toList, ev, List.length_map]
      refine ⟨⟨n, sl, ?_⟩, by rw [hl]; exact Nat.le_of_ble_eq_true c.2⟩
      rw [e, ← ev]
    · cases h
  · cases h
def tup2B (K : PySem.W.Frag) (a : Addr) (d : List (List Int)) : Bool :=
  match tupRefs K a with
  | some cs => Nat.beq cs.length d.length && (cs.zip d).all fun p => tupB K p.1 p.2
  | none => false
def tup3B (K : PySem.W.Frag) (a : Addr) (d : List (List (List Int))) : Bool :=
  match tupRefs K a with
  | some cs => Nat.beq cs.length d.length && (cs.zip d).all fun p => tup2B K p.1 p.2
  | none => false
theorem zip_mem {α β : Type} {xs : List α} {ys : List β} {i : Nat} {x : α} {y : β} (h1 : xs[i]? = some x) (h2 : ys[i]? = some y) : (x, y) ∈ xs.zip ys :=
  List.mem_of_getElem? (i := i) (List.getElem?_zip_eq_some.mpr ⟨h1, h2⟩)
theorem tup2B_ok {K : PySem.W.Frag} {a : Addr} {d : List (List Int)} (h : tup2B K a d = true) : ∃ cs, KTupR K a cs ∧ cs.length ≤ 1000 ∧ cs.length = d.length ∧ ∀ (i : Nat) (c : Addr) (r : List Int), cs[i]? = some c → d[i]? = some r → tupB K c r = true := by
  unfold tup2B at h
  split at h
  · next cs e =>
    rw [Bool.and_eq_true] at h
    obtain ⟨k, l⟩ := tupRefs_ok e
    exact ⟨cs, k, l, Nat.eq_of_beq_eq_true h.1, fun i c r e1 e2 => List.all_eq_true.mp h.2 (c, r) (zip_mem e1 e2)⟩
  · cases h
theorem tup3B_ok {K : PySem.W.Frag} {a : Addr} {d : List (List (List Int))} (h : tup3B K a d = true) : ∃ cs, KTupR K a cs ∧ cs.length ≤ 1000 ∧ cs.length = d.length ∧ ∀ (i : Nat) (c : Addr) (r : List (List Int)), cs[i]? = some c → d[i]? = some r → tup2B K c r = true := by
  unfold tup3B at h
  split at h
  · next cs e =>
    rw [Bool.and_eq_true] at h
    obtain ⟨k, l⟩ := tupRefs_ok e
    exact ⟨cs, k, l, Nat.eq_of_beq_eq_true h.1, fun i c r e1 e2 => List.all_eq_true.mp h.2 (c, r) (zip_mem e1 e2)⟩
  · cases h
/-- a row of a table of three: the tuple of its rows, each a tuple of whole numbers -/
theorem tup3_at {K : PySem.W.Frag} {a : Addr} {d : List (List (List Int))} {i : Nat} {r : List (List Int)} (h : tup3B K a d = true) (e : d[i]? = some r) : ∃ cs : List Addr, (∀ H, SqT K H a (cs.map V.ref)) ∧ ∃ c : Addr, atI (cs.map V.ref) (i : Int) = some (.ref c) ∧
    ∃ bs : List Addr, (∀ H, SqT K H c (bs.map V.ref)) ∧ bs.length = r.length ∧ ∀ (j : Nat) (b : Addr) (q : List Int), bs[j]? = some b → r[j]? = some q → ∀ H, SqT K H b (q.map V.int) := by
  obtain ⟨cs, k, l, n, f⟩ := tup3B_ok h
  have hi : i < cs.length := by rw [n]; exact (List.getElem?_eq_some_iff.mp e).1
  have ec : cs[i]? = some cs[i] := List.getElem?_eq_getElem hi
  obtain ⟨bs, k2, l2, n2, f2⟩ := tup2B_ok (f i _ r ec e)
  exact ⟨cs, fun H => k.sq l, cs[i], atI_nat (by rw [List.getElem?_map, ec]; rfl), bs, fun H => k2.sq l2, n2, fun j b q e1 e2 H => tupB_ok (f2 j b q e1 e2)⟩
theorem op_catTK {X : Cx} {K : PySem.W.Frag} (h : X.K = K) : OpR X (binaryOp .Add) (rCatT K) := by
  subst h
  exact op_catT
/-- the bits of a word, the highest first -/
def bitsW (b w : Nat) : List Nat := (List.range b).map fun i => w / 2 ^ (b - 1 - i) % 2
def wordsB (b : Nat) (ws : List Nat) : List Nat := ws.flatMap (bitsW b)
def quadsD : List (List Nat) := (List.range 16).map (bitsW 4)
theorem bits8 {w : Nat} (h : w < 256) : bitsW 8 w = bitsW 4 (w / 16) ++ bitsW 4 (w % 16) := by
  have q : ((List.range 256).all fun w => bitsW 8 w == bitsW 4 (w / 16) ++ bitsW 4 (w % 16)) = true := by decide +kernel
  exact eq_of_beq (List.all_eq_true.mp q w (List.mem_range.mpr h))
theorem bitsW_len (b w : Nat) : (bitsW b w).length = b := by
  unfold bitsW
  rw [List.length_map, List.length_range]
theorem wordsB_snoc (b : Nat) (ws : List Nat) (w : Nat) : wordsB b (ws ++ [w]) = wordsB b ws ++ bitsW b w := by
  unfold wordsB
  rw [List.flatMap_append]
  simp
theorem wordsB_len (b : Nat) : ∀ ws : List Nat, (wordsB b ws).length = b * ws.length
  | [] => rfl
  | w :: ws => by
    show (bitsW b w ++ wordsB b ws).length = b * (ws.length + 1)
    rw [List.length_append, bitsW_len, wordsB_len b ws, Nat.mul_succ, Nat.add_comm]
end My

set_option Elab.async false
set_option linter.all false
set_option maxRecDepth 100000
set_option maxHeartbeats 1000000
/-! ### check words as the sum of one share for each bit -/
namespace My
open PySem PySem.Spec PyProof.Rows L2
/-- words as one number -/
def numF (b : Nat) (ws : List Nat) : Nat := ws.foldl (fun a w => a * 2 ^ b + w) 0
theorem pow_xor {b x y : Nat} (a c : Nat) (hx : x < 2 ^ b) (hy : y < 2 ^ b) : (a ^^^ c) * 2 ^ b + (x ^^^ y) = (a * 2 ^ b + x) ^^^ (c * 2 ^ b + y) := by
  have hz : x ^^^ y < 2 ^ b := Nat.xor_lt_two_pow hx hy
  refine Nat.eq_of_testBit_eq fun i => ?_
  rw [Nat.testBit_xor, Nat.mul_comm, Nat.mul_comm a, Nat.mul_comm c, Nat.testBit_two_pow_mul_add _ hz, Nat.testBit_two_pow_mul_add _ hx, Nat.testBit_two_pow_mul_add _ hy]
  split
  · rw [Nat.testBit_xor]
  · rw [Nat.testBit_xor]
theorem numF_go {b : Nat} : ∀ (xs ys : List Nat) (a c : Nat), xs.length = ys.length → (∀ x ∈ xs, x < 2 ^ b) → (∀ y ∈ ys, y < 2 ^ b) →
    (List.zipWith (fun x y => x ^^^ y) xs ys).foldl (fun a w => a * 2 ^ b + w) (a ^^^ c) = xs.foldl (fun a w => a * 2 ^ b + w) a ^^^ ys.foldl (fun a w => a * 2 ^ b + w) c
  | [], [], _, _, _, _, _ => rfl
  | [], _ :: _, _, _, h, _, _ => by cases h
  | _ :: _, [], _, _, h, _, _ => by cases h
  | x :: xs, y :: ys, a, c, h, hx, hy => by
    rw [List.zipWith_cons_cons, List.foldl_cons, List.foldl_cons, List.foldl_cons, pow_xor a c (hx x (List.mem_cons_self ..)) (hy y (List.mem_cons_self ..))]
    exact numF_go xs ys _ _ (Nat.succ.inj h) (fun z hz => hx z (List.mem_cons_of_mem _ hz)) (fun z hz => hy z (List.mem_cons_of_mem _ hz))
theorem numF_zip {b : Nat} {xs ys : List Nat} (h : xs.length = ys.length) (hx : ∀ x ∈ xs, x < 2 ^ b) (hy : ∀ y ∈ ys, y < 2 ^ b) : numF b (List.zipWith (fun x y => x ^^^ y) xs ys) = numF b xs ^^^ numF b ys := by
  have := numF_go xs ys 0 0 h hx hy
  rw [Nat.xor_self] at this
  exact this
theorem numF_noughts (b : Nat) : ∀ n, numF b (List.replicate n 0) = 0
  | 0 => rfl
  | n + 1 => by
    have ih := numF_noughts b n
    unfold numF at ih ⊢
    rw [List.replicate_succ, List.foldl_cons, Nat.zero_mul, Nat.add_zero]
    exact ih
theorem span_two {b : Nat} (hb : Wd b) : span b = 2 ^ b := by rcases hb with rfl | rfl <;> rfl
/-- the check words of one word and noughts behind it, as a number -/
def oneF (b s m n w : Nat) : Nat := numF b (chk b s m (w :: List.replicate n 0))
theorem ws_one {b n w : Nat} (hb : Wd b) (hw : w < span b) : Ws b (w :: List.replicate n 0) := fun x hx => by
  rcases List.mem_cons.mp hx with rfl | h
  · exact hw
  · rw [List.eq_of_mem_replicate h]
    exact Nat.lt_trans Nat.zero_lt_one (span_pos hb)
theorem chk_zip {b s m : Nat} {xs ys : List Nat} (hb : Wd b) (hx : Ws b xs) (hy : Ws b ys) (hl : ys.length = xs.length) : numF b (chk b s m (List.zipWith (fun x y => x ^^^ y) xs ys)) = numF b (chk b s m xs) ^^^ numF b (chk b s m ys) := by
  rw [← zx_zip hl.symm, chk_sum hb hx hy hl, zx_zip (by rw [chk_len hb, chk_len hb])]
  refine numF_zip (by rw [chk_len hb, chk_len hb]) (fun x h => ?_) fun x h => ?_
  · rw [← span_two hb]
    exact chk_ws hb hx x h
  · rw [← span_two hb]
    exact chk_ws hb hy x h
theorem zip_noughts : ∀ n : Nat, List.zipWith (fun x y : Nat => x ^^^ y) (List.replicate n 0) (List.replicate n 0) = List.replicate n 0
  | 0 => rfl
  | n + 1 => by
    rw [List.replicate_succ, List.zipWith_cons_cons, zip_noughts n]
    rfl
theorem one_xor {b s m n v w : Nat} (hb : Wd b) (hv : v < span b) (hw : w < span b) : oneF b s m n (v ^^^ w) = oneF b s m n v ^^^ oneF b s m n w := by
  have h := chk_zip (s := s) (m := m) hb (ws_one (n := n) hb hv) (ws_one (n := n) hb hw) rfl
  rw [List.zipWith_cons_cons, zip_noughts] at h
  exact h
theorem one_zero {b s m n : Nat} (hb : Wd b) : oneF b s m n 0 = 0 := by
  unfold oneF
  have := chk_noughts (s := s) (m := m) (ws := []) hb (n + 1)
  rw [List.append_nil, List.replicate_succ] at this
  rw [this]
  exact numF_noughts b m
theorem zip_zero : ∀ ws : List Nat, List.zipWith (fun x y : Nat => x ^^^ y) (List.replicate ws.length 0) ws = ws
  | [] => rfl
  | w :: ws => by
    rw [List.length_cons, List.replicate_succ, List.zipWith_cons_cons, zip_zero ws, Nat.zero_xor]
/-- the first word's part is apart -/
theorem chk_first {b s m w : Nat} {ws : List Nat} (hb : Wd b) (hw : w < span b) (hs : Ws b ws) : numF b (chk b s m (w :: ws)) = oneF b s m ws.length w ^^^ numF b (chk b s m ws) := by
  have h := chk_zip (s := s) (m := m) (xs := w :: List.replicate ws.length 0) (ys := 0 :: ws) hb (ws_one hb hw) (fun x hx => by
    rcases List.mem_cons.mp hx with rfl | h
    · exact Nat.lt_trans Nat.zero_lt_one (span_pos hb)
    · exact hs x h) (by rw [List.length_cons, List.length_cons, List.length_replicate])
  rw [List.zipWith_cons_cons, zip_zero, Nat.xor_zero] at h
  rw [h]
  have e := chk_noughts (s := s) (m := m) (ws := ws) hb 1
  rw [show List.replicate 1 0 ++ ws = 0 :: ws from rfl] at e
  rw [e]
  rfl
/-! #### the shares -/
def rowS (b s m n : Nat) : List Nat := (List.range b).map fun j => oneF b s m n (2 ^ (b - 1 - j))
def shL (b s m : Nat) : Nat → List Nat
  | 0 => []
  | n + 1 => rowS b s m n ++ shL b s m n
theorem rowS_len (b s m n : Nat) : (rowS b s m n).length = b := by
  unfold rowS
  rw [List.length_map, List.length_range]
theorem shL_len (b s m : Nat) : ∀ n, (shL b s m n).length = n * b
  | 0 => by simp [shL]
  | n + 1 => by
    unfold shL
    rw [List.length_append, rowS_len, shL_len b s m n, Nat.succ_mul]
    omega
theorem shL_drop (b s m n : Nat) : ∀ k, (shL b s m (n + k)).drop (k * b) = shL b s m n
  | 0 => by simp
  | k + 1 => by
    have ih := shL_drop b s m n k
    show (rowS b s m (n + k) ++ shL b s m (n + k)).drop ((k + 1) * b) = _
    rw [Nat.succ_mul, Nat.add_comm (k * b) b, ← List.drop_drop, List.drop_left' (rowS_len b s m (n + k))]
    exact ih
/-- what the shares of the set bits come to -/
def tellF (t : Nat) (sh bits : List Nat) : Nat := (sh.zip bits).foldl (fun t p => if p.2 = 0 then t else t ^^^ p.1) t
theorem tell_app {t : Nat} {a b c d : List Nat} (h : a.length = c.length) : tellF t (a ++ b) (c ++ d) = tellF (tellF t a c) b d := by
  unfold tellF
  rw [List.zip_append h, List.foldl_append]
theorem tell_xor (sh : List Nat) : ∀ (bits : List Nat) (t u : Nat), tellF (t ^^^ u) sh bits = t ^^^ tellF u sh bits := by
  induction sh with
  | nil => intro bits t u; rfl
  | cons x sh ih =>
    intro bits t u
    cases bits with
    | nil => rfl
    | cons y bits =>
      unfold tellF at ih ⊢
      rw [List.zip_cons_cons, List.foldl_cons, List.foldl_cons]
      by_cases h : y = 0
      · simp only [h, if_true]
        exact ih bits t u
      · simp only [h, if_false]
        rw [Nat.xor_assoc]
        exact ih bits t (u ^^^ x)
/-- a word's bits, from the highest on -/
def highF (b w j : Nat) : Nat := w / 2 ^ (b - j) * 2 ^ (b - j)
theorem high_step {b w j : Nat} (hb : Wd b) (hw : w < span b) (hj : j < b) : highF b w (j + 1) = highF b w j ^^^ (if w / 2 ^ (b - 1 - j) % 2 = 0 then 0 else 2 ^ (b - 1 - j)) ∧ highF b w j < span b ∧ 2 ^ (b - 1 - j) < span b := by
  rcases hb with rfl | rfl
  · have q : ((List.range 16).all fun w => (List.range 4).all fun j => decide (highF 4 w (j + 1) = highF 4 w j ^^^ (if w / 2 ^ (4 - 1 - j) % 2 = 0 then 0 else 2 ^ (4 - 1 - j)) ∧ highF 4 w j < 16 ∧ 2 ^ (4 - 1 - j) < 16)) = true := by decide +kernel
    exact of_decide_eq_true (List.all_eq_true.mp (List.all_eq_true.mp q w (List.mem_range.mpr hw)) j (List.mem_range.mpr hj))
  · have q : ((List.range 256).all fun w => (List.range 8).all fun j => decide (highF 8 w (j + 1) = highF 8 w j ^^^ (if w / 2 ^ (8 - 1 - j) % 2 = 0 then 0 else 2 ^ (8 - 1 - j)) ∧ highF 8 w j < 256 ∧ 2 ^ (8 - 1 - j) < 256)) = true := by decide +kernel
    exact of_decide_eq_true (List.all_eq_true.mp (List.all_eq_true.mp q w (List.mem_range.mpr hw)) j (List.mem_range.mpr hj))
theorem tell_snoc {t : Nat} {a c : List Nat} {x y : Nat} (h : a.length = c.length) : tellF t (a ++ [x]) (c ++ [y]) = if y = 0 then tellF t a c else tellF t a c ^^^ x := by
  rw [tell_app h]
  rfl
theorem tell_word {b s m n w : Nat} (hb : Wd b) (hw : w < span b) : ∀ j, j ≤ b → tellF 0 ((List.range j).map fun j => oneF b s m n (2 ^ (b - 1 - j))) ((List.range j).map fun i => w / 2 ^ (b - 1 - i) % 2) = oneF b s m n (highF b w j)
  | 0, _ => by
    have e : highF b w 0 = 0 := by
      unfold highF
      rw [Nat.sub_zero, ← span_two hb, Nat.div_eq_of_lt hw, Nat.zero_mul]
    rw [e, one_zero hb]
    rfl
  | j + 1, h => by
    have ih := tell_word (s := s) (m := m) (n := n) hb hw j (by omega)
    obtain ⟨h1, h2, h3⟩ := high_step hb hw (show j < b by omega)
    rw [List.range_succ, List.map_append, List.map_append, List.map_cons, List.map_cons, List.map_nil, List.map_nil, tell_snoc (by rw [List.length_map, List.length_map]), ih, h1]
    split
    · rw [Nat.xor_zero]
    · rw [one_xor hb h2 h3]
theorem tell_row {b s m n w : Nat} (hb : Wd b) (hw : w < span b) : tellF 0 (rowS b s m n) (bitsW b w) = oneF b s m n w := by
  have h := tell_word (s := s) (m := m) (n := n) hb hw b (Nat.le_refl _)
  have e : highF b w b = w := by
    unfold highF
    rw [Nat.sub_self, Nat.pow_zero, Nat.div_one, Nat.mul_one]
  rw [e] at h
  exact h
/-- the shares tell the check words -/
theorem tell_chk {b s m : Nat} (hb : Wd b) : ∀ ws : List Nat, Ws b ws → tellF 0 (shL b s m ws.length) (wordsB b ws) = numF b (chk b s m ws)
  | [], _ => (numF_noughts b m).symm
  | w :: ws, h => by
    have hw := h w (List.mem_cons_self ..)
    have hs : Ws b ws := fun x hx => h x (List.mem_cons_of_mem _ hx)
    have ih := tell_chk (s := s) (m := m) hb ws hs
    show tellF 0 (rowS b s m ws.length ++ shL b s m ws.length) (bitsW b w ++ wordsB b ws) = _
    rw [tell_app (by rw [rowS_len, bitsW_len]), tell_row hb hw, chk_first hb hw hs, ← ih]
    have := tell_xor (shL b s m ws.length) (wordsB b ws) (oneF b s m ws.length w) 0
    rw [Nat.xor_zero] at this
    exact this
/-! #### a number's words -/
def numR (b : Nat) : List Nat → Nat
  | [] => 0
  | w :: r => numR b r * 2 ^ b + w
theorem numF_snoc (b : Nat) (ws : List Nat) (w : Nat) : numF b (ws ++ [w]) = numF b ws * 2 ^ b + w := by
  unfold numF
  rw [List.foldl_append]
  rfl
theorem numF_rev (b : Nat) : ∀ r : List Nat, numF b r.reverse = numR b r
  | [] => rfl
  | w :: r => by
    rw [List.reverse_cons, numF_snoc, numF_rev b r]
    rfl
theorem numR_at {b : Nat} : ∀ (r : List Nat) (p : Nat), (∀ x ∈ r, x < 2 ^ b) → p < r.length → r[p]? = some (numR b r / 2 ^ (b * p) % 2 ^ b)
  | [], _, _, h => by simp at h
  | w :: r, 0, hw, _ => by
    have h0 := hw w (List.mem_cons_self ..)
    rw [Nat.mul_zero, Nat.pow_zero, Nat.div_one]
    show some w = some ((numR b r * 2 ^ b + w) % 2 ^ b)
    rw [Nat.mul_comm, Nat.mul_add_mod, Nat.mod_eq_of_lt h0]
  | w :: r, p + 1, hw, h => by
    have h0 := hw w (List.mem_cons_self ..)
    have ih := numR_at r p (fun x hx => hw x (List.mem_cons_of_mem _ hx)) (by simpa using h)
    show r[p]? = some ((numR b r * 2 ^ b + w) / 2 ^ (b * (p + 1)) % 2 ^ b)
    have e : (numR b r * 2 ^ b + w) / 2 ^ (b * (p + 1)) = numR b r / 2 ^ (b * p) := by
      rw [Nat.mul_succ, Nat.add_comm (b * p) b, Nat.pow_add, ← Nat.div_div_eq_div_mul, Nat.mul_comm (numR b r), Nat.mul_add_div (Nat.two_pow_pos b), Nat.div_eq_of_lt h0, Nat.add_zero]
    rw [e]
    exact ih
theorem numF_at {b : Nat} {ws : List Nat} {i : Nat} (hw : ∀ x ∈ ws, x < 2 ^ b) (hi : i < ws.length) : ws[i]? = some (numF b ws / 2 ^ (b * (ws.length - 1 - i)) % 2 ^ b) := by
  have h := numR_at (b := b) ws.reverse (ws.length - 1 - i) (fun x hx => hw x (List.mem_reverse.mp hx)) (by rw [List.length_reverse]; omega)
  rw [← numF_rev, List.reverse_reverse, List.getElem?_reverse (by omega), show ws.length - 1 - (ws.length - 1 - i) = i by omega] at h
  exact h
def chkRows (b m : Nat) (g : List Nat) : Nat → List (List Nat) → List Nat → List Nat
  | 0, _, acc => acc
  | k + 1, rows, acc => chkRows b m g k (rows.map fun r => nxt b m g r 0) (rows.map (numF b) ++ acc)
end My

set_option Elab.async false
set_option linter.all false
set_option maxRecDepth 100000
set_option maxHeartbeats 4000000
/-! ### sorted tuples of ints, any number of them -/
namespace SrtO
open PySem PyProof.Rows Srt
section
variable {prog : Program} {w : World} {A : Around} {E : Value → Shared → Prop} {s : Shared}
theorem swo_rank (r : Value → Int) : Swo fun v u => decide (r v < r u) := by
  refine ⟨fun x y h => ?_, fun x y z h1 h2 => ?_⟩
  · have a := of_decide_eq_true h
    exact decide_eq_false (by omega)
  · have a := of_decide_eq_false h1
    have b := of_decide_eq_false h2
    exact decide_eq_false (by omega)
theorem tups_cmp {vs : List Value} {d : Nat} {B : Int} {r : Value → Int} (x : TS.TupsOk s.heap d B vs) (hr : ∀ v ∈ vs, ∀ ns, TS.TupInts s.heap v ns → r v = TS.code B ns) :
    Cmp prog w A s (tuples' true) (fun p => p.1 ∈ vs) (lt2 fun v u => decide (r v < r u)) := by
  intro p q hm hm'
  show wpAny (model prog w) A (keyLt' (tuples' true) p.1 q.1) (fun b s' => s' = s ∧ b = decide (r p.1 < r q.1)) (fun _ _ => False) s
  obtain ⟨ns, tp, lp, bp⟩ := x _ hm
  obtain ⟨ms, tq, lq, bq⟩ := x _ hm'
  rw [hr _ hm _ tp, hr _ hm' _ tq]
  obtain ⟨a, xs, e1, ⟨o, ho, hc, n, hdt⟩, i⟩ := tp
  obtain ⟨a', ys, e2, ⟨o', ho', hc', n', hdt'⟩, i'⟩ := tq
  rw [e1, e2]
  refine PySem.W.kat_lt ho hdt ho' hdt' ?_
  have sz : decide (xs.size < ys.size) = false := by
    have l1 := i.length
    have l2 := i'.length
    rw [Array.length_toList] at l1 l2
    exact decide_eq_false (by omega)
  rw [sz]
  exact TS.lex_ints 0 i i' (by omega) bp bq ⟨rfl, rfl⟩
theorem tups_sortableO {a : Addr} {vs : List Value} {d : Nat} {B : Int} {r : Value → Int} (hd : 1 ≤ d) (h0 : 0 < vs.length) (x : TS.TupsOk s.heap d B vs) (hr : ∀ v ∈ vs, ∀ ns, TS.TupInts s.heap v ns → r v = TS.code B ns)
    (ha : ∀ o, s.heap.get? a = some o → o.cls ≠ .type "tuple") : SortableO prog w A s a vs fun v u => decide (r v < r u) := by
  intro h' keep
  have kk : ∀ b o, s.heap.get? b = some o → o.cls = .type "tuple" → h'.get? b = some o := fun b o e c => keep b o (fun z => by subst z; exact ha o e c) e
  have x' : TS.TupsOk h' d B vs := x.keeps kk
  have hr' : ∀ v ∈ vs, ∀ ns, TS.TupInts h' v ns → r v = TS.code B ns := fun v hv ns t => by
    obtain ⟨ns0, t0, _⟩ := x v hv
    have e : ns = ns0 := t.ints.symm.trans (t0.keeps kk).ints
    rw [e]
    exact hr v hv ns0 t0
  obtain ⟨fs, h1, h2, h3⟩ := TS.firsts_of hd vs x'
  refine ⟨tuples' true, fun Q E hq => ?_, tups_cmp (s := { s with heap := h' }) x' hr'⟩
  refine PySem.W.kat_kind (T := .type "int") h1 (by omega) (fun f hm => ?_) (by rfl) ?_
  · obtain ⟨x, t, rfl⟩ := h3 f hm
    exact PySem.W.Looks.now
  · have e : (Value.type "int" != Value.type "tuple") = true := by first | decide +kernel | rfl | decide
    rw [e]
    exact hq
end
end SrtO
namespace My
open PySem PySem.Spec PyProof.Rows L2
/-- sorted(xs), xs a list of tuples of d ints in [0, B), any number of them: a new list of the same, ascending by code B -/
def rSortN (K : PySem.W.Frag) : List V → Hp → VK → Prop := fun vs H Q => ∃ (a : Addr) (xs : List V) (d : Nat) (B : Int), vs = [V.ref a] ∧ SqL K H a xs ∧ 1 ≤ d ∧ (∀ x ∈ xs, ∃ ns, TupI K H x ns ∧ ns.length = d ∧ TS.Bd B ns) ∧
  ∀ (ys : List V) (p : Addr), ys.Perm xs → ys.Pairwise (fun x y => ∀ n m, TupI K H x n → TupI K H y m → TS.code B n ≤ TS.code B m) → H p = none → Q (.ref p) (upd H p (.lst ys))
theorem cr_sortN {X : Cx} {K : PySem.W.Frag} (hK : X.K = K) : CallR X (.builtin "sorted") (rSortN K) := by
  subst hK
  intro pins s σ H vs us Q I r h
  obtain ⟨a, xs, d, B, rfl, hs, hd, hx, q⟩ := h
  obtain ⟨its, rv, hl, hz⟩ := I.list hs
  rw [Vals.ref1 r]
  obtain ⟨e1, e2⟩ := bkV_refs rv fun x m => by
    obtain ⟨ns, ⟨t, e, _⟩, _⟩ := hx x m
    exact ⟨t, e⟩
  have ok : TS.TupsOk s.heap d B its := fun v hv => by
    obtain ⟨t, rfl⟩ := e2 v hv
    have hm : V.ref t ∈ xs := by
      rw [e1]
      exact List.mem_map.mpr ⟨_, hv, rfl⟩
    obtain ⟨ns, ⟨t', e, ht⟩, hn, hb⟩ := hx _ hm
    cases e
    exact ⟨ns, tupI_raw I ht, hn, hb⟩
  refine SrtO.sorted_ord (SrtO.swo_rank fun v => TS.code B (TS.intsOf s.heap v)) hl.isList (by rw [← rv.length]; exact hz) (fun h2 h₁ a' ha kk => ?_) fun out hsr hst => ?_
  · refine SrtO.tups_sortableO (s := { s with heap := h₁ }) (d := d) (B := B) hd (by omega) (ok.keeps fun b o e _ => (kk b o e).2) (fun v hv ns t => ?_) fun o e => ?_
    · obtain ⟨ns0, t0, _⟩ := ok v hv
      have e : ns = ns0 := t.ints.symm.trans (t0.keeps fun b o e _ => (kk b o e).2).ints
      rw [e]
      show TS.code B (TS.intsOf s.heap v) = _
      rw [t0.ints]
    · have e' : some o = some (seqObj "list" its.toArray 0) := e.symm.trans ha
      cases e'
      intro c
      exact absurd (Value.type.inj c) (by decide)
  · obtain ⟨ep, he'⟩ := PyProof.Rows.sortedAll_at s.heap its out.toArray
    have h3 : ∀ u ∈ out, ∃ a, u = Value.ref a := fun u hu => e2 u (hst.perm.mem_iff.mp hu)
    have hp : (out.map bkV).Perm xs := by
      rw [e1]
      exact hst.perm.map bkV
    have hlen : (out.map bkV).length ≤ sizeLine := by
      rw [hp.length_eq]
      exact hz
    refine ⟨.ref _, upd H (s.heap.objs.size + 1) (.lst (out.map bkV)), I.laid (t' := s.toks) (fun _ _ => PyProof.Rows.sortedAll_old) (Nat.le_succ _) ⟨hlen, out, ep, bkV_vals h3, he'⟩, rfl, q _ _ hp ?_ (I.hok.fresh (Nat.le_succ _))⟩
    rw [List.pairwise_map]
    refine List.Pairwise.imp (fun {u v} huv n m hn hm => ?_) hsr
    obtain ⟨t, et, ht⟩ := hn
    obtain ⟨t', et', ht'⟩ := hm
    have eu := bkV_ref et
    have ev := bkV_ref et'
    have i1 : TS.intsOf s.heap u = n := by
      rw [eu]
      exact (tupI_raw I ht).ints
    have i2 : TS.intsOf s.heap v = m := by
      rw [ev]
      exact (tupI_raw I ht').ints
    have h5 := of_decide_eq_false huv
    rw [← i1, ← i2]
    omega
end My

set_option Elab.async false
set_option linter.all false
set_option maxRecDepth 100000
set_option maxHeartbeats 4000000
/-! ### zip of two sequences, each a list or a tuple -/
namespace My
open PySem
section heap
/-- an iterator over a list (true) or a tuple -/
def It1 : Bool → Heap → Addr → Addr → Nat → Prop
  | true => Heap.IsListIter
  | false => Heap.IsTupleIter
def Sq1 : Bool → Heap → Addr → Array Value → Prop
  | true => Heap.IsList
  | false => Heap.IsTuple
theorem It1.but : ∀ {k : Bool} {h h' : Heap} {a b l : Addr} {i : Nat}, It1 k h a l i → Heap.ExtBut b h h' → a ≠ b → It1 k h' a l i
  | true, _, _, _, _, _, _, x, e, n => Heap.IsListIter.extBut x e n
  | false, _, _, _, _, _, _, x, e, n => Heap.IsTupleIter.extBut x e n
theorem It1.at : ∀ {k : Bool} {h h' : Heap} {a l : Addr} {i : Nat}, It1 k h a l i → (∀ o, h.get? a = some o → h'.get? a = some o) → It1 k h' a l i
  | true, _, _, _, _, _, x, e => Heap.IsListIter.at x e
  | false, _, _, _, _, _, x, e => Heap.IsTupleIter.at x e
theorem It1.obj : ∀ {k : Bool} {h : Heap} {a l : Addr} {i : Nat}, It1 k h a l i → ∃ o, h.get? a = some o ∧ ∃ xs, o.data = .fields xs
  | true, _, _, _, _, ⟨o, e, _, d⟩ => ⟨o, e, _, d⟩
  | false, _, _, _, _, ⟨o, e, _, d⟩ => ⟨o, e, _, d⟩
theorem It1.lt {k : Bool} {h : Heap} {a l : Addr} {i : Nat} (x : It1 k h a l i) : a < h.objs.size := by
  obtain ⟨o, e, _⟩ := x.obj
  exact Heap.lt_size e
theorem Sq1.but : ∀ {k : Bool} {h h' : Heap} {l b : Addr} {xs : Array Value}, Sq1 k h l xs → Heap.ExtBut b h h' → l ≠ b → Sq1 k h' l xs
  | true, _, _, _, _, _, x, e, n => Heap.IsList.extBut x e n
  | false, _, _, _, _, _, x, e, n => Heap.IsTuple.extBut x e n
end heap
section
variable {prog : Program} {w : World} {A : Around} {E : Value → Shared → Prop} {s : Shared}
theorem next1 {it l : Addr} {i : Nat} {xs : Array Value} {x : Value} {Q : Value → Shared → Prop} : ∀ {k : Bool}, It1 k s.heap it l i → Sq1 k s.heap l xs → xs[i]? = some x →
    (∀ h', It1 k h' it l (i + 1) → Heap.SameBut it s.heap h' → Q x { s with heap := h' }) → wpAny (model prog w) A (Builtin.SmallTypes.nextOf (.ref it)) Q E s
  | true, h1, h2, hx, q => wpAny_nextOf_list_item h1 h2 hx q
  | false, h1, h2, hx, q => RZ.nextOf_tuple_item h1 h2 hx q
theorem end1 {it l : Addr} {i : Nat} {xs : Array Value} {Q : Value → Shared → Prop} (hh : A.handled = none) : ∀ {k : Bool}, It1 k s.heap it l i → Sq1 k s.heap l xs → xs[i]? = none →
    (∀ h' e, Heap.ExtBut it s.heap h' → (∃ o, h'.get? e = some o ∧ o.cls = .type "StopIteration") → E (.ref e) { s with heap := h' }) → wpAny (model prog w) A (Builtin.SmallTypes.nextOf (.ref it)) Q E s
  | true, h1, h2, hx, q => wpAny_nextOf_list_end hh h1 h2 hx q
  | false, h1, h2, hx, q => RZ.nextOf_tuple_end hh h1 h2 hx q
/-- all but the zip's own parts stay -/
def Lft (z TO i1 i2 : Addr) (h h' : Heap) : Prop := ∀ c o, c ≠ z → c ≠ TO → c ≠ i1 → c ≠ i2 → h.get? c = some o → h'.get? c = some o
/-- one turn of a zip of two: a new pair, or the end -/
theorem zip_turn {ka kb : Bool} {z TI TO i1 i2 l1 l2 : Addr} {k1 k2 : Nat} {xs ys : Array Value} {a b : Value} {Q : Value → Shared → Prop} (hh : A.handled = none) (D : ZipApart z TI TO i1 i2 l1 l2)
    (hz : IsZip s.heap z TI TO .none) (hTI : IsPair s.heap TI (.ref i1) (.ref i2)) (hTO : IsPair s.heap TO a b)
    (h1 : It1 ka s.heap i1 l1 k1) (h2 : It1 kb s.heap i2 l2 k2) (q1 : Sq1 ka s.heap l1 xs) (q2 : Sq1 kb s.heap l2 ys)
    (hI : ∀ x y, xs[k1]? = some x → ys[k2]? = some y → ∀ h', IsZip h' z TI TO (rawInt s.heap.objs.size) → IsPair h' TO x y → It1 ka h' i1 l1 (k1 + 1) → It1 kb h' i2 l2 (k2 + 1) → IsPair h' s.heap.objs.size x y → Lft z TO i1 i2 s.heap h' → Q (.ref s.heap.objs.size) { s with heap := h' })
    (hE : (xs[k1]? = none ∨ ys[k2]? = none) → ∀ h' e, Lft z TO i1 i2 s.heap h' → (∃ o, h'.get? e = some o ∧ o.cls = .type "StopIteration") → E (.ref e) { s with heap := h' }) :
    wpAny (model prog w) A (Builtin.«zip.__next__» ⟨[.ref z], []⟩) (fun fin s' => ∃ v, fin = .done (.ret v) ∧ Q v s') E s := by
  show wpAny _ _ (field (.ref z) 2 >>= _) _ _ _
  refine wpAny_bind (wpAny_field hz rfl (x := .bool false) rfl ?_)
  show wpAny _ _ (field (.ref z) 3 >>= _) _ _ _
  refine wpAny_bind (wpAny_field hz rfl (x := .ref TI) rfl (wpAny_bind (wpAny_seqItems hTI rfl ?_)))
  show wpAny _ _ (Builtin.SmallTypes.ownedTupleIsFree (.ref z) >>= _) _ _ _
  unfold Builtin.SmallTypes.ownedTupleIsFree
  refine wpAny_bind (wpAny_bind (wpAny_field hz rfl (x := .none) rfl (wpAny_pure ?_)))
  simp only [if_true]
  refine wpAny_bind (wpAny_rule (wpAny_bind (wpAny_field hz rfl (x := .ref TO) rfl (wpAny_bind (wpAny_setField_rec hz (by simp) fun g1 y1 s1 => ?_)))))
  have c1 := s1.extBut
  replace y1 : IsZip g1 z TI TO .ellipsis := y1
  simp only [List.zipIdx_cons, List.zipIdx_nil, List.forIn_cons, List.forIn_nil]
  refine wpAny_bind (wpAny_bind (wpAny_bind (wpAny_onRaise ?_)))
  show wpAny _ _ (Builtin.SmallTypes.nextOf (.ref i1) >>= _) _ _ _
  have stop : ∀ (g : Heap) (e : Addr) (st : Shared) {R : PUnit → Shared → Prop}, st = { s with heap := g } → IsZip g z TI TO .ellipsis → (∃ o, g.get? e = some o ∧ o.cls = .type "StopIteration") → (∀ h', Heap.SameBut z g h' → (∃ o, h'.get? e = some o ∧ o.cls = .type "StopIteration") → R () { s with heap := h' }) →
      wpAny (model prog w) A (setField (.ref z) 0 .none) R E st := fun g e st R es yz he r => by
    subst es
    obtain ⟨o, ho, hc⟩ := he
    have n : e ≠ z := fun x => by subst x; rw [yz] at ho; cases ho; simp at hc
    exact wpAny_setField_rec (s := { s with heap := g }) yz (by simp) fun h' _ sb => r h' sb ⟨o, sb.extBut _ _ n ho, hc⟩
  cases hx : xs[k1]? with
  | none =>
    refine wpAny_bind (end1 hh (h1.but c1 D.i1z) (q1.but c1 D.l1z) hx fun g2 e s2 he => ?_)
    refine stop g2 e _ rfl (s2 _ _ D.i1z.symm y1) he fun h' sb he' => hE (.inl hx) h' e (fun c o n1 _ n3 _ p => sb.extBut _ _ n1 (s2 _ _ n3 (c1 _ _ n1 p))) he'
  | some x =>
    refine wpAny_bind (next1 (h1.but c1 D.i1z) (q1.but c1 D.l1z) hx fun g2 p2 s2 => wpAny_pure ?_)
    have c2 := s2.extBut
    have t2 : IsPair g2 TO a b := c2 _ _ D.TOi1 (c1 _ _ D.TOz hTO)
    refine wpAny_bind (wpAny_seqItems t2 rfl (wpAny_bind (wpAny_updateSeq_pair t2 fun g3 t3 s3 => wpAny_bind (wpAny_letGo (wpAny_pure ?_)))))
    have c3 := s3.extBut
    replace t3 : IsPair g3 TO x b := t3
    have h2' := ((h2.but c1 D.i2z).but c2 D.i12.symm).but c3 D.TOi2.symm
    have q2' := ((q2.but c1 D.l2z).but c2 D.l2i1).but c3 D.l2TO
    have y3 : IsZip g3 z TI TO .ellipsis := c3 _ _ D.TOz.symm (c2 _ _ D.i1z.symm y1)
    refine wpAny_bind (wpAny_bind (wpAny_onRaise ?_))
    show wpAny _ _ (Builtin.SmallTypes.nextOf (.ref i2) >>= _) _ _ _
    cases hy : ys[k2]? with
    | none =>
      refine wpAny_bind (end1 hh h2' q2' hy fun g4 e s4 he => ?_)
      refine stop g4 e _ rfl (s4 _ _ D.i2z.symm y3) he fun h' sb he' => hE (.inr hy) h' e (fun c o n1 n2 n3 n4 p => sb.extBut _ _ n1 (s4 _ _ n4 (c3 _ _ n2 (c2 _ _ n3 (c1 _ _ n1 p))))) he'
    | some y =>
      refine wpAny_bind (next1 h2' q2' hy fun g4 p4 s4 => wpAny_pure ?_)
      have c4 := s4.extBut
      have t4 : IsPair g4 TO x b := c4 _ _ D.TOi2 t3
      refine wpAny_bind (wpAny_seqItems t4 rfl (wpAny_bind (wpAny_updateSeq_pair t4 fun g5 t5 s5 => wpAny_bind (wpAny_letGo (wpAny_pure (wpAny_pure ?_))))))
      have c5 := s5.extBut
      replace t5 : IsPair g5 TO x y := t5
      refine wpAny_bind (wpAny_seqItems t5 rfl (wpAny_bind (wpAny_newTuple ?_)))
      have sz : g5.objs.size = s.heap.objs.size := by rw [s5.1, s4.1, s3.1, s2.1, s1.1]
      have y5 : IsZip g5 z TI TO .ellipsis := c5 _ _ D.TOz.symm (c4 _ _ D.i2z.symm y3)
      have old : Lft z TO i1 i2 s.heap g5 := fun c o n1 n2 n3 n4 p => c5 _ _ n2 (c4 _ _ n4 (c3 _ _ n2 (c2 _ _ n3 (c1 _ _ n1 p))))
      have p1 : It1 ka g5 i1 l1 (k1 + 1) := ((p2.but c3 D.TOi1.symm).but c4 D.i12).but c5 D.TOi1.symm
      have p5 : It1 kb g5 i2 l2 (k2 + 1) := p4.but c5 D.TOi2.symm
      have zl : z < g5.objs.size := Heap.lt_size y5
      show wpAny _ _ (Builtin.SmallTypes.ownedTupleHandOut (.ref z) (.ref g5.objs.size) >>= _) _ _ _
      unfold Builtin.SmallTypes.ownedTupleHandOut
      have y6 : IsZip (g5.push { cls := .type "tuple", data := .seq #[x, y] }) z TI TO .ellipsis := Heap.get?_push_of_some _ y5
      refine wpAny_bind (wpAny_bind (wpAny_setField_rec y6 (by simp) fun g7 y7 s7 => ?_))
      replace y7 : IsZip g7 z TI TO (rawInt g5.objs.size) := y7
      refine wpAny_setField_rec y7 (by simp) fun g8 y8 s8 => ?_
      replace y8 : IsZip g8 z TI TO (rawInt g5.objs.size) := y8
      have up : ∀ c o, c ≠ z → g5.get? c = some o → g8.get? c = some o := fun c o n p => s8.extBut _ _ n (s7.extBut _ _ n (Heap.get?_push_of_some _ p))
      have new : IsPair g8 g5.objs.size x y := s8.extBut _ _ (Nat.ne_of_gt zl) (s7.extBut _ _ (Nat.ne_of_gt zl) (Heap.get?_push_size _ rfl))
      rw [sz] at y8 new
      refine wpAny_pure ⟨_, rfl, ?_⟩
      show Q (.ref g5.objs.size) _
      rw [sz]
      exact hI x y hx hy g8 y8 (up _ _ D.TOz t5) (p1.at fun o e => up _ o D.i1z e) (p5.at fun o e => up _ o D.i2z e) new fun c o n1 n2 n3 n4 p => up c o n1 (old c o n1 n2 n3 n4 p)
theorem zip_ask {ka kb : Bool} {z TI TO i1 i2 l1 l2 : Addr} {k1 k2 : Nat} {xs ys : Array Value} {a b : Value} {Q : Option Value → Shared → Prop} (hh : A.handled = none) (D : ZipApart z TI TO i1 i2 l1 l2)
    (hz : IsZip s.heap z TI TO .none) (hTI : IsPair s.heap TI (.ref i1) (.ref i2)) (hTO : IsPair s.heap TO a b)
    (h1 : It1 ka s.heap i1 l1 k1) (h2 : It1 kb s.heap i2 l2 k2) (q1 : Sq1 ka s.heap l1 xs) (q2 : Sq1 kb s.heap l2 ys)
    (hI : ∀ x y, xs[k1]? = some x → ys[k2]? = some y → ∀ h', IsZip h' z TI TO (rawInt s.heap.objs.size) → IsPair h' TO x y → It1 ka h' i1 l1 (k1 + 1) → It1 kb h' i2 l2 (k2 + 1) → IsPair h' s.heap.objs.size x y → Lft z TO i1 i2 s.heap h' → Q (some (.ref s.heap.objs.size)) { s with heap := h' })
    (hE : (xs[k1]? = none ∨ ys[k2]? = none) → ∀ h', Lft z TO i1 i2 s.heap h' → Q none { s with heap := h' }) : wpAny (model prog w) A (pyNext (.ref z)) Q E s := by
  have hT : s.TypeIs (.ref z) "zip" := ⟨_, hz, rfl⟩
  unfold pyNext
  refine wpAny_bind (wpAny_attempt (wpAny_callSpecial?_slot (name := Str.ofString "__next__") hT F.slot_zip_next (wpAny_call_entry F.slot_zip_next hT F.entry_zip_next
    (zip_turn hh D hz hTI hTO h1 h2 q1 q2 (fun x y hx hy h' a1 a2 a3 a4 a5 a6 => wpAny_pure (hI x y hx hy h' a1 a2 a3 a4 a5 a6)) fun hn h' e lf he => ?_) (F.args_zip_next_1 _))))
  obtain ⟨o, ho, hc⟩ := he
  exact wpAny_bind (wpAny_isInstance (T := "StopIteration") (b := true) ⟨o, ho, hc⟩ isSubtype_stop (wpAny_pure (hE hn h' lf)))
end
end My
namespace My
open PySem PySem.Spec PyProof.Rows L2
section
variable {X : Cx} {pins : List (Addr × Obj)} {σ : L2.St} {H : Hp} {s : Shared}
theorem inv_sq (I : Inv X pins σ H s) : ∀ {k : Bool} {a : Addr} {xs : List V}, SqB k X.K H a xs → ∃ its, Vals xs its ∧ Sq1 k s.heap a its.toArray
  | true, a, xs, h => by
    obtain ⟨its, rv, p, _⟩ := I.list h
    exact ⟨its, rv, p.isList⟩
  | false, a, xs, h => by
    obtain ⟨its, rv, p, _⟩ := I.tuple h
    exact ⟨its, rv, p⟩
theorem inv_sq_inj (I : Inv X pins σ H s) : ∀ {k : Bool} {a : Addr} {xs ys : List V}, SqB k X.K H a xs → SqB k X.K H a ys → xs = ys
  | true, a, xs, ys, h1, h2 => I.list_inj h1 h2
  | false, a, xs, ys, h1, h2 => I.tuple_inj h1 h2
theorem Sq1.lt : ∀ {k : Bool} {h : Heap} {l : Addr} {xs : Array Value}, Sq1 k h l xs → l < h.objs.size
  | true, _, _, _, ⟨o, e, _⟩ => Heap.lt_size e
  | false, _, _, _, ⟨o, e, _⟩ => Heap.lt_size e
end
/-- the two sequences as they stand at each turn, the items in new pairs -/
def ItzB (ka kb : Bool) (K : PySem.W.Frag) (a b : Addr) : It :=
  ⟨fun i H => ∃ (xs ys : List V) (x y : V), SqB ka K H a xs ∧ SqB kb K H b ys ∧ xs[i]? = some x ∧ ys[i]? = some y,
    fun i H v H' => ∃ T x y, v = .ref T ∧ H T = none ∧ H' = upd H T (.tup [x, y]) ∧ (∀ xs, SqB ka K H a xs → xs[i]? = some x) ∧ ∀ ys, SqB kb K H b ys → ys[i]? = some y,
    fun i H => ∃ xs ys : List V, SqB ka K H a xs ∧ SqB kb K H b ys ∧ (xs.length ≤ i ∨ ys.length ≤ i)⟩
theorem walk_zipB {ka kb : Bool} {K : PySem.W.Frag} {a b : Addr} {xs ys : List V} {n : Nat} (hn : n = min xs.length ys.length) : Walk (ItzB ka kb K a b) n (fun H => SqB ka K H a xs ∧ SqB kb K H b ys) (YPair (fun i => xs[i]?) (fun i => ys[i]?)) where
  goes i _ hi q := ⟨xs, ys, xs[i]'(by omega), ys[i]'(by omega), q.1, q.2, List.getElem?_eq_getElem _, List.getElem?_eq_getElem _⟩
  stops _ q := ⟨xs, ys, q.1, q.2, by omega⟩
  yields i H v H' _ q y := by
    obtain ⟨T, x, z, h1, h2, h3, h4, h5⟩ := y
    exact ⟨T, x, z, h1, h2, h3, h4 xs q.1, h5 ys q.2⟩
theorem turn_zipB {ka kb : Bool} {P : Program} {w : World} {K : PySem.W.Frag} {elts : List Expr} {kk : Nat} {tpos : Pos} {a b z TI TO i1 i2 : Addr} (D : ZipApart z TI TO i1 i2 a b) :
    Turn P w K (.Tuple elts kk tpos) (ItzB ka kb K a b) [z, TI, TO, i1, i2] z (fun i h => IsZip h z TI TO .none ∧ IsPair h TI (.ref i1) (.ref i2) ∧ (∃ x y, IsPair h TO x y) ∧ It1 ka h i1 a i ∧ It1 kb h i2 b i) where
  mem := by simp
  obj := fun i h st c hc => by
    obtain ⟨hz, hTI, ⟨x, y, hTO⟩, h1, h2⟩ := st
    obtain ⟨o1, e1, f1, d1⟩ := h1.obj
    obtain ⟨o2, e2, f2, d2⟩ := h2.obj
    simp only [List.mem_cons, List.not_mem_nil, or_false] at hc
    rcases hc with q | q | q | q | q
    · exact q ▸ ⟨_, hz, fun v q => nomatch q⟩
    · exact q ▸ ⟨_, hTI, fun v q => nomatch q⟩
    · exact q ▸ ⟨_, hTO, fun v q => nomatch q⟩
    · exact q ▸ ⟨o1, e1, fun v q => by rw [d1] at q; cases q⟩
    · exact q ▸ ⟨o2, e2, fun v q => by rw [d2] at q; cases q⟩
  keep := fun i h h' st k => by
    obtain ⟨hz, hTI, ⟨x, y, hTO⟩, h1, h2⟩ := st
    exact ⟨k z (by simp) _ hz, k TI (by simp) _ hTI, ⟨x, y, k TO (by simp) _ hTO⟩, h1.at fun o q => k i1 (by simp) o q, h2.at fun o q => k i2 (by simp) o q⟩
  item := by
    intro X hP hw hK hc i pins s σ H E I hf st hg
    subst hP hw hK
    obtain ⟨hz, hTI, ⟨x0, y0, hTO⟩, h1, h2⟩ := st
    obtain ⟨xs, ys, x, y, hqx, hqy, hx, hy⟩ := hg
    obtain ⟨its, rv, p⟩ := inv_sq I hqx
    obtain ⟨its2, rv2, p2⟩ := inv_sq I hqy
    obtain ⟨u, hu, ru⟩ := rv.get hx
    obtain ⟨u2, hu2, ru2⟩ := rv2.get hy
    have hzl : z < s.heap.objs.size := Heap.lt_size hz
    have hx' : its.toArray[i]? = some u := by simpa using hu
    have hy' : its2.toArray[i]? = some u2 := by simpa using hu2
    refine zip_ask (I.ok.hd hc) D hz hTI hTO h1 h2 p p2 (fun x1 y1 e1 e2 h' z' TO' h1' h2' hT lf => ?_) (fun hn => ?_)
    · rw [hx'] at e1
      rw [hy'] at e2
      cases e1
      cases e2
      refine ⟨_, rfl, wpAny_letOwnedTupleGo_zip (s := { s with heap := h' }) z' fun h'' z'' sb => ?_⟩
      have hT2 : IsPair h'' s.heap.objs.size u u2 := (sb.2 _ (Nat.ne_of_gt hzl)).trans hT
      have new : ObjOk X.prog X.w (upd H s.heap.objs.size (.tup [x, y])) h'' s.heap.objs.size (.tup [x, y]) :=
        ⟨by show 2 ≤ sizeLine; decide, [u, u2], .cons ru (.cons ru2 .nil), ⟨_, hT2, rfl, _, rfl⟩⟩
      have old : ∀ c o, c ∉ [z, TI, TO, i1, i2] → s.heap.get? c = some o → h''.get? c = some o := fun c o hb q => by
        simp only [List.mem_cons, List.not_mem_nil, or_false, not_or] at hb
        exact (sb.2 c hb.1).trans (lf c o hb.1 hb.2.2.1 hb.2.2.2.1 hb.2.2.2.2 q)
      have I1 : Inv X pins σ (upd H s.heap.objs.size (.tup [x, y])) { s with heap := h'' } := I.turnedNew (t' := s.toks) (ch := [z, TI, TO, i1, i2]) old hf (Nat.le_refl _) new
      refine ⟨.ref s.heap.objs.size, _, I1, rfl, ⟨_, x, y, rfl, I.hok.fresh (Nat.le_refl _), rfl, fun l hl => by rw [inv_sq_inj I hl hqx]; exact hx, fun l hl => by rw [inv_sq_inj I hl hqy]; exact hy⟩, ⟨z'', ?_, ⟨u, u2, ?_⟩, ?_, ?_⟩, fun c hcm => ?_⟩
      · exact (sb.2 _ D.TIz).trans (lf _ _ D.TIz D.TITO D.TIi1 D.TIi2 hTI)
      · exact (sb.2 _ D.TOz).trans TO'
      · exact h1'.at fun o q => (sb.2 _ D.i1z).trans q
      · exact h2'.at fun o q => (sb.2 _ D.i2z).trans q
      · have hlt : c < s.heap.objs.size := by
          simp only [List.mem_cons, List.not_mem_nil, or_false] at hcm
          rcases hcm with q | q | q | q | q
          · exact q ▸ hzl
          · exact q ▸ Heap.lt_size hTI
          · exact q ▸ Heap.lt_size hTO
          · exact q ▸ h1.lt
          · exact q ▸ h2.lt
        rw [upd_ne (Nat.ne_of_lt hlt)]
        exact (hf c hcm).1
    · rw [hx', hy'] at hn
      rcases hn with h | h <;> cases h
  done := by
    intro X hP hw hK hc i pins s σ H E I hf st hg
    subst hP hw hK
    obtain ⟨hz, hTI, ⟨x0, y0, hTO⟩, h1, h2⟩ := st
    obtain ⟨xs, ys, hqx, hqy, hend⟩ := hg
    obtain ⟨its, rv, p⟩ := inv_sq I hqx
    obtain ⟨its2, rv2, p2⟩ := inv_sq I hqy
    have l1 := rv.length
    have l2 := rv2.length
    refine zip_ask (I.ok.hd hc) D hz hTI hTO h1 h2 p p2 (fun x1 y1 e1 e2 => ?_) (fun _ h' lf => ⟨rfl, I.turnedL (t' := s.toks) (ch := [z, TI, TO, i1, i2]) (fun c o hb q => ?_) hf⟩)
    · have g1 : i < its.length := by
        have := (Array.getElem?_eq_some_iff.mp e1).1
        simpa using this
      have g2 : i < its2.length := by
        have := (Array.getElem?_eq_some_iff.mp e2).1
        simpa using this
      omega
    · simp only [List.mem_cons, List.not_mem_nil, or_false, not_or] at hb
      exact lf c o hb.1 hb.2.2.1 hb.2.2.2.1 hb.2.2.2.2 q
  self := fun A i s Q E st h => wpAny_pyIter_zip st.1 h
end My

set_option Elab.async false
set_option linter.all false
set_option maxRecDepth 100000
set_option maxHeartbeats 400000
/-! ### zip of a tuple and a list, called -/
namespace My
open PySem
open PySem.Sem (wp)
abbrev yA (h : Heap) (l1 : Addr) : Heap := h.push { cls := .type "tuple_iterator", data := .fields #[.ref l1, .int 0 0] }
abbrev yB (h : Heap) (l1 l2 : Addr) : Heap := (yA h l1).push { cls := .type "list_iterator", data := .fields #[.ref l2, .int 0 0] }
abbrev yC (h : Heap) (l1 l2 : Addr) : Heap := (yB h l1 l2).push { cls := .type "tuple", data := .seq #[.ref h.objs.size, .ref (yA h l1).objs.size] }
abbrev yD (h : Heap) (l1 l2 : Addr) : Heap := (yC h l1 l2).push { cls := .type "tuple", data := .seq #[.none, .none] }
abbrev yE (h : Heap) (l1 l2 : Addr) : Heap := (yD h l1 l2).push { cls := .type "zip", data := .fields #[.none, .bool false, .bool false, .ref (yB h l1 l2).objs.size, .ref (yC h l1 l2).objs.size] }
theorem meets_zipTL (l1 l2 : Addr) (xs ys : Array Value) :
    Meets (Builtin.«zip.__new__» ⟨[.type "zip", .ref l1, .ref l2], []⟩) (fun _ R s => s.heap.IsTuple l1 xs ∧ s.heap.IsList l2 ys ∧
      R (.ok (.ret (.ref (yD s.heap l1 l2).objs.size))) { s with heap := yE s.heap l1 l2 }) :=
  .of_wp fun prog w A R s h => by
    obtain ⟨hp, g, d, tk, os⟩ := s
    obtain ⟨hl1, hl2, h⟩ := h
    have hsub := sub_zip
    have hL1 : Heap.IsTuple (Shared.heap ⟨hp, g, d, tk, os⟩) l1 xs := hl1
    have hL2 : Heap.IsList (Shared.heap ⟨hp.push { cls := .type "tuple_iterator", data := .fields #[.ref l1, .int 0 0] }, g, d, tk, os⟩) l2 ys := Heap.IsList.push hl2 _
    wp_walk using wpAny_pyIter_tuple hL1, wpAny_pyIter_list hL2
    exact ⟨_, rfl, h⟩
section
variable {prog : Program} {w : World} {A : Around} {E : Value → Shared → Prop} {s : Shared}
theorem call_zipTL {l1 l2 : Addr} {xs ys : Array Value} {Q : Value → Shared → Prop} (hl1 : s.heap.IsTuple l1 xs) (hl2 : s.heap.IsList l2 ys)
    (h : ∀ h', IsZip h' (s.heap.objs.size + 4) (s.heap.objs.size + 2) (s.heap.objs.size + 3) .none → IsPair h' (s.heap.objs.size + 2) (.ref s.heap.objs.size) (.ref (s.heap.objs.size + 1)) →
      IsPair h' (s.heap.objs.size + 3) .none .none → h'.IsTupleIter s.heap.objs.size l1 0 → h'.IsListIter (s.heap.objs.size + 1) l2 0 → (∀ c o, s.heap.get? c = some o → h'.get? c = some o) → Q (.ref (s.heap.objs.size + 4)) { s with heap := h' }) :
    wpAny (model prog w) A (call (.type "zip") [.ref l1, .ref l2]) Q E s := by
  refine callType_new F.called_zip (by decide) (F.typeCall_zip_2 _ _) (F.newCall_zip_2 _ _) (fun obj => F.args_object_init_3 obj _ _) F.entry_zip_new (meets_zipTL l1 l2 xs ys) ⟨hl1, hl2, ?_⟩
  have n1 : (yA s.heap l1).objs.size = s.heap.objs.size + 1 := Heap.size_push ..
  have n2 : (yB s.heap l1 l2).objs.size = s.heap.objs.size + 2 := (Heap.size_push ..).trans (congrArg (· + 1) n1)
  have n3 : (yC s.heap l1 l2).objs.size = s.heap.objs.size + 3 := (Heap.size_push ..).trans (congrArg (· + 1) n2)
  have n4 : (yD s.heap l1 l2).objs.size = s.heap.objs.size + 4 := (Heap.size_push ..).trans (congrArg (· + 1) n3)
  have g5 : (yE s.heap l1 l2).get? (yD s.heap l1 l2).objs.size = some _ := Heap.get?_push_size _ rfl
  have g4 : (yE s.heap l1 l2).get? (yC s.heap l1 l2).objs.size = some _ := Heap.get?_push_of_some _ (Heap.get?_push_size _ rfl)
  have g3 : (yE s.heap l1 l2).get? (yB s.heap l1 l2).objs.size = some _ := Heap.get?_push_of_some _ (Heap.get?_push_of_some _ (Heap.get?_push_size _ rfl))
  have g2 : (yE s.heap l1 l2).get? (yA s.heap l1).objs.size = some _ := Heap.get?_push_of_some _ (Heap.get?_push_of_some _ (Heap.get?_push_of_some _ (Heap.get?_push_size _ rfl)))
  have g1 : (yE s.heap l1 l2).get? s.heap.objs.size = some _ := Heap.get?_push_of_some _ (Heap.get?_push_of_some _ (Heap.get?_push_of_some _ (Heap.get?_push_of_some _ (Heap.get?_push_size _ rfl))))
  show _ ∧ _
  rw [n2, n3, n4] at g5
  rw [n3] at g4
  rw [n1, n2] at g3
  rw [n1] at g2
  rw [n4]
  exact ⟨⟨_, g5, rfl⟩, h _ g5 g3 g4 ⟨_, g1, rfl, rfl⟩ ⟨_, g2, rfl, rfl⟩ fun c o x => Heap.get?_push_of_some _ (Heap.get?_push_of_some _ (Heap.get?_push_of_some _ (Heap.get?_push_of_some _ (Heap.get?_push_of_some _ x))))⟩
end
end My
namespace My
open PySem PySem.Spec PyProof.Rows L2
/-- zip of a list and a tuple -/
def iZipTL (K : PySem.W.Frag) (ta : TA) : TI := fun σ H R => ta σ H fun vs H1 => ∃ a b xs ys, vs = [.ref a, .ref b] ∧ SqB false K H1 a xs ∧ SqB true K H1 b ys ∧ R (ItzB false true K a b) H1
theorem pi_zipTL {X : Cx} {K : PySem.W.Frag} {e e2 : Expr} {ta : TA} {p pos tpos : Pos} {elts : List Expr} {kk : Nat} (hK : X.K = K) (hg : Gl X "zip") (hm : X.mg "zip" = none) (ha : PA X [e, e2] ta)
    (hs : starEach [e, e2] X.env = (false, eval e X.env) :: starEach [e2] X.env := by rfl) (hpl : (backTo pos (starEach [e2] X.env)).any (·.1) = false := by rfl) :
    PI X (.Tuple elts kk tpos) (.Call (.Name "zip" p) [e, e2] [] pos) (iZipTL K ta) := by
  subst hK
  refine ⟨fun pins s σ H R I h => ?_⟩
  refine Call_ (ld_blt I hg hm PyProof.Rows.boot_zip (PyProof.Rows.callWith_type1 (thn (ha.run pos pins s σ H _ I h) fun us s1 ⟨vs, H1, I1, r1, q1⟩ => ?_) hs hpl))
  obtain ⟨a, b, xs, ys, ex, hqx, hqy, q⟩ := q1
  subst ex
  obtain ⟨its, rv, p1⟩ := inv_sq I1 hqx
  obtain ⟨its2, rv2, p2⟩ := inv_sq I1 hqy
  cases r1 with
  | cons r rr =>
    cases rr with
    | cons r' rr =>
      cases rr
      cases r
      cases r'
      have fr : ∀ c, s1.heap.objs.size ≤ c → FpOk X pins H1 c := fun c hle => I1.fpOk hle (I1.hok.fresh hle)
      have fr5 : ∀ c, c ∈ [s1.heap.objs.size + 4, s1.heap.objs.size + 2, s1.heap.objs.size + 3, s1.heap.objs.size, s1.heap.objs.size + 1] → FpOk X pins H1 c := fun c hcm => by
        refine fr c ?_
        have e' : c = s1.heap.objs.size + 4 ∨ c = s1.heap.objs.size + 2 ∨ c = s1.heap.objs.size + 3 ∨ c = s1.heap.objs.size ∨ c = s1.heap.objs.size + 1 := by simpa using hcm
        rcases e' with z | z | z | z | z
        · rw [z]; exact Nat.le_add_right _ _
        · rw [z]; exact Nat.le_add_right _ _
        · rw [z]; exact Nat.le_add_right _ _
        · rw [z]; exact Nat.le_refl _
        · rw [z]; exact Nat.le_add_right _ _
      refine call_zipTL p1 p2 fun h' hz hTI hTO h1 h2 hk => wpAny_pyIter_zip hz ?_
      have I2 : Inv X pins σ H1 { s1 with heap := h' } := I1.kept (t' := s1.toks) hk
      have T : Turn X.prog X.w X.K (.Tuple elts kk tpos) (ItzB false true X.K a b) _ _ _ := turn_zipB (PySem.W.ktu_apart s1.heap.objs.size a b (Sq1.lt p1) (Sq1.lt p2))
      exact ⟨s1.heap.objs.size + 4, [s1.heap.objs.size + 4, s1.heap.objs.size + 2, s1.heap.objs.size + 3, s1.heap.objs.size, s1.heap.objs.size + 1], _, _, H1, rfl, I2, T, ⟨hz, hTI, ⟨_, _, hTO⟩, h1, h2⟩, fr5, q⟩
end My

set_option Elab.async false
set_option linter.all false
set_option maxRecDepth 100000
set_option maxHeartbeats 400000
/-! ### zip of a list and a tuple, called -/
namespace My
open PySem
open PySem.Sem (wp)
abbrev zA (h : Heap) (l1 : Addr) : Heap := h.push { cls := .type "list_iterator", data := .fields #[.ref l1, .int 0 0] }
abbrev zB (h : Heap) (l1 l2 : Addr) : Heap := (zA h l1).push { cls := .type "tuple_iterator", data := .fields #[.ref l2, .int 0 0] }
abbrev zC (h : Heap) (l1 l2 : Addr) : Heap := (zB h l1 l2).push { cls := .type "tuple", data := .seq #[.ref h.objs.size, .ref (zA h l1).objs.size] }
abbrev zD (h : Heap) (l1 l2 : Addr) : Heap := (zC h l1 l2).push { cls := .type "tuple", data := .seq #[.none, .none] }
abbrev zE (h : Heap) (l1 l2 : Addr) : Heap := (zD h l1 l2).push { cls := .type "zip", data := .fields #[.none, .bool false, .bool false, .ref (zB h l1 l2).objs.size, .ref (zC h l1 l2).objs.size] }
theorem meets_zipLT (l1 l2 : Addr) (xs ys : Array Value) :
    Meets (Builtin.«zip.__new__» ⟨[.type "zip", .ref l1, .ref l2], []⟩) (fun _ R s => s.heap.IsList l1 xs ∧ s.heap.IsTuple l2 ys ∧
      R (.ok (.ret (.ref (zD s.heap l1 l2).objs.size))) { s with heap := zE s.heap l1 l2 }) :=
  .of_wp fun prog w A R s h => by
    obtain ⟨hp, g, d, tk, os⟩ := s
    obtain ⟨hl1, hl2, h⟩ := h
    have hsub := sub_zip
    have hL1 : Heap.IsList (Shared.heap ⟨hp, g, d, tk, os⟩) l1 xs := hl1
    have hL2 : Heap.IsTuple (Shared.heap ⟨hp.push { cls := .type "list_iterator", data := .fields #[.ref l1, .int 0 0] }, g, d, tk, os⟩) l2 ys := Heap.IsTuple.push hl2 _
    wp_walk using wpAny_pyIter_list hL1, wpAny_pyIter_tuple hL2
    exact ⟨_, rfl, h⟩
section
variable {prog : Program} {w : World} {A : Around} {E : Value → Shared → Prop} {s : Shared}
theorem call_zipLT {l1 l2 : Addr} {xs ys : Array Value} {Q : Value → Shared → Prop} (hl1 : s.heap.IsList l1 xs) (hl2 : s.heap.IsTuple l2 ys)
    (h : ∀ h', IsZip h' (s.heap.objs.size + 4) (s.heap.objs.size + 2) (s.heap.objs.size + 3) .none → IsPair h' (s.heap.objs.size + 2) (.ref s.heap.objs.size) (.ref (s.heap.objs.size + 1)) →
      IsPair h' (s.heap.objs.size + 3) .none .none → h'.IsListIter s.heap.objs.size l1 0 → h'.IsTupleIter (s.heap.objs.size + 1) l2 0 → (∀ c o, s.heap.get? c = some o → h'.get? c = some o) → Q (.ref (s.heap.objs.size + 4)) { s with heap := h' }) :
    wpAny (model prog w) A (call (.type "zip") [.ref l1, .ref l2]) Q E s := by
  refine callType_new F.called_zip (by decide) (F.typeCall_zip_2 _ _) (F.newCall_zip_2 _ _) (fun obj => F.args_object_init_3 obj _ _) F.entry_zip_new (meets_zipLT l1 l2 xs ys) ⟨hl1, hl2, ?_⟩
  have n1 : (zA s.heap l1).objs.size = s.heap.objs.size + 1 := Heap.size_push ..
  have n2 : (zB s.heap l1 l2).objs.size = s.heap.objs.size + 2 := (Heap.size_push ..).trans (congrArg (· + 1) n1)
  have n3 : (zC s.heap l1 l2).objs.size = s.heap.objs.size + 3 := (Heap.size_push ..).trans (congrArg (· + 1) n2)
  have n4 : (zD s.heap l1 l2).objs.size = s.heap.objs.size + 4 := (Heap.size_push ..).trans (congrArg (· + 1) n3)
  have g5 : (zE s.heap l1 l2).get? (zD s.heap l1 l2).objs.size = some _ := Heap.get?_push_size _ rfl
  have g4 : (zE s.heap l1 l2).get? (zC s.heap l1 l2).objs.size = some _ := Heap.get?_push_of_some _ (Heap.get?_push_size _ rfl)
  have g3 : (zE s.heap l1 l2).get? (zB s.heap l1 l2).objs.size = some _ := Heap.get?_push_of_some _ (Heap.get?_push_of_some _ (Heap.get?_push_size _ rfl))
  have g2 : (zE s.heap l1 l2).get? (zA s.heap l1).objs.size = some _ := Heap.get?_push_of_some _ (Heap.get?_push_of_some _ (Heap.get?_push_of_some _ (Heap.get?_push_size _ rfl)))
  have g1 : (zE s.heap l1 l2).get? s.heap.objs.size = some _ := Heap.get?_push_of_some _ (Heap.get?_push_of_some _ (Heap.get?_push_of_some _ (Heap.get?_push_of_some _ (Heap.get?_push_size _ rfl))))
  show _ ∧ _
  rw [n2, n3, n4] at g5
  rw [n3] at g4
  rw [n1, n2] at g3
  rw [n1] at g2
  rw [n4]
  exact ⟨⟨_, g5, rfl⟩, h _ g5 g3 g4 ⟨_, g1, rfl, rfl⟩ ⟨_, g2, rfl, rfl⟩ fun c o x => Heap.get?_push_of_some _ (Heap.get?_push_of_some _ (Heap.get?_push_of_some _ (Heap.get?_push_of_some _ (Heap.get?_push_of_some _ x))))⟩
end
end My
namespace My
open PySem PySem.Spec PyProof.Rows L2
/-- zip of a list and a tuple -/
def iZipLT (K : PySem.W.Frag) (ta : TA) : TI := fun σ H R => ta σ H fun vs H1 => ∃ a b xs ys, vs = [.ref a, .ref b] ∧ SqB true K H1 a xs ∧ SqB false K H1 b ys ∧ R (ItzB true false K a b) H1
theorem pi_zipLT {X : Cx} {K : PySem.W.Frag} {e e2 : Expr} {ta : TA} {p pos tpos : Pos} {elts : List Expr} {kk : Nat} (hK : X.K = K) (hg : Gl X "zip") (hm : X.mg "zip" = none) (ha : PA X [e, e2] ta)
    (hs : starEach [e, e2] X.env = (false, eval e X.env) :: starEach [e2] X.env := by rfl) (hpl : (backTo pos (starEach [e2] X.env)).any (·.1) = false := by rfl) :
    PI X (.Tuple elts kk tpos) (.Call (.Name "zip" p) [e, e2] [] pos) (iZipLT K ta) := by
  subst hK
  refine ⟨fun pins s σ H R I h => ?_⟩
  refine Call_ (ld_blt I hg hm PyProof.Rows.boot_zip (PyProof.Rows.callWith_type1 (thn (ha.run pos pins s σ H _ I h) fun us s1 ⟨vs, H1, I1, r1, q1⟩ => ?_) hs hpl))
  obtain ⟨a, b, xs, ys, ex, hqx, hqy, q⟩ := q1
  subst ex
  obtain ⟨its, rv, p1⟩ := inv_sq I1 hqx
  obtain ⟨its2, rv2, p2⟩ := inv_sq I1 hqy
  cases r1 with
  | cons r rr =>
    cases rr with
    | cons r' rr =>
      cases rr
      cases r
      cases r'
      have fr : ∀ c, s1.heap.objs.size ≤ c → FpOk X pins H1 c := fun c hle => I1.fpOk hle (I1.hok.fresh hle)
      have fr5 : ∀ c, c ∈ [s1.heap.objs.size + 4, s1.heap.objs.size + 2, s1.heap.objs.size + 3, s1.heap.objs.size, s1.heap.objs.size + 1] → FpOk X pins H1 c := fun c hcm => by
        refine fr c ?_
        have e' : c = s1.heap.objs.size + 4 ∨ c = s1.heap.objs.size + 2 ∨ c = s1.heap.objs.size + 3 ∨ c = s1.heap.objs.size ∨ c = s1.heap.objs.size + 1 := by simpa using hcm
        rcases e' with z | z | z | z | z
        · rw [z]; exact Nat.le_add_right _ _
        · rw [z]; exact Nat.le_add_right _ _
        · rw [z]; exact Nat.le_add_right _ _
        · rw [z]; exact Nat.le_refl _
        · rw [z]; exact Nat.le_add_right _ _
      refine call_zipLT p1 p2 fun h' hz hTI hTO h1 h2 hk => wpAny_pyIter_zip hz ?_
      have I2 : Inv X pins σ H1 { s1 with heap := h' } := I1.kept (t' := s1.toks) hk
      have T : Turn X.prog X.w X.K (.Tuple elts kk tpos) (ItzB true false X.K a b) _ _ _ := turn_zipB (PySem.W.ktu_apart s1.heap.objs.size a b (Sq1.lt p1) (Sq1.lt p2))
      exact ⟨s1.heap.objs.size + 4, [s1.heap.objs.size + 4, s1.heap.objs.size + 2, s1.heap.objs.size + 3, s1.heap.objs.size, s1.heap.objs.size + 1], _, _, H1, rfl, I2, T, ⟨hz, hTI, ⟨_, _, hTO⟩, h1, h2⟩, fr5, q⟩
end My

set_option Elab.async false
set_option linter.all false
set_option maxRecDepth 100000
set_option maxHeartbeats 400000
/-! ### zip of a list and a row, list or tuple -/
namespace My
open PySem PySem.Spec PyProof.Rows L2
def iZipB (K : PySem.W.Frag) (ta : TA) : TI := fun σ H R => ta σ H fun vs H1 => ∃ (a b : Addr) (xs ys : List V) (k : Bool), vs = [.ref a, .ref b] ∧ SqB true K H1 a xs ∧ SqB k K H1 b ys ∧ R (ItzB true k K a b) H1
theorem pi_zipB {X : Cx} {K : PySem.W.Frag} {e e2 : Expr} {ta : TA} {p pos tpos : Pos} {elts : List Expr} {kk : Nat} (hK : X.K = K) (hg : Gl X "zip") (hm : X.mg "zip" = none) (ha : PA X [e, e2] ta)
    (hs : starEach [e, e2] X.env = (false, eval e X.env) :: starEach [e2] X.env := by rfl) (hpl : (backTo pos (starEach [e2] X.env)).any (·.1) = false := by rfl) :
    PI X (.Tuple elts kk tpos) (.Call (.Name "zip" p) [e, e2] [] pos) (iZipB K ta) := by
  subst hK
  refine ⟨fun pins s σ H R I h => ?_⟩
  refine Call_ (ld_blt I hg hm PyProof.Rows.boot_zip (PyProof.Rows.callWith_type1 (thn (ha.run pos pins s σ H _ I h) fun us s1 ⟨vs, H1, I1, r1, q1⟩ => ?_) hs hpl))
  obtain ⟨a, b, xs, ys, k, ex, hqx, hqy, q⟩ := q1
  subst ex
  obtain ⟨its, rv, p1⟩ := inv_sq I1 hqx
  obtain ⟨its2, rv2, p2⟩ := inv_sq I1 hqy
  cases r1 with
  | cons r rr =>
    cases rr with
    | cons r' rr =>
      cases rr
      cases r
      cases r'
      have fr : ∀ c, s1.heap.objs.size ≤ c → FpOk X pins H1 c := fun c hle => I1.fpOk hle (I1.hok.fresh hle)
      have fr5 : ∀ c, c ∈ [s1.heap.objs.size + 4, s1.heap.objs.size + 2, s1.heap.objs.size + 3, s1.heap.objs.size, s1.heap.objs.size + 1] → FpOk X pins H1 c := fun c hcm => by
        refine fr c ?_
        have e' : c = s1.heap.objs.size + 4 ∨ c = s1.heap.objs.size + 2 ∨ c = s1.heap.objs.size + 3 ∨ c = s1.heap.objs.size ∨ c = s1.heap.objs.size + 1 := by simpa using hcm
        rcases e' with z | z | z | z | z
        · rw [z]; exact Nat.le_add_right _ _
        · rw [z]; exact Nat.le_add_right _ _
        · rw [z]; exact Nat.le_add_right _ _
        · rw [z]; exact Nat.le_refl _
        · rw [z]; exact Nat.le_add_right _ _
      cases k with
      | false =>
        refine call_zipLT p1 p2 fun h' hz hTI hTO h1 h2 hk => wpAny_pyIter_zip hz ?_
        have I2 : Inv X pins σ H1 { s1 with heap := h' } := I1.kept (t' := s1.toks) hk
        have T : Turn X.prog X.w X.K (.Tuple elts kk tpos) (ItzB true false X.K a b) _ _ _ := turn_zipB (PySem.W.ktu_apart s1.heap.objs.size a b (Sq1.lt p1) (Sq1.lt p2))
        exact ⟨s1.heap.objs.size + 4, [s1.heap.objs.size + 4, s1.heap.objs.size + 2, s1.heap.objs.size + 3, s1.heap.objs.size, s1.heap.objs.size + 1], _, _, H1, rfl, I2, T, ⟨hz, hTI, ⟨_, _, hTO⟩, h1, h2⟩, fr5, q⟩
      | true =>
        refine call_zip_2 p1 p2 fun h' hz hTI hTO h1 h2 hsz hk => wpAny_pyIter_zip hz ?_
        have I2 : Inv X pins σ H1 { s1 with heap := h' } := I1.kept (t' := s1.toks) hk
        have T : Turn X.prog X.w X.K (.Tuple elts kk tpos) (ItzB true true X.K a b) _ _ _ := turn_zipB (PySem.W.ktu_apart s1.heap.objs.size a b (Sq1.lt p1) (Sq1.lt p2))
        exact ⟨s1.heap.objs.size + 4, [s1.heap.objs.size + 4, s1.heap.objs.size + 2, s1.heap.objs.size + 3, s1.heap.objs.size, s1.heap.objs.size + 1], _, _, H1, rfl, I2, T, ⟨hz, hTI, ⟨_, _, hTO⟩, h1, h2⟩, fr5, q⟩
end My

set_option Elab.async false
set_option linter.all false
set_option maxRecDepth 100000
set_option maxHeartbeats 1000000
/-! ### sizes, levels, blocks; how words are dealt -/
namespace My
open PySem PySem.Spec PyProof.Rows L2
def sideL : List Nat := [8, 12, 16, 20, 24]
def bitsL : List Nat := [4, 4, 8, 8, 8]
def blksL : List (List Nat) := [[4], [10, 10], [22], [19, 19], [20, 19, 19]]
def cksL : List (List Nat) := [[1, 2, 3, 3], [2, 4, 6, 8], [4, 8, 10, 12], [4, 8, 10, 12], [4, 8, 10, 12]]
def offL : List (List Nat) := [[0, 1, 3, 6], [0, 2, 6, 3], [0, 60, 120, 180], [0, 60, 120, 180], [0, 60, 120, 180]]
def bitsF (s : Nat) : Nat := bitsL.getD s 4
def blkF (s : Nat) : List Nat := blksL.getD s []
def ckF (s l : Nat) : Nat := (cksL.getD s []).getD l 0
def totF (s : Nat) : Nat := (blkF s).sum
def minF (s : Nat) : Nat := (blkF s).foldl Nat.min 1000
def ownF (s l : Nat) : Nat := minF s - ckF s l
def longF (s : Nat) : List Nat := (List.range (blkF s).length).filter fun b => decide (minF s < (blkF s).getD b 0)
def stepsF (a n c : Nat) : List Nat := (List.range n).map fun k => a + k * c
/-- the indexes of the words of a block -/
def placeF (s l b : Nat) : List Nat :=
  let many := (blkF s).length
  stepsF b (ownF s l) many ++ (if b ∈ longF s then [many * ownF s l + b] else []) ++ stepsF (many * ownF s l + (longF s).length + b) (ckF s l) many
def placesF (s l : Nat) : List (List Nat) := (List.range (blkF s).length).map (placeF s l)
/-- block and place of a word -/
def spotF (s l i : Nat) : Nat × Nat :=
  let many := (blkF s).length
  if i < many * ownF s l then (i % many, i / many)
  else if i < many * ownF s l + (longF s).length then ((longF s).getD (i - many * ownF s l) 0, ownF s l)
  else ((i - (many * ownF s l + (longF s).length)) % many, (blkF s).getD ((i - (many * ownF s l + (longF s).length)) % many) 0 - ckF s l + (i - (many * ownF s l + (longF s).length)) / many)
/-- block and place of each word, in their order -/
def orderF (s l : Nat) : List (Nat × Nat) := (List.range (totF s)).map (spotF s l)
theorem bits_wd {s : Nat} (h : s < 5) : Wd (bitsF s) := by
  have : s = 0 ∨ s = 1 ∨ s = 2 ∨ s = 3 ∨ s = 4 := by omega
  rcases this with rfl | rfl | rfl | rfl | rfl
  · exact .inl rfl
  · exact .inl rfl
  · exact .inr rfl
  · exact .inr rfl
  · exact .inr rfl
theorem blk_some {s : Nat} (h : s < 5) : blksL[s]? = some (blkF s) := by
  unfold blkF
  rw [List.getD_eq_getElem?_getD, List.getElem?_eq_getElem (by exact h)]
  rfl
theorem all20 {P : Nat → Nat → Bool} (h : ((List.range 5).all fun s => (List.range 4).all fun l => P s l) = true) {s l : Nat} (hs : s < 5) (hl : l < 4) : P s l = true :=
  List.all_eq_true.mp (List.all_eq_true.mp h s (List.mem_range.mpr hs)) l (List.mem_range.mpr hl)
theorem all5 {P : Nat → Bool} (h : ((List.range 5).all P) = true) {s : Nat} (hs : s < 5) : P s = true := List.all_eq_true.mp h s (List.mem_range.mpr hs)
theorem cr_minTK {X : Cx} {K : PySem.W.Frag} (hK : X.K = K) (hc : X.calm = true) : CallR X (.builtin "min") (rMinT K) := by
  subst hK
  exact cr_minT hc
def ofN (r : List Nat) : List (Option Nat) := r.map some
theorem ofN_v (r : List Nat) : (ofN r).map vG = r.map vN := by
  unfold ofN
  rw [List.map_map]
  rfl
def gridN (g : List (List Nat)) : Grid := g.map ofN
theorem order_at {s l i : Nat} (h : i < totF s) : (orderF s l)[i]? = some (spotF s l i) := by
  unfold orderF
  rw [List.getElem?_map, List.getElem?_range h]
  rfl
theorem order_len (s l : Nat) : (orderF s l).length = totF s := by
  unfold orderF
  rw [List.length_map, List.length_range]
def okPlaces (s l : Nat) : Bool := (List.range (blkF s).length).all fun b => (placeF s l b).length == (blkF s).getD b 0 && (List.range ((blkF s).getD b 0)).all fun c => decide ((placeF s l b).getD c 0 < totF s) && spotF s l ((placeF s l b).getD c 0) == (b, c)
def okSpots (s l : Nat) : Bool := (List.range (totF s)).all fun i => decide ((spotF s l i).1 < (blkF s).length) && decide ((spotF s l i).2 < (blkF s).getD (spotF s l i).1 0) && (placeF s l (spotF s l i).1).getD (spotF s l i).2 0 == i
theorem places_ok {s l : Nat} (hs : s < 5) (hl : l < 4) : okPlaces s l = true := all20 (P := okPlaces) (by decide +kernel) hs hl
theorem spots_ok {s l : Nat} (hs : s < 5) (hl : l < 4) : okSpots s l = true := all20 (P := okSpots) (by decide +kernel) hs hl
theorem place_len {s l b : Nat} (hs : s < 5) (hl : l < 4) (hb : b < (blkF s).length) : (placeF s l b).length = (blkF s).getD b 0 := by
  have h := List.all_eq_true.mp (places_ok hs hl) b (List.mem_range.mpr hb)
  rw [Bool.and_eq_true] at h
  exact eq_of_beq h.1
theorem place_in {s l b c : Nat} (hs : s < 5) (hl : l < 4) (hb : b < (blkF s).length) (hc : c < (blkF s).getD b 0) : (placeF s l b).getD c 0 < totF s ∧ spotF s l ((placeF s l b).getD c 0) = (b, c) := by
  have h := List.all_eq_true.mp (places_ok hs hl) b (List.mem_range.mpr hb)
  rw [Bool.and_eq_true] at h
  have h2 := List.all_eq_true.mp h.2 c (List.mem_range.mpr hc)
  rw [Bool.and_eq_true] at h2
  exact ⟨of_decide_eq_true h2.1, eq_of_beq h2.2⟩
theorem spot_in {s l i : Nat} (hs : s < 5) (hl : l < 4) (hi : i < totF s) : (spotF s l i).1 < (blkF s).length ∧ (spotF s l i).2 < (blkF s).getD (spotF s l i).1 0 ∧ (placeF s l (spotF s l i).1).getD (spotF s l i).2 0 = i := by
  have h := List.all_eq_true.mp (spots_ok hs hl) i (List.mem_range.mpr hi)
  rw [Bool.and_eq_true, Bool.and_eq_true] at h
  exact ⟨of_decide_eq_true h.1.1, of_decide_eq_true h.1.2, eq_of_beq h.2⟩
/-- the words of all blocks, in the order that they are dealt in -/
def dueF (s l : Nat) (rows : List (List Nat)) : List Nat := (orderF s l).map fun q => (rows.getD q.1 []).getD q.2 0
def RowsOk (s : Nat) (rows : List (List Nat)) : Prop := rows.map List.length = blkF s ∧ ∀ r ∈ rows, ∀ x ∈ r, x < span (bitsF s)
theorem RowsOk.len {s : Nat} {rows : List (List Nat)} (h : RowsOk s rows) : rows.length = (blkF s).length := by rw [← h.1, List.length_map]
theorem RowsOk.row {s b : Nat} {rows : List (List Nat)} (h : RowsOk s rows) (hb : b < (blkF s).length) : ∃ r, rows[b]? = some r ∧ r.length = (blkF s).getD b 0 ∧ rows.getD b [] = r ∧ ∀ x ∈ r, x < span (bitsF s) := by
  have hb2 : b < rows.length := by rw [h.len]; exact hb
  refine ⟨rows[b], List.getElem?_eq_getElem hb2, ?_, getD_in hb2, h.2 _ (List.getElem_mem hb2)⟩
  have : (blkF s)[b]? = some rows[b].length := by rw [← h.1, List.getElem?_map, List.getElem?_eq_getElem hb2]; rfl
  rw [List.getD_eq_getElem?_getD, this]
  rfl
/-- the words as far as they are dealt -/
structure DealtW (s l : Nat) (rows : List (List Nat)) (i j : Nat) (W : List (Option Nat)) : Prop where
  len : W.length = totF s
  at' : ∀ b c, (b < i ∨ (b = i ∧ c < j)) → b < (blkF s).length → c < (blkF s).getD b 0 → W[(placeF s l b).getD c 0]? = some (some ((rows.getD b []).getD c 0))
theorem DealtW.start (s l : Nat) (rows : List (List Nat)) : DealtW s l rows 0 0 (List.replicate (totF s) none) where
  len := List.length_replicate
  at' b c h := by omega
theorem DealtW.step {s l i j : Nat} {rows : List (List Nat)} {W : List (Option Nat)} (hs : s < 5) (hl : l < 4) (hi : i < (blkF s).length) (hj : j < (blkF s).getD i 0) (h : DealtW s l rows i j W) :
    DealtW s l rows i (j + 1) (W.set ((placeF s l i).getD j 0) (some ((rows.getD i []).getD j 0))) where
  len := by rw [List.length_set]; exact h.len
  at' b c hh hb hc := by
    have p1 := place_in hs hl hi hj
    have p2 := place_in hs hl hb hc
    by_cases e : (placeF s l i).getD j 0 = (placeF s l b).getD c 0
    · have e2 : (i, j) = (b, c) := by rw [← p1.2, ← p2.2, e]
      cases e2
      rw [List.getElem?_set_self (by rw [h.len]; exact p1.1)]
    · rw [List.getElem?_set_ne e]
      refine h.at' b c ?_ hb hc
      rcases hh with q | ⟨rfl, q⟩
      · exact .inl q
      · by_cases ec : c = j
        · subst ec
          exact absurd rfl e
        · exact .inr ⟨rfl, by omega⟩
theorem DealtW.next {s l i j : Nat} {rows : List (List Nat)} {W : List (Option Nat)} (hj : (blkF s).getD i 0 ≤ j) (h : DealtW s l rows i j W) : DealtW s l rows (i + 1) 0 W where
  len := h.len
  at' b c hh hb hc := by
    refine h.at' b c ?_ hb hc
    rcases hh with q | ⟨rfl, q⟩
    · by_cases e : b = i
      · subst e
        exact .inr ⟨rfl, by omega⟩
      · exact .inl (by omega)
    · omega
theorem DealtW.done {s l : Nat} {rows : List (List Nat)} {W : List (Option Nat)} (hs : s < 5) (hl : l < 4) (h : DealtW s l rows (blkF s).length 0 W) : W = ofN (dueF s l rows) := by
  refine List.ext_getElem? fun i => ?_
  by_cases hi : i < totF s
  · obtain ⟨q1, q2, q3⟩ := spot_in hs hl hi
    have := h.at' _ _ (.inl q1) q1 q2
    rw [q3] at this
    rw [this]
    unfold ofN dueF
    rw [List.getElem?_map, List.getElem?_map, order_at hi]
    rfl
  · rw [List.getElem?_eq_none (by rw [h.len]; omega), List.getElem?_eq_none]
    unfold ofN dueF
    rw [List.length_map, List.length_map, order_len]
    omega
theorem rep1 {α : Type} (v : α) : ∀ n : Nat, (List.replicate n [v]).flatten = List.replicate n v
  | 0 => rfl
  | n + 1 => by
    rw [List.replicate_succ, List.flatten_cons, rep1 v n]
    rfl
theorem refs_ne {L : List Addr} {n : Nat} (h : 0 < n) : L.map V.ref ≠ List.replicate n V.non := by
  intro e
  cases n with
  | zero => omega
  | succ n =>
    cases L with
    | nil => cases e
    | cons a L => exact nomatch (List.cons.inj e).1
theorem words_ne {r : List Nat} {n : Nat} (h : 0 < n) : r.map vN ≠ List.replicate n V.non := by
  intro e
  cases n with
  | zero => omega
  | succ n =>
    cases r with
    | nil => cases e
    | cons a L => exact nomatch (List.cons.inj e).1
theorem tot_pos {s : Nat} (hs : s < 5) : 0 < totF s := of_decide_eq_true (all5 (P := fun s => decide (0 < totF s)) (by decide +kernel) hs)
theorem pi_enumK {X : Cx} {K : PySem.W.Frag} {e : Expr} {ta : TA} {p pos tpos : Pos} {elts : List Expr} {kk : Nat} (hK : X.K = K) (hg : Gl X "enumerate") (hm : X.mg "enumerate" = none) (ha : PA X [e] ta) (hs : starEach [e] X.env = [(false, eval e X.env)] := by rfl) :
    PI X (.Tuple elts kk tpos) (.Call (.Name "enumerate" p) [e] [] pos) (iEnumS K ta) := by
  subst hK
  exact pi_enumS hg hm ha hs
end My

set_option Elab.async false
set_option linter.all false
set_option maxRecDepth 100000
set_option maxHeartbeats 1000000
/-! ### the law's order of all places, by sorted() -/
namespace My
open PySem PySem.Spec PyProof.Rows L2
def chkI (s l : Nat) (q : Nat × Nat) : Int := if decide (((blkF s).getD q.1 0 : Int) - (ckF s l : Int) ≤ (q.2 : Int)) = true then 1 else 0
def keyI (s l : Nat) (q : Nat × Nat) : List Int := [chkI s l q, (q.2 : Int) - (((blkF s).getD q.1 0 : Int) - (ckF s l : Int)) * chkI s l q, (q.1 : Int), (q.2 : Int)]
/-- the places of the first blocks, block by block -/
def genP (s : Nat) : Nat → List (Nat × Nat)
  | 0 => []
  | i + 1 => genP s i ++ (List.range ((blkF s).getD i 0)).map fun j => (i, j)
def allP (s : Nat) : List (Nat × Nat) := genP s (blkF s).length
def okOrder (s l : Nat) : Bool := (orderF s l).isPerm (allP s) && decide ((orderF s l).Pairwise fun a b => TS.code 64 (keyI s l a) ≤ TS.code 64 (keyI s l b)) && (allP s).all fun q => decide (q.1 < 3) && decide (q.2 < 22) && (keyI s l q).all fun m => decide (0 ≤ m) && decide (m < 64)
theorem order_ok {s l : Nat} (hs : s < 5) (hl : l < 4) : okOrder s l = true := all20 (P := okOrder) (by decide +kernel) hs hl
theorem code_eq {s l : Nat} {a b : Nat × Nat} (a1 : a.1 < 3) (a2 : a.2 < 22) (b1 : b.1 < 3) (b2 : b.2 < 22) (h : TS.code 64 (keyI s l a) = TS.code 64 (keyI s l b)) : a = b := by
  obtain ⟨x, y⟩ := a
  obtain ⟨u, v⟩ := b
  unfold keyI TS.code TS.code TS.code TS.code TS.code at h
  generalize chkI s l (x, y) = c1 at h
  generalize chkI s l (u, v) = c2 at h
  generalize ((x, y).2 : Int) - (((blkF s).getD (x, y).1 0 : Int) - (ckF s l : Int)) * c1 = d1 at h
  generalize ((u, v).2 : Int) - (((blkF s).getD (u, v).1 0 : Int) - (ckF s l : Int)) * c2 = d2 at h
  simp at h a1 a2 b1 b2
  have e1 : x = u := by omega
  have e2 : y = v := by omega
  rw [e1, e2]
structure KeysAt (H : Hp) (ts : List Addr) (s l : Nat) (qs : List (Nat × Nat)) : Prop where
  len : ts.length = qs.length
  at' : ∀ (k : Nat) (t : Addr) (q : Nat × Nat), ts[k]? = some t → qs[k]? = some q → H t = some (.tup ((keyI s l q).map V.int))
theorem key_inj {s l : Nat} {a b : Nat × Nat} (h : (keyI s l a).map V.int = (keyI s l b).map V.int) : a = b := by
  obtain ⟨x, y⟩ := a
  obtain ⟨u, v⟩ := b
  unfold keyI at h
  simp at h
  obtain ⟨_, _, h1, h2⟩ := h
  rw [Int.ofNat.inj h1, Int.ofNat.inj h2]
theorem order_mem {s l : Nat} (hs : s < 5) (hl : l < 4) {q : Nat × Nat} (h : q ∈ allP s) : q.1 < 3 ∧ q.2 < 22 ∧ TS.Bd 64 (keyI s l q) := by
  have o := order_ok hs hl
  unfold okOrder at o
  rw [Bool.and_eq_true, Bool.and_eq_true] at o
  have h2 := List.all_eq_true.mp o.2 q h
  rw [Bool.and_eq_true, Bool.and_eq_true] at h2
  refine ⟨of_decide_eq_true h2.1.1, of_decide_eq_true h2.1.2, fun m hm => ?_⟩
  have h3 := List.all_eq_true.mp h2.2 m hm
  rw [Bool.and_eq_true] at h3
  exact ⟨of_decide_eq_true h3.1, of_decide_eq_true h3.2⟩
open Classical in
theorem sorted_is {K : PySem.W.Frag} {H : Hp} {ts : List Addr} {s l : Nat} {ys : List V} (hs : s < 5) (hl : l < 4) (h : KeysAt H ts s l (allP s)) (hp : ys.Perm (ts.map V.ref))
    (hw : ys.Pairwise fun x y => ∀ n m, TupI K H x n → TupI K H y m → TS.code 64 n ≤ TS.code 64 m) :
    ys.length = totF s ∧ ∀ i, i < totF s → ∃ t, ys[i]? = some (V.ref t) ∧ H t = some (.tup ((keyI s l (spotF s l i)).map V.int)) := by
  have o := order_ok hs hl
  unfold okOrder at o
  rw [Bool.and_eq_true, Bool.and_eq_true] at o
  have o1 : (orderF s l).Perm (allP s) := List.isPerm_iff.mp o.1.1
  have o2 := of_decide_eq_true o.1.2
  let Good : V → Nat × Nat → Prop := fun y q => q ∈ allP s ∧ ∃ t, y = V.ref t ∧ H t = some (.tup ((keyI s l q).map V.int))
  have uniq : ∀ y a b, Good y a → Good y b → a = b := by
    rintro y a b ⟨_, t, rfl, h1⟩ ⟨_, t', e, h2⟩
    cases e
    rw [h1] at h2
    exact key_inj (HO.tup.inj (Option.some.inj h2))
  have good : ∀ (k : Nat) (t : Addr), ts[k]? = some t → ∃ q, (allP s)[k]? = some q ∧ Good (V.ref t) q := fun k t e => by
    have hk := (List.getElem?_eq_some_iff.mp e).1
    rw [h.len] at hk
    have e2 : (allP s)[k]? = some (allP s)[k] := List.getElem?_eq_getElem hk
    exact ⟨_, e2, List.getElem_mem hk, t, rfl, h.at' k t _ e e2⟩
  let f : V → Nat × Nat := fun y => if c : ∃ q, Good y q then choose c else (0, 0)
  have hf : ∀ y, (∃ q, Good y q) → Good y (f y) := fun y c => by
    show Good y (if c : ∃ q, Good y q then choose c else (0, 0))
    rw [dif_pos c]
    exact choose_spec c
  have hin : ∀ y, y ∈ ys → Good y (f y) := fun y hy => by
    obtain ⟨t, ht, rfl⟩ := List.mem_map.mp (hp.mem_iff.mp hy)
    obtain ⟨k, hk, e⟩ := List.getElem_of_mem ht
    obtain ⟨q, _, g⟩ := good k t (by rw [List.getElem?_eq_getElem hk, e])
    exact hf _ ⟨q, g⟩
  have hfm : (ts.map V.ref).map f = allP s := by
    refine List.ext_getElem? fun k => ?_
    rw [List.getElem?_map, List.getElem?_map]
    cases e : ts[k]? with
    | none =>
      have hk := List.getElem?_eq_none_iff.mp e
      rw [List.getElem?_eq_none (by rw [← h.len]; exact hk)]
      rfl
    | some t =>
      obtain ⟨q, e2, g⟩ := good k t e
      rw [e2]
      exact congrArg some (uniq _ _ _ (hf _ ⟨q, g⟩) g)
  have p1 : (ys.map f).Perm (allP s) := by
    rw [← hfm]
    exact hp.map f
  have w1 : (ys.map f).Pairwise fun a b => TS.code 64 (keyI s l a) ≤ TS.code 64 (keyI s l b) := by
    rw [List.pairwise_map]
    refine List.Pairwise.imp_of_mem (fun {x y} hx hy q => ?_) hw
    obtain ⟨_, t, ex, gx⟩ := hin x hx
    obtain ⟨_, u, ey, gy⟩ := hin y hy
    exact q _ _ ⟨t, ex, .inl (.inl gx)⟩ ⟨u, ey, .inl (.inl gy)⟩
  have eq : ys.map f = orderF s l := by
    refine List.Perm.eq_of_pairwise (fun a b ha hb h1 h2 => ?_) w1 o2 (p1.trans o1.symm)
    have ma := order_mem hs hl (p1.mem_iff.mp ha)
    have mb := order_mem hs hl (o1.mem_iff.mp hb)
    exact code_eq ma.1 ma.2.1 mb.1 mb.2.1 (Int.le_antisymm h1 h2)
  have len : ys.length = totF s := by
    have := congrArg List.length eq
    rw [List.length_map, order_len] at this
    exact this
  refine ⟨len, fun i hi => ?_⟩
  have e1 : ys[i]? = some (ys[i]'(by omega)) := List.getElem?_eq_getElem _
  have e2 : (ys.map f)[i]? = some (spotF s l i) := by
    rw [eq]
    exact order_at hi
  rw [List.getElem?_map, e1] at e2
  have e3 : f (ys[i]'(by omega)) = spotF s l i := Option.some.inj e2
  obtain ⟨_, t, ey, gy⟩ := hin _ (List.getElem_mem (by omega : i < ys.length))
  rw [e3] at gy
  exact ⟨t, by rw [e1, ey], gy⟩
theorem gen_len (s : Nat) : ∀ i, (genP s (i + 1)).length = (genP s i).length + (blkF s).getD i 0 := fun i => by
  show (genP s i ++ _).length = _
  rw [List.length_append, List.length_map, List.length_range]
theorem all_len {s : Nat} (hs : s < 5) : (allP s).length ≤ 58 := of_decide_eq_true (all5 (P := fun s => decide ((allP s).length ≤ 58)) (by decide +kernel) hs)
theorem gen_le {s : Nat} : ∀ {i j : Nat}, i ≤ j → (genP s i).length ≤ (genP s j).length
  | i, 0, h => by
    have : i = 0 := by omega
    subst this
    exact Nat.le_refl _
  | i, j + 1, h => by
    by_cases e : i = j + 1
    · subst e; exact Nat.le_refl _
    · have := gen_le (s := s) (i := i) (j := j) (by omega)
      rw [gen_len]
      omega
theorem KeysAt.push {H H2 : Hp} {ts : List Addr} {s l : Nat} {qs : List (Nat × Nat)} {q : Nat × Nat} {F u : Addr} {xs : List V} {o : HO} (h : KeysAt H ts s l qs) (sm : Same H H2) (gF : H2 F = some (.lst xs)) (gu : H2 u = some (.tup ((keyI s l q).map V.int))) :
    KeysAt (upd H2 F o) (ts ++ [u]) s l (qs ++ [q]) where
  len := by rw [List.length_append, List.length_append, h.len]; rfl
  at' k t r e1 e2 := by
    have tn : ∀ {t : Addr} {ys : List V}, H2 t = some (.tup ys) → t ≠ F := fun e z => by rw [z, gF] at e; cases e
    by_cases c : k < ts.length
    · rw [List.getElem?_append_left c] at e1
      rw [List.getElem?_append_left (by rw [← h.len]; exact c)] at e2
      have g := sm _ _ (h.at' k t r e1 e2)
      rw [upd_ne (tn g)]
      exact g
    · have hk := (List.getElem?_eq_some_iff.mp e1).1
      rw [List.length_append] at hk
      have ek : k = ts.length := by simp at hk; omega
      subst ek
      rw [List.getElem?_append_right (Nat.le_refl _), Nat.sub_self] at e1
      rw [h.len, List.getElem?_append_right (Nat.le_refl _), Nat.sub_self] at e2
      cases e1
      cases e2
      rw [upd_ne (tn gu)]
      exact gu
theorem KeysAt.same {H H2 : Hp} {ts : List Addr} {s l : Nat} {qs : List (Nat × Nat)} (h : KeysAt H ts s l qs) (sm : Same H H2) : KeysAt H2 ts s l qs := ⟨h.len, fun k t q e1 e2 => sm _ _ (h.at' k t q e1 e2)⟩
/-- four values the other way round -/
def rev4 {α : Type} : List α → List α
  | [a, b, c, d] => [d, c, b, a]
  | l => l
theorem rev4_rel {zs : List V} {ws : List Value} (r : Vals zs ws) : Vals (rev4 zs) (rev4 ws) := by
  cases r with
  | nil => exact .nil
  | cons r1 r =>
    cases r with
    | nil => exact .cons r1 .nil
    | cons r2 r =>
      cases r with
      | nil => exact .cons r1 (.cons r2 .nil)
      | cons r3 r =>
        cases r with
        | nil => exact .cons r1 (.cons r2 (.cons r3 .nil))
        | cons r4 r =>
          cases r with
          | nil => exact .cons r4 (.cons r3 (.cons r2 (.cons r1 .nil)))
          | cons r5 r => exact .cons r1 (.cons r2 (.cons r3 (.cons r4 (.cons r5 r))))
theorem text_le : ∀ (ts : List Str) (k : Nat) (acc : Str), (textFrom k acc ts).length ≤ acc.length + (ts.map fun t => t.length + 2).sum
  | [], _, acc => Nat.le_refl _
  | t :: r, k, acc => by
    have h := text_le r (k + 1) (acc ++ (if k > 0 then ", " else "" : String) ++ t)
    have e : (acc ++ (if k > 0 then ", " else "" : String) ++ t).length = acc.length + (if k > 0 then 2 else 0) + t.length := by
      rw [strLen_append, strLen_append]
      split <;> rfl
    rw [e] at h
    have d : (if k > 0 then 2 else 0 : Nat) ≤ 2 := by split <;> decide
    show (textFrom (k + 1) _ r).length ≤ acc.length + (List.map (fun t => t.length + 2) (t :: r)).sum
    rw [List.map_cons, List.sum_cons]
    omega
theorem list_le {ts : List Str} {m : Nat} (h : ∀ t ∈ ts, t.length ≤ m) : (listText ts).length ≤ 2 + ts.length * (m + 2) := by
  unfold listText
  rw [strLen_append]
  have h1 := text_le ts 0 "["
  have h2 : (ts.map fun t => t.length + 2).sum ≤ ts.length * (m + 2) := by
    clear h1
    induction ts with
    | nil => exact Nat.zero_le _
    | cons t r ih =>
      rw [List.map_cons, List.sum_cons, List.length_cons, Nat.succ_mul]
      have a := h t (List.mem_cons_self ..)
      have b := ih fun u hu => h u (List.mem_cons_of_mem _ hu)
      omega
  have h3 : (Str.ofString "[").length = 1 := rfl
  have h4 : (Str.ofString "]").length = 1 := rfl
  omega
theorem shownAll_map : ∀ ds : List PyData, PyData.shownAll ds = ds.map PyData.shown
  | [] => rfl
  | d :: r => by
    show PyData.shown d :: PyData.shownAll r = _
    rw [shownAll_map r]
    rfl
theorem int_shown {n : Nat} (h : n < 256) : (PyData.shown (dI n)).length ≤ 3 := by
  have q : ((List.range 256).all fun n => decide ((PyData.shown (dI n)).length ≤ 3)) = true := by decide +kernel
  exact of_decide_eq_true (List.all_eq_true.mp q n (List.mem_range.mpr h))
theorem grid_shown {rows : List (List Nat)} (h3 : rows.length ≤ 3) (h : ∀ r ∈ rows, r.length ≤ 22 ∧ ∀ x ∈ r, x < 256) : (PyData.shown (dGr (gridN rows))).length ≤ 400 := by
  have e : PyData.shown (dGr (gridN rows)) = listText (((gridN rows).map dRow).map PyData.shown) := by
    rw [← shownAll_map]
    rfl
  rw [e]
  have l : ∀ t ∈ ((gridN rows).map dRow).map PyData.shown, t.length ≤ 112 := by
    intro t ht
    obtain ⟨d, hd, rfl⟩ := List.mem_map.mp ht
    obtain ⟨g, hg, rfl⟩ := List.mem_map.mp hd
    obtain ⟨r, hr, rfl⟩ := List.mem_map.mp hg
    have hh := h r hr
    have e2 : PyData.shown (dRow (ofN r)) = listText (((ofN r).map dG).map PyData.shown) := by
      rw [← shownAll_map]
      rfl
    rw [e2]
    have l2 := list_le (ts := ((ofN r).map dG).map PyData.shown) (m := 3) fun t ht => by
      obtain ⟨d, hd, rfl⟩ := List.mem_map.mp ht
      obtain ⟨o, ho, rfl⟩ := List.mem_map.mp hd
      obtain ⟨x, hx, rfl⟩ := List.mem_map.mp ho
      exact int_shown (hh.2 x hx)
    unfold ofN at l2 ⊢
    rw [List.length_map, List.length_map, List.length_map] at l2
    omega
  have l3 := list_le l
  unfold gridN at l3 ⊢
  rw [List.length_map, List.length_map, List.length_map] at l3
  omega
theorem dRow_show : ∀ r : List Nat, (∀ x ∈ r, x < 256) → PyData.showableAll ((ofN r).map dG) = true
  | [], _ => rfl
  | x :: r, h => by
    have hx := h x (List.mem_cons_self ..)
    have q : ((List.range 256).all fun n => (dI n).showable) = true := by decide +kernel
    have q2 : (dI x).showable = true := List.all_eq_true.mp q x (List.mem_range.mpr hx)
    show ((dI x).showable && PyData.showableAll ((ofN r).map dG)) = true
    rw [q2, dRow_show r fun y hy => h y (List.mem_cons_of_mem _ hy)]
    rfl
theorem dGr_show : ∀ rows : List (List Nat), (∀ r ∈ rows, ∀ x ∈ r, x < 256) → PyData.showableAll ((gridN rows).map dRow) = true
  | [], _ => rfl
  | r :: rows, h => by
    show (PyData.showableAll ((ofN r).map dG) && PyData.showableAll ((gridN rows).map dRow)) = true
    rw [dRow_show r (h r (List.mem_cons_self ..)), dGr_show rows fun q hq => h q (List.mem_cons_of_mem _ hq)]
    rfl
theorem dRow_dict : ∀ r : List (Option Nat), PyData.hasDictAll (r.map dG) = false
  | [] => rfl
  | o :: r => by
    show (PyData.hasDict (dG o) || PyData.hasDictAll (r.map dG)) = false
    rw [dRow_dict r]
    cases o <;> rfl
theorem dGr_dict : ∀ g : Grid, PyData.hasDictAll (g.map dRow) = false
  | [] => rfl
  | r :: g => by
    show (PyData.hasDictAll (r.map dG) || PyData.hasDictAll (g.map dRow)) = false
    rw [dRow_dict r, dGr_dict g]
    rfl
theorem grid_reprs {K : PySem.W.Frag} {H : Hp} {a : Addr} {rows : List (List Nat)} (g : GrB true K H a (gridN rows)) (h3 : rows.length ≤ 3) (h : ∀ r ∈ rows, r.length ≤ 22 ∧ ∀ x ∈ r, x < 256) :
    Dp K H (.ref a) (dGr (gridN rows)) ∧ (dGr (gridN rows)).showable = true ∧ (dGr (gridN rows)).hasDict = false ∧ (dGr (gridN rows)).depth ≤ 60 ∧ (dGr (gridN rows)).shown.length ≤ sizeLine := by
  refine ⟨g.dp, dGr_show rows fun r hr => (h r hr).2, dGr_dict _, ?_, Nat.le_trans (grid_shown h3 h) (by decide)⟩
  have := dRow_depth (gridN rows)
  show PyData.depthAll ((gridN rows).map dRow) + 1 ≤ 60
  omega
end My

set_option Elab.async false
set_option linter.all false
set_option maxRecDepth 100000
set_option maxHeartbeats 1000000
/-! ### the way through the word dots; grids with dots turned -/
namespace My
open PySem PySem.Spec PyProof.Rows L2
def spA (m a : Nat) : Nat × Nat := (1 + a / (m - 2), 1 + a % (m - 2))
def spB (m a : Nat) : Nat × Nat := (m - 2 - a % (m - 2), 1 + a / (m - 2))
def ribA (m i : Nat) : List (Nat × Nat) := ((List.range i).map (spA m)).take 10
def ribB (m i : Nat) : List (Nat × Nat) := (((List.range i).map (spB m)).filter fun q => !(ribA m ((m - 2) * (m - 2))).contains q).take 10
/-- the dots of the ribbons -/
def usedF (m : Nat) : List (Nat × Nat) := ribA m ((m - 2) * (m - 2)) ++ ribB m ((m - 2) * (m - 2))
def rowW (m b k : Nat) : Nat := if b % 2 = 0 then m - 2 - k else 1 + k
def cellsW (u : List (Nat × Nat)) (m b k : Nat) : List (Nat × Nat) := [(rowW m b k, m - 2 - 2 * b), (rowW m b k, m - 3 - 2 * b)].filter fun q => !u.contains q
def wayTo (u : List (Nat × Nat)) (m b k : Nat) : List (Nat × Nat) := ((List.range b).flatMap fun b => (List.range (m - 2)).flatMap (cellsW u m b)) ++ (List.range k).flatMap (cellsW u m b)
def wayF (m : Nat) : List (Nat × Nat) := wayTo (usedF m) m ((m - 2) / 2) 0
def sdF (s : Nat) : Nat := sideL.getD s 0
def ptF (s : Nat) : Nat := [16, 80, 176, 304, 464].getD s 0
def usedL : List (List (Nat × Nat)) := [[(1, 1), (1, 2), (1, 3), (1, 4), (1, 5), (1, 6), (2, 1), (2, 2), (2, 3), (2, 4), (6, 1), (5, 1), (4, 1), (3, 1), (6, 2), (5, 2), (4, 2), (3, 2), (6, 3), (5, 3)], [(1, 1), (1, 2), (1, 3), (1, 4), (1, 5), (1, 6), (1, 7), (1, 8), (1, 9), (1, 10), (10, 1), (9, 1), (8, 1), (7, 1), (6, 1), (5, 1), (4, 1), (3, 1), (2, 1), (10, 2)], [(1, 1), (1, 2), (1, 3), (1, 4), (1, 5), (1, 6), (1, 7), (1, 8), (1, 9), (1, 10), (14, 1), (13, 1), (12, 1), (11, 1), (10, 1), (9, 1), (8, 1), (7, 1), (6, 1), (5, 1)], [(1, 1), (1, 2), (1, 3), (1, 4), (1, 5), (1, 6), (1, 7), (1, 8), (1, 9), (1, 10), (18, 1), (17, 1), (16, 1), (15, 1), (14, 1), (13, 1), (12, 1), (11, 1), (10, 1), (9, 1)], [(1, 1), (1, 2), (1, 3), (1, 4), (1, 5), (1, 6), (1, 7), (1, 8), (1, 9), (1, 10), (22, 1), (21, 1), (20, 1), (19, 1), (18, 1), (17, 1), (16, 1), (15, 1), (14, 1), (13, 1)]]
def wayL : List (List (Nat × Nat)) := [[(6, 6), (6, 5), (5, 6), (5, 5), (4, 6), (4, 5), (3, 6), (3, 5), (2, 6), (2, 5), (3, 4), (3, 3), (4, 4), (4, 3), (5, 4), (6, 4)], [(10, 10), (10, 9), (9, 10), (9, 9), (8, 10), (8, 9), (7, 10), (7, 9), (6, 10), (6, 9), (5, 10), (5, 9), (4, 10), (4, 9), (3, 10), (3, 9), (2, 10), (2, 9), (2, 8), (2, 7), (3, 8), (3, 7), (4, 8), (4, 7), (5, 8), (5, 7), (6, 8), (6, 7), (7, 8), (7, 7), (8, 8), (8, 7), (9, 8), (9, 7), (10, 8), (10, 7), (10, 6), (10, 5), (9, 6), (9, 5), (8, 6), (8, 5), (7, 6), (7, 5), (6, 6), (6, 5), (5, 6), (5, 5), (4, 6), (4, 5), (3, 6), (3, 5), (2, 6), (2, 5), (2, 4), (2, 3), (3, 4), (3, 3), (4, 4), (4, 3), (5, 4), (5, 3), (6, 4), (6, 3), (7, 4), (7, 3), (8, 4), (8, 3), (9, 4), (9, 3), (10, 4), (10, 3), (9, 2), (8, 2), (7, 2), (6, 2), (5, 2), (4, 2), (3, 2), (2, 2)], [(14, 14), (14, 13), (13, 14), (13, 13), (12, 14), (12, 13), (11, 14), (11, 13), (10, 14), (10, 13), (9, 14), (9, 13), (8, 14), (8, 13), (7, 14), (7, 13), (6, 14), (6, 13), (5, 14), (5, 13), (4, 14), (4, 13), (3, 14), (3, 13), (2, 14), (2, 13), (1, 14), (1, 13), (1, 12), (1, 11), (2, 12), (2, 11), (3, 12), (3, 11), (4, 12), (4, 11), (5, 12), (5, 11), (6, 12), (6, 11), (7, 12), (7, 11), (8, 12), (8, 11), (9, 12), (9, 11), (10, 12), (10, 11), (11, 12), (11, 11), (12, 12), (12, 11), (13, 12), (13, 11), (14, 12), (14, 11), (14, 10), (14, 9), (13, 10), (13, 9), (12, 10), (12, 9), (11, 10), (11, 9), (10, 10), (10, 9), (9, 10), (9, 9), (8, 10), (8, 9), (7, 10), (7, 9), (6, 10), (6, 9), (5, 10), (5, 9), (4, 10), (4, 9), (3, 10), (3, 9), (2, 10), (2, 9), (2, 8), (2, 7), (3, 8), (3, 7), (4, 8), (4, 7), (5, 8), (5, 7), (6, 8), (6, 7), (7, 8), (7, 7), (8, 8), (8, 7), (9, 8), (9, 7), (10, 8), (10, 7), (11, 8), (11, 7), (12, 8), (12, 7), (13, 8), (13, 7), (14, 8), (14, 7), (14, 6), (14, 5), (13, 6), (13, 5), (12, 6), (12, 5), (11, 6), (11, 5), (10, 6), (10, 5), (9, 6), (9, 5), (8, 6), (8, 5), (7, 6), (7, 5), (6, 6), (6, 5), (5, 6), (5, 5), (4, 6), (4, 5), (3, 6), (3, 5), (2, 6), (2, 5), (2, 4), (2, 3), (3, 4), (3, 3), (4, 4), (4, 3), (5, 4), (5, 3), (6, 4), (6, 3), (7, 4), (7, 3), (8, 4), (8, 3), (9, 4), (9, 3), (10, 4), (10, 3), (11, 4), (11, 3), (12, 4), (12, 3), (13, 4), (13, 3), (14, 4), (14, 3), (14, 2), (13, 2), (12, 2), (11, 2), (10, 2), (9, 2), (8, 2), (7, 2), (6, 2), (5, 2), (4, 2), (4, 1), (3, 2), (3, 1), (2, 2), (2, 1)], [(18, 18), (18, 17), (17, 18), (17, 17), (16, 18), (16, 17), (15, 18), (15, 17), (14, 18), (14, 17), (13, 18), (13, 17), (12, 18), (12, 17), (11, 18), (11, 17), (10, 18), (10, 17), (9, 18), (9, 17), (8, 18), (8, 17), (7, 18), (7, 17), (6, 18), (6, 17), (5, 18), (5, 17), (4, 18), (4, 17), (3, 18), (3, 17), (2, 18), (2, 17), (1, 18), (1, 17), (1, 16), (1, 15), (2, 16), (2, 15), (3, 16), (3, 15), (4, 16), (4, 15), (5, 16), (5, 15), (6, 16), (6, 15), (7, 16), (7, 15), (8, 16), (8, 15), (9, 16), (9, 15), (10, 16), (10, 15), (11, 16), (11, 15), (12, 16), (12, 15), (13, 16), (13, 15), (14, 16), (14, 15), (15, 16), (15, 15), (16, 16), (16, 15), (17, 16), (17, 15), (18, 16), (18, 15), (18, 14), (18, 13), (17, 14), (17, 13), (16, 14), (16, 13), (15, 14), (15, 13), (14, 14), (14, 13), (13, 14), (13, 13), (12, 14), (12, 13), (11, 14), (11, 13), (10, 14), (10, 13), (9, 14), (9, 13), (8, 14), (8, 13), (7, 14), (7, 13), (6, 14), (6, 13), (5, 14), (5, 13), (4, 14), (4, 13), (3, 14), (3, 13), (2, 14), (2, 13), (1, 14), (1, 13), (1, 12), (1, 11), (2, 12), (2, 11), (3, 12), (3, 11), (4, 12), (4, 11), (5, 12), (5, 11), (6, 12), (6, 11), (7, 12), (7, 11), (8, 12), (8, 11), (9, 12), (9, 11), (10, 12), (10, 11), (11, 12), (11, 11), (12, 12), (12, 11), (13, 12), (13, 11), (14, 12), (14, 11), (15, 12), (15, 11), (16, 12), (16, 11), (17, 12), (17, 11), (18, 12), (18, 11), (18, 10), (18, 9), (17, 10), (17, 9), (16, 10), (16, 9), (15, 10), (15, 9), (14, 10), (14, 9), (13, 10), (13, 9), (12, 10), (12, 9), (11, 10), (11, 9), (10, 10), (10, 9), (9, 10), (9, 9), (8, 10), (8, 9), (7, 10), (7, 9), (6, 10), (6, 9), (5, 10), (5, 9), (4, 10), (4, 9), (3, 10), (3, 9), (2, 10), (2, 9), (2, 8), (2, 7), (3, 8), (3, 7), (4, 8), (4, 7), (5, 8), (5, 7), (6, 8), (6, 7), (7, 8), (7, 7), (8, 8), (8, 7), (9, 8), (9, 7), (10, 8), (10, 7), (11, 8), (11, 7), (12, 8), (12, 7), (13, 8), (13, 7), (14, 8), (14, 7), (15, 8), (15, 7), (16, 8), (16, 7), (17, 8), (17, 7), (18, 8), (18, 7), (18, 6), (18, 5), (17, 6), (17, 5), (16, 6), (16, 5), (15, 6), (15, 5), (14, 6), (14, 5), (13, 6), (13, 5), (12, 6), (12, 5), (11, 6), (11, 5), (10, 6), (10, 5), (9, 6), (9, 5), (8, 6), (8, 5), (7, 6), (7, 5), (6, 6), (6, 5), (5, 6), (5, 5), (4, 6), (4, 5), (3, 6), (3, 5), (2, 6), (2, 5), (2, 4), (2, 3), (3, 4), (3, 3), (4, 4), (4, 3), (5, 4), (5, 3), (6, 4), (6, 3), (7, 4), (7, 3), (8, 4), (8, 3), (9, 4), (9, 3), (10, 4), (10, 3), (11, 4), (11, 3), (12, 4), (12, 3), (13, 4), (13, 3), (14, 4), (14, 3), (15, 4), (15, 3), (16, 4), (16, 3), (17, 4), (17, 3), (18, 4), (18, 3), (18, 2), (17, 2), (16, 2), (15, 2), (14, 2), (13, 2), (12, 2), (11, 2), (10, 2), (9, 2), (8, 2), (8, 1), (7, 2), (7, 1), (6, 2), (6, 1), (5, 2), (5, 1), (4, 2), (4, 1), (3, 2), (3, 1), (2, 2), (2, 1)], [(22, 22), (22, 21), (21, 22), (21, 21), (20, 22), (20, 21), (19, 22), (19, 21), (18, 22), (18, 21), (17, 22), (17, 21), (16, 22), (16, 21), (15, 22), (15, 21), (14, 22), (14, 21), (13, 22), (13, 21), (12, 22), (12, 21), (11, 22), (11, 21), (10, 22), (10, 21), (9, 22), (9, 21), (8, 22), (8, 21), (7, 22), (7, 21), (6, 22), (6, 21), (5, 22), (5, 21), (4, 22), (4, 21), (3, 22), (3, 21), (2, 22), (2, 21), (1, 22), (1, 21), (1, 20), (1, 19), (2, 20), (2, 19), (3, 20), (3, 19), (4, 20), (4, 19), (5, 20), (5, 19), (6, 20), (6, 19), (7, 20), (7, 19), (8, 20), (8, 19), (9, 20), (9, 19), (10, 20), (10, 19), (11, 20), (11, 19), (12, 20), (12, 19), (13, 20), (13, 19), (14, 20), (14, 19), (15, 20), (15, 19), (16, 20), (16, 19), (17, 20), (17, 19), (18, 20), (18, 19), (19, 20), (19, 19), (20, 20), (20, 19), (21, 20), (21, 19), (22, 20), (22, 19), (22, 18), (22, 17), (21, 18), (21, 17), (20, 18), (20, 17), (19, 18), (19, 17), (18, 18), (18, 17), (17, 18), (17, 17), (16, 18), (16, 17), (15, 18), (15, 17), (14, 18), (14, 17), (13, 18), (13, 17), (12, 18), (12, 17), (11, 18), (11, 17), (10, 18), (10, 17), (9, 18), (9, 17), (8, 18), (8, 17), (7, 18), (7, 17), (6, 18), (6, 17), (5, 18), (5, 17), (4, 18), (4, 17), (3, 18), (3, 17), (2, 18), (2, 17), (1, 18), (1, 17), (1, 16), (1, 15), (2, 16), (2, 15), (3, 16), (3, 15), (4, 16), (4, 15), (5, 16), (5, 15), (6, 16), (6, 15), (7, 16), (7, 15), (8, 16), (8, 15), (9, 16), (9, 15), (10, 16), (10, 15), (11, 16), (11, 15), (12, 16), (12, 15), (13, 16), (13, 15), (14, 16), (14, 15), (15, 16), (15, 15), (16, 16), (16, 15), (17, 16), (17, 15), (18, 16), (18, 15), (19, 16), (19, 15), (20, 16), (20, 15), (21, 16), (21, 15), (22, 16), (22, 15), (22, 14), (22, 13), (21, 14), (21, 13), (20, 14), (20, 13), (19, 14), (19, 13), (18, 14), (18, 13), (17, 14), (17, 13), (16, 14), (16, 13), (15, 14), (15, 13), (14, 14), (14, 13), (13, 14), (13, 13), (12, 14), (12, 13), (11, 14), (11, 13), (10, 14), (10, 13), (9, 14), (9, 13), (8, 14), (8, 13), (7, 14), (7, 13), (6, 14), (6, 13), (5, 14), (5, 13), (4, 14), (4, 13), (3, 14), (3, 13), (2, 14), (2, 13), (1, 14), (1, 13), (1, 12), (1, 11), (2, 12), (2, 11), (3, 12), (3, 11), (4, 12), (4, 11), (5, 12), (5, 11), (6, 12), (6, 11), (7, 12), (7, 11), (8, 12), (8, 11), (9, 12), (9, 11), (10, 12), (10, 11), (11, 12), (11, 11), (12, 12), (12, 11), (13, 12), (13, 11), (14, 12), (14, 11), (15, 12), (15, 11), (16, 12), (16, 11), (17, 12), (17, 11), (18, 12), (18, 11), (19, 12), (19, 11), (20, 12), (20, 11), (21, 12), (21, 11), (22, 12), (22, 11), (22, 10), (22, 9), (21, 10), (21, 9), (20, 10), (20, 9), (19, 10), (19, 9), (18, 10), (18, 9), (17, 10), (17, 9), (16, 10), (16, 9), (15, 10), (15, 9), (14, 10), (14, 9), (13, 10), (13, 9), (12, 10), (12, 9), (11, 10), (11, 9), (10, 10), (10, 9), (9, 10), (9, 9), (8, 10), (8, 9), (7, 10), (7, 9), (6, 10), (6, 9), (5, 10), (5, 9), (4, 10), (4, 9), (3, 10), (3, 9), (2, 10), (2, 9), (2, 8), (2, 7), (3, 8), (3, 7), (4, 8), (4, 7), (5, 8), (5, 7), (6, 8), (6, 7), (7, 8), (7, 7), (8, 8), (8, 7), (9, 8), (9, 7), (10, 8), (10, 7), (11, 8), (11, 7), (12, 8), (12, 7), (13, 8), (13, 7), (14, 8), (14, 7), (15, 8), (15, 7), (16, 8), (16, 7), (17, 8), (17, 7), (18, 8), (18, 7), (19, 8), (19, 7), (20, 8), (20, 7), (21, 8), (21, 7), (22, 8), (22, 7), (22, 6), (22, 5), (21, 6), (21, 5), (20, 6), (20, 5), (19, 6), (19, 5), (18, 6), (18, 5), (17, 6), (17, 5), (16, 6), (16, 5), (15, 6), (15, 5), (14, 6), (14, 5), (13, 6), (13, 5), (12, 6), (12, 5), (11, 6), (11, 5), (10, 6), (10, 5), (9, 6), (9, 5), (8, 6), (8, 5), (7, 6), (7, 5), (6, 6), (6, 5), (5, 6), (5, 5), (4, 6), (4, 5), (3, 6), (3, 5), (2, 6), (2, 5), (2, 4), (2, 3), (3, 4), (3, 3), (4, 4), (4, 3), (5, 4), (5, 3), (6, 4), (6, 3), (7, 4), (7, 3), (8, 4), (8, 3), (9, 4), (9, 3), (10, 4), (10, 3), (11, 4), (11, 3), (12, 4), (12, 3), (13, 4), (13, 3), (14, 4), (14, 3), (15, 4), (15, 3), (16, 4), (16, 3), (17, 4), (17, 3), (18, 4), (18, 3), (19, 4), (19, 3), (20, 4), (20, 3), (21, 4), (21, 3), (22, 4), (22, 3), (22, 2), (21, 2), (20, 2), (19, 2), (18, 2), (17, 2), (16, 2), (15, 2), (14, 2), (13, 2), (12, 2), (12, 1), (11, 2), (11, 1), (10, 2), (10, 1), (9, 2), (9, 1), (8, 2), (8, 1), (7, 2), (7, 1), (6, 2), (6, 1), (5, 2), (5, 1), (4, 2), (4, 1), (3, 2), (3, 1), (2, 2), (2, 1)]]
theorem used_at {s : Nat} (hs : s < 5) : usedF (sdF s) = usedL.getD s [] := eq_of_beq (all5 (P := fun s => usedF (sdF s) == usedL.getD s []) (by decide +kernel) hs)
theorem way_at {s : Nat} (hs : s < 5) : wayF (sdF s) = wayL.getD s [] := by
  unfold wayF
  rw [used_at hs]
  exact eq_of_beq (all5 (P := fun s => wayTo (usedL.getD s []) (sdF s) ((sdF s - 2) / 2) 0 == wayL.getD s []) (by decide +kernel) hs)
theorem way_len {s : Nat} (hs : s < 5) : (wayF (sdF s)).length = ptF s := by
  rw [way_at hs]
  exact of_decide_eq_true (all5 (P := fun s => decide ((wayL.getD s []).length = ptF s)) (by decide +kernel) hs)
theorem way_in {s : Nat} (hs : s < 5) {q : Nat × Nat} (h : q ∈ wayF (sdF s)) : q.1 < sdF s ∧ q.2 < sdF s := by
  rw [way_at hs] at h
  have z := List.all_eq_true.mp (all5 (P := fun s => (wayL.getD s []).all fun q => decide (q.1 < sdF s) && decide (q.2 < sdF s)) (by decide +kernel) hs) q h
  rw [Bool.and_eq_true] at z
  exact ⟨of_decide_eq_true z.1, of_decide_eq_true z.2⟩
theorem sd_ok {s : Nat} (hs : s < 5) : SideOk (sdF s) := by
  have : s = 0 ∨ s = 1 ∨ s = 2 ∨ s = 3 ∨ s = 4 := by omega
  rcases this with rfl | rfl | rfl | rfl | rfl
  · exact .inl rfl
  · exact .inr (.inl rfl)
  · exact .inr (.inr (.inl rfl))
  · exact .inr (.inr (.inr (.inl rfl)))
  · exact .inr (.inr (.inr (.inr rfl)))
theorem sd_side {s : Nat} (hs : s < 5) : sidesI[s]? = some (sdF s : Int) := by
  have : s = 0 ∨ s = 1 ∨ s = 2 ∨ s = 3 ∨ s = 4 := by omega
  rcases this with rfl | rfl | rfl | rfl | rfl <;> rfl
theorem take_step {α : Type} (l : List α) (x : α) : (l ++ [x]).take 10 = if (l.take 10).length < 10 then l.take 10 ++ [x] else l.take 10 := by
  rw [List.length_take]
  split
  · next c =>
    have h : l.length < 10 := by omega
    have h2 : (l ++ [x]).length ≤ 10 := by
      rw [List.length_append]
      show l.length + 1 ≤ 10
      omega
    rw [List.take_of_length_le h2, List.take_of_length_le (show l.length ≤ 10 by omega)]
  · next c => rw [List.take_append_of_le_length (by omega)]
theorem ribA_step (m i : Nat) : ribA m (i + 1) = if (ribA m i).length < 10 then ribA m i ++ [spA m i] else ribA m i := by
  unfold ribA
  rw [List.range_succ, List.map_append]
  exact take_step _ _
theorem ribB_step (m i : Nat) : ribB m (i + 1) = if (ribB m i).length < 10 ∧ spB m i ∉ ribA m ((m - 2) * (m - 2)) then ribB m i ++ [spB m i] else ribB m i := by
  unfold ribB
  rw [List.range_succ, List.map_append, List.filter_append]
  by_cases c : spB m i ∈ ribA m ((m - 2) * (m - 2))
  · rw [if_neg (fun h => h.2 c)]
    have e : ([spB m i].filter fun q => !(ribA m ((m - 2) * (m - 2))).contains q) = [] := by simp [c]
    show List.take 10 (_ ++ ([spB m i].filter fun q => !(ribA m ((m - 2) * (m - 2))).contains q)) = _
    rw [e, List.append_nil]
  · have e : ([spB m i].filter fun q => !(ribA m ((m - 2) * (m - 2))).contains q) = [spB m i] := by simp [c]
    show List.take 10 (_ ++ ([spB m i].filter fun q => !(ribA m ((m - 2) * (m - 2))).contains q)) = _
    rw [e, take_step]
    simp only [c, not_false_eq_true, and_true]
theorem way_step (u : List (Nat × Nat)) (m b k : Nat) : wayTo u m b (k + 1) = wayTo u m b k ++ cellsW u m b k := by
  unfold wayTo
  rw [List.range_succ, List.flatMap_append, List.append_assoc]
  simp
theorem way_next (u : List (Nat × Nat)) (m b : Nat) : wayTo u m (b + 1) 0 = wayTo u m b (m - 2) := by
  unfold wayTo
  rw [List.range_succ, List.flatMap_append]
  simp
/-! ### dots turned -/
def flipO : Option Nat → Option Nat
  | none => none
  | some x => some (1 - x)
/-- the grid with the dots turned for which b holds -/
def turnG (b : Nat → Nat → Bool) (g : Grid) : Grid := g.mapIdx fun r row => row.mapIdx fun c o => if b r c = true then flipO o else o
theorem flip_ok {o : Option Nat} (h : DotOk o) : DotOk (flipO o) := by
  rcases h with rfl | rfl | rfl
  · exact .inl rfl
  · exact .inr (.inr rfl)
  · exact .inr (.inl rfl)
theorem flip_flip {o : Option Nat} (h : DotOk o) : flipO (flipO o) = o := by
  rcases h with rfl | rfl | rfl <;> rfl
theorem turn_row {b : Nat → Nat → Bool} {g : Grid} {i : Nat} {r : List (Option Nat)} (e : g[i]? = some r) : (turnG b g)[i]? = some (r.mapIdx fun c o => if b i c = true then flipO o else o) := by
  unfold turnG
  rw [List.getElem?_mapIdx, e]
  rfl
theorem turnG_sq {n : Nat} {b : Nat → Nat → Bool} {g : Grid} (h : Sq n g) : Sq n (turnG b g) where
  len := by unfold turnG; rw [List.length_mapIdx, h.len]
  row r hr := by
    obtain ⟨i, hi, rfl⟩ := List.mem_mapIdx.mp hr
    rw [List.length_mapIdx]
    exact h.row _ (List.getElem_mem hi)
  dot r hr o ho := by
    obtain ⟨i, hi, rfl⟩ := List.mem_mapIdx.mp hr
    obtain ⟨j, hj, rfl⟩ := List.mem_mapIdx.mp ho
    have z := h.dot _ (List.getElem_mem hi) _ (List.getElem_mem hj)
    split
    · exact flip_ok z
    · exact z
theorem cell_turn {n : Nat} {b : Nat → Nat → Bool} {g : Grid} (h : Sq n g) {i j : Nat} (hi : i < n) (hj : j < n) : cell (turnG b g) i j = if b i j = true then flipO (cell g i j) else cell g i j := by
  have l := h.len
  have l2 := (turnG_sq (b := b) h).len
  unfold cell
  have e : g[i]? = some (g[i]'(by omega)) := List.getElem?_eq_getElem _
  have r1 := h.row _ (List.getElem_mem (show i < g.length by omega))
  rw [List.getD_eq_getElem?_getD (l := turnG b g), turn_row e, List.getD_eq_getElem?_getD (l := g), e]
  simp only [Option.getD_some]
  rw [List.getD_eq_getElem?_getD, List.getElem?_mapIdx, List.getElem?_eq_getElem (by omega), List.getD_eq_getElem?_getD, List.getElem?_eq_getElem (by omega)]
  rfl
theorem turn_turn {n : Nat} {b : Nat → Nat → Bool} {g : Grid} (h : Sq n g) : turnG b (turnG b g) = g := by
  refine grid_ext (turnG_sq (turnG_sq h)) h fun i j hi hj => ?_
  rw [cell_turn (turnG_sq h) hi hj, cell_turn h hi hj]
  have l := h.len
  have r1 := h.row _ (getD_mem (d := []) (show i < g.length by omega))
  have z : DotOk (cell g i j) := dot_getD (h.dot _ (getD_mem (by omega)))
  split
  · exact flip_flip z
  · rfl
theorem turn_congr {n : Nat} {b b' : Nat → Nat → Bool} {g : Grid} (h : Sq n g) (e : ∀ i j, i < n → j < n → b i j = b' i j) : turnG b g = turnG b' g := by
  refine grid_ext (turnG_sq h) (turnG_sq h) fun i j hi hj => ?_
  rw [cell_turn h hi hj, cell_turn h hi hj, e i j hi hj]
theorem turn_none {n : Nat} {g : Grid} (h : Sq n g) : turnG (fun _ _ => false) g = g := by
  refine grid_ext (turnG_sq h) h fun i j hi hj => ?_
  rw [cell_turn h hi hj]
  rfl
/-- a dot put into a grid -/
def putG (g : Grid) (i j : Nat) (o : Option Nat) : Grid := g.set i ((g.getD i []).set j o)
theorem putG_sq {n : Nat} {g : Grid} {i j : Nat} {o : Option Nat} (h : Sq n g) (hi : i < n) (ho : DotOk o) : Sq n (putG g i j o) where
  len := by unfold putG; rw [List.length_set, h.len]
  row r hr := by
    have l := h.len
    rcases List.mem_or_eq_of_mem_set hr with h1 | rfl
    · exact h.row r h1
    · rw [List.length_set]
      exact h.row _ (getD_mem (by omega))
  dot r hr x hx := by
    have l := h.len
    rcases List.mem_or_eq_of_mem_set hr with h1 | rfl
    · exact h.dot r h1 x hx
    · rcases List.mem_or_eq_of_mem_set hx with h2 | rfl
      · exact h.dot _ (getD_mem (by omega)) x h2
      · exact ho
theorem cell_put {n : Nat} {g : Grid} {i j a b : Nat} {o : Option Nat} (h : Sq n g) (hi : i < n) (hj : j < n) (ha : a < n) (hb : b < n) : cell (putG g i j o) a b = if a = i ∧ b = j then o else cell g a b := by
  have l := h.len
  have r1 := h.row _ (getD_mem (d := []) (show i < g.length by omega))
  unfold cell putG
  by_cases c : a = i
  · subst c
    rw [List.getD_eq_getElem?_getD (l := g.set a _), List.getElem?_set_self (by omega)]
    simp only [Option.getD_some, true_and]
    by_cases d : b = j
    · subst d
      rw [if_pos rfl, List.getD_eq_getElem?_getD, List.getElem?_set_self (by omega)]
      rfl
    · rw [if_neg d, List.getD_eq_getElem?_getD, List.getElem?_set_ne (by omega), ← List.getD_eq_getElem?_getD]
  · rw [if_neg (fun z => c z.1), List.getD_eq_getElem?_getD (l := g.set i _), List.getElem?_set_ne (by omega), ← List.getD_eq_getElem?_getD]
/-- one more dot turned -/
theorem turn_put {n : Nat} {b b' : Nat → Nat → Bool} {g : Grid} {i j : Nat} (h : Sq n g) (hi : i < n) (hj : j < n) (h0 : b i j = false) (h1 : b' i j = true) (e : ∀ x y, x < n → y < n → ¬(x = i ∧ y = j) → b' x y = b x y) : putG (turnG b g) i j (flipO (cell g i j)) = turnG b' g := by
  have l := h.len
  have z : DotOk (cell g i j) := dot_getD (h.dot _ (getD_mem (by omega)))
  refine grid_ext (putG_sq (turnG_sq h) hi (flip_ok z)) (turnG_sq h) fun x y hx hy => ?_
  rw [cell_put (turnG_sq h) hi hj hx hy]
  by_cases c : x = i ∧ y = j
  · obtain ⟨rfl, rfl⟩ := c
    rw [if_pos ⟨rfl, rfl⟩, cell_turn h hx hy, h1]
    rfl
  · rw [if_neg c, cell_turn h hx hy, cell_turn h hx hy, e x y hx hy c]
theorem turn_keep {n : Nat} {b b' : Nat → Nat → Bool} {g : Grid} {i j : Nat} (h : Sq n g) (hi : i < n) (hj : j < n) (hn : cell g i j = none ∨ b' i j = b i j) (e : ∀ x y, x < n → y < n → ¬(x = i ∧ y = j) → b' x y = b x y) : turnG b g = turnG b' g := by
  refine grid_ext (turnG_sq h) (turnG_sq h) fun x y hx hy => ?_
  rw [cell_turn h hx hy, cell_turn h hx hy]
  by_cases c : x = i ∧ y = j
  · obtain ⟨rfl, rfl⟩ := c
    rcases hn with hn | hn
    · rw [hn]
      split <;> split <;> rfl
    · rw [hn]
  · rw [e x y hx hy c]
end My

set_option Elab.async false
set_option linter.all false
set_option maxRecDepth 100000
set_option maxHeartbeats 400000
/-! ### zip of a row, list or tuple, and a tuple -/
namespace My
open PySem PySem.Spec PyProof.Rows L2
def iZipRT (K : PySem.W.Frag) (ta : TA) : TI := fun σ H R => ta σ H fun vs H1 => ∃ (a b : Addr) (xs ys : List V) (k : Bool), vs = [.ref a, .ref b] ∧ SqB k K H1 a xs ∧ SqB false K H1 b ys ∧ R (ItzB k false K a b) H1
theorem pi_zipRT {X : Cx} {K : PySem.W.Frag} {e e2 : Expr} {ta : TA} {p pos tpos : Pos} {elts : List Expr} {kk : Nat} (hK : X.K = K) (hg : Gl X "zip") (hm : X.mg "zip" = none) (ha : PA X [e, e2] ta)
    (hs : starEach [e, e2] X.env = (false, eval e X.env) :: starEach [e2] X.env := by rfl) (hpl : (backTo pos (starEach [e2] X.env)).any (·.1) = false := by rfl) :
    PI X (.Tuple elts kk tpos) (.Call (.Name "zip" p) [e, e2] [] pos) (iZipRT K ta) := by
  subst hK
  refine ⟨fun pins s σ H R I h => ?_⟩
  refine Call_ (ld_blt I hg hm PyProof.Rows.boot_zip (PyProof.Rows.callWith_type1 (thn (ha.run pos pins s σ H _ I h) fun us s1 ⟨vs, H1, I1, r1, q1⟩ => ?_) hs hpl))
  obtain ⟨a, b, xs, ys, k, ex, hqx, hqy, q⟩ := q1
  subst ex
  obtain ⟨its, rv, p1⟩ := inv_sq I1 hqx
  obtain ⟨its2, rv2, p2⟩ := inv_sq I1 hqy
  cases r1 with
  | cons r rr =>
    cases rr with
    | cons r' rr =>
      cases rr
      cases r
      cases r'
      have fr : ∀ c, s1.heap.objs.size ≤ c → FpOk X pins H1 c := fun c hle => I1.fpOk hle (I1.hok.fresh hle)
      have fr5 : ∀ c, c ∈ [s1.heap.objs.size + 4, s1.heap.objs.size + 2, s1.heap.objs.size + 3, s1.heap.objs.size, s1.heap.objs.size + 1] → FpOk X pins H1 c := fun c hcm => by
        refine fr c ?_
        have e' : c = s1.heap.objs.size + 4 ∨ c = s1.heap.objs.size + 2 ∨ c = s1.heap.objs.size + 3 ∨ c = s1.heap.objs.size ∨ c = s1.heap.objs.size + 1 := by simpa using hcm
        rcases e' with z | z | z | z | z
        · rw [z]; exact Nat.le_add_right _ _
        · rw [z]; exact Nat.le_add_right _ _
        · rw [z]; exact Nat.le_add_right _ _
        · rw [z]; exact Nat.le_refl _
        · rw [z]; exact Nat.le_add_right _ _
      cases k with
      | true =>
        refine call_zipLT p1 p2 fun h' hz hTI hTO h1 h2 hk => wpAny_pyIter_zip hz ?_
        have I2 : Inv X pins σ H1 { s1 with heap := h' } := I1.kept (t' := s1.toks) hk
        have T : Turn X.prog X.w X.K (.Tuple elts kk tpos) (ItzB true false X.K a b) _ _ _ := turn_zipB (PySem.W.ktu_apart s1.heap.objs.size a b (Sq1.lt p1) (Sq1.lt p2))
        exact ⟨s1.heap.objs.size + 4, [s1.heap.objs.size + 4, s1.heap.objs.size + 2, s1.heap.objs.size + 3, s1.heap.objs.size, s1.heap.objs.size + 1], _, _, H1, rfl, I2, T, ⟨hz, hTI, ⟨_, _, hTO⟩, h1, h2⟩, fr5, q⟩
      | false =>
        refine RZ.call_zipT p1 p2 fun h' hz hTI hTO h1 h2 hsz hk => wpAny_pyIter_zip hz ?_
        have I2 : Inv X pins σ H1 { s1 with heap := h' } := I1.kept (t' := s1.toks) hk
        have T : Turn X.prog X.w X.K (.Tuple elts kk tpos) (ItzB false false X.K a b) _ _ _ := turn_zipB (PySem.W.ktu_apart s1.heap.objs.size a b (Sq1.lt p1) (Sq1.lt p2))
        exact ⟨s1.heap.objs.size + 4, [s1.heap.objs.size + 4, s1.heap.objs.size + 2, s1.heap.objs.size + 3, s1.heap.objs.size, s1.heap.objs.size + 1], _, _, H1, rfl, I2, T, ⟨hz, hTI, ⟨_, _, hTO⟩, h1, h2⟩, fr5, q⟩
theorem un1 {k : Nat} {A : Around} (r : Room k A) : A.units + 65 < cLine := by have := r.un; omega
theorem op_notInDK {X : Cx} {K : PySem.W.Frag} (h : X.K = K) (hu : X.A.units + 65 < cLine) : OpR X (compareOp .NotIn) (rNotInD K) := by
  subst h
  exact op_notInD hu
end My

set_option Elab.async false
set_option linter.all false
set_option maxRecDepth 100000
set_option maxHeartbeats 1000000
/-! ### how long a shown grid of dots is -/
namespace My
open PySem PySem.Spec PyProof.Rows L2
theorem dot_shown {o : Option Nat} (h : DotOk o) : (PyData.shown (dG o)).length ≤ 4 ∧ (dG o).showable = true := by
  rcases h with rfl | rfl | rfl <;> decide +kernel
theorem dotRow_show : ∀ r : List (Option Nat), (∀ o ∈ r, DotOk o) → PyData.showableAll (r.map dG) = true
  | [], _ => rfl
  | o :: r, h => by
    show ((dG o).showable && PyData.showableAll (r.map dG)) = true
    rw [(dot_shown (h o (List.mem_cons_self ..))).2, dotRow_show r fun y hy => h y (List.mem_cons_of_mem _ hy)]
    rfl
theorem dots_show : ∀ g : Grid, (∀ r ∈ g, ∀ o ∈ r, DotOk o) → PyData.showableAll (g.map dRow) = true
  | [], _ => rfl
  | r :: g, h => by
    show (PyData.showableAll (r.map dG) && PyData.showableAll (g.map dRow)) = true
    rw [dotRow_show r (h r (List.mem_cons_self ..)), dots_show g fun q hq => h q (List.mem_cons_of_mem _ hq)]
    rfl
theorem dots_len {n : Nat} {g : Grid} (sq : Sq n g) (hn : n ≤ 24) : (PyData.shown (dGr g)).length ≤ 4000 := by
  have e : PyData.shown (dGr g) = listText ((g.map dRow).map PyData.shown) := by
    rw [← shownAll_map]
    rfl
  rw [e]
  have l : ∀ t ∈ (g.map dRow).map PyData.shown, t.length ≤ 150 := by
    intro t ht
    obtain ⟨d, hd, rfl⟩ := List.mem_map.mp ht
    obtain ⟨r, hr, rfl⟩ := List.mem_map.mp hd
    have e2 : PyData.shown (dRow r) = listText ((r.map dG).map PyData.shown) := by
      rw [← shownAll_map]
      rfl
    rw [e2]
    have l2 := list_le (ts := (r.map dG).map PyData.shown) (m := 4) fun t ht => by
      obtain ⟨d, hd, rfl⟩ := List.mem_map.mp ht
      obtain ⟨o, ho, rfl⟩ := List.mem_map.mp hd
      exact (dot_shown (sq.dot r hr o ho)).1
    have := sq.row r hr
    rw [List.length_map, List.length_map] at l2
    omega
  have l3 := list_le l
  have := sq.len
  rw [List.length_map, List.length_map] at l3
  omega
theorem dots_reprs {K : PySem.W.Frag} {H : Hp} {a : Addr} {n : Nat} {g : Grid} (h : GrB true K H a g) (sq : Sq n g) (hn : n ≤ 24) :
    Dp K H (.ref a) (dGr g) ∧ (dGr g).showable = true ∧ (dGr g).hasDict = false ∧ (dGr g).depth ≤ 60 ∧ (dGr g).shown.length ≤ sizeLine := by
  refine ⟨h.dp, dots_show g fun r hr => sq.dot r hr, dGr_dict _, ?_, Nat.le_trans (dots_len sq hn) (by decide)⟩
  have := dRow_depth g
  show PyData.depthAll (g.map dRow) + 1 ≤ 60
  omega
end My

set_option Elab.async false
set_option linter.all false
set_option maxRecDepth 100000
set_option maxHeartbeats 1000000
/-! ### lists of dots: tuples of two, as they lie; whether a dot is among them -/
namespace My
open PySem PySem.Spec PyProof.Rows L2
def dQ (q : Nat × Nat) : PyData := .tuple [dI q.1, dI q.2]
def tQ (q : Nat × Nat) : HO := .tup [vN q.1, vN q.2]
theorem dI_eqv (x y : Nat) : PyData.eqv (dI x) (dI y) = decide (x = y) := by
  show ((x : Int) == (y : Int)) = decide (x = y)
  by_cases h : x = y
  · subst h; simp
  · simp [h]
    omega
theorem dQ_eqv (a b : Nat × Nat) : PyData.eqv (dQ a) (dQ b) = (a == b) := by
  show (PyData.eqv (dI a.1) (dI b.1) && (PyData.eqv (dI a.2) (dI b.2) && true)) = (a == b)
  rw [dI_eqv, dI_eqv, Bool.and_true]
  obtain ⟨a1, a2⟩ := a
  obtain ⟨b1, b2⟩ := b
  by_cases h : a1 = b1 <;> by_cases h2 : a2 = b2 <;> simp [h, h2]
theorem dQ_any (q : Nat × Nat) : ∀ w : List (Nat × Nat), ((w.map dQ).any fun z => PyData.eqv z (dQ q)) = w.contains q
  | [] => rfl
  | a :: w => by
    show (PyData.eqv (dQ a) (dQ q) || ((w.map dQ).any fun z => PyData.eqv z (dQ q))) = (a :: w).contains q
    rw [dQ_any q w, dQ_eqv, List.contains_cons]
    by_cases h : a = q
    · subst h; simp
    · have h2 : ¬ q = a := fun z => h z.symm
      rw [beq_false_of_ne h, beq_false_of_ne h2]
theorem dQ_lay : ∀ w : List (Nat × Nat), PyData.canLayAll0 (w.map dQ) = true
  | [] => rfl
  | q :: w => by
    show (PyData.canLay0 (dQ q) && PyData.canLayAll0 (w.map dQ)) = true
    rw [dQ_lay w]
    rfl
theorem dQ_depth : ∀ w : List (Nat × Nat), PyData.depthAll (w.map dQ) ≤ 1
  | [] => Nat.zero_le _
  | q :: w => by
    show max (PyData.depth (dQ q)) (PyData.depthAll (w.map dQ)) ≤ 1
    have := dQ_depth w
    have e : PyData.depth (dQ q) = 1 := rfl
    omega
theorem dQ_shaped (q : Nat × Nat) : SeqAt.shaped (dQ q) = true := rfl
theorem dQs_shaped (w : List (Nat × Nat)) : SeqAt.shaped (.list (w.map dQ)) = true := by
  unfold SeqAt.shaped
  have h1 : PyData.canLay0 (.list (w.map dQ)) = true := dQ_lay w
  have h2 : PyData.depth (.list (w.map dQ)) ≤ 64 := by
    show PyData.depthAll (w.map dQ) + 1 ≤ 64
    have := dQ_depth w
    omega
  rw [h1, Bool.true_and]
  exact decide_eq_true h2
/-- the dots of a way, each a tuple of its own -/
structure Spots (H : Hp) (L : List Addr) (w : List (Nat × Nat)) : Prop where
  len : L.length = w.length
  at' : ∀ (j : Nat) (l : Addr) (q : Nat × Nat), L[j]? = some l → w[j]? = some q → H l = some (tQ q)
theorem Spots.nil {H : Hp} : Spots H [] [] := ⟨rfl, fun j l q e => by cases e⟩
theorem Spots.same {H H2 : Hp} {L : List Addr} {w : List (Nat × Nat)} (h : Spots H L w) (s : Same H H2) : Spots H2 L w := ⟨h.len, fun j l q e1 e2 => s _ _ (h.at' j l q e1 e2)⟩
/-- what is no list stays -/
theorem Spots.keep {H H2 : Hp} {L : List Addr} {w : List (Nat × Nat)} (h : Spots H L w) (s : ∀ b xs, H b = some (.tup xs) → H2 b = some (.tup xs)) : Spots H2 L w := ⟨h.len, fun j l q e1 e2 => s _ _ (h.at' j l q e1 e2)⟩
theorem Spots.append {H : Hp} {L M : List Addr} {w v : List (Nat × Nat)} (h : Spots H L w) (g : Spots H M v) : Spots H (L ++ M) (w ++ v) where
  len := by rw [List.length_append, List.length_append, h.len, g.len]
  at' j l q e1 e2 := by
    by_cases c : j < L.length
    · rw [List.getElem?_append_left c] at e1
      rw [List.getElem?_append_left (by rw [← h.len]; exact c)] at e2
      exact h.at' j l q e1 e2
    · rw [List.getElem?_append_right (by omega)] at e1
      rw [List.getElem?_append_right (by rw [← h.len]; omega), ← h.len] at e2
      exact g.at' _ l q e1 e2
theorem Spots.one {H : Hp} {t : Addr} {q : Nat × Nat} (h : H t = some (tQ q)) : Spots H [t] [q] := ⟨rfl, fun j l r e1 e2 => by
  cases j with
  | zero => cases e1; cases e2; exact h
  | succ j => cases e1⟩
theorem Spots.snoc {H : Hp} {L : List Addr} {w : List (Nat × Nat)} {t : Addr} {q : Nat × Nat} (h : Spots H L w) (g : H t = some (tQ q)) : Spots H (L ++ [t]) (w ++ [q]) := h.append (.one g)
theorem spot_dp {K : PySem.W.Frag} {H : Hp} {t : Addr} {q : Nat × Nat} (h : H t = some (tQ q)) : Dp K H (.ref t) (dQ q) := .tup (.inl (.inl h)) (.cons (.int _) (.cons (.int _) .nil))
theorem Spots.all {K : PySem.W.Frag} {H : Hp} : ∀ {L : List Addr} {w : List (Nat × Nat)}, Spots H L w → DpAll K H (L.map V.ref) (w.map dQ)
  | [], [], _ => .nil
  | [], _ :: _, h => by cases h.len
  | _ :: _, [], h => by cases h.len
  | l :: L, q :: w, h => .cons (spot_dp (h.at' 0 l q rfl rfl)) (Spots.all ⟨Nat.succ.inj h.len, fun j l' q' e1 e2 => h.at' (j + 1) l' q' e1 e2⟩)
theorem Spots.dp {K : PySem.W.Frag} {H : Hp} {F : Addr} {L : List Addr} {w : List (Nat × Nat)} (h : Spots H L w) (g : SqL K H F (L.map V.ref)) : Dp K H (.ref F) (.list (w.map dQ)) := .lst g h.all
end My

set_option Elab.async false
set_option linter.all false
set_option maxRecDepth 100000
set_option maxHeartbeats 1000000
/-! ### xs[a::c] of a list; zip of any number of lists given one by one; .get of a written dict whose keys are tuples, with a tuple that may hold None -/
namespace My
open PySem PySem.Spec PyProof.Rows L2
/-- the places of a slice of step c from a on -/
def strI (n : Nat) (a c : Int) : List Nat := sliceRange (sliceBounds (some a) none (some c) n).1 (sliceBounds (some a) none (some c) n).2.1 (sliceBounds (some a) none (some c) n).2.2
def strideL {α : Type} (xs : List α) (a c : Int) : List α := (strI xs.length a c).filterMap (xs[·]?)
theorem vals_pick {xs : List V} {us : List Value} (r : Vals xs us) : ∀ is : List Nat, Vals (is.filterMap (xs[·]?)) (is.filterMap (us[·]?))
  | [] => .nil
  | i :: is => by
    have ih := vals_pick r is
    have hl := r.length
    by_cases h : i < xs.length
    · have e : xs[i]? = some xs[i] := List.getElem?_eq_getElem h
      obtain ⟨w, hw, rw'⟩ := r.get e
      rw [List.filterMap_cons, List.filterMap_cons, e, hw]
      exact .cons rw' ih
    · have e1 : xs[i]? = none := List.getElem?_eq_none (by omega)
      have e2 : us[i]? = none := List.getElem?_eq_none (by omega)
      rw [List.filterMap_cons, List.filterMap_cons, e1, e2]
      exact ih
def tStride (K : PySem.W.Frag) (a c : Int) (te : TE) : TE := fun σ H Q => te σ H fun x H1 => ∃ l xs, x = .ref l ∧ SqL K H1 l xs ∧ ∀ p H2, Same H1 H2 → H1 p = none → H2 p = some (.lst (strideL xs a c)) → (strideL xs a c).length ≤ sizeLine → Q (.ref p) H2
theorem pe_stride {X : Cx} {K : PySem.W.Frag} {e : Expr} {te : TE} {a c : Int} {k1 k2 : Nat} {p1 p2 p3 pos : Pos} (hK : X.K = K) (h0 : c ≠ 0) (he : PE X e te) : PE X (.Subscript e (.Slice (some (.Constant (.int a) k1 p1)) none (some (.Constant (.int c) k2 p2)) p3) pos) (tStride K a c te) := by
  subst hK
  refine ⟨fun pins s σ H Q I h => ?_⟩
  refine Subscript_ (thn (he.run pins s σ H _ I h) fun v s1 ⟨x, H1, I1, r1, q1⟩ => ?_)
  obtain ⟨l, xs, ex, hx, q⟩ := q1
  subst ex
  cases r1
  have hlo : PO X (some (.Constant (.int a) k1 p1)) (tPart (tC (.int a))) := po_some pe_int
  have hst : PO X (some (.Constant (.int c) k2 p2)) (tPart (tC (.int c))) := po_some pe_int
  refine wpAny_Slice (thn (hlo.run pins s1 σ H1 (fun o H2 => o = some a ∧ H2 = H1) I1 ⟨a, rfl, rfl, rfl⟩) fun vl s2 ⟨l2, H2, I2, pl, el, e2⟩ => ?_)
  subst el e2
  refine thn (po_none.run pins s2 σ H2 (fun o H3 => o = none ∧ H3 = H2) I2 ⟨rfl, rfl⟩) fun vu s3 ⟨u, H3, I3, pu, eu, e3⟩ => ?_
  subst eu e3
  refine thn (hst.run pins s3 σ H3 (fun o H4 => o = some c ∧ H4 = H3) I3 ⟨c, rfl, rfl, rfl⟩) fun vs s4 ⟨o, H4, I4, ps, eo, e4⟩ => ?_
  subst eo e4
  have I5 : Inv X pins σ H4 { s4 with heap := s4.heap.push { cls := .type "slice", data := .fields #[vl, vu, vs] } } := I4.kept (t' := s4.toks) fun b ob q => Heap.get?_push_of_some _ q
  obtain ⟨its, r, ht, hz⟩ := I5.list hx
  have hlen := r.length
  refine tail_any (ops := [.ref l, .ref s4.heap.objs.size]) ht.isList.typeIs (PySem.slot_list_getitem.lookup) ?_ (by with_unfolding_all rfl)
  refine wpAny_getItem_list_slice ht.isList (Heap.IsSliceOf.new _ vl vu vs) pl pu ps (fun z => h0 (Option.some.inj z)) ?_ (by rw [List.size_toArray]; omega)
  have rv : Vals (strideL xs a c) (slicePick its.toArray (some a) none (some c)).toList := by
    have e : (slicePick its.toArray (some a) none (some c)).toList = (strI xs.length a c).filterMap (its[·]?) := by
      unfold slicePick strI
      simp [hlen]
    rw [e]
    exact vals_pick r _
  have hz2 : (strideL xs a c).length ≤ sizeLine := by
    rw [rv.length]
    have h1 := slicePick_size_le its.toArray (some a) none (some c)
    rw [List.size_toArray] at h1
    rw [Array.length_toList]
    exact Nat.le_trans h1 (by rw [List.size_toArray, ← hlen]; exact hz)
  refine ⟨.ref _, _, I5.laid (t' := s4.toks) (o := .lst (strideL xs a c)) (fun b ob q => Heap.get?_push_of_some _ q) (Nat.le_refl _) ?_, rfl, q _ _ (same_upd (I5.hok.fresh (Nat.le_refl _))) (I5.hok.fresh (Nat.le_refl _)) upd_same hz2⟩
  exact ⟨hz2, _, 0, rv, by rw [Array.toArray_toList]; exact Heap.get?_push_size _ rfl⟩
def iZipN (K : PySem.W.Frag) (ta : TA) : TI := fun σ H R => ta σ H fun vs H1 => ∃ (L : List Addr) (rows : List (List V)), vs = L.map V.ref ∧ RowsL K H1 L rows ∧ L ≠ [] ∧ L.length ≤ 1000 ∧ R (ItZs K L) H1
theorem pi_zipN {X : Cx} {K : PySem.W.Frag} {e : Expr} {es : List Expr} {ta : TA} {x : Str} {xp p pos : Pos} (hK : X.K = K) (hg : Gl X "zip") (hm : X.mg "zip" = none) (ha : PA X (e :: es) ta)
    (hs : starEach (e :: es) X.env = (false, eval e X.env) :: starEach es X.env := by rfl) (hpl : (backTo pos (starEach es X.env)).any (·.1) = false := by rfl) :
    PI X (.Name x xp) (.Call (.Name "zip" p) (e :: es) [] pos) (iZipN K ta) := by
  subst hK
  refine ⟨fun pins s σ H R I h => ?_⟩
  refine Call_ (ld_blt I hg hm PyProof.Rows.boot_zip (PyProof.Rows.callWith_type1 (thn (ha.run pos pins s σ H _ I h) fun us s2 ⟨vs, H1, I2, r1, q1⟩ => ?_) hs hpl))
  obtain ⟨L, rows, ex, hr, h0, hL, q⟩ := q1
  subst ex
  obtain rfl := refs_vals r1
  have hn : L.length ≤ sizeLine := Nat.le_trans hL (by decide)
  have each : ∀ l ∈ L, ∃ xs, s2.heap.IsList l xs ∧ l < s2.heap.objs.size := fun l hl => by
    obtain ⟨j, hj, rfl⟩ := List.mem_iff_getElem.mp hl
    obtain ⟨its, rv2, p2, hz⟩ := I2.list (hr.2 j _ _ (List.getElem?_eq_getElem hj) (List.getElem?_eq_getElem (by rw [← hr.1]; exact hj)))
    obtain ⟨o, ho, r⟩ := p2.isList
    exact ⟨_, ⟨o, ho, r⟩, Heap.lt_size ho⟩
  refine call_zipN hn h0 (fun l hl => let ⟨xs, h1, _⟩ := each l hl; ⟨xs, h1⟩) fun h' Z hk => iter_zs (s := { s2 with heap := h' }) Z ?_
  have I3 : Inv X pins σ H1 { s2 with heap := h' } := I2.kept (t' := s2.toks) hk
  refine ⟨s2.heap.objs.size + L.length + 2, zfp L s2.heap.objs.size, _, _, H1, rfl, I3, turn_zipS hn h0 (fun l hl => (each l hl).choose_spec.2), Z, fun c hcm => ?_, q⟩
  obtain ⟨j, hj, rfl⟩ := List.mem_map.mp hcm
  exact I2.fpOk (Nat.le_add_right _ _) (I2.hok.fresh (Nat.le_add_right _ _))
/-! ### a written dict whose keys are tuples of whole numbers -/
def tupHash (k : List Int) : Int := reduceHash (Builtin.Tuple.tupleHashOf (k.map hashInt))
def keyO (o : Option Nat) : Option Key := o.map fun n => .inl (n : Int)
def entTB (K : PySem.W.Frag) : List DictEntry → List (List Nat × Nat) → Bool
  | [], [] => true
  | ⟨hh, .ref c, .int v _⟩ :: es, (k, x) :: r => (hh == tupHash (k.map fun n : Nat => (n : Int))) && (v == (x : Int)) && tupB K c (k.map fun n : Nat => (n : Int)) && entTB K es r
  | _, _ => false
def dTupB (K : PySem.W.Frag) (d : Addr) (kvs : List (List Nat × Nat)) : Bool :=
  match K.lookup d with
  | some ⟨.type s, none, .dict es _, sl⟩ => s == "dict" && sl.size == 0 && !(d == sysModules) && entTB K es.toList kvs
  | _ => false
def getT (os : List (Option Nat)) : List (List Nat × Nat) → Option Nat
  | [] => none
  | (k, v) :: r => if k.map some = os then some v else getT os r
section
variable {P : Program} {w : World}
theorem hash_key (k : List Nat) : tupleKeyHash (noneKind P w) ((k.map some).map keyO) = tupHash (k.map fun n : Nat => (n : Int)) := by
  unfold tupleKeyHash tupHash
  rw [List.map_map, List.map_map, List.map_map]
  rfl
theorem items_none : ∀ {os : List (Option Nat)} {us : List Value}, Vals (os.map vG) us → ItemsAre (noneKind P w) (os.map keyO) us
  | [], _, .nil => .nil
  | none :: os, u :: us, .cons r t => by
    cases r
    exact .cons rfl (items_none t)
  | some n :: os, u :: us, .cons r t => by
    obtain ⟨t0, rfl⟩ := (show ∃ t, u = Value.int (n : Int) t from r)
    exact .cons (by show ((n : Int) == (n : Int)) = true; simp) (items_none t)
theorem keyO_inj : ∀ {a b : Option Nat}, keyO a = keyO b → a = b
  | none, none, _ => rfl
  | none, some _, h => by cases h
  | some _, none, h => by cases h
  | some x, some y, h => by
    have e := Sum.inl.inj (Option.some.inj h)
    rw [show x = y by omega]
theorem keysO_inj : ∀ {a b : List (Option Nat)}, a.map keyO = b.map keyO → a = b
  | [], [], _ => rfl
  | [], _ :: _, h => by cases h
  | _ :: _, [], h => by cases h
  | x :: a, y :: b, h => by
    rw [List.map_cons, List.map_cons] at h
    injection h with h1 h2
    rw [keyO_inj h1, keysO_inj h2]
theorem somes_inj : ∀ {a b : List Nat}, a.map some = b.map some → a = b
  | [], [], _ => rfl
  | [], _ :: _, h => by cases h
  | _ :: _, [], h => by cases h
  | x :: a, y :: b, h => by
    rw [List.map_cons, List.map_cons] at h
    injection h with h1 h2
    cases h1
    rw [somes_inj h2]
theorem entTB_ok {K : PySem.W.Frag} {h : Heap} (hin : ∀ (c : Addr) (k : List Nat), tupB K c (k.map fun n : Nat => (n : Int)) = true → IsTupleKey (noneKind P w) h ((k.map some).map keyO) c) : ∀ {es : List DictEntry} {kvs : List (List Nat × Nat)}, entTB K es kvs = true →
    ∃ xs : List (List (Option Key) × Addr × Value), es = xs.map (entryOfKey (tupleKind (noneKind P w))) ∧ (∀ x ∈ xs, (tupleKind (noneKind P w)).is h x.1 x.2.1) ∧ xs.map (·.1) = kvs.map (fun p => (p.1.map some).map keyO) ∧
      ∀ os : List (Option Nat), RelV (vG (getT os kvs)) (((atKey xs (os.map keyO)).map (·.2)).getD .none)
  | [], [], _ => by
    refine ⟨[], rfl, ?_, rfl, fun os => rfl⟩
    intro x hx
    cases hx
  | [], _ :: _, hh => by simp [entTB] at hh
  | ⟨hs, kv, vv⟩ :: es, [], hh => by simp [entTB] at hh
  | ⟨hs, kv, vv⟩ :: es, (k, x) :: r, hh => by
    unfold entTB at hh
    split at hh
    · next e => cases e
    · next hh0 c v t es0 k0 x0 r0 e1 e2 =>
      cases e1
      cases e2
      rw [Bool.and_eq_true, Bool.and_eq_true, Bool.and_eq_true] at hh
      obtain ⟨⟨⟨h1, h2⟩, h3⟩, h4⟩ := hh
      obtain ⟨xs, q1, q2, q3, q4⟩ := entTB_ok hin h4
      have e1 := eq_of_beq h1
      have e2 := eq_of_beq h2
      refine ⟨((k.map some).map keyO, c, .int v t) :: xs, ?_, fun y hy => ?_, ?_, fun os => ?_⟩
      · rw [List.map_cons, ← q1]
        congr 1
        show _ = DictEntry.mk (tupleKeyHash (noneKind P w) ((k.map some).map keyO)) (.ref c) (.int v t)
        rw [hash_key, e1]
      · rcases List.mem_cons.mp hy with rfl | hy
        · exact hin c k h3
        · exact q2 y hy
      · rw [List.map_cons, List.map_cons, q3]
      · unfold getT atKey
        rw [List.find?_cons]
        by_cases c1 : k.map some = os
        · rw [if_pos c1, c1]
          have : decide (os.map keyO = os.map keyO) = true := decide_eq_true rfl
          simp only [this]
          exact ⟨t, by rw [e2]; rfl⟩
        · rw [if_neg c1]
          have : decide ((k.map some).map keyO = os.map keyO) = false := decide_eq_false fun z => c1 (keysO_inj z)
          simp only [this]
          exact q4 os
    · cases hh
end
/-- d.get(t), d a written dict with tuples of whole numbers as keys -/
def rGetO (K : PySem.W.Frag) (d : Addr) (kvs : List (List Nat × Nat)) : V → List V → Hp → VK → Prop := fun x xs H Q => ∃ (q : Addr) (os : List (Option Nat)), x = .ref d ∧ xs = [.ref q] ∧ SqT K H q (os.map vG) ∧ Q (vG (getT os kvs)) H
theorem mt_getO {X : Cx} {d : Addr} {kvs : List (List Nat × Nat)} (hu : X.A.units + 1 < cLine) (hD : dTupB X.K d kvs = true) (hn : (kvs.map (·.1)).Nodup) : MtR X "dict.get" (rGetO X.K d kvs) := by
  intro pins s σ H x xs v us Q I rx rs h
  obtain ⟨q0, os, rfl, rfl, hq, q⟩ := h
  cases rx
  obtain ⟨u, rfl, ru⟩ := vals1 rs
  cases ru
  unfold dTupB at hD
  split at hD
  · next s0 es n sl e =>
    rw [Bool.and_eq_true, Bool.and_eq_true, Bool.and_eq_true] at hD
    obtain ⟨⟨⟨h1, h2⟩, h3⟩, h4⟩ := hD
    have es0 : s0 = "dict" := by simpa using h1
    subst es0
    have hsl : sl = #[] := by
      have := eq_of_beq h2
      exact Array.eq_empty_of_size_eq_zero this
    subst hsl
    have low : (d == sysModules) = false := by simpa using h3
    have hin : ∀ (c : Addr) (k : List Nat), tupB X.K c (k.map fun n : Nat => (n : Int)) = true → IsTupleKey (noneKind X.prog X.w) s.heap ((k.map some).map keyO) c := fun c k hc => by
      obtain ⟨its, r, ⟨o, ho, hcl, n, hd⟩, _⟩ := I.tuple (tupB_ok (H := H) hc)
      refine ⟨o, its.toArray, n, ho, hcl, hd, ?_⟩
      have e : (k.map fun n : Nat => (n : Int)).map V.int = (k.map some).map vG := by
        rw [List.map_map, List.map_map]
        rfl
      rw [e] at r
      simpa using items_none r
    obtain ⟨ys, q1, q2, q3, q4⟩ := entTB_ok hin h4
    have dd : s.heap.DictOfH (tupleKind (noneKind X.prog X.w)) d ys := ⟨_, es, n, I.kIn _ _ e, ⟨rfl, rfl, rfl⟩, rfl, q1, q2, by
      rw [q3]
      have : (kvs.map fun p => (p.1.map some).map keyO) = (kvs.map (·.1)).map fun k => (k.map some).map keyO := by rw [List.map_map]; rfl
      rw [this]
      exact hn.map _ fun a b hab z => hab (somes_inj (keysO_inj z))⟩
    have hk : (tupleKind (noneKind X.prog X.w)).is s.heap (os.map keyO) q0 := by
      obtain ⟨its, r, ⟨o, ho, hcl, n, hd⟩, _⟩ := I.tuple hq
      exact ⟨o, its.toArray, n, ho, hcl, hd, by simpa using items_none r⟩
    exact call_meetsIn PySem.F.slot_dict_get dd.typeIs PySem.F.entry_dict_get (PySem.F.args_dict_get_2 _ _) (meetsH_dict_get (tupleKind (noneKind X.prog X.w)) d q0 low) ⟨tupleKind_room_in1 hu, os.map keyO, ys, hk, dd, _, H, I.tok _, q4 os, q⟩
  · cases hD
theorem dTupB_ty {K : PySem.W.Frag} {d : Addr} {kvs : List (List Nat × Nat)} (h : dTupB K d kvs = true) : ∃ o, K.lookup d = some o ∧ o.cls = .type "dict" ∧ o.dict = none := by
  unfold dTupB at h
  split at h
  · next s es n sl e =>
    rw [Bool.and_eq_true, Bool.and_eq_true, Bool.and_eq_true] at h
    have es0 : s = "dict" := by simpa using h.1.1.1
    subst es0
    exact ⟨_, e, rfl, rfl⟩
  · cases h
def tGetO (K : PySem.W.Frag) (d : Addr) (kvs : List (List Nat × Nat)) (to : TE) (t : TA) : TE := fun σ H Q => to σ H fun x H1 => x = .ref d ∧ t σ H1 fun xs H2 => rGetO K d kvs x xs H2 Q
theorem pe_getO {X : Cx} {K : PySem.W.Frag} {d : Addr} {kvs : List (List Nat × Nat)} {o e : Expr} {to : TE} {t : TA} {apos cpos : Pos} (hK : X.K = K) (hu : X.A.units + 65 < cLine) (hD : dTupB K d kvs = true) (hn : (kvs.map (·.1)).Nodup) (ho : PE X o to) (ha : PA X [e] t)
    (hbase : attributeBase o "get" X.env (eval o X.env) = eval o X.env := by rfl)
    (hfew : ((backTo cpos (starEach [e] X.env)).all (fun x => !x.1) && (backToKw cpos (keywordEach [] X.env)).all (fun x => x.1.isSome)
      && decide ([e].length + ([] : List Keyword).length + (if ([] : List Keyword).isEmpty then 0 else 1) < 30)) = true := by rfl)
    (hline : (apos.endLine == cpos.line) = true := by rfl) (hs : starEach [e] X.env = (false, eval e X.env) :: starEach [] X.env := by rfl) (hplain : (backTo cpos (starEach [] X.env)).any (·.1) = false := by rfl) :
    PE X (.Call (.Attribute o "get" apos) [e] [] cpos) (tGetO K d kvs to t) := by
  subst hK
  refine ⟨fun pins s σ H Q I h => ?_⟩
  refine wpAny_Call_method_late hbase hfew hline rfl (thn (ho.run pins s σ H _ I h) fun v s1 ⟨x, H1, I1, r1, ex, q1⟩ => ?_)
  subst ex
  obtain rfl : v = Value.ref d := r1
  obtain ⟨ob, hl, hc, hd⟩ := dTupB_ty hD
  have ho1 := I1.kIn _ _ hl
  refine ⟨"dict", "dict.get", PySem.F.plainAttrs_dict, PySem.F.slot_dict_get, PySem.F.type_dict_get, ⟨ob, ho1, hc⟩, fun a ea => by cases ea; exact ⟨ob, ho1, hd⟩, ?_⟩
  have hA := ha.run cpos pins s1 σ H1 _ I1 q1
  rw [hs] at hA ⊢
  refine Calls.callWith_builtin (by show (false || (backTo cpos (starEach [] X.env)).any (·.1)) = false; rw [hplain] <;> rfl) (Calls.evalArgs_plain ?_)
  exact thn hA fun us s2 ⟨vs, H2, I2, r2, q2⟩ => mt_getO (by omega) hD hn pins s2 σ H2 (.ref d) vs (.ref d) us Q I2 rfl r2 q2
end My

set_option Elab.async false
set_option linter.all false
set_option maxRecDepth 100000
set_option maxHeartbeats 1000000
/-! ### f'{n:b}' -/
namespace My
open PySem PySem.Spec PyProof.Rows L2
open Builtin Builtin.Str Builtin.Int Builtin.Float
def bText (n : Nat) : Str := ⟨((Nat.toDigits 2 n).map Char.toNat).toArray⟩
def bSpec : Str := Str.ofString "b"
theorem parse_b : ∃ f, parseFormatSpec bSpec.cps.toList "int" 62 = .ok f ∧ f.type = some 98 ∧ f.precision = none ∧ f.noNeg0 = false ∧ f.alt = false ∧ f.width = none ∧ f.grouping = none ∧ f.sign = none ∧ f.align = 62 := ⟨_, rfl, rfl, rfl, rfl, rfl, rfl, rfl, rfl, rfl⟩
section
variable {prog : Program} {w : World} {A : Around} {E : Value → Shared → Prop} {s : Shared}
theorem retStr_as {x y : Str} {Q : PySem.Fin → Shared → Prop} (e : x = y) (h : wpAny (model prog w) A (retStr y) Q E s) : wpAny (model prog w) A (retStr x) Q E s := by rw [e]; exact h
theorem formatField_b {n : Nat} {t : Tok} {Q : Value → Shared → Prop} (hz : (bText n).length ≤ sizeLine)
    (h : Q (.str (bText n) (s.toks + 1)) { s with toks := s.toks + 1 + 1 }) : wpAny (model prog w) A (formatField (.int n t) bSpec) Q E s := by
  obtain ⟨f, hp, h1, h2, h3, h4, h5, h6, h7, h8⟩ := parse_b
  show wpAny _ _ (holding [.int n t] (pyFormat (.int n t) bSpec)) Q E s
  refine wpAny_holding ?_
  unfold pyFormat
  refine wpAny_bind (wpAny_mkStr ?_ (by decide))
  refine wpAny_bind (m := callSpecial? (.int n t) (Str.ofString "__format__") [.str bSpec s.toks]) (wpAny_callSpecial?_slot (name := Str.ofString "__format__") (typeIs_int _ _ t) slot_int_format ?_)
  refine wpAny_call (codeAny_call_builtin slot_int_format.plain entry_int_format (slot_int_format.check _ _ _ _ _ _ _ _ (typeIs_int _ _ t) (args_int_format _ _) ?_))
  have hne : (bSpec.length == 0) = false := by decide
  have hasc : ((bSpec.cps.toList.drop 1).any (· ≥ 128) || (bSpec.cps.getD 0 0 ≥ 128 && !([60, 62, 61, 94] : List Nat).contains (bSpec.cps.getD 1 0))) = false := by decide
  unfold Builtin.«int.__format__»
  simp only [selfAndOne, noKeywords, Int.intOfSelf, asInt?, asStr?, List.isEmpty_nil, if_true, pure_bind, bind_pure, bind_assoc, hne, hasc, Bool.false_eq_true, if_false,
    show (Value.str bSpec s.toks == Value.none) = false from rfl]
  refine wpAny_bind (wpAny_typeNameOf (T := "str") (typeIs_str _ _ _) (by decide) fun _ => ?_)
  refine wpAny_bind (wpAny_typeNameOfCut_int ?_)
  simp only [hp, h1, Option.getD_some]
  rw [if_pos (by decide)]
  show wpAny _ _ (if _ then _ else _) _ _ _
  rw [if_neg (by simp [h2])]
  show wpAny _ _ (if _ then _ else _) _ _ _
  rw [if_neg (by simp [h3])]
  show wpAny _ _ (if _ then _ else _) _ _ _
  rw [if_neg (by decide)]
  rw [if_pos (show ((98 : Nat) == 98) = true from rfl)]
  show wpAny _ _ (if ((2 : Nat) == 10) = true then _ else _) _ _ _
  rw [if_neg (by decide)]
  show wpAny _ _ (if f.width.getD 0 > 100000 then _ else _) _ _ _
  rw [if_neg (by rw [h5]; decide)]
  show wpAny _ _ (retStr _) _ _ _
  refine retStr_as (y := bText n) ?_ ?_
  · conv => lhs; whnf
    have hneg : decide ((n : Int) < 0) = false := decide_eq_false (by omega)
    simp only [h4, h5, h6, h7, h8, hneg]
    simp [bText]
    cases instDecidableEqBool (f.align == 60) true <;> simp
  · unfold retStr
    refine wpAny_bind (wpAny_mkStr (wpAny_pure ?_) hz)
    exact wpAny_bind (wpAny_isInstance (typeIs_str _ _ _) isSubtype_str_str (wpAny_pure h))
end
section
variable {X : Cx}
/-- {x:b}, x a whole number not below nought -/
def tFmtB (te : TE) : TE := fun σ H Q => te σ H fun x H1 => ∃ n : Nat, x = .int n ∧ (bText n).length ≤ sizeLine ∧ Q (.str (bText n)) H1
theorem pe_fmtB {e : Expr} {te : TE} {k : Nat} {p2 p3 pos : Pos} (he : PE X e te) : PE X (.FormattedValue e (-1) (some (.JoinedStr [.Constant (.str "b") k p2] p3)) pos) (tFmtB te) := by
  refine ⟨fun pins s σ H Q I h => ?_⟩
  refine wpAny_FormattedValue_spec (thn (he.run pins s σ H _ I h) fun v s1 hv => ?_)
  obtain ⟨x, H1, I1, r1, n, rfl, hz, q⟩ := hv
  obtain ⟨t, rfl⟩ := r1
  refine thn ((pe_joined1 (pe_str (X := X))).run pins s1 σ H1 (fun x H2 => x = .str bSpec ∧ H2 = H1) I1 ⟨rfl, rfl⟩) fun r s2 hr => ?_
  obtain ⟨x2, H2, I2, r2, rfl, rfl⟩ := hr
  obtain ⟨t2, rfl⟩ := r2
  exact ⟨bSpec, t2, rfl, formatField_b hz ⟨.str (bText n), H2, I2.tok _, ⟨_, rfl⟩, q⟩⟩
end
end My

set_option Elab.async false
set_option linter.all false
set_option maxRecDepth 100000
set_option maxHeartbeats 1000000
/-! ### t.count(sign): how often a sign stands in a text -/
namespace My
open PySem PySem.Spec PyProof.Rows L2
open Builtin Builtin.Str StrLaws
theorem sub_at {L : List Nat} {c i : Nat} (h : i < L.length) : subAt ⟨L.toArray⟩ ⟨#[c]⟩ i = decide (L[i] = c) := by
  have e : L.toArray.extract i (i + 1) = #[L[i]] := by
    apply Array.ext
    · simp
      omega
    · intro j h1 h2
      have : j = 0 := by simpa using h2
      subst this
      simp
  show (L.toArray.extract i (i + 1) == #[c]) = _
  rw [e]
  by_cases z : L[i] = c
  · rw [z, decide_eq_true rfl]
    exact beq_self_eq_true _
  · rw [decide_eq_false z, beq_eq_false_iff_ne]
    intro y
    exact z (by simpa using y)
theorem cnt_from (L : List Nat) (c : Nat) : ∀ (k i : Nat) (fnd : Array Nat) (free : Nat), i + k = L.length + 1 → free ≤ i → fnd.size ≤ i →
    (forIn (List.range' i k) (fnd, free) (occBody ⟨L.toArray⟩ ⟨#[c]⟩ L.length (L.length + 1))).run.fst.size = fnd.size + (L.drop i).count c
  | 0, i, fnd, free, h, _, _ => by
    rw [List.drop_eq_nil_of_le (by omega)]
    rfl
  | k + 1, i, fnd, free, h, hf, hs => by
    rw [List.range'_succ, List.forIn_cons]
    have hlen : (⟨#[c]⟩ : Str).length = 1 := rfl
    by_cases hi : i < L.length
    · have hd : L.drop i = L[i] :: L.drop (i + 1) := List.drop_eq_getElem_cons hi
      unfold occBody
      by_cases z : L[i] = c
      · rw [if_pos ⟨⟨⟨by show fnd.size < L.length + 1; omega, hf⟩, by rw [hlen]; omega⟩, by rw [sub_at hi, decide_eq_true z]⟩]
        have ih := cnt_from L c k (i + 1) (fnd.push i) (i + (⟨#[c]⟩ : Str).length) (by omega) (by rw [hlen]; exact Nat.le_refl _) (by rw [Array.size_push]; omega)
        rw [Array.size_push] at ih
        rw [hd, z, List.count_cons_self]
        refine Eq.trans ih ?_
        omega
      · rw [if_neg (fun y => z (by have := y.2; rw [sub_at hi] at this; exact of_decide_eq_true this))]
        have ih := cnt_from L c k (i + 1) fnd free (by omega) (by omega) (by omega)
        rw [hd, List.count_cons_of_ne z]
        exact ih
    · unfold occBody
      rw [if_neg (fun y => hi (by have := y.1.2; rw [hlen] at this; omega))]
      have ih := cnt_from L c k (i + 1) fnd free (by omega) (by omega) (by omega)
      rw [List.drop_eq_nil_of_le (by omega)] at ih ⊢
      exact ih
theorem count_sign (L : List Nat) (c : Nat) : Txt.count ⟨L.toArray⟩ ⟨#[c]⟩ = ((L.count c : Nat) : Int) := by
  show ((occurrences ⟨L.toArray⟩ ⟨#[c]⟩ 0 (Str.length ⟨L.toArray⟩) ((Str.length ⟨L.toArray⟩) + 1)).length : Int) = _
  have hl : Str.length ⟨L.toArray⟩ = L.length := by show L.toArray.size = _; simp
  rw [hl, occ_eq, Array.length_toList]
  have := cnt_from L c (L.length + 1) 0 #[] 0 (by omega) (Nat.le_refl _) (Nat.zero_le _)
  rw [List.drop_zero] at this
  rw [show L.length + 1 - 0 = L.length + 1 from rfl, this]
  simp
/-- how many bits of a number are one -/
def pop (n : Nat) : Nat := ((Nat.toDigits 2 n).map Char.toNat).count 49
theorem ones_b (n : Nat) : Txt.count (bText n) ⟨#[49]⟩ = ((pop n : Nat) : Int) := count_sign _ _
theorem pop_zero : pop 0 = 0 := by decide
theorem pop_one : pop 1 = 1 := by decide
theorem pop_step {n d : Nat} (hn : 0 < n) (hd : d < 2) : pop (2 * n + d) = pop n + d := by
  unfold pop
  rw [← Nat.toDigits_append_toDigits (by decide) hn hd, List.map_append, List.count_append]
  have : d = 0 ∨ d = 1 := by omega
  rcases this with rfl | rfl
  · rfl
  · rfl
theorem pop_rec (n : Nat) : pop n = pop (n / 2) + n % 2 := by
  by_cases h : n < 2
  · have : n = 0 ∨ n = 1 := by omega
    rcases this with rfl | rfl <;> decide
  · have e : 2 * (n / 2) + n % 2 = n := by omega
    have := pop_step (n := n / 2) (d := n % 2) (by omega) (by omega)
    rw [e] at this
    exact this
/-- how many of the first bits are one -/
theorem pop_bits : ∀ (k n : Nat), n < 2 ^ k → pop n = ((List.range k).filter fun i => n.testBit i).length
  | 0, n, h => by
    have : n = 0 := by simpa using h
    subst this
    decide
  | k + 1, n, h => by
    have h2 : n / 2 < 2 ^ k := by rw [Nat.pow_succ] at h; omega
    rw [pop_rec, pop_bits k (n / 2) h2, List.range_succ_eq_map, List.filter_cons]
    have e : ((List.range k).map Nat.succ).filter (fun i => n.testBit i) = ((List.range k).filter fun i => (n / 2).testBit i).map Nat.succ := by
      rw [List.filter_map]
      congr 1
      refine List.filter_congr fun i _ => ?_
      show n.testBit (i + 1) = (n / 2).testBit i
      rw [Nat.testBit_succ]
    rw [e]
    have z : n.testBit 0 = decide (n % 2 = 1) := Nat.testBit_zero n
    rw [z]
    by_cases b : n % 2 = 1
    · rw [if_pos (by simp [b]), List.length_cons, List.length_map, b]
    · have b0 : n % 2 = 0 := by omega
      rw [if_neg (by simp [b0]), List.length_map, b0]; rfl
end My

set_option Elab.async false
set_option linter.all false
set_option maxRecDepth 100000
set_option maxHeartbeats 1000000
/-! ### formats: their words, and how far a strip is from one -/
namespace My
open PySem PySem.Spec PyProof.Rows L2
def fwL : List Nat := [709, 752, 666, 687, 590, 635, 529, 548, 979, 998, 908, 953, 856, 877, 775, 818, 220, 233, 131, 182, 87, 98, 8, 61, 458, 511, 405, 416, 321, 372, 286, 299]
def fwF (i : Nat) : Nat := fwL.getD i 0
theorem fw_lt {i : Nat} : fwF i < 1024 := by
  unfold fwF
  by_cases h : i < 32
  · have q : ((List.range 32).all fun i => decide (fwL.getD i 0 < 1024)) = true := by decide +kernel
    exact of_decide_eq_true (List.all_eq_true.mp q i (List.mem_range.mpr h))
  · rw [List.getD_eq_getElem?_getD, List.getElem?_eq_none (by show 32 ≤ i; omega)]
    decide
/-- the number of bits written one behind the other, the first the highest -/
def stp (a x : Nat) : Nat := 2 * a + x
def foldB (l : List Nat) : Nat := l.foldl stp 0
theorem foldB_snoc (l : List Nat) (x : Nat) : foldB (l ++ [x]) = 2 * foldB l + x := by
  unfold foldB
  rw [List.foldl_append]
  rfl
theorem foldl_lt : ∀ (l : List Nat) (a k : Nat), (∀ x ∈ l, x < 2) → a < 2 ^ k → l.foldl stp a < 2 ^ (k + l.length)
  | [], a, k, _, h => h
  | x :: l, a, k, hb, h => by
    have hx := hb x (List.mem_cons_self ..)
    have := foldl_lt l (stp a x) (k + 1) (fun y hy => hb y (List.mem_cons_of_mem _ hy)) (by unfold stp; rw [Nat.pow_succ]; omega)
    rw [List.foldl_cons, List.length_cons, show k + (l.length + 1) = k + 1 + l.length by omega]
    exact this
theorem foldB_lt {l : List Nat} (h : ∀ x ∈ l, x < 2) : foldB l < 2 ^ l.length := by
  have := foldl_lt l 0 0 h (by decide)
  rw [Nat.zero_add] at this
  exact this
theorem dbl_div {a x : Nat} (h : x < 2) : (2 * a + x) / 2 = a := by omega
theorem dbl_mod {a x : Nat} (h : x < 2) : (2 * a + x) % 2 = x := by omega
theorem dbl_xor {a b x y : Nat} (hx : x < 2) (hy : y < 2) : (2 * a + x) ^^^ (2 * b + y) = 2 * (a ^^^ b) + (x ^^^ y) := by
  have hz : x ^^^ y < 2 := by
    have : x = 0 ∨ x = 1 := by omega
    have : y = 0 ∨ y = 1 := by omega
    rcases ‹x = 0 ∨ x = 1› with rfl | rfl <;> rcases ‹y = 0 ∨ y = 1› with rfl | rfl <;> decide
  refine Nat.eq_of_testBit_eq fun i => ?_
  cases i with
  | zero =>
    rw [Nat.testBit_xor, Nat.testBit_zero, Nat.testBit_zero, Nat.testBit_zero, dbl_mod hx, dbl_mod hy, dbl_mod hz]
    have : x = 0 ∨ x = 1 := by omega
    have : y = 0 ∨ y = 1 := by omega
    rcases ‹x = 0 ∨ x = 1› with rfl | rfl <;> rcases ‹y = 0 ∨ y = 1› with rfl | rfl <;> decide
  | succ i => rw [Nat.testBit_xor, Nat.testBit_succ, Nat.testBit_succ, Nat.testBit_succ, dbl_div hx, dbl_div hy, dbl_div hz, Nat.testBit_xor]
theorem dbl_and {a b x y : Nat} (hx : x < 2) (hy : y < 2) : (2 * a + x) &&& (2 * b + y) = 2 * (a &&& b) + (x &&& y) := by
  have hz : x &&& y < 2 := by
    have : x = 0 ∨ x = 1 := by omega
    have : y = 0 ∨ y = 1 := by omega
    rcases ‹x = 0 ∨ x = 1› with rfl | rfl <;> rcases ‹y = 0 ∨ y = 1› with rfl | rfl <;> decide
  refine Nat.eq_of_testBit_eq fun i => ?_
  cases i with
  | zero =>
    rw [Nat.testBit_and, Nat.testBit_zero, Nat.testBit_zero, Nat.testBit_zero, dbl_mod hx, dbl_mod hy, dbl_mod hz]
    have : x = 0 ∨ x = 1 := by omega
    have : y = 0 ∨ y = 1 := by omega
    rcases ‹x = 0 ∨ x = 1› with rfl | rfl <;> rcases ‹y = 0 ∨ y = 1› with rfl | rfl <;> decide
  | succ i => rw [Nat.testBit_and, Nat.testBit_succ, Nat.testBit_succ, Nat.testBit_succ, dbl_div hx, dbl_div hy, dbl_div hz, Nat.testBit_and]
def darkF (cs : List (Option Nat)) : Nat := foldB (cs.map fun o => o.getD 0)
def seenF (cs : List (Option Nat)) : Nat := foldB (cs.map fun o => if o.isSome = true then 1 else 0)
/-- how many of the told dots are not as the bits say -/
def wrongF (bits : List Nat) (cs : List (Option Nat)) : Nat := ((bits.zip cs).filter fun p => decide (p.2 = some (1 - p.1))).length
theorem wrong_acc : ∀ (bits : List Nat) (cs : List (Option Nat)) (A D S : Nat), bits.length = cs.length → (∀ x ∈ bits, x < 2) → (∀ o ∈ cs, DotOk o) →
    pop ((bits.foldl stp A ^^^ (cs.map fun o => o.getD 0).foldl stp D) &&& (cs.map fun o => if o.isSome = true then 1 else 0).foldl stp S) = pop ((A ^^^ D) &&& S) + wrongF bits cs
  | [], [], A, D, S, _, _, _ => rfl
  | [], _ :: _, _, _, _, h, _, _ => by simp at h
  | _ :: _, [], _, _, _, h, _, _ => by simp at h
  | x :: bits, o :: cs, A, D, S, hl, hb, hc => by
    have hx := hb x (List.mem_cons_self ..)
    have ho := hc o (List.mem_cons_self ..)
    have hd : o.getD 0 < 2 := by rcases ho with rfl | rfl | rfl <;> decide
    have hs : (if o.isSome = true then 1 else 0) < 2 := by split <;> decide
    rw [List.map_cons, List.map_cons, List.foldl_cons, List.foldl_cons, List.foldl_cons]
    rw [wrong_acc bits cs _ _ _ (by simpa using hl) (fun y hy => hb y (List.mem_cons_of_mem _ hy)) (fun y hy => hc y (List.mem_cons_of_mem _ hy))]
    have hz : x ^^^ o.getD 0 < 2 := by
      have : x = 0 ∨ x = 1 := by omega
      rcases this with rfl | rfl <;> rcases ho with rfl | rfl | rfl <;> decide
    have hw : (x ^^^ o.getD 0) &&& (if o.isSome = true then 1 else 0) < 2 ∧ (x ^^^ o.getD 0) &&& (if o.isSome = true then 1 else 0) = (if decide (o = some (1 - x)) = true then 1 else 0) := by
      have : x = 0 ∨ x = 1 := by omega
      rcases this with rfl | rfl <;> rcases ho with rfl | rfl | rfl <;> decide
    unfold stp
    rw [dbl_xor hx hd, dbl_and hz hs, pop_rec, dbl_div hw.1, dbl_mod hw.1, hw.2]
    unfold wrongF
    rw [List.zip_cons_cons, List.filter_cons]
    by_cases e : o = some (1 - x)
    · rw [if_pos (decide_eq_true e), if_pos (decide_eq_true e), List.length_cons]
      omega
    · rw [if_neg (by simp [e]), if_neg (by simp [e]), Nat.add_zero]
theorem wrong_eq {bits : List Nat} {cs : List (Option Nat)} (hl : bits.length = cs.length) (hb : ∀ x ∈ bits, x < 2) (hc : ∀ o ∈ cs, DotOk o) :
    pop ((foldB bits ^^^ darkF cs) &&& seenF cs) = wrongF bits cs := by
  have := wrong_acc bits cs 0 0 0 hl hb hc
  rw [show pop ((0 ^^^ 0) &&& 0) = 0 from pop_zero, Nat.zero_add] at this
  exact this
/-- a format's bits, as its word says them -/
def fbits (i : Nat) : List Nat := (List.range 10).map fun k => fwF i / 2 ^ (9 - k) % 2
theorem fbits_len (i : Nat) : (fbits i).length = 10 := by
  unfold fbits
  rw [List.length_map, List.length_range]
theorem fbits_lt {i : Nat} : ∀ x ∈ fbits i, x < 2 := by
  intro x h
  obtain ⟨k, _, rfl⟩ := List.mem_map.mp h
  exact Nat.mod_lt _ (by decide)
theorem all32 {P : Nat → Bool} (h : ((List.range 32).all P) = true) {m : Nat} (hm : m < 32) : P m = true := List.all_eq_true.mp h m (List.mem_range.mpr hm)
theorem fbits_word {i : Nat} (h : i < 32) : foldB (fbits i ++ fbits i) = (fwF i * 2 ^ 10) ^^^ fwF i :=
  of_decide_eq_true (all32 (P := fun i => decide (foldB (fbits i ++ fbits i) = (fwF i * 2 ^ 10) ^^^ fwF i)) (by decide +kernel) h)
/-- how far dots are from a format -/
def farF (d s i : Nat) : Nat := pop ((((fwF i * 2 ^ 10) ^^^ fwF i) ^^^ d) &&& s)
theorem far_wrong {cs : List (Option Nat)} {i : Nat} (hl : cs.length = 20) (hc : ∀ o ∈ cs, DotOk o) (hi : i < 32) : farF (darkF cs) (seenF cs) i = wrongF (fbits i ++ fbits i) cs := by
  unfold farF
  rw [← fbits_word hi]
  refine wrong_eq (by rw [List.length_append, fbits_len, hl]) (fun x hx => ?_) hc
  rcases List.mem_append.mp hx with h | h
  · exact fbits_lt x h
  · exact fbits_lt x h
theorem dark_lt {cs : List (Option Nat)} (hl : cs.length = 20) (hc : ∀ o ∈ cs, DotOk o) : darkF cs < 2 ^ 20 := by
  have := foldB_lt (l := cs.map fun o => o.getD 0) (fun x hx => by
    obtain ⟨o, ho, rfl⟩ := List.mem_map.mp hx
    rcases hc o ho with rfl | rfl | rfl <;> decide)
  rw [List.length_map, hl] at this
  exact this
theorem seen_lt {cs : List (Option Nat)} (hl : cs.length = 20) : seenF cs < 2 ^ 20 := by
  have := foldB_lt (l := cs.map fun o => if o.isSome = true then 1 else 0) (fun x hx => by
    obtain ⟨o, ho, rfl⟩ := List.mem_map.mp hx
    split <;> decide)
  rw [List.length_map, hl] at this
  exact this
/-! ### the nearest format -/
def toldF (fs : List Nat) : Option (Nat × Nat) := match fs.min? with
  | some m => if fs.count m = 1 then some (fs.idxOf m, m) else none
  | none => none
def farsF (d s : Nat) : List Nat := (List.range 32).map (farF d s)
theorem fars_len (d s : Nat) : (farsF d s).length = 32 := by
  unfold farsF
  rw [List.length_map, List.length_range]
theorem fars_at {d s i : Nat} (h : i < 32) : (farsF d s)[i]? = some (farF d s i) := by
  unfold farsF
  rw [List.getElem?_map, List.getElem?_range h]
  rfl
theorem fars_min (d s : Nat) : ∃ m, (farsF d s).min? = some m ∧ m ∈ farsF d s ∧ ∀ y ∈ farsF d s, m ≤ y := by
  cases e : (farsF d s).min? with
  | none =>
    have := List.min?_eq_none_iff.mp e
    have l := fars_len d s
    rw [this] at l
    cases l
  | some m =>
    have := List.min?_eq_some_iff.mp e
    exact ⟨m, rfl, this.1, this.2⟩
/-- counting bits with fuel -/
def popK : Nat → Nat → Nat
  | 0, _ => 0
  | k + 1, n => popK k (n / 2) + n % 2
theorem pop_K : ∀ (k n : Nat), n < 2 ^ k → pop n = popK k n
  | 0, n, h => by
    have : n = 0 := by simpa using h
    subst this
    exact pop_zero
  | k + 1, n, h => by
    rw [pop_rec, pop_K k (n / 2) (by rw [Nat.pow_succ] at h; omega)]
    rfl
theorem far_K {d s i : Nat} (hs : s < 2 ^ 20) : farF d s i = popK 20 ((((fwF i * 2 ^ 10) ^^^ fwF i) ^^^ d) &&& s) := pop_K 20 _ (Nat.lt_of_le_of_lt Nat.and_le_right hs)
theorem fars_K {d s : Nat} (hs : s < 2 ^ 20) : farsF d s = (List.range 32).map fun i => popK 20 ((((fwF i * 2 ^ 10) ^^^ fwF i) ^^^ d) &&& s) := List.map_congr_left fun i _ => far_K hs
theorem fw_or {i : Nat} (h : i < 32) : (fwF i * 2 ^ 10) ||| fwF i = (fwF i * 2 ^ 10) ^^^ fwF i :=
  of_decide_eq_true (all32 (P := fun i => decide ((fwF i * 2 ^ 10) ||| fwF i = (fwF i * 2 ^ 10) ^^^ fwF i)) (by decide +kernel) h)
/-- a strip that is a format's is told so -/
theorem told_whole {i : Nat} (h : i < 32) : toldF (farsF ((fwF i * 2 ^ 10) ||| fwF i) 1048575) = some (i, 0) := by
  rw [fars_K (by decide)]
  exact of_decide_eq_true (all32 (P := fun i => decide (toldF ((List.range 32).map fun j => popK 20 ((((fwF j * 2 ^ 10) ^^^ fwF j) ^^^ ((fwF i * 2 ^ 10) ||| fwF i)) &&& 1048575)) = some (i, 0))) (by decide +kernel) h)
def apartF (a b : List Nat) : Nat := ((a.zip b).filter fun p => p.1 != p.2).length
theorem apart_le : ∀ (a b : List Nat) (cs : List (Option Nat)), a.length = cs.length → b.length = cs.length → (∀ x ∈ a, x < 2) → (∀ x ∈ b, x < 2) → (∀ o ∈ cs, o = some 0 ∨ o = some 1) → apartF a b ≤ wrongF a cs + wrongF b cs
  | [], _, _, _, _, _, _, _ => Nat.zero_le _
  | x :: a, [], [], h, _, _, _, _ => by simp at h
  | x :: a, y :: b, [], h, _, _, _, _ => by simp at h
  | x :: a, [], o :: cs, _, h, _, _, _ => by simp at h
  | x :: a, y :: b, o :: cs, h1, h2, h3, h4, h5 => by
    have ih := apart_le a b cs (by simpa using h1) (by simpa using h2) (fun z hz => h3 z (List.mem_cons_of_mem _ hz)) (fun z hz => h4 z (List.mem_cons_of_mem _ hz)) (fun z hz => h5 z (List.mem_cons_of_mem _ hz))
    have hx := h3 x (List.mem_cons_self ..)
    have hy := h4 y (List.mem_cons_self ..)
    unfold apartF wrongF at ih ⊢
    rw [List.zip_cons_cons, List.zip_cons_cons, List.zip_cons_cons, List.filter_cons, List.filter_cons, List.filter_cons]
    have : x = 0 ∨ x = 1 := by omega
    have : y = 0 ∨ y = 1 := by omega
    rcases ‹x = 0 ∨ x = 1› with rfl | rfl <;> rcases ‹y = 0 ∨ y = 1› with rfl | rfl <;> rcases h5 o (List.mem_cons_self ..) with rfl | rfl <;> simp <;> omega
theorem apart8 {i j : Nat} (hi : i < 32) (hj : j < 32) (h : i ≠ j) : 8 ≤ apartF (fbits i ++ fbits i) (fbits j ++ fbits j) := by
  have := of_decide_eq_true (List.all_eq_true.mp (all32 (P := fun i => (List.range 32).all fun j => decide (i = j ∨ 8 ≤ apartF (fbits i ++ fbits i) (fbits j ++ fbits j))) (by decide +kernel) hi) j (List.mem_range.mpr hj))
  exact this.resolve_left h
theorem idx_of {fs : List Nat} {i m : Nat} (h : fs[i]? = some m) (o : ∀ j, j < i → fs[j]? ≠ some m) : fs.idxOf m = i := by
  have hi := (List.getElem?_eq_some_iff.mp h).1
  have hm : m ∈ fs := List.mem_iff_getElem?.mpr ⟨i, h⟩
  have hl := List.idxOf_lt_length_of_mem hm
  have e := List.getElem_idxOf hl
  rcases Nat.lt_trichotomy (fs.idxOf m) i with c | c | c
  · exact absurd (List.getElem?_eq_some_iff.mpr ⟨hl, e⟩) (o _ c)
  · exact c
  · have := List.not_of_lt_findIdx c
    have e2 := (List.getElem?_eq_some_iff.mp h).2
    simp [e2] at this
theorem count_one {fs : List Nat} {i m : Nat} (h : fs[i]? = some m) (o : ∀ j, j ≠ i → fs[j]? ≠ some m) : fs.count m = 1 := by
  have hi := (List.getElem?_eq_some_iff.mp h).1
  have e : fs = fs.take i ++ m :: fs.drop (i + 1) := by
    rw [← (List.getElem?_eq_some_iff.mp h).2, ← List.drop_eq_getElem_cons hi, List.take_append_drop]
  have z1 : (fs.take i).count m = 0 := List.count_eq_zero.mpr fun hm => by
    obtain ⟨j, hj⟩ := List.mem_iff_getElem?.mp hm
    have hl := (List.getElem?_eq_some_iff.mp hj).1
    rw [List.length_take] at hl
    rw [List.getElem?_take_of_lt (by omega)] at hj
    exact o j (by omega) hj
  have z2 : (fs.drop (i + 1)).count m = 0 := List.count_eq_zero.mpr fun hm => by
    obtain ⟨j, hj⟩ := List.mem_iff_getElem?.mp hm
    rw [List.getElem?_drop] at hj
    exact o _ (by omega) hj
  rw [e, List.count_append, List.count_cons_self, z1, z2]
/-- a whole strip with less than four lies is told as it was -/
theorem told_lies {cs : List (Option Nat)} {i k : Nat} (hl : cs.length = 20) (hc : ∀ o ∈ cs, o = some 0 ∨ o = some 1) (hi : i < 32) (hw : wrongF (fbits i ++ fbits i) cs = k) (hk : k < 4) : toldF (farsF (darkF cs) (seenF cs)) = some (i, k) := by
  have dok : ∀ o ∈ cs, DotOk o := fun o ho => by
    rcases hc o ho with rfl | rfl
    · exact .inr (.inl rfl)
    · exact .inr (.inr rfl)
  have lt2 : ∀ j, ∀ x ∈ fbits j ++ fbits j, x < 2 := fun j x hx => by
    rcases List.mem_append.mp hx with h | h
    · exact fbits_lt x h
    · exact fbits_lt x h
  have l20 : ∀ j, (fbits j ++ fbits j).length = cs.length := fun j => by rw [List.length_append, fbits_len, hl]
  have hi' : (farsF (darkF cs) (seenF cs))[i]? = some k := by rw [fars_at hi, far_wrong hl dok hi, hw]
  have hj' : ∀ j, j ≠ i → ∀ y, (farsF (darkF cs) (seenF cs))[j]? = some y → k < y := fun j hj y hy => by
    have j32 : j < 32 := by
      have := (List.getElem?_eq_some_iff.mp hy).1
      rw [fars_len] at this
      exact this
    rw [fars_at j32, far_wrong hl dok j32] at hy
    have h8 := apart8 hi j32 (fun e => hj e.symm)
    have hle := apart_le _ _ cs (l20 i) (l20 j) (lt2 i) (lt2 j) hc
    rw [hw] at hle
    have := Option.some.inj hy
    omega
  have hm : (farsF (darkF cs) (seenF cs)).min? = some k := List.min?_eq_some_iff.mpr ⟨List.mem_iff_getElem?.mpr ⟨i, hi'⟩, fun y hy => by
    obtain ⟨j, e⟩ := List.mem_iff_getElem?.mp hy
    by_cases c : j = i
    · subst c
      rw [hi'] at e
      exact Nat.le_of_eq (Option.some.inj e)
    · exact Nat.le_of_lt (hj' j c y e)⟩
  have other : ∀ j, j ≠ i → (farsF (darkF cs) (seenF cs))[j]? ≠ some k := fun j c e => Nat.lt_irrefl _ (hj' j c k e)
  unfold toldF
  rw [hm]
  show (if _ then _ else _) = _
  rw [if_pos (count_one hi' other), idx_of hi' fun j hj => other j (by omega)]
end My

set_option Elab.async false
set_option linter.all false
set_option maxRecDepth 100000
set_option maxHeartbeats 1000000
/-! ### words read from dots, gaps among them -/
namespace My
open PySem PySem.Spec PyProof.Rows L2
/-- the word of some dots, none where one is not told -/
def wordO (l : List (Option Nat)) : Option Nat := if l.all Option.isSome = true then some (foldB (l.map fun o => o.getD 0)) else none
def partO (os : List (Option Nat)) (b i : Nat) : List (Option Nat) := (os.drop (b * i)).take b
def heardF (b : Nat) (os : List (Option Nat)) : List (Option Nat) := (List.range (os.length / b)).map fun i => wordO (partO os b i)
def quadsT : List (List Nat × Nat) := [([0, 0, 0, 0], 0), ([0, 0, 0, 1], 1), ([0, 0, 1, 0], 2), ([0, 0, 1, 1], 3), ([0, 1, 0, 0], 4), ([0, 1, 0, 1], 5), ([0, 1, 1, 0], 6), ([0, 1, 1, 1], 7), ([1, 0, 0, 0], 8), ([1, 0, 0, 1], 9), ([1, 0, 1, 0], 10), ([1, 0, 1, 1], 11), ([1, 1, 0, 0], 12), ([1, 1, 0, 1], 13), ([1, 1, 1, 0], 14), ([1, 1, 1, 1], 15)]
theorem dot_mem {o : Option Nat} (h : DotOk o) : o ∈ [none, some 0, some 1] := by
  rcases h with rfl | rfl | rfl <;> decide
theorem quad_get {a b c d : Option Nat} (ha : DotOk a) (hb : DotOk b) (hc : DotOk c) (hd : DotOk d) : getT [a, b, c, d] quadsT = wordO [a, b, c, d] := by
  rcases ha with rfl | rfl | rfl <;> rcases hb with rfl | rfl | rfl <;> rcases hc with rfl | rfl | rfl <;> rcases hd with rfl | rfl | rfl <;> decide +kernel
theorem four {α : Type} {l : List α} (h : l.length = 4) : ∃ a b c d, l = [a, b, c, d] := by
  match l, h with
  | [a, b, c, d], _ => exact ⟨a, b, c, d, rfl⟩
theorem quad_word {l : List (Option Nat)} (h : l.length = 4) (hd : ∀ o ∈ l, DotOk o) : getT l quadsT = wordO l := by
  obtain ⟨a, b, c, d, rfl⟩ := four h
  exact quad_get (hd _ (by simp)) (hd _ (by simp)) (hd _ (by simp)) (hd _ (by simp))
theorem part_len {os : List (Option Nat)} {b n i : Nat} (hl : os.length = b * n) (hi : i < n) : (partO os b i).length = b := by
  unfold partO
  rw [List.length_take, List.length_drop, hl]
  have : b * (i + 1) ≤ b * n := Nat.mul_le_mul_left b hi
  rw [Nat.mul_succ] at this
  omega
theorem part_at {os : List (Option Nat)} {b i j : Nat} (hj : j < b) : (partO os b i)[j]? = os[b * i + j]? := by
  unfold partO
  rw [List.getElem?_take_of_lt hj, List.getElem?_drop]
theorem part_dot {os : List (Option Nat)} {b i : Nat} (hd : ∀ o ∈ os, DotOk o) : ∀ o ∈ partO os b i, DotOk o := fun o ho => hd o (List.mem_of_mem_drop (List.mem_of_mem_take ho))
theorem foldl_app (l : List Nat) : ∀ a : Nat, l.foldl stp a = a * 2 ^ l.length + l.foldl stp 0 := by
  induction l with
  | nil => intro a; simp
  | cons x l ih =>
    intro a
    rw [List.foldl_cons, List.foldl_cons, ih (stp a x), ih (stp 0 x), List.length_cons]
    unfold stp
    rw [Nat.pow_succ, Nat.add_mul, Nat.mul_zero, Nat.zero_add, Nat.mul_comm 2 a, Nat.mul_assoc, Nat.mul_comm 2]
    omega
theorem foldB_app (a b : List Nat) : foldB (a ++ b) = foldB a * 2 ^ b.length + foldB b := by
  unfold foldB
  rw [List.foldl_append, foldl_app b]
def joinO : Option Nat → Option Nat → Nat → Option Nat
  | some x, some y, b => some (x * 2 ^ b + y)
  | _, _, _ => none
theorem word_app (a b : List (Option Nat)) : wordO (a ++ b) = joinO (wordO a) (wordO b) b.length := by
  unfold wordO
  rw [List.all_append, List.map_append, foldB_app, List.length_map]
  cases h1 : a.all Option.isSome <;> cases h2 : b.all Option.isSome <;> rfl
theorem or16 {x y : Nat} (hx : x < 2 ^ 4) (hy : y < 2 ^ 4) : Builtin.bitOr ((x : Int) * 2 ^ (4 : Int).toNat) (y : Int) = ((x * 2 ^ 4 + y : Nat) : Int) := by
  have q : ((List.range 16).all fun x => (List.range 16).all fun y => decide (Builtin.bitOr ((x : Int) * 2 ^ (4 : Int).toNat) (y : Int) = ((x * 2 ^ 4 + y : Nat) : Int))) = true := by decide +kernel
  exact of_decide_eq_true (List.all_eq_true.mp (List.all_eq_true.mp q x (List.mem_range.mpr hx)) y (List.mem_range.mpr hy))
theorem word_lt {l : List (Option Nat)} (hd : ∀ o ∈ l, DotOk o) {x : Nat} (h : wordO l = some x) : x < 2 ^ l.length := by
  unfold wordO at h
  split at h
  · cases h
    have := foldB_lt (l := l.map fun o => o.getD 0) fun x hx => by
      obtain ⟨o, ho, rfl⟩ := List.mem_map.mp hx
      rcases hd o ho with rfl | rfl | rfl <;> decide
    rw [List.length_map] at this
    exact this
  · cases h
/-- a part of twice the width is two parts -/
theorem part_two {os : List (Option Nat)} {b i : Nat} : partO os (2 * b) i = partO os b (2 * i) ++ partO os b (2 * i + 1) := by
  unfold partO
  rw [show 2 * b = b + b by omega, List.take_add, List.drop_drop]
  congr 2
  · rw [show (b + b) * i = b * (2 * i) by rw [Nat.add_mul, Nat.two_mul, Nat.mul_add]]
  · rw [show (b + b) * i + b = b * (2 * i + 1) by rw [Nat.add_mul, Nat.mul_succ, Nat.two_mul, Nat.mul_add]]
theorem heard_len {b n : Nat} {os : List (Option Nat)} (hb : 0 < b) (h : os.length = b * n) : (heardF b os).length = n := by
  unfold heardF
  rw [List.length_map, List.length_range, h, Nat.mul_div_cancel_left n hb]
theorem heard_at {b n i : Nat} {os : List (Option Nat)} (hb : 0 < b) (h : os.length = b * n) (hi : i < n) : (heardF b os)[i]? = some (wordO (partO os b i)) := by
  unfold heardF
  rw [List.getElem?_map, h, Nat.mul_div_cancel_left n hb, List.getElem?_range hi]
  rfl
/-- a stride of a list of n parts of c -/
def strG (n j c : Nat) : Bool := strI (c * n) (j : Int) (c : Int) == (List.range n).map fun i => c * i + j
theorem stride_is {α : Type} {xs : List α} {n j c : Nat} (hl : xs.length = c * n) (hs : strG n j c = true) (hj : j < c) : (strideL xs (j : Int) (c : Int)).length = n ∧ ∀ i, i < n → (strideL xs (j : Int) (c : Int))[i]? = xs[c * i + j]? := by
  have e : strI xs.length (j : Int) (c : Int) = (List.range n).map fun i => c * i + j := by rw [hl]; exact eq_of_beq hs
  have hin : ∀ i, i < n → c * i + j < xs.length := fun i hi => by
    rw [hl]
    have : c * (i + 1) ≤ c * n := Nat.mul_le_mul_left c hi
    rw [Nat.mul_succ] at this
    omega
  have e2 : (strideL xs (j : Int) (c : Int)).map some = (List.range n).map fun i => xs[c * i + j]? := by
    unfold strideL
    rw [e, List.filterMap_map]
    have : ∀ l : List Nat, (∀ i ∈ l, i < n) → (l.filterMap ((xs[·]?) ∘ fun i => c * i + j)).map some = l.map fun i => xs[c * i + j]? := by
      intro l
      induction l with
      | nil => intro _; rfl
      | cons i l ih =>
        intro h
        have h1 := hin i (h i (by simp))
        have h2 := ih fun k hk => h k (List.mem_cons_of_mem _ hk)
        have h3 : xs[c * i + j]? = some (xs[c * i + j]'h1) := List.getElem?_eq_getElem h1
        rw [List.filterMap_cons]
        simp only [Function.comp, h3]
        rw [List.map_cons, List.map_cons, h3]
        congr 1
    exact this _ fun i hi => List.mem_range.mp hi
  have hlen : (strideL xs (j : Int) (c : Int)).length = n := by
    have := congrArg List.length e2
    rw [List.length_map, List.length_map, List.length_range] at this
    exact this
  refine ⟨hlen, fun i hi => ?_⟩
  have := congrArg (fun l => l[i]?) e2
  simp only [List.getElem?_map, List.getElem?_range hi, Option.map_some] at this
  rw [List.getElem?_eq_getElem (by omega)] at this ⊢
  exact Option.some.inj this
theorem dRow_dp {K : PySem.W.Frag} {H : Hp} {a : Addr} {os : List (Option Nat)} (h : SqL K H a (os.map vG)) : Dp K H (.ref a) (dRow os) := .lst h (dG_all os)
theorem dRow_shaped (os : List (Option Nat)) : SeqAt.shaped (dRow os) = true := by
  unfold SeqAt.shaped
  have h1 : (dRow os).canLay0 = true := dG_lay os
  have h2 : (dRow os).depth ≤ 64 := by
    show PyData.depthAll (os.map dG) + 1 ≤ 64
    rw [dG_depth os]
    decide
  rw [h1, Bool.true_and]
  exact decide_eq_true h2
theorem dRow_eq (os : List (Option Nat)) : PyData.eqv (dRow os) (dRow os) = true := SeqAt.eqv_refl _ (dG_lay os)
theorem words_reprs {K : PySem.W.Frag} {H : Hp} {a : Addr} {ws : List Nat} (h : SqL K H a (ws.map vN)) (hw : ∀ x ∈ ws, x < 256) (hl : ws.length ≤ 58) :
    Dp K H (.ref a) (dRow (ws.map some)) ∧ (dRow (ws.map some)).showable = true ∧ (dRow (ws.map some)).hasDict = false ∧ (dRow (ws.map some)).depth ≤ 60 ∧ (dRow (ws.map some)).shown.length ≤ sizeLine := by
  have e : ws.map vN = (ws.map some).map vG := by
    rw [List.map_map]
    rfl
  rw [e] at h
  refine ⟨dRow_dp h, dRow_show ws hw, dRow_dict _, ?_, ?_⟩
  · show PyData.depthAll ((ws.map some).map dG) + 1 ≤ 60
    rw [dG_depth]
    decide
  · have e2 : PyData.shown (dRow (ws.map some)) = listText (((ws.map some).map dG).map PyData.shown) := by
      rw [← shownAll_map]
      rfl
    rw [e2]
    have l2 := list_le (ts := ((ws.map some).map dG).map PyData.shown) (m := 3) fun t ht => by
      obtain ⟨d, hd, rfl⟩ := List.mem_map.mp ht
      obtain ⟨o, ho, rfl⟩ := List.mem_map.mp hd
      obtain ⟨x, hx, rfl⟩ := List.mem_map.mp ho
      exact int_shown (hw x hx)
    rw [List.length_map, List.length_map, List.length_map] at l2
    exact Nat.le_of_lt (small1000 (by omega))
theorem sl_listK {X : Cx} {K : PySem.W.Frag} (h : X.K = K) : SlR X (rSlL K) := by
  subst h
  exact sl_list
end My

set_option Elab.async false
set_option linter.all false
set_option maxRecDepth 100000
set_option maxHeartbeats 4000000
namespace My
open PySem PySem.Spec PyProof.Rows L2
def topS (i : Nat) : Stmt := PySem.Challenge.pw_dotquilts_k38_whole_symbols_of_data_word.main.body.getD i (.Pass ⟨0, 0, 0, 0⟩)
abbrev s_is_number : Stmt := topS 9
theorem sc_is_number : FnScope ["thing"] ["thing"] (defScope s_is_number) := ⟨rfl, rfl, rfl, by decide +kernel, rfl, by decide +kernel, by decide +kernel⟩
abbrev s_is_number_to : Stmt := topS 10
theorem sc_is_number_to : FnScope ["thing", "least", "most"] ["thing", "least", "most"] (defScope s_is_number_to) := ⟨rfl, rfl, rfl, by decide +kernel, rfl, by decide +kernel, by decide +kernel⟩
abbrev s_is_word : Stmt := topS 29
theorem sc_is_word : FnScope ["bits", "thing"] ["bits", "thing"] (defScope s_is_word) := ⟨rfl, rfl, rfl, by decide +kernel, rfl, by decide +kernel, by decide +kernel⟩
abbrev s_is_row : Stmt := topS 13
theorem sc_is_row : FnScope ["thing"] ["thing"] (defScope s_is_row) := ⟨rfl, rfl, rfl, by decide +kernel, rfl, by decide +kernel, by decide +kernel⟩
abbrev s_are_plain_words : Stmt := topS 12
theorem sc_are_plain_words : FnScope ["bits", "things", "thing"] ["bits", "things"] (defScope s_are_plain_words) := ⟨rfl, rfl, rfl, by decide +kernel, rfl, by decide +kernel, by decide +kernel⟩
abbrev s_need_words : Stmt := topS 30
theorem sc_need_words : FnScope ["bits", "part", "words", "at", "word"] ["bits", "part", "words"] (defScope s_need_words) := ⟨rfl, rfl, rfl, by decide +kernel, rfl, by decide +kernel, by decide +kernel⟩
abbrev s_Field___init__ : Stmt := inClass (topS 28) 0
theorem sc_Field___init__ : FnScope ["self", "bits"] ["self", "bits"] (defScope s_Field___init__) := ⟨rfl, rfl, rfl, by decide +kernel, rfl, by decide +kernel, by decide +kernel⟩
abbrev s_Field_multiple : Stmt := inClass (topS 28) 4
theorem sc_Field_multiple : FnScope ["self", "words", "factor", "powers", "exponents", "shift", "word"] ["self", "words", "factor"] (defScope s_Field_multiple) := ⟨rfl, rfl, rfl, by decide +kernel, rfl, by decide +kernel, by decide +kernel⟩
abbrev s_Field_two_to : Stmt := inClass (topS 28) 1
theorem sc_Field_two_to : FnScope ["self", "times"] ["self", "times"] (defScope s_Field_two_to) := ⟨rfl, rfl, rfl, by decide +kernel, rfl, by decide +kernel, by decide +kernel⟩
abbrev s_Field_times : Stmt := inClass (topS 28) 2
theorem sc_Field_times : FnScope ["self", "one", "other"] ["self", "one", "other"] (defScope s_Field_times) := ⟨rfl, rfl, rfl, by decide +kernel, rfl, by decide +kernel, by decide +kernel⟩
abbrev s_check_factor : Stmt := topS 93
theorem sc_check_factor : FnScope ["field", "many", "start", "found", "exponent", "step", "upper", "lower"] ["field", "many", "start"] (defScope s_check_factor) := ⟨rfl, rfl, rfl, by decide +kernel, rfl, by decide +kernel, by decide +kernel⟩
abbrev s_next_rest : Stmt := topS 94
theorem sc_next_rest : FnScope ["field", "factor", "rest", "word", "share", "one", "other"] ["field", "factor", "rest", "word"] (defScope s_next_rest) := ⟨rfl, rfl, rfl, by decide +kernel, rfl, by decide +kernel, by decide +kernel⟩
abbrev s_with_checks : Stmt := topS 95
theorem sc_with_checks : FnScope ["field", "many", "start", "words", "factor", "rest", "word"] ["field", "many", "start", "words"] (defScope s_with_checks) := ⟨rfl, rfl, rfl, by decide +kernel, rfl, by decide +kernel, by decide +kernel⟩
abbrev s_is_code : Stmt := topS 98
theorem sc_is_code : FnScope ["code", "bits", "many", "start"] ["code"] (defScope s_is_code) := ⟨rfl, rfl, rfl, by decide +kernel, rfl, by decide +kernel, by decide +kernel⟩
abbrev s_need_code : Stmt := topS 99
theorem sc_need_code : FnScope ["code"] ["code"] (defScope s_need_code) := ⟨rfl, rfl, rfl, by decide +kernel, rfl, by decide +kernel, by decide +kernel⟩
abbrev s_most_words : Stmt := topS 100
theorem sc_most_words : FnScope ["bits"] ["bits"] (defScope s_most_words) := ⟨rfl, rfl, rfl, by decide +kernel, rfl, by decide +kernel, by decide +kernel⟩
abbrev s_is_length : Stmt := topS 101
theorem sc_is_length : FnScope ["code", "length", "bits", "many", "_"] ["code", "length"] (defScope s_is_length) := ⟨rfl, rfl, rfl, by decide +kernel, rfl, by decide +kernel, by decide +kernel⟩
abbrev s_check_words : Stmt := topS 103
theorem sc_check_words : FnScope ["code", "words", "bits", "many", "start"] ["code", "words"] (defScope s_check_words) := ⟨rfl, rfl, rfl, by decide +kernel, rfl, by decide +kernel, by decide +kernel⟩
abbrev s_value_at : Stmt := topS 31
theorem sc_value_at : FnScope ["field", "words", "at", "powers", "exponents", "shift", "total", "word"] ["field", "words", "at"] (defScope s_value_at) := ⟨rfl, rfl, rfl, by decide +kernel, rfl, by decide +kernel, by decide +kernel⟩
abbrev s_sums_of : Stmt := topS 33
theorem sc_sums_of : FnScope ["field", "many", "start", "row", "step"] ["field", "many", "start", "row"] (defScope s_sums_of) := ⟨rfl, rfl, rfl, by decide +kernel, rfl, by decide +kernel, by decide +kernel⟩
abbrev s_need_row : Stmt := topS 102
theorem sc_need_row : FnScope ["code", "row"] ["code", "row"] (defScope s_need_row) := ⟨rfl, rfl, rfl, by decide +kernel, rfl, by decide +kernel, by decide +kernel⟩
abbrev s_syndromes : Stmt := topS 104
theorem sc_syndromes : FnScope ["code", "row", "bits", "many", "start"] ["code", "row"] (defScope s_syndromes) := ⟨rfl, rfl, rfl, by decide +kernel, rfl, by decide +kernel, by decide +kernel⟩
abbrev s_is_right : Stmt := topS 105
theorem sc_is_right : FnScope ["code", "row"] ["code", "row"] (defScope s_is_right) := ⟨rfl, rfl, rfl, by decide +kernel, rfl, by decide +kernel, by decide +kernel⟩
abbrev s_need_size : Stmt := topS 43
theorem sc_need_size : FnScope ["size"] ["size"] (defScope s_need_size) := ⟨rfl, rfl, rfl, by decide +kernel, rfl, by decide +kernel, by decide +kernel⟩
abbrev s_need_level : Stmt := topS 44
theorem sc_need_level : FnScope ["level"] ["level"] (defScope s_need_level) := ⟨rfl, rfl, rfl, by decide +kernel, rfl, by decide +kernel, by decide +kernel⟩
abbrev s_need_mask : Stmt := topS 67
theorem sc_need_mask : FnScope ["mask"] ["mask"] (defScope s_need_mask) := ⟨rfl, rfl, rfl, by decide +kernel, rfl, by decide +kernel, by decide +kernel⟩
abbrev s_block_sizes : Stmt := topS 47
theorem sc_block_sizes : FnScope ["size"] ["size"] (defScope s_block_sizes) := ⟨rfl, rfl, rfl, by decide +kernel, rfl, by decide +kernel, by decide +kernel⟩
abbrev s_word_count : Stmt := topS 46
theorem sc_word_count : FnScope ["size"] ["size"] (defScope s_word_count) := ⟨rfl, rfl, rfl, by decide +kernel, rfl, by decide +kernel, by decide +kernel⟩
abbrev s_word_bits : Stmt := topS 45
theorem sc_word_bits : FnScope ["size"] ["size"] (defScope s_word_bits) := ⟨rfl, rfl, rfl, by decide +kernel, rfl, by decide +kernel, by decide +kernel⟩
abbrev s_check_count : Stmt := topS 48
theorem sc_check_count : FnScope ["size", "level"] ["size", "level"] (defScope s_check_count) := ⟨rfl, rfl, rfl, by decide +kernel, rfl, by decide +kernel, by decide +kernel⟩
abbrev s_code_start : Stmt := topS 49
theorem sc_code_start : FnScope ["size", "level"] ["size", "level"] (defScope s_code_start) := ⟨rfl, rfl, rfl, by decide +kernel, rfl, by decide +kernel, by decide +kernel⟩
abbrev s_data_count : Stmt := topS 50
theorem sc_data_count : FnScope ["size", "level", "checks", "words"] ["size", "level"] (defScope s_data_count) := ⟨rfl, rfl, rfl, by decide +kernel, rfl, by decide +kernel, by decide +kernel⟩
abbrev s_is_plain_grid : Stmt := topS 58
theorem sc_is_plain_grid : FnScope ["many", "grid", "odd", "dots", "dot"] ["many", "grid"] (defScope s_is_plain_grid) := ⟨rfl, rfl, rfl, by decide +kernel, rfl, by decide +kernel, by decide +kernel⟩
abbrev s_need_dot_rows : Stmt := topS 60
theorem sc_need_dot_rows : FnScope ["many", "grid", "gapped", "dots", "row"] ["many", "grid", "gapped"] (defScope s_need_dot_rows) := ⟨rfl, rfl, rfl, by decide +kernel, rfl, by decide +kernel, by decide +kernel⟩
abbrev s_need_grid : Stmt := topS 61
theorem sc_need_grid : FnScope ["size", "grid"] ["size", "grid"] (defScope s_need_grid) := ⟨rfl, rfl, rfl, by decide +kernel, rfl, by decide +kernel, by decide +kernel⟩
abbrev s_need_symbol_words : Stmt := topS 72
theorem sc_need_symbol_words : FnScope ["size", "words", "gapped", "at", "word"] ["size", "words", "gapped"] (defScope s_need_symbol_words) := ⟨rfl, rfl, rfl, by decide +kernel, rfl, by decide +kernel, by decide +kernel⟩
abbrev s_block_places : Stmt := topS 76
theorem sc_block_places : FnScope ["size", "level", "blocks", "many", "checks", "own", "block", "longer", "found", "more", "first_check", "words"] ["size", "level"] (defScope s_block_places) := ⟨rfl, rfl, rfl, by decide +kernel, rfl, by decide +kernel, by decide +kernel⟩
abbrev s_dealt_words : Stmt := topS 77
theorem sc_dealt_words : FnScope ["size", "level", "blocks", "words", "places", "block", "index", "word"] ["size", "level", "blocks"] (defScope s_dealt_words) := ⟨rfl, rfl, rfl, by decide +kernel, rfl, by decide +kernel, by decide +kernel⟩
abbrev s_gathered_words : Stmt := topS 78
theorem sc_gathered_words : FnScope ["size", "level", "words", "places", "index"] ["size", "level", "words"] (defScope s_gathered_words) := ⟨rfl, rfl, rfl, by decide +kernel, rfl, by decide +kernel, by decide +kernel⟩
abbrev s_need_block : Stmt := topS 79
theorem sc_need_block : FnScope ["size", "block", "words", "at", "word"] ["size", "block", "words"] (defScope s_need_block) := ⟨rfl, rfl, rfl, by decide +kernel, rfl, by decide +kernel, by decide +kernel⟩
abbrev s_dealt : Stmt := topS 80
theorem sc_dealt : FnScope ["size", "level", "blocks", "block", "words"] ["size", "level", "blocks"] (defScope s_dealt) := ⟨rfl, rfl, rfl, by decide +kernel, rfl, by decide +kernel, by decide +kernel⟩
abbrev s_gathered : Stmt := topS 81
theorem sc_gathered : FnScope ["size", "level", "words"] ["size", "level", "words"] (defScope s_gathered) := ⟨rfl, rfl, rfl, by decide +kernel, rfl, by decide +kernel, by decide +kernel⟩
abbrev s_words_as_bits : Stmt := topS 5
theorem sc_words_as_bits : FnScope ["words", "many", "word", "bit"] ["words", "many"] (defScope s_words_as_bits) := ⟨rfl, rfl, rfl, by decide +kernel, rfl, by decide +kernel, by decide +kernel⟩
abbrev s_masked_grid : Stmt := topS 84
theorem sc_masked_grid : FnScope ["size", "grid", "mask", "turned", "dots", "places", "dot", "place"] ["size", "grid", "mask"] (defScope s_masked_grid) := ⟨rfl, rfl, rfl, by decide +kernel, rfl, by decide +kernel, by decide +kernel⟩
abbrev s_masked : Stmt := topS 85
theorem sc_masked : FnScope ["size", "grid", "mask"] ["size", "grid", "mask"] (defScope s_masked) := ⟨rfl, rfl, rfl, by decide +kernel, rfl, by decide +kernel, by decide +kernel⟩
abbrev s_bits_as_words : Stmt := topS 6
theorem sc_bits_as_words : FnScope ["bits", "many", "quads", "quad", "high", "low"] ["bits", "many"] (defScope s_bits_as_words) := ⟨rfl, rfl, rfl, by decide +kernel, rfl, by decide +kernel, by decide +kernel⟩
abbrev s_words_on : Stmt := topS 73
theorem sc_words_on : FnScope ["size", "grid", "shades", "dots", "dot", "at"] ["size", "grid"] (defScope s_words_on) := ⟨rfl, rfl, rfl, by decide +kernel, rfl, by decide +kernel, by decide +kernel⟩
abbrev s_words_in : Stmt := topS 74
theorem sc_words_in : FnScope ["size", "grid"] ["size", "grid"] (defScope s_words_in) := ⟨rfl, rfl, rfl, by decide +kernel, rfl, by decide +kernel, by decide +kernel⟩
abbrev s_grid_of_words : Stmt := topS 75
theorem sc_grid_of_words : FnScope ["size", "words", "strip_shades", "shades", "places", "place"] ["size", "words", "strip_shades"] (defScope s_grid_of_words) := ⟨rfl, rfl, rfl, by decide +kernel, rfl, by decide +kernel, by decide +kernel⟩
abbrev s_word_of_format : Stmt := topS 68
theorem sc_word_of_format : FnScope ["level", "mask"] ["level", "mask"] (defScope s_word_of_format) := ⟨rfl, rfl, rfl, by decide +kernel, rfl, by decide +kernel, by decide +kernel⟩
abbrev s_as_bits : Stmt := topS 4
theorem sc_as_bits : FnScope ["number", "many", "place"] ["number", "many"] (defScope s_as_bits) := ⟨rfl, rfl, rfl, by decide +kernel, rfl, by decide +kernel, by decide +kernel⟩
abbrev s_strip_shades : Stmt := topS 69
theorem sc_strip_shades : FnScope ["level", "mask"] ["level", "mask"] (defScope s_strip_shades) := ⟨rfl, rfl, rfl, by decide +kernel, rfl, by decide +kernel, by decide +kernel⟩
abbrev s_masked_words : Stmt := topS 83
theorem sc_masked_words : FnScope ["size", "mask", "words", "turned", "word", "turn"] ["size", "mask", "words"] (defScope s_masked_words) := ⟨rfl, rfl, rfl, by decide +kernel, rfl, by decide +kernel, by decide +kernel⟩
abbrev s_drawn_grid : Stmt := topS 86
theorem sc_drawn_grid : FnScope ["size", "level", "mask", "words"] ["size", "level", "mask", "words"] (defScope s_drawn_grid) := ⟨rfl, rfl, rfl, by decide +kernel, rfl, by decide +kernel, by decide +kernel⟩
abbrev s_drawn : Stmt := topS 87
theorem sc_drawn : FnScope ["size", "level", "mask", "words"] ["size", "level", "mask", "words"] (defScope s_drawn) := ⟨rfl, rfl, rfl, by decide +kernel, rfl, by decide +kernel, by decide +kernel⟩
abbrev s_shares_of : Stmt := topS 53
theorem sc_shares_of : FnScope ["size", "level", "own", "shares"] ["size", "level", "own"] (defScope s_shares_of) := ⟨rfl, rfl, rfl, by decide +kernel, rfl, by decide +kernel, by decide +kernel⟩
abbrev s_own_counts : Stmt := topS 52
theorem sc_own_counts : FnScope ["size", "level", "checks", "words"] ["size", "level"] (defScope s_own_counts) := ⟨rfl, rfl, rfl, by decide +kernel, rfl, by decide +kernel, by decide +kernel⟩
abbrev s_checks_told : Stmt := topS 54
theorem sc_checks_told : FnScope ["size", "level", "words", "total", "share", "bit"] ["size", "level", "words"] (defScope s_checks_told) := ⟨rfl, rfl, rfl, by decide +kernel, rfl, by decide +kernel, by decide +kernel⟩
abbrev s_number_as_words : Stmt := topS 7
theorem sc_number_as_words : FnScope ["number", "many", "bits", "last", "place"] ["number", "many", "bits"] (defScope s_number_as_words) := ⟨rfl, rfl, rfl, by decide +kernel, rfl, by decide +kernel, by decide +kernel⟩
abbrev s_parted_data : Stmt := topS 55
theorem sc_parted_data : FnScope ["size", "level", "data", "found", "at", "own"] ["size", "level", "data"] (defScope s_parted_data) := ⟨rfl, rfl, rfl, by decide +kernel, rfl, by decide +kernel, by decide +kernel⟩
abbrev s_right_blocks : Stmt := topS 56
theorem sc_right_blocks : FnScope ["size", "level", "data", "checks", "bits", "words"] ["size", "level", "data"] (defScope s_right_blocks) := ⟨rfl, rfl, rfl, by decide +kernel, rfl, by decide +kernel, by decide +kernel⟩
abbrev s_need_data : Stmt := topS 89
theorem sc_need_data : FnScope ["size", "level", "data"] ["size", "level", "data"] (defScope s_need_data) := ⟨rfl, rfl, rfl, by decide +kernel, rfl, by decide +kernel, by decide +kernel⟩
abbrev s_words_of_data : Stmt := topS 90
theorem sc_words_of_data : FnScope ["size", "level", "data"] ["size", "level", "data"] (defScope s_words_of_data) := ⟨rfl, rfl, rfl, by decide +kernel, rfl, by decide +kernel, by decide +kernel⟩
abbrev s_symbol_of : Stmt := topS 91
theorem sc_symbol_of : FnScope ["size", "level", "mask", "data"] ["size", "level", "mask", "data"] (defScope s_symbol_of) := ⟨rfl, rfl, rfl, by decide +kernel, rfl, by decide +kernel, by decide +kernel⟩
abbrev s__law_mix : Stmt := topS 107
theorem sc__law_mix : FnScope ["_law_cell", "_law_lap", "_law_blend"] ["_law_cell", "_law_lap"] (defScope s__law_mix) := ⟨rfl, rfl, rfl, by decide +kernel, rfl, by decide +kernel, by decide +kernel⟩
abbrev s__law_draw : Stmt := topS 109
theorem sc__law_draw : FnScope ["_law_well", "_law_many", "_law_figure"] ["_law_well", "_law_many"] (defScope s__law_draw) := ⟨rfl, rfl, rfl, by decide +kernel, rfl, by decide +kernel, by decide +kernel⟩
abbrev s__law_source : Stmt := topS 108
theorem sc__law_source : FnScope ["_law_script", "_law_k", "_law_cell"] ["_law_script", "_law_k"] (defScope s__law_source) := ⟨rfl, rfl, rfl, by decide +kernel, rfl, by decide +kernel, by decide +kernel⟩
abbrev s__law_format : Stmt := topS 112
theorem sc__law_format : FnScope ["_law_well"] ["_law_well"] (defScope s__law_format) := ⟨rfl, rfl, rfl, by decide +kernel, rfl, by decide +kernel, by decide +kernel⟩
abbrev s__law_words : Stmt := topS 111
theorem sc__law_words : FnScope ["_law_well", "_law_many", "_law_bits", "_law_way", "_law_found", "_law_k"] ["_law_well", "_law_many", "_law_bits"] (defScope s__law_words) := ⟨rfl, rfl, rfl, by decide +kernel, rfl, by decide +kernel, by decide +kernel⟩
abbrev s__law_blocks : Stmt := topS 113
theorem sc__law_blocks : FnScope ["_law_deep", "_law_rank", "_law_words_so", "_law_checks", "_law_found", "_law_at", "_law_code_so", "_law_many", "_law_part"] ["_law_deep", "_law_rank", "_law_words_so"] (defScope s__law_blocks) := ⟨rfl, rfl, rfl, by decide +kernel, rfl, by decide +kernel, by decide +kernel⟩
abbrev s__law_sum_right : Stmt := topS 114
theorem sc__law_sum_right : FnScope ["_law_well", "_law_deep", "_law_rank", "_law_turn", "_law_rows", "_law_many", "_law_bits", "_law_some", "_law_grids", "_law_at", "_law_to", "_law_row", "_law_k", "_law_grid"] ["_law_well", "_law_deep", "_law_rank", "_law_turn", "_law_rows"] (defScope s__law_sum_right) := ⟨rfl, rfl, rfl, by decide +kernel, rfl, by decide +kernel, by decide +kernel⟩
abbrev s__law_right : Stmt := topS 115
theorem sc__law_right : FnScope ["_law_well", "_law_deep", "_law_rank", "_law_turn", "_law_words_so", "_law_blocks_so", "_law_due", "_law_said_so", "_law_code_so", "_law_rows", "_law_spot", "_law_row"] ["_law_well"] (defScope s__law_right) := ⟨rfl, rfl, rfl, by decide +kernel, rfl, by decide +kernel, by decide +kernel⟩
abbrev s_law : Stmt := topS 116
theorem sc_law : FnScope ["_law_script", "_law_k", "_law_well", "_law_turn"] ["_law_script"] (defScope s_law) := ⟨rfl, rfl, rfl, by decide +kernel, rfl, by decide +kernel, by decide +kernel⟩
structure Txt (K : PySem.W.Frag) (mg : Str → Option Value) where
  f_is_number : Addr
  d_is_number : FuncData
  F_is_number : Fun K "is_number" "is_number" s_is_number f_is_number d_is_number
  g_is_number : mg "is_number" = some (.ref f_is_number)
  b_is_number : Binds K d_is_number ["thing"] []
  f_is_number_to : Addr
  d_is_number_to : FuncData
  F_is_number_to : Fun K "is_number_to" "is_number_to" s_is_number_to f_is_number_to d_is_number_to
  g_is_number_to : mg "is_number_to" = some (.ref f_is_number_to)
  b_is_number_to : Binds K d_is_number_to ["thing", "least", "most"] []
  f_is_word : Addr
  d_is_word : FuncData
  F_is_word : Fun K "is_word" "is_word" s_is_word f_is_word d_is_word
  g_is_word : mg "is_word" = some (.ref f_is_word)
  b_is_word : Binds K d_is_word ["bits", "thing"] []
  f_is_row : Addr
  d_is_row : FuncData
  F_is_row : Fun K "is_row" "is_row" s_is_row f_is_row d_is_row
  g_is_row : mg "is_row" = some (.ref f_is_row)
  b_is_row : Binds K d_is_row ["thing"] []
  f_are_plain_words : Addr
  d_are_plain_words : FuncData
  F_are_plain_words : Fun K "are_plain_words" "are_plain_words" s_are_plain_words f_are_plain_words d_are_plain_words
  g_are_plain_words : mg "are_plain_words" = some (.ref f_are_plain_words)
  b_are_plain_words : Binds K d_are_plain_words ["bits", "things"] []
  f_need_words : Addr
  d_need_words : FuncData
  F_need_words : Fun K "need_words" "need_words" s_need_words f_need_words d_need_words
  g_need_words : mg "need_words" = some (.ref f_need_words)
  b_need_words : Binds K d_need_words ["bits", "part", "words"] []
  f_Field___init__ : Addr
  d_Field___init__ : FuncData
  F_Field___init__ : Fun K "__init__" "Field.__init__" s_Field___init__ f_Field___init__ d_Field___init__
  b_Field___init__ : Binds K d_Field___init__ ["self", "bits"] []
  f_Field_multiple : Addr
  d_Field_multiple : FuncData
  F_Field_multiple : Fun K "multiple" "Field.multiple" s_Field_multiple f_Field_multiple d_Field_multiple
  b_Field_multiple : Binds K d_Field_multiple ["self", "words", "factor"] []
  f_Field_two_to : Addr
  d_Field_two_to : FuncData
  F_Field_two_to : Fun K "two_to" "Field.two_to" s_Field_two_to f_Field_two_to d_Field_two_to
  b_Field_two_to : Binds K d_Field_two_to ["self", "times"] []
  f_Field_times : Addr
  d_Field_times : FuncData
  F_Field_times : Fun K "times" "Field.times" s_Field_times f_Field_times d_Field_times
  b_Field_times : Binds K d_Field_times ["self", "one", "other"] []
  f_check_factor : Addr
  d_check_factor : FuncData
  F_check_factor : Fun K "check_factor" "check_factor" s_check_factor f_check_factor d_check_factor
  g_check_factor : mg "check_factor" = some (.ref f_check_factor)
  b_check_factor : Binds K d_check_factor ["field", "many", "start"] []
  f_next_rest : Addr
  d_next_rest : FuncData
  F_next_rest : Fun K "next_rest" "next_rest" s_next_rest f_next_rest d_next_rest
  g_next_rest : mg "next_rest" = some (.ref f_next_rest)
  b_next_rest : Binds K d_next_rest ["field", "factor", "rest", "word"] []
  f_with_checks : Addr
  d_with_checks : FuncData
  F_with_checks : Fun K "with_checks" "with_checks" s_with_checks f_with_checks d_with_checks
  g_with_checks : mg "with_checks" = some (.ref f_with_checks)
  b_with_checks : Binds K d_with_checks ["field", "many", "start", "words"] []
  f_is_code : Addr
  d_is_code : FuncData
  F_is_code : Fun K "is_code" "is_code" s_is_code f_is_code d_is_code
  g_is_code : mg "is_code" = some (.ref f_is_code)
  b_is_code : Binds K d_is_code ["code"] []
  f_need_code : Addr
  d_need_code : FuncData
  F_need_code : Fun K "need_code" "need_code" s_need_code f_need_code d_need_code
  g_need_code : mg "need_code" = some (.ref f_need_code)
  b_need_code : Binds K d_need_code ["code"] []
  f_most_words : Addr
  d_most_words : FuncData
  F_most_words : Fun K "most_words" "most_words" s_most_words f_most_words d_most_words
  g_most_words : mg "most_words" = some (.ref f_most_words)
  b_most_words : Binds K d_most_words ["bits"] []
  f_is_length : Addr
  d_is_length : FuncData
  F_is_length : Fun K "is_length" "is_length" s_is_length f_is_length d_is_length
  g_is_length : mg "is_length" = some (.ref f_is_length)
  b_is_length : Binds K d_is_length ["code", "length"] []
  f_check_words : Addr
  d_check_words : FuncData
  F_check_words : Fun K "check_words" "check_words" s_check_words f_check_words d_check_words
  g_check_words : mg "check_words" = some (.ref f_check_words)
  b_check_words : Binds K d_check_words ["code", "words"] []
  f_value_at : Addr
  d_value_at : FuncData
  F_value_at : Fun K "value_at" "value_at" s_value_at f_value_at d_value_at
  g_value_at : mg "value_at" = some (.ref f_value_at)
  b_value_at : Binds K d_value_at ["field", "words", "at"] []
  f_sums_of : Addr
  d_sums_of : FuncData
  F_sums_of : Fun K "sums_of" "sums_of" s_sums_of f_sums_of d_sums_of
  g_sums_of : mg "sums_of" = some (.ref f_sums_of)
  b_sums_of : Binds K d_sums_of ["field", "many", "start", "row"] []
  f_need_row : Addr
  d_need_row : FuncData
  F_need_row : Fun K "need_row" "need_row" s_need_row f_need_row d_need_row
  g_need_row : mg "need_row" = some (.ref f_need_row)
  b_need_row : Binds K d_need_row ["code", "row"] []
  f_syndromes : Addr
  d_syndromes : FuncData
  F_syndromes : Fun K "syndromes" "syndromes" s_syndromes f_syndromes d_syndromes
  g_syndromes : mg "syndromes" = some (.ref f_syndromes)
  b_syndromes : Binds K d_syndromes ["code", "row"] []
  f_is_right : Addr
  d_is_right : FuncData
  F_is_right : Fun K "is_right" "is_right" s_is_right f_is_right d_is_right
  g_is_right : mg "is_right" = some (.ref f_is_right)
  b_is_right : Binds K d_is_right ["code", "row"] []
  f_need_size : Addr
  d_need_size : FuncData
  F_need_size : Fun K "need_size" "need_size" s_need_size f_need_size d_need_size
  g_need_size : mg "need_size" = some (.ref f_need_size)
  b_need_size : Binds K d_need_size ["size"] []
  f_need_level : Addr
  d_need_level : FuncData
  F_need_level : Fun K "need_level" "need_level" s_need_level f_need_level d_need_level
  g_need_level : mg "need_level" = some (.ref f_need_level)
  b_need_level : Binds K d_need_level ["level"] []
  f_need_mask : Addr
  d_need_mask : FuncData
  F_need_mask : Fun K "need_mask" "need_mask" s_need_mask f_need_mask d_need_mask
  g_need_mask : mg "need_mask" = some (.ref f_need_mask)
  b_need_mask : Binds K d_need_mask ["mask"] []
  f_block_sizes : Addr
  d_block_sizes : FuncData
  F_block_sizes : Fun K "block_sizes" "block_sizes" s_block_sizes f_block_sizes d_block_sizes
  g_block_sizes : mg "block_sizes" = some (.ref f_block_sizes)
  b_block_sizes : Binds K d_block_sizes ["size"] []
  f_word_count : Addr
  d_word_count : FuncData
  F_word_count : Fun K "word_count" "word_count" s_word_count f_word_count d_word_count
  g_word_count : mg "word_count" = some (.ref f_word_count)
  b_word_count : Binds K d_word_count ["size"] []
  f_word_bits : Addr
  d_word_bits : FuncData
  F_word_bits : Fun K "word_bits" "word_bits" s_word_bits f_word_bits d_word_bits
  g_word_bits : mg "word_bits" = some (.ref f_word_bits)
  b_word_bits : Binds K d_word_bits ["size"] []
  f_check_count : Addr
  d_check_count : FuncData
  F_check_count : Fun K "check_count" "check_count" s_check_count f_check_count d_check_count
  g_check_count : mg "check_count" = some (.ref f_check_count)
  b_check_count : Binds K d_check_count ["size", "level"] []
  f_code_start : Addr
  d_code_start : FuncData
  F_code_start : Fun K "code_start" "code_start" s_code_start f_code_start d_code_start
  g_code_start : mg "code_start" = some (.ref f_code_start)
  b_code_start : Binds K d_code_start ["size", "level"] []
  f_data_count : Addr
  d_data_count : FuncData
  F_data_count : Fun K "data_count" "data_count" s_data_count f_data_count d_data_count
  g_data_count : mg "data_count" = some (.ref f_data_count)
  b_data_count : Binds K d_data_count ["size", "level"] []
  f_is_plain_grid : Addr
  d_is_plain_grid : FuncData
  F_is_plain_grid : Fun K "is_plain_grid" "is_plain_grid" s_is_plain_grid f_is_plain_grid d_is_plain_grid
  g_is_plain_grid : mg "is_plain_grid" = some (.ref f_is_plain_grid)
  b_is_plain_grid : Binds K d_is_plain_grid ["many", "grid"] []
  f_need_dot_rows : Addr
  d_need_dot_rows : FuncData
  F_need_dot_rows : Fun K "need_dot_rows" "need_dot_rows" s_need_dot_rows f_need_dot_rows d_need_dot_rows
  g_need_dot_rows : mg "need_dot_rows" = some (.ref f_need_dot_rows)
  b_need_dot_rows : Binds K d_need_dot_rows ["many", "grid", "gapped"] []
  f_need_grid : Addr
  d_need_grid : FuncData
  F_need_grid : Fun K "need_grid" "need_grid" s_need_grid f_need_grid d_need_grid
  g_need_grid : mg "need_grid" = some (.ref f_need_grid)
  b_need_grid : Binds K d_need_grid ["size", "grid"] []
  f_need_symbol_words : Addr
  d_need_symbol_words : FuncData
  F_need_symbol_words : Fun K "need_symbol_words" "need_symbol_words" s_need_symbol_words f_need_symbol_words d_need_symbol_words
  g_need_symbol_words : mg "need_symbol_words" = some (.ref f_need_symbol_words)
  b_need_symbol_words : Binds K d_need_symbol_words ["size", "words", "gapped"] []
  f_block_places : Addr
  d_block_places : FuncData
  F_block_places : Fun K "block_places" "block_places" s_block_places f_block_places d_block_places
  g_block_places : mg "block_places" = some (.ref f_block_places)
  b_block_places : Binds K d_block_places ["size", "level"] []
  f_dealt_words : Addr
  d_dealt_words : FuncData
  F_dealt_words : Fun K "dealt_words" "dealt_words" s_dealt_words f_dealt_words d_dealt_words
  g_dealt_words : mg "dealt_words" = some (.ref f_dealt_words)
  b_dealt_words : Binds K d_dealt_words ["size", "level", "blocks"] []
  f_gathered_words : Addr
  d_gathered_words : FuncData
  F_gathered_words : Fun K "gathered_words" "gathered_words" s_gathered_words f_gathered_words d_gathered_words
  g_gathered_words : mg "gathered_words" = some (.ref f_gathered_words)
  b_gathered_words : Binds K d_gathered_words ["size", "level", "words"] []
  f_need_block : Addr
  d_need_block : FuncData
  F_need_block : Fun K "need_block" "need_block" s_need_block f_need_block d_need_block
  g_need_block : mg "need_block" = some (.ref f_need_block)
  b_need_block : Binds K d_need_block ["size", "block", "words"] []
  f_dealt : Addr
  d_dealt : FuncData
  F_dealt : Fun K "dealt" "dealt" s_dealt f_dealt d_dealt
  g_dealt : mg "dealt" = some (.ref f_dealt)
  b_dealt : Binds K d_dealt ["size", "level", "blocks"] []
  f_gathered : Addr
  d_gathered : FuncData
  F_gathered : Fun K "gathered" "gathered" s_gathered f_gathered d_gathered
  g_gathered : mg "gathered" = some (.ref f_gathered)
  b_gathered : Binds K d_gathered ["size", "level", "words"] []
  f_words_as_bits : Addr
  d_words_as_bits : FuncData
  F_words_as_bits : Fun K "words_as_bits" "words_as_bits" s_words_as_bits f_words_as_bits d_words_as_bits
  g_words_as_bits : mg "words_as_bits" = some (.ref f_words_as_bits)
  b_words_as_bits : Binds K d_words_as_bits ["words", "many"] []
  f_masked_grid : Addr
  d_masked_grid : FuncData
  F_masked_grid : Fun K "masked_grid" "masked_grid" s_masked_grid f_masked_grid d_masked_grid
  g_masked_grid : mg "masked_grid" = some (.ref f_masked_grid)
  b_masked_grid : Binds K d_masked_grid ["size", "grid", "mask"] []
  f_masked : Addr
  d_masked : FuncData
  F_masked : Fun K "masked" "masked" s_masked f_masked d_masked
  g_masked : mg "masked" = some (.ref f_masked)
  b_masked : Binds K d_masked ["size", "grid", "mask"] []
  f_bits_as_words : Addr
  d_bits_as_words : FuncData
  F_bits_as_words : Fun K "bits_as_words" "bits_as_words" s_bits_as_words f_bits_as_words d_bits_as_words
  g_bits_as_words : mg "bits_as_words" = some (.ref f_bits_as_words)
  b_bits_as_words : Binds K d_bits_as_words ["bits", "many"] []
  f_words_on : Addr
  d_words_on : FuncData
  F_words_on : Fun K "words_on" "words_on" s_words_on f_words_on d_words_on
  g_words_on : mg "words_on" = some (.ref f_words_on)
  b_words_on : Binds K d_words_on ["size", "grid"] []
  f_words_in : Addr
  d_words_in : FuncData
  F_words_in : Fun K "words_in" "words_in" s_words_in f_words_in d_words_in
  g_words_in : mg "words_in" = some (.ref f_words_in)
  b_words_in : Binds K d_words_in ["size", "grid"] []
  f_grid_of_words : Addr
  d_grid_of_words : FuncData
  F_grid_of_words : Fun K "grid_of_words" "grid_of_words" s_grid_of_words f_grid_of_words d_grid_of_words
  g_grid_of_words : mg "grid_of_words" = some (.ref f_grid_of_words)
  b_grid_of_words : Binds K d_grid_of_words ["size", "words", "strip_shades"] []
  f_word_of_format : Addr
  d_word_of_format : FuncData
  F_word_of_format : Fun K "word_of_format" "word_of_format" s_word_of_format f_word_of_format d_word_of_format
  g_word_of_format : mg "word_of_format" = some (.ref f_word_of_format)
  b_word_of_format : Binds K d_word_of_format ["level", "mask"] []
  f_as_bits : Addr
  d_as_bits : FuncData
  F_as_bits : Fun K "as_bits" "as_bits" s_as_bits f_as_bits d_as_bits
  g_as_bits : mg "as_bits" = some (.ref f_as_bits)
  b_as_bits : Binds K d_as_bits ["number", "many"] []
  f_strip_shades : Addr
  d_strip_shades : FuncData
  F_strip_shades : Fun K "strip_shades" "strip_shades" s_strip_shades f_strip_shades d_strip_shades
  g_strip_shades : mg "strip_shades" = some (.ref f_strip_shades)
  b_strip_shades : Binds K d_strip_shades ["level", "mask"] []
  f_masked_words : Addr
  d_masked_words : FuncData
  F_masked_words : Fun K "masked_words" "masked_words" s_masked_words f_masked_words d_masked_words
  g_masked_words : mg "masked_words" = some (.ref f_masked_words)
  b_masked_words : Binds K d_masked_words ["size", "mask", "words"] []
  f_drawn_grid : Addr
  d_drawn_grid : FuncData
  F_drawn_grid : Fun K "drawn_grid" "drawn_grid" s_drawn_grid f_drawn_grid d_drawn_grid
  g_drawn_grid : mg "drawn_grid" = some (.ref f_drawn_grid)
  b_drawn_grid : Binds K d_drawn_grid ["size", "level", "mask", "words"] []
  f_drawn : Addr
  d_drawn : FuncData
  F_drawn : Fun K "drawn" "drawn" s_drawn f_drawn d_drawn
  g_drawn : mg "drawn" = some (.ref f_drawn)
  b_drawn : Binds K d_drawn ["size", "level", "mask", "words"] []
  f_shares_of : Addr
  d_shares_of : FuncData
  F_shares_of : Fun K "shares_of" "shares_of" s_shares_of f_shares_of d_shares_of
  g_shares_of : mg "shares_of" = some (.ref f_shares_of)
  b_shares_of : Binds K d_shares_of ["size", "level", "own"] []
  f_own_counts : Addr
  d_own_counts : FuncData
  F_own_counts : Fun K "own_counts" "own_counts" s_own_counts f_own_counts d_own_counts
  g_own_counts : mg "own_counts" = some (.ref f_own_counts)
  b_own_counts : Binds K d_own_counts ["size", "level"] []
  f_checks_told : Addr
  d_checks_told : FuncData
  F_checks_told : Fun K "checks_told" "checks_told" s_checks_told f_checks_told d_checks_told
  g_checks_told : mg "checks_told" = some (.ref f_checks_told)
  b_checks_told : Binds K d_checks_told ["size", "level", "words"] []
  f_number_as_words : Addr
  d_number_as_words : FuncData
  F_number_as_words : Fun K "number_as_words" "number_as_words" s_number_as_words f_number_as_words d_number_as_words
  g_number_as_words : mg "number_as_words" = some (.ref f_number_as_words)
  b_number_as_words : Binds K d_number_as_words ["number", "many", "bits"] []
  f_parted_data : Addr
  d_parted_data : FuncData
  F_parted_data : Fun K "parted_data" "parted_data" s_parted_data f_parted_data d_parted_data
  g_parted_data : mg "parted_data" = some (.ref f_parted_data)
  b_parted_data : Binds K d_parted_data ["size", "level", "data"] []
  f_right_blocks : Addr
  d_right_blocks : FuncData
  F_right_blocks : Fun K "right_blocks" "right_blocks" s_right_blocks f_right_blocks d_right_blocks
  g_right_blocks : mg "right_blocks" = some (.ref f_right_blocks)
  b_right_blocks : Binds K d_right_blocks ["size", "level", "data"] []
  f_need_data : Addr
  d_need_data : FuncData
  F_need_data : Fun K "need_data" "need_data" s_need_data f_need_data d_need_data
  g_need_data : mg "need_data" = some (.ref f_need_data)
  b_need_data : Binds K d_need_data ["size", "level", "data"] []
  f_words_of_data : Addr
  d_words_of_data : FuncData
  F_words_of_data : Fun K "words_of_data" "words_of_data" s_words_of_data f_words_of_data d_words_of_data
  g_words_of_data : mg "words_of_data" = some (.ref f_words_of_data)
  b_words_of_data : Binds K d_words_of_data ["size", "level", "data"] []
  f_symbol_of : Addr
  d_symbol_of : FuncData
  F_symbol_of : Fun K "symbol_of" "symbol_of" s_symbol_of f_symbol_of d_symbol_of
  g_symbol_of : mg "symbol_of" = some (.ref f_symbol_of)
  b_symbol_of : Binds K d_symbol_of ["size", "level", "mask", "data"] []
  f__law_mix : Addr
  d__law_mix : FuncData
  F__law_mix : Fun K "_law_mix" "_law_mix" s__law_mix f__law_mix d__law_mix
  g__law_mix : mg "_law_mix" = some (.ref f__law_mix)
  b__law_mix : Binds K d__law_mix ["_law_cell", "_law_lap"] []
  f__law_draw : Addr
  d__law_draw : FuncData
  F__law_draw : Fun K "_law_draw" "_law_draw" s__law_draw f__law_draw d__law_draw
  g__law_draw : mg "_law_draw" = some (.ref f__law_draw)
  b__law_draw : Binds K d__law_draw ["_law_well", "_law_many"] []
  f__law_source : Addr
  d__law_source : FuncData
  F__law_source : Fun K "_law_source" "_law_source" s__law_source f__law_source d__law_source
  g__law_source : mg "_law_source" = some (.ref f__law_source)
  b__law_source : Binds K d__law_source ["_law_script", "_law_k"] []
  f__law_format : Addr
  d__law_format : FuncData
  F__law_format : Fun K "_law_format" "_law_format" s__law_format f__law_format d__law_format
  g__law_format : mg "_law_format" = some (.ref f__law_format)
  b__law_format : Binds K d__law_format ["_law_well"] []
  f__law_words : Addr
  d__law_words : FuncData
  F__law_words : Fun K "_law_words" "_law_words" s__law_words f__law_words d__law_words
  g__law_words : mg "_law_words" = some (.ref f__law_words)
  b__law_words : Binds K d__law_words ["_law_well", "_law_many", "_law_bits"] []
  f__law_blocks : Addr
  d__law_blocks : FuncData
  F__law_blocks : Fun K "_law_blocks" "_law_blocks" s__law_blocks f__law_blocks d__law_blocks
  g__law_blocks : mg "_law_blocks" = some (.ref f__law_blocks)
  b__law_blocks : Binds K d__law_blocks ["_law_deep", "_law_rank", "_law_words_so"] []
  f__law_sum_right : Addr
  d__law_sum_right : FuncData
  F__law_sum_right : Fun K "_law_sum_right" "_law_sum_right" s__law_sum_right f__law_sum_right d__law_sum_right
  g__law_sum_right : mg "_law_sum_right" = some (.ref f__law_sum_right)
  b__law_sum_right : Binds K d__law_sum_right ["_law_well", "_law_deep", "_law_rank", "_law_turn", "_law_rows"] []
  f__law_right : Addr
  d__law_right : FuncData
  F__law_right : Fun K "_law_right" "_law_right" s__law_right f__law_right d__law_right
  g__law_right : mg "_law_right" = some (.ref f__law_right)
  b__law_right : Binds K d__law_right ["_law_well"] []
  f_law : Addr
  d_law : FuncData
  F_law : Fun K "law" "law" s_law f_law d_law
  g_law : mg "law" = some (.ref f_law)
  b_law : Binds K d_law ["_law_script"] []
  C_Field : Addr
  g_Field : mg "Field" = some (.ref C_Field)
  cl_Field : Cls K C_Field
  m_Field___init__ : Meth K C_Field "__init__" f_Field___init__
  m_Field_multiple : Meth K C_Field "multiple" f_Field_multiple
  m_Field_two_to : Meth K C_Field "two_to" f_Field_two_to
  m_Field_times : Meth K C_Field "times" f_Field_times
  mk_Field : Mk K C_Field f_Field___init__
  a_Field_bits : NoAttr K C_Field "bits"
  a_Field_span : NoAttr K C_Field "span"
  a_Field_turn : NoAttr K C_Field "turn"
  a_Field_powers : NoAttr K C_Field "powers"
  a_Field_exponents : NoAttr K C_Field "exponents"
  n_any : mg "any" = none
  n_bool : mg "bool" = none
  n_enumerate : mg "enumerate" = none
  n_int : mg "int" = none
  n_isinstance : mg "isinstance" = none
  n_len : mg "len" = none
  n_list : mg "list" = none
  n_max : mg "max" = none
  n_min : mg "min" = none
  n_range : mg "range" = none
  n_sum : mg "sum" = none
  n_tuple : mg "tuple" = none
  n_type : mg "type" = none
  n_zip : mg "zip" = none
  c_BLOCKS0 : Addr
  t_BLOCKS0 : tupB K c_BLOCKS0 [4] = true
  c_BLOCKS1 : Addr
  t_BLOCKS1 : tupB K c_BLOCKS1 [10, 10] = true
  c_BLOCKS2 : Addr
  t_BLOCKS2 : tupB K c_BLOCKS2 [22] = true
  c_BLOCKS3 : Addr
  t_BLOCKS3 : tupB K c_BLOCKS3 [19, 19] = true
  c_BLOCKS4 : Addr
  t_BLOCKS4 : tupB K c_BLOCKS4 [20, 19, 19] = true
  a_BLOCKS : Addr
  g_BLOCKS : mg "BLOCKS" = some (.ref a_BLOCKS)
  l_BLOCKS : KTupR K a_BLOCKS [c_BLOCKS0, c_BLOCKS1, c_BLOCKS2, c_BLOCKS3, c_BLOCKS4]
  c_CHECKS0 : Addr
  t_CHECKS0 : tupB K c_CHECKS0 [1, 2, 3, 3] = true
  c_CHECKS1 : Addr
  t_CHECKS1 : tupB K c_CHECKS1 [2, 4, 6, 8] = true
  c_CHECKS2 : Addr
  t_CHECKS2 : tupB K c_CHECKS2 [4, 8, 10, 12] = true
  c_CHECKS3 : Addr
  t_CHECKS3 : tupB K c_CHECKS3 [4, 8, 10, 12] = true
  c_CHECKS4 : Addr
  t_CHECKS4 : tupB K c_CHECKS4 [4, 8, 10, 12] = true
  a_CHECKS : Addr
  g_CHECKS : mg "CHECKS" = some (.ref a_CHECKS)
  l_CHECKS : KTupR K a_CHECKS [c_CHECKS0, c_CHECKS1, c_CHECKS2, c_CHECKS3, c_CHECKS4]
  c_EXPONENTS0 : Addr
  t_EXPONENTS0 : tupB K c_EXPONENTS0 [0, 0, 1, 12, 2, 9, 13, 7, 3, 4, 10, 5, 14, 11, 8, 6] = true
  c_EXPONENTS1 : Addr
  t_EXPONENTS1 : tupB K c_EXPONENTS1 [0, 0, 1, 231, 2, 207, 232, 59, 3, 35, 208, 154, 233, 20, 60, 183, 4, 159, 36, 66, 209, 118, 155, 251, 234, 245, 21, 11, 61, 130, 184, 146, 5, 122, 160, 79, 37, 113, 67, 106, 210, 224, 119, 221, 156, 242, 252, 32, 235, 213, 246, 135, 22, 42, 12, 140, 62, 227, 131, 75, 185, 191, 147, 94, 6, 70, 123, 195, 161, 53, 80, 167, 38, 109, 114, 203, 68, 51, 107, 49, 211, 40, 225, 189, 120, 111, 222, 240, 157, 116, 243, 128, 253, 205, 33, 18, 236, 163, 214, 98, 247, 55, 136, 102, 23, 82, 43, 177, 13, 169, 141, 89, 63, 8, 228, 151, 132, 72, 76, 218, 186, 125, 192, 200, 148, 197, 95, 174, 7, 150, 71, 217, 124, 199, 196, 173, 162, 97, 54, 101, 81, 176, 168, 88, 39, 188, 110, 239, 115, 127, 204, 17, 69, 194, 52, 166, 108, 202, 50, 48, 212, 134, 41, 139, 226, 74, 190, 93, 121, 78, 112, 105, 223, 220, 241, 31, 158, 65, 117, 250, 244, 10, 129, 145, 254, 230, 206, 58, 34, 153, 19, 182, 237, 15, 164, 46, 215, 171, 99, 86, 248, 143, 56, 180, 137, 91, 103, 29, 24, 25, 83, 26, 44, 84, 178, 27, 14, 45, 170, 85, 142, 179, 90, 28, 64, 249, 9, 144, 229, 57, 152, 181, 133, 138, 73, 92, 77, 104, 219, 30, 187, 238, 126, 16, 193, 165, 201, 47, 149, 216, 198, 172, 96, 100, 175, 87] = true
  a_EXPONENTS : Addr
  g_EXPONENTS : mg "EXPONENTS" = some (.ref a_EXPONENTS)
  l_EXPONENTS : KRef K a_EXPONENTS [(4, c_EXPONENTS0), (8, c_EXPONENTS1)]
  a_FORMAT_WORDS : Addr
  g_FORMAT_WORDS : mg "FORMAT_WORDS" = some (.ref a_FORMAT_WORDS)
  l_FORMAT_WORDS : tupB K a_FORMAT_WORDS [709, 752, 666, 687, 590, 635, 529, 548, 979, 998, 908, 953, 856, 877, 775, 818, 220, 233, 131, 182, 87, 98, 8, 61, 458, 511, 405, 416, 321, 372, 286, 299] = true
  g_LEVELS : ∃ t, mg "LEVELS" = some (.int 4 t)
  g_MASKS : ∃ t, mg "MASKS" = some (.int 8 t)
  a_MASK_WORDS : Addr
  g_MASK_WORDS : mg "MASK_WORDS" = some (.ref a_MASK_WORDS)
  l_MASK_WORDS : tup3B K a_MASK_WORDS [[[9, 9, 9, 9], [9, 2, 5, 8], [0, 12, 0, 12], [5, 5, 6, 11], [9, 6, 9, 10], [14, 11, 11, 5], [7, 6, 8, 9], [0, 7, 14, 14]], [[9, 9, 9, 9, 10, 6, 6, 6, 6, 9, 9, 9, 9, 10, 6, 6, 6, 6, 5, 5], [9, 2, 4, 9, 2, 1, 8, 6, 1, 2, 4, 9, 2, 4, 6, 1, 8, 6, 4, 9], [12, 3, 0, 12, 0, 3, 0, 12, 3, 12, 3, 0, 12, 0, 3, 0, 12, 3, 2, 4], [5, 5, 5, 5, 6, 10, 10, 10, 10, 5, 5, 5, 5, 6, 10, 10, 10, 10, 0, 0], [9, 6, 9, 6, 9, 6, 9, 6, 9, 9, 6, 9, 6, 9, 6, 9, 6, 9, 3, 3], [7, 5, 13, 7, 4, 12, 3, 0, 12, 11, 10, 14, 11, 9, 13, 7, 5, 13, 9, 2], [11, 0, 14, 12, 1, 4, 0, 5, 0, 13, 10, 7, 6, 8, 2, 2, 0, 8, 6, 3], [0, 1, 15, 8, 1, 0, 2, 15, 4, 15, 8, 0, 7, 12, 11, 13, 0, 2, 3, 8]], [[153, 153, 153, 150, 102, 102, 102, 153, 153, 153, 166, 102, 102, 105, 153, 153, 154, 102, 102, 102, 170, 166], [146, 73, 36, 145, 134, 24, 97, 36, 146, 73, 33, 134, 24, 100, 146, 73, 36, 97, 134, 24, 146, 82], [48, 195, 12, 60, 48, 195, 12, 48, 195, 12, 3, 12, 48, 195, 12, 48, 192, 48, 195, 12, 73, 48], [85, 85, 85, 90, 170, 170, 170, 85, 85, 85, 106, 170, 170, 165, 85, 85, 86, 170, 170, 170, 0, 21], [150, 150, 150, 153, 105, 105, 105, 150, 150, 150, 150, 150, 150, 153, 105, 105, 105, 105, 105, 105, 153, 154], [12, 48, 195, 10, 235, 174, 186, 93, 117, 215, 76, 48, 195, 10, 235, 174, 185, 215, 93, 117, 36, 140], [130, 32, 136, 35, 196, 241, 60, 195, 176, 236, 20, 5, 1, 70, 157, 167, 104, 34, 8, 130, 99, 15], [128, 126, 1, 242, 244, 11, 208, 126, 1, 248, 16, 47, 64, 176, 31, 128, 124, 189, 2, 244, 225, 192]], [[153, 153, 153, 153, 150, 102, 102, 102, 102, 153, 153, 153, 153, 150, 102, 102, 102, 102, 153, 153, 153, 153, 166, 102, 102, 102, 105, 153, 153, 153, 154, 102, 102, 102, 102, 170, 166, 102], [146, 73, 36, 146, 72, 97, 134, 24, 97, 36, 146, 73, 36, 145, 134, 24, 97, 134, 73, 36, 146, 73, 33, 134, 24, 97, 137, 36, 146, 73, 36, 97, 134, 24, 97, 73, 36, 146], [12, 48, 195, 12, 60, 48, 195, 12, 48, 12, 48, 195, 12, 60, 48, 195, 12, 48, 12, 48, 195, 12, 3, 12, 48, 195, 0, 195, 12, 48, 192, 48, 195, 12, 48, 36, 140, 48], [85, 85, 85, 85, 90, 170, 170, 170, 170, 85, 85, 85, 85, 90, 170, 170, 170, 170, 85, 85, 85, 85, 106, 170, 170, 170, 165, 85, 85, 85, 86, 170, 170, 170, 170, 0, 21, 85], [150, 150, 150, 150, 153, 105, 105, 105, 105, 150, 150, 150, 150, 153, 105, 105, 105, 105, 150, 150, 150, 150, 150, 150, 150, 150, 153, 105, 105, 105, 105, 105, 105, 105, 105, 153, 154, 90], [235, 174, 186, 235, 165, 215, 93, 117, 215, 195, 12, 48, 195, 10, 235, 174, 186, 235, 215, 93, 117, 215, 76, 48, 195, 12, 62, 186, 235, 174, 185, 215, 93, 117, 215, 146, 67, 12], [80, 20, 5, 1, 70, 157, 167, 105, 218, 8, 130, 32, 136, 35, 196, 241, 60, 79, 14, 195, 176, 236, 20, 5, 1, 64, 90, 118, 157, 167, 104, 34, 8, 130, 32, 198, 60, 79], [224, 31, 128, 126, 4, 11, 208, 47, 64, 31, 128, 126, 1, 242, 244, 11, 208, 47, 128, 126, 1, 248, 16, 47, 64, 189, 7, 224, 31, 128, 124, 189, 2, 244, 11, 14, 31, 128]], [[153, 153, 153, 153, 153, 150, 102, 102, 102, 102, 102, 153, 153, 153, 153, 153, 150, 102, 102, 102, 102, 102, 153, 153, 153, 153, 153, 150, 102, 102, 102, 102, 102, 153, 153, 153, 153, 153, 166, 102, 102, 102, 102, 105, 153, 153, 153, 153, 154, 102, 102, 102, 102, 102, 170, 166, 102, 102], [146, 73, 36, 146, 73, 38, 24, 97, 134, 24, 97, 36, 146, 73, 36, 146, 72, 97, 134, 24, 97, 134, 73, 36, 146, 73, 36, 145, 134, 24, 97, 134, 24, 146, 73, 36, 146, 73, 33, 134, 24, 97, 134, 18, 73, 36, 146, 73, 36, 97, 134, 24, 97, 134, 36, 137, 36, 146], [195, 12, 48, 195, 12, 60, 48, 195, 12, 48, 195, 195, 12, 48, 195, 12, 60, 48, 195, 12, 48, 195, 195, 12, 48, 195, 12, 60, 48, 195, 12, 48, 195, 195, 12, 48, 195, 12, 3, 12, 48, 195, 12, 60, 48, 195, 12, 48, 192, 48, 195, 12, 48, 195, 146, 67, 12, 48], [85, 85, 85, 85, 85, 90, 170, 170, 170, 170, 170, 85, 85, 85, 85, 85, 90, 170, 170, 170, 170, 170, 85, 85, 85, 85, 85, 90, 170, 170, 170, 170, 170, 85, 85, 85, 85, 85, 106, 170, 170, 170, 170, 165, 85, 85, 85, 85, 86, 170, 170, 170, 170, 170, 0, 21, 85, 85], [150, 150, 150, 150, 150, 153, 105, 105, 105, 105, 105, 150, 150, 150, 150, 150, 153, 105, 105, 105, 105, 105, 150, 150, 150, 150, 150, 153, 105, 105, 105, 105, 105, 150, 150, 150, 150, 150, 150, 150, 150, 150, 150, 153, 105, 105, 105, 105, 105, 105, 105, 105, 105, 105, 153, 154, 90, 90], [117, 215, 93, 117, 215, 80, 195, 12, 48, 195, 12, 186, 235, 174, 186, 235, 165, 215, 93, 117, 215, 93, 48, 195, 12, 48, 195, 10, 235, 174, 186, 235, 174, 117, 215, 93, 117, 215, 76, 48, 195, 12, 48, 203, 174, 186, 235, 174, 185, 215, 93, 117, 215, 93, 73, 48, 195, 12], [196, 241, 60, 79, 19, 204, 59, 14, 195, 176, 236, 64, 80, 20, 5, 1, 70, 157, 167, 105, 218, 118, 34, 8, 130, 32, 136, 35, 196, 241, 60, 79, 19, 59, 14, 195, 176, 236, 20, 5, 1, 64, 80, 25, 218, 118, 157, 167, 104, 34, 8, 130, 32, 136, 140, 113, 60, 79], [248, 7, 224, 31, 128, 123, 208, 47, 64, 189, 2, 7, 224, 31, 128, 126, 4, 11, 208, 47, 64, 189, 224, 31, 128, 126, 1, 242, 244, 11, 208, 47, 64, 31, 128, 126, 1, 248, 16, 47, 64, 189, 2, 248, 7, 224, 31, 128, 124, 189, 2, 244, 11, 208, 112, 224, 31, 128]]] = true
  a_MOST_CHECKS : Addr
  g_MOST_CHECKS : mg "MOST_CHECKS" = some (.ref a_MOST_CHECKS)
  l_MOST_CHECKS : KInt K a_MOST_CHECKS [(4, 14), (8, 40)]
  c_PATHS0 : Addr
  t_PATHS0 : tupB K c_PATHS0 [54, 53, 46, 45, 38, 37, 30, 29, 22, 21, 28, 27, 36, 35, 44, 52] = true
  c_PATHS1 : Addr
  t_PATHS1 : tupB K c_PATHS1 [130, 129, 118, 117, 106, 105, 94, 93, 82, 81, 70, 69, 58, 57, 46, 45, 34, 33, 32, 31, 44, 43, 56, 55, 68, 67, 80, 79, 92, 91, 104, 103, 116, 115, 128, 127, 126, 125, 114, 113, 102, 101, 90, 89, 78, 77, 66, 65, 54, 53, 42, 41, 30, 29, 28, 27, 40, 39, 52, 51, 64, 63, 76, 75, 88, 87, 100, 99, 112, 111, 124, 123, 110, 98, 86, 74, 62, 50, 38, 26] = true
  c_PATHS2 : Addr
  t_PATHS2 : tupB K c_PATHS2 [238, 237, 222, 221, 206, 205, 190, 189, 174, 173, 158, 157, 142, 141, 126, 125, 110, 109, 94, 93, 78, 77, 62, 61, 46, 45, 30, 29, 28, 27, 44, 43, 60, 59, 76, 75, 92, 91, 108, 107, 124, 123, 140, 139, 156, 155, 172, 171, 188, 187, 204, 203, 220, 219, 236, 235, 234, 233, 218, 217, 202, 201, 186, 185, 170, 169, 154, 153, 138, 137, 122, 121, 106, 105, 90, 89, 74, 73, 58, 57, 42, 41, 40, 39, 56, 55, 72, 71, 88, 87, 104, 103, 120, 119, 136, 135, 152, 151, 168, 167, 184, 183, 200, 199, 216, 215, 232, 231, 230, 229, 214, 213, 198, 197, 182, 181, 166, 165, 150, 149, 134, 133, 118, 117, 102, 101, 86, 85, 70, 69, 54, 53, 38, 37, 36, 35, 52, 51, 68, 67, 84, 83, 100, 99, 116, 115, 132, 131, 148, 147, 164, 163, 180, 179, 196, 195, 212, 211, 228, 227, 226, 210, 194, 178, 162, 146, 130, 114, 98, 82, 66, 65, 50, 49, 34, 33] = true
  c_PATHS3 : Addr
  t_PATHS3 : tupB K c_PATHS3 [378, 377, 358, 357, 338, 337, 318, 317, 298, 297, 278, 277, 258, 257, 238, 237, 218, 217, 198, 197, 178, 177, 158, 157, 138, 137, 118, 117, 98, 97, 78, 77, 58, 57, 38, 37, 36, 35, 56, 55, 76, 75, 96, 95, 116, 115, 136, 135, 156, 155, 176, 175, 196, 195, 216, 215, 236, 235, 256, 255, 276, 275, 296, 295, 316, 315, 336, 335, 356, 355, 376, 375, 374, 373, 354, 353, 334, 333, 314, 313, 294, 293, 274, 273, 254, 253, 234, 233, 214, 213, 194, 193, 174, 173, 154, 153, 134, 133, 114, 113, 94, 93, 74, 73, 54, 53, 34, 33, 32, 31, 52, 51, 72, 71, 92, 91, 112, 111, 132, 131, 152, 151, 172, 171, 192, 191, 212, 211, 232, 231, 252, 251, 272, 271, 292, 291, 312, 311, 332, 331, 352, 351, 372, 371, 370, 369, 350, 349, 330, 329, 310, 309, 290, 289, 270, 269, 250, 249, 230, 229, 210, 209, 190, 189, 170, 169, 150, 149, 130, 129, 110, 109, 90, 89, 70, 69, 50, 49, 48, 47, 68, 67, 88, 87, 108, 107, 128, 127, 148, 147, 168, 167, 188, 187, 208, 207, 228, 227, 248, 247, 268, 267, 288, 287, 308, 307, 328, 327, 348, 347, 368, 367, 366, 365, 346, 345, 326, 325, 306, 305, 286, 285, 266, 265, 246, 245, 226, 225, 206, 205, 186, 185, 166, 165, 146, 145, 126, 125, 106, 105, 86, 85, 66, 65, 46, 45, 44, 43, 64, 63, 84, 83, 104, 103, 124, 123, 144, 143, 164, 163, 184, 183, 204, 203, 224, 223, 244, 243, 264, 263, 284, 283, 304, 303, 324, 323, 344, 343, 364, 363, 362, 342, 322, 302, 282, 262, 242, 222, 202, 182, 162, 161, 142, 141, 122, 121, 102, 101, 82, 81, 62, 61, 42, 41] = true
  c_PATHS4 : Addr
  t_PATHS4 : tupB K c_PATHS4 [550, 549, 526, 525, 502, 501, 478, 477, 454, 453, 430, 429, 406, 405, 382, 381, 358, 357, 334, 333, 310, 309, 286, 285, 262, 261, 238, 237, 214, 213, 190, 189, 166, 165, 142, 141, 118, 117, 94, 93, 70, 69, 46, 45, 44, 43, 68, 67, 92, 91, 116, 115, 140, 139, 164, 163, 188, 187, 212, 211, 236, 235, 260, 259, 284, 283, 308, 307, 332, 331, 356, 355, 380, 379, 404, 403, 428, 427, 452, 451, 476, 475, 500, 499, 524, 523, 548, 547, 546, 545, 522, 521, 498, 497, 474, 473, 450, 449, 426, 425, 402, 401, 378, 377, 354, 353, 330, 329, 306, 305, 282, 281, 258, 257, 234, 233, 210, 209, 186, 185, 162, 161, 138, 137, 114, 113, 90, 89, 66, 65, 42, 41, 40, 39, 64, 63, 88, 87, 112, 111, 136, 135, 160, 159, 184, 183, 208, 207, 232, 231, 256, 255, 280, 279, 304, 303, 328, 327, 352, 351, 376, 375, 400, 399, 424, 423, 448, 447, 472, 471, 496, 495, 520, 519, 544, 543, 542, 541, 518, 517, 494, 493, 470, 469, 446, 445, 422, 421, 398, 397, 374, 373, 350, 349, 326, 325, 302, 301, 278, 277, 254, 253, 230, 229, 206, 205, 182, 181, 158, 157, 134, 133, 110, 109, 86, 85, 62, 61, 38, 37, 36, 35, 60, 59, 84, 83, 108, 107, 132, 131, 156, 155, 180, 179, 204, 203, 228, 227, 252, 251, 276, 275, 300, 299, 324, 323, 348, 347, 372, 371, 396, 395, 420, 419, 444, 443, 468, 467, 492, 491, 516, 515, 540, 539, 538, 537, 514, 513, 490, 489, 466, 465, 442, 441, 418, 417, 394, 393, 370, 369, 346, 345, 322, 321, 298, 297, 274, 273, 250, 249, 226, 225, 202, 201, 178, 177, 154, 153, 130, 129, 106, 105, 82, 81, 58, 57, 56, 55, 80, 79, 104, 103, 128, 127, 152, 151, 176, 175, 200, 199, 224, 223, 248, 247, 272, 271, 296, 295, 320, 319, 344, 343, 368, 367, 392, 391, 416, 415, 440, 439, 464, 463, 488, 487, 512, 511, 536, 535, 534, 533, 510, 509, 486, 485, 462, 461, 438, 437, 414, 413, 390, 389, 366, 365, 342, 341, 318, 317, 294, 293, 270, 269, 246, 245, 222, 221, 198, 197, 174, 173, 150, 149, 126, 125, 102, 101, 78, 77, 54, 53, 52, 51, 76, 75, 100, 99, 124, 123, 148, 147, 172, 171, 196, 195, 220, 219, 244, 243, 268, 267, 292, 291, 316, 315, 340, 339, 364, 363, 388, 387, 412, 411, 436, 435, 460, 459, 484, 483, 508, 507, 532, 531, 530, 506, 482, 458, 434, 410, 386, 362, 338, 314, 290, 289, 266, 265, 242, 241, 218, 217, 194, 193, 170, 169, 146, 145, 122, 121, 98, 97, 74, 73, 50, 49] = true
  a_PATHS : Addr
  g_PATHS : mg "PATHS" = some (.ref a_PATHS)
  l_PATHS : KTupR K a_PATHS [c_PATHS0, c_PATHS1, c_PATHS2, c_PATHS3, c_PATHS4]
  a_PLACES : Addr
  g_PLACES : mg "PLACES" = some (.ref a_PLACES)
  l_PLACES : tup3B K a_PLACES [[[37, 36, 37, 36, 37, 36, 37, 36], [37, 16, 17, 18, 19, 20, 21, 36], [37, 22, 23, 24, 25, 9, 8, 37], [37, 29, 33, 11, 10, 7, 6, 37], [37, 28, 32, 13, 12, 5, 4, 36], [37, 27, 31, 35, 14, 3, 2, 36], [37, 26, 30, 34, 15, 1, 0, 37], [37, 37, 37, 37, 37, 37, 37, 37]], [[101, 100, 101, 100, 101, 100, 101, 100, 101, 100, 101, 100], [101, 80, 81, 82, 83, 84, 85, 86, 87, 88, 89, 100], [101, 98, 79, 55, 54, 53, 52, 19, 18, 17, 16, 101], [101, 97, 78, 57, 56, 51, 50, 21, 20, 15, 14, 101], [101, 96, 77, 59, 58, 49, 48, 23, 22, 13, 12, 100], [101, 95, 76, 61, 60, 47, 46, 25, 24, 11, 10, 100], [101, 94, 75, 63, 62, 45, 44, 27, 26, 9, 8, 101], [101, 93, 74, 65, 64, 43, 42, 29, 28, 7, 6, 101], [101, 92, 73, 67, 66, 41, 40, 31, 30, 5, 4, 100], [101, 91, 72, 69, 68, 39, 38, 33, 32, 3, 2, 100], [101, 90, 99, 71, 70, 37, 36, 35, 34, 1, 0, 101], [101, 101, 101, 101, 101, 101, 101, 101, 101, 101, 101, 101]], [[197, 196, 197, 196, 197, 196, 197, 196, 197, 196, 197, 196, 197, 196, 197, 196], [197, 176, 177, 178, 179, 180, 181, 182, 183, 184, 185, 29, 28, 27, 26, 196], [197, 175, 174, 135, 134, 133, 132, 83, 82, 81, 80, 31, 30, 25, 24, 197], [197, 173, 172, 137, 136, 131, 130, 85, 84, 79, 78, 33, 32, 23, 22, 197], [197, 171, 170, 139, 138, 129, 128, 87, 86, 77, 76, 35, 34, 21, 20, 196], [197, 195, 169, 141, 140, 127, 126, 89, 88, 75, 74, 37, 36, 19, 18, 196], [197, 194, 168, 143, 142, 125, 124, 91, 90, 73, 72, 39, 38, 17, 16, 197], [197, 193, 167, 145, 144, 123, 122, 93, 92, 71, 70, 41, 40, 15, 14, 197], [197, 192, 166, 147, 146, 121, 120, 95, 94, 69, 68, 43, 42, 13, 12, 196], [197, 191, 165, 149, 148, 119, 118, 97, 96, 67, 66, 45, 44, 11, 10, 196], [197, 190, 164, 151, 150, 117, 116, 99, 98, 65, 64, 47, 46, 9, 8, 197], [197, 189, 163, 153, 152, 115, 114, 101, 100, 63, 62, 49, 48, 7, 6, 197], [197, 188, 162, 155, 154, 113, 112, 103, 102, 61, 60, 51, 50, 5, 4, 196], [197, 187, 161, 157, 156, 111, 110, 105, 104, 59, 58, 53, 52, 3, 2, 196], [197, 186, 160, 159, 158, 109, 108, 107, 106, 57, 56, 55, 54, 1, 0, 197], [197, 197, 197, 197, 197, 197, 197, 197, 197, 197, 197, 197, 197, 197, 197, 197]], [[325, 324, 325, 324, 325, 324, 325, 324, 325, 324, 325, 324, 325, 324, 325, 324, 325, 324, 325, 324], [325, 304, 305, 306, 307, 308, 309, 310, 311, 312, 313, 109, 108, 107, 106, 37, 36, 35, 34, 324], [325, 303, 302, 247, 246, 245, 244, 179, 178, 177, 176, 111, 110, 105, 104, 39, 38, 33, 32, 325], [325, 301, 300, 249, 248, 243, 242, 181, 180, 175, 174, 113, 112, 103, 102, 41, 40, 31, 30, 325], [325, 299, 298, 251, 250, 241, 240, 183, 182, 173, 172, 115, 114, 101, 100, 43, 42, 29, 28, 324], [325, 297, 296, 253, 252, 239, 238, 185, 184, 171, 170, 117, 116, 99, 98, 45, 44, 27, 26, 324], [325, 295, 294, 255, 254, 237, 236, 187, 186, 169, 168, 119, 118, 97, 96, 47, 46, 25, 24, 325], [325, 293, 292, 257, 256, 235, 234, 189, 188, 167, 166, 121, 120, 95, 94, 49, 48, 23, 22, 325], [325, 291, 290, 259, 258, 233, 232, 191, 190, 165, 164, 123, 122, 93, 92, 51, 50, 21, 20, 324], [325, 323, 289, 261, 260, 231, 230, 193, 192, 163, 162, 125, 124, 91, 90, 53, 52, 19, 18, 324], [325, 322, 288, 263, 262, 229, 228, 195, 194, 161, 160, 127, 126, 89, 88, 55, 54, 17, 16, 325], [325, 321, 287, 265, 264, 227, 226, 197, 196, 159, 158, 129, 128, 87, 86, 57, 56, 15, 14, 325], [325, 320, 286, 267, 266, 225, 224, 199, 198, 157, 156, 131, 130, 85, 84, 59, 58, 13, 12, 324], [325, 319, 285, 269, 268, 223, 222, 201, 200, 155, 154, 133, 132, 83, 82, 61, 60, 11, 10, 324], [325, 318, 284, 271, 270, 221, 220, 203, 202, 153, 152, 135, 134, 81, 80, 63, 62, 9, 8, 325], [325, 317, 283, 273, 272, 219, 218, 205, 204, 151, 150, 137, 136, 79, 78, 65, 64, 7, 6, 325], [325, 316, 282, 275, 274, 217, 216, 207, 206, 149, 148, 139, 138, 77, 76, 67, 66, 5, 4, 324], [325, 315, 281, 277, 276, 215, 214, 209, 208, 147, 146, 141, 140, 75, 74, 69, 68, 3, 2, 324], [325, 314, 280, 279, 278, 213, 212, 211, 210, 145, 144, 143, 142, 73, 72, 71, 70, 1, 0, 325], [325, 325, 325, 325, 325, 325, 325, 325, 325, 325, 325, 325, 325, 325, 325, 325, 325, 325, 325, 325]], [[485, 484, 485, 484, 485, 484, 485, 484, 485, 484, 485, 484, 485, 484, 485, 484, 485, 484, 485, 484, 485, 484, 485, 484], [485, 464, 465, 466, 467, 468, 469, 470, 471, 472, 473, 221, 220, 219, 218, 133, 132, 131, 130, 45, 44, 43, 42, 484], [485, 463, 462, 391, 390, 389, 388, 307, 306, 305, 304, 223, 222, 217, 216, 135, 134, 129, 128, 47, 46, 41, 40, 485], [485, 461, 460, 393, 392, 387, 386, 309, 308, 303, 302, 225, 224, 215, 214, 137, 136, 127, 126, 49, 48, 39, 38, 485], [485, 459, 458, 395, 394, 385, 384, 311, 310, 301, 300, 227, 226, 213, 212, 139, 138, 125, 124, 51, 50, 37, 36, 484], [485, 457, 456, 397, 396, 383, 382, 313, 312, 299, 298, 229, 228, 211, 210, 141, 140, 123, 122, 53, 52, 35, 34, 484], [485, 455, 454, 399, 398, 381, 380, 315, 314, 297, 296, 231, 230, 209, 208, 143, 142, 121, 120, 55, 54, 33, 32, 485], [485, 453, 452, 401, 400, 379, 378, 317, 316, 295, 294, 233, 232, 207, 206, 145, 144, 119, 118, 57, 56, 31, 30, 485], [485, 451, 450, 403, 402, 377, 376, 319, 318, 293, 292, 235, 234, 205, 204, 147, 146, 117, 116, 59, 58, 29, 28, 484], [485, 449, 448, 405, 404, 375, 374, 321, 320, 291, 290, 237, 236, 203, 202, 149, 148, 115, 114, 61, 60, 27, 26, 484], [485, 447, 446, 407, 406, 373, 372, 323, 322, 289, 288, 239, 238, 201, 200, 151, 150, 113, 112, 63, 62, 25, 24, 485], [485, 445, 444, 409, 408, 371, 370, 325, 324, 287, 286, 241, 240, 199, 198, 153, 152, 111, 110, 65, 64, 23, 22, 485], [485, 443, 442, 411, 410, 369, 368, 327, 326, 285, 284, 243, 242, 197, 196, 155, 154, 109, 108, 67, 66, 21, 20, 484], [485, 483, 441, 413, 412, 367, 366, 329, 328, 283, 282, 245, 244, 195, 194, 157, 156, 107, 106, 69, 68, 19, 18, 484], [485, 482, 440, 415, 414, 365, 364, 331, 330, 281, 280, 247, 246, 193, 192, 159, 158, 105, 104, 71, 70, 17, 16, 485], [485, 481, 439, 417, 416, 363, 362, 333, 332, 279, 278, 249, 248, 191, 190, 161, 160, 103, 102, 73, 72, 15, 14, 485], [485, 480, 438, 419, 418, 361, 360, 335, 334, 277, 276, 251, 250, 189, 188, 163, 162, 101, 100, 75, 74, 13, 12, 484], [485, 479, 437, 421, 420, 359, 358, 337, 336, 275, 274, 253, 252, 187, 186, 165, 164, 99, 98, 77, 76, 11, 10, 484], [485, 478, 436, 423, 422, 357, 356, 339, 338, 273, 272, 255, 254, 185, 184, 167, 166, 97, 96, 79, 78, 9, 8, 485], [485, 477, 435, 425, 424, 355, 354, 341, 340, 271, 270, 257, 256, 183, 182, 169, 168, 95, 94, 81, 80, 7, 6, 485], [485, 476, 434, 427, 426, 353, 352, 343, 342, 269, 268, 259, 258, 181, 180, 171, 170, 93, 92, 83, 82, 5, 4, 484], [485, 475, 433, 429, 428, 351, 350, 345, 344, 267, 266, 261, 260, 179, 178, 173, 172, 91, 90, 85, 84, 3, 2, 484], [485, 474, 432, 431, 430, 349, 348, 347, 346, 265, 264, 263, 262, 177, 176, 175, 174, 89, 88, 87, 86, 1, 0, 485], [485, 485, 485, 485, 485, 485, 485, 485, 485, 485, 485, 485, 485, 485, 485, 485, 485, 485, 485, 485, 485, 485, 485, 485]]] = true
  c_POWERS0 : Addr
  t_POWERS0 : tupB K c_POWERS0 [1, 2, 4, 8, 9, 11, 15, 7, 14, 5, 10, 13, 3, 6, 12] = true
  c_POWERS1 : Addr
  t_POWERS1 : tupB K c_POWERS1 [1, 2, 4, 8, 16, 32, 64, 128, 113, 226, 181, 27, 54, 108, 216, 193, 243, 151, 95, 190, 13, 26, 52, 104, 208, 209, 211, 215, 223, 207, 239, 175, 47, 94, 188, 9, 18, 36, 72, 144, 81, 162, 53, 106, 212, 217, 195, 247, 159, 79, 158, 77, 154, 69, 138, 101, 202, 229, 187, 7, 14, 28, 56, 112, 224, 177, 19, 38, 76, 152, 65, 130, 117, 234, 165, 59, 118, 236, 169, 35, 70, 140, 105, 210, 213, 219, 199, 255, 143, 111, 222, 205, 235, 167, 63, 126, 252, 137, 99, 198, 253, 139, 103, 206, 237, 171, 39, 78, 156, 73, 146, 85, 170, 37, 74, 148, 89, 178, 21, 42, 84, 168, 33, 66, 132, 121, 242, 149, 91, 182, 29, 58, 116, 232, 161, 51, 102, 204, 233, 163, 55, 110, 220, 201, 227, 183, 31, 62, 124, 248, 129, 115, 230, 189, 11, 22, 44, 88, 176, 17, 34, 68, 136, 97, 194, 245, 155, 71, 142, 109, 218, 197, 251, 135, 127, 254, 141, 107, 214, 221, 203, 231, 191, 15, 30, 60, 120, 240, 145, 83, 166, 61, 122, 244, 153, 67, 134, 125, 250, 133, 123, 246, 157, 75, 150, 93, 186, 5, 10, 20, 40, 80, 160, 49, 98, 196, 249, 131, 119, 238, 173, 43, 86, 172, 41, 82, 164, 57, 114, 228, 185, 3, 6, 12, 24, 48, 96, 192, 241, 147, 87, 174, 45, 90, 180, 25, 50, 100, 200, 225, 179, 23, 46, 92, 184] = true
  a_POWERS : Addr
  g_POWERS : mg "POWERS" = some (.ref a_POWERS)
  l_POWERS : KRef K a_POWERS [(4, c_POWERS0), (8, c_POWERS1)]
  c_QUADS0 : Addr
  t_QUADS0 : tupB K c_QUADS0 [0, 0, 0, 0] = true
  c_QUADS1 : Addr
  t_QUADS1 : tupB K c_QUADS1 [0, 0, 0, 1] = true
  c_QUADS2 : Addr
  t_QUADS2 : tupB K c_QUADS2 [0, 0, 1, 0] = true
  c_QUADS3 : Addr
  t_QUADS3 : tupB K c_QUADS3 [0, 0, 1, 1] = true
  c_QUADS4 : Addr
  t_QUADS4 : tupB K c_QUADS4 [0, 1, 0, 0] = true
  c_QUADS5 : Addr
  t_QUADS5 : tupB K c_QUADS5 [0, 1, 0, 1] = true
  c_QUADS6 : Addr
  t_QUADS6 : tupB K c_QUADS6 [0, 1, 1, 0] = true
  c_QUADS7 : Addr
  t_QUADS7 : tupB K c_QUADS7 [0, 1, 1, 1] = true
  c_QUADS8 : Addr
  t_QUADS8 : tupB K c_QUADS8 [1, 0, 0, 0] = true
  c_QUADS9 : Addr
  t_QUADS9 : tupB K c_QUADS9 [1, 0, 0, 1] = true
  c_QUADS10 : Addr
  t_QUADS10 : tupB K c_QUADS10 [1, 0, 1, 0] = true
  c_QUADS11 : Addr
  t_QUADS11 : tupB K c_QUADS11 [1, 0, 1, 1] = true
  c_QUADS12 : Addr
  t_QUADS12 : tupB K c_QUADS12 [1, 1, 0, 0] = true
  c_QUADS13 : Addr
  t_QUADS13 : tupB K c_QUADS13 [1, 1, 0, 1] = true
  c_QUADS14 : Addr
  t_QUADS14 : tupB K c_QUADS14 [1, 1, 1, 0] = true
  c_QUADS15 : Addr
  t_QUADS15 : tupB K c_QUADS15 [1, 1, 1, 1] = true
  a_QUADS : Addr
  g_QUADS : mg "QUADS" = some (.ref a_QUADS)
  l_QUADS : KTupR K a_QUADS [c_QUADS0, c_QUADS1, c_QUADS2, c_QUADS3, c_QUADS4, c_QUADS5, c_QUADS6, c_QUADS7, c_QUADS8, c_QUADS9, c_QUADS10, c_QUADS11, c_QUADS12, c_QUADS13, c_QUADS14, c_QUADS15]
  a_QUAD_WORDS : Addr
  g_QUAD_WORDS : mg "QUAD_WORDS" = some (.ref a_QUAD_WORDS)
  l_QUAD_WORDS : dTupB K a_QUAD_WORDS [([0, 0, 0, 0], 0), ([0, 0, 0, 1], 1), ([0, 0, 1, 0], 2), ([0, 0, 1, 1], 3), ([0, 1, 0, 0], 4), ([0, 1, 0, 1], 5), ([0, 1, 1, 0], 6), ([0, 1, 1, 1], 7), ([1, 0, 0, 0], 8), ([1, 0, 0, 1], 9), ([1, 0, 1, 0], 10), ([1, 0, 1, 1], 11), ([1, 1, 0, 0], 12), ([1, 1, 0, 1], 13), ([1, 1, 1, 0], 14), ([1, 1, 1, 1], 15)] = true
  a_SHARES : Addr
  g_SHARES : mg "SHARES" = some (.ref a_SHARES)
  l_SHARES : tup3B K a_SHARES [[[8, 4, 2, 1, 8, 4, 2, 1, 8, 4, 2, 1], [57, 216, 164, 82, 47, 27, 201, 104], [1601, 812, 3350, 2755], [741, 382, 3319, 1727]], [[230, 115, 253, 186, 59, 217, 168, 84, 145, 140, 70, 35, 196, 98, 49, 220, 42, 21, 206, 103, 93, 234, 117, 254, 162, 81, 236, 118, 25, 200, 100, 50], [53820, 41430, 23715, 58973, 5074, 52641, 27228, 13798, 19417, 10664, 6228, 50402, 45670, 37171, 36061, 18090, 52378, 26245, 13134, 56615, 54660, 44610, 22305, 61212], [7149884, 3852502, 13984931, 11416157, 15489839, 7792923, 15956169, 12448872, 1728909, 12926026, 7263781, 3646238, 11972949, 9673966, 9274999, 4867071], [3755124567, 2879479791, 1499261819, 3907418617, 507582810, 3341600997, 1863738494, 1002648311]], [[3304254554, 1652127277, 830749614, 2688722263, 1344400019, 682128881, 341082816, 170541408, 3224441698, 1621143857, 810606752, 405303376, 202651688, 101325844, 50662922, 3115976453, 178691248, 89345624, 3130074924, 1576053526, 2524507403, 1262276285, 2636015590, 4128213875, 3863766094, 1931883047, 2165512619, 4172395757, 2095078094, 1047539047, 523808395, 3072088061, 2334746955, 4255943837, 3327543030, 1663771515, 2309859717, 4243516666, 2121758333, 1065565062, 2113027378, 2256119321, 1132745652, 2571276634, 4095864877, 2057861294, 1028930647, 2787778195, 1475599608, 2478927484, 4057478974, 3228345119, 1614211511, 807128291, 414541513, 216151004, 3386238329, 3704801924, 1852400962, 931957281, 2739291560, 3911424596, 3433647402, 1726782997, 708767611, 354406277, 2998394874, 1508104061, 2496254854, 1255985475, 628019353, 2855758068, 2567668886, 4106043979, 2061902237, 1030990070, 2793493627, 1408772741, 2440828410, 4030640765, 4201325362, 2106435865, 2264853684, 1132426842, 2575776557, 4110132654, 2059790935, 1037727123, 1467237862, 2470091379, 4045229441, 3233193720, 1616596860, 815111998, 418576159, 209306551, 536003753, 3078185708, 3817091446, 3376586811, 3693170853, 1856514282, 928257141, 2737441410, 1964910540, 2182064998, 1103097139, 2565328545, 1288398824, 652053364, 332856634, 2976630301, 980604703, 490329015, 3064254947, 1532154057, 2502519004, 4071371886, 2035685943, 2217414051, 930518101, 2738571922, 3919914313, 3437931164, 1718965582, 864195111, 2705410475, 3902315757, 2875835526, 3985400387, 3460706713, 1730388212, 2343129210, 4260112445, 3329627302, 1664813651, 2797532268, 1398766134, 2442607899, 4042499765, 2025935842, 1020825969, 510455936, 255227968], [11631445368222200359, 16757226603236759979, 8430264473103348973, 4215132682286095054, 2127692246514806119, 13185144227365891723, 6612698019052607485, 10798148012564517830, 11286156707044472768, 5643156968611488608, 2821780691498690864, 12327615842502233112, 17080612548063618572, 14845346474573443846, 7474455287152681219, 10042451597182888121, 10639353337785837107, 17389508145544639393, 13876083323396268520, 6985189233553631348, 3492595336183837754, 1746297670633667101, 873148835316833718, 436575001373947483, 14725918171734653040, 7362959087603768376, 3681480057057259036, 11651691798684899086, 16780895730720682759, 8415225909652808123, 4207709540982114533, 2103986162130576586, 12784775150913286762, 16156358658598254901, 8078180051516368034, 4086315699446436433, 2081297710278060432, 1040780828751342664, 540515875210483236, 13492826890641615634, 15693895632876875266, 15338545437432289025, 7698483995361915832, 3849242373501608284, 11713186419122948142, 5908244177151353879, 10412083074042966707, 5226167373665933793, 601442746768626484, 300721682216694042, 150360841108381709, 75180796363829438, 13311810352767907935, 6694045035739225239, 3347022519606054643, 1693839062989604801, 15045864825244261926, 7556569119678353171, 3778399079910252465, 1914013077710043104, 1008657197088228208, 13747022565349710136, 6907147542391804956, 10940667417025866254, 10964401003168060513, 5524843960555694728, 2762422493526439236, 1381211966179156514, 12802896753314517265, 16207896343290089648, 8104150376557856856, 4072349634138874924, 17689354081001786075, 14017069458881996245, 7008534729450949330, 9843056902220301673, 4968675509709216396, 2484338542981107014, 1242169271499464227, 12728871940985999273, 18441550478853928801, 14397522581902771080, 15809644568615180612, 15387578905448076322, 15203567669887592977, 7621909295786440112, 10115994847903261272, 5082776050207445292, 17661694130517478392, 13983043655520025980, 7043172485986436670, 9826626511443288863, 4942446500601498039, 2518370685917920483, 1279311317042364105, 12742939365588156380, 8331638501093071846, 9365180490124875123, 17925285001190953601, 8996374970669427192, 4527521905812671612, 2263840218683098686, 13201567761388806943, 16402824318065224119, 842175138573635872, 13643858282969616400, 16585733578153158664, 8292866790276150276, 9298551368861948418, 17923679016823688449, 9000128354123497144, 4500161172460363612], [15953170217339834914600, 874530834917010197893908, 1077152410060201040269578, 538576252291540552765445, 269288126329940487792826, 774535658523382648550493, 390663723656105412598422, 197831395650040356277579, 411268812698841356545256, 694405642366696607340148, 1141584184732933224082234, 910947134753112213531933, 455486790077105873678006, 229067541009105795577691, 117918748173848054563733, 58965708443746700884466, 462603992718255429742907, 645828005812005161500837, 322914002906004863992042, 163071143359096611479669, 81535609985985134334082, 831777413442883507259457, 415888706722023729530008, 211041679094202757808716, 810187335599123403592467, 1120539672544734968123825, 973488973301854438486240, 486749663398338402482288, 656581950601709510343736, 1198230222737304291188252, 936764315060410342706958, 468382182255848710651655, 1191507474855280717556494, 597967887280414404873479, 302080078496575889342139, 792248250840013244432357, 1113774538730999335454666, 972003574742022022822757, 1050330916246656532530570, 525178727839543512652357, 1049852354028773180849902, 524926177111381984354167, 675670202953843558430595, 1204400267808998430925817, 939860254155178672966084, 1037644247185864810617954, 1007587054570524121001521, 994474030446415501473696, 1063923808221992058118640, 947373357445474288306296, 476776533080658313823292, 238400336187330521866782, 120528907831907866054927, 854645864683686684242111, 427328104663892981143783, 214982994533216728198347, 621580836221128364132323, 1180434517475533231602633, 929190590385403207411164, 466812903678018933541486, 235315689850638405362999, 757543655638707052186275, 378771875133710633354729, 191894120411191046085324, 600202709149728473246168, 640853610415071442209900, 1186981079443966223402550, 931147252859113805652763, 1032703172656144935791029, 516356758571952751111394, 673303347196092097132145, 339741523355853233273728, 1001513588223395066256852, 500767710837707539871338, 250383855567839605062453, 768457563750661051549090, 384239698600828471474769, 682804986665721688784272, 341402493333581987874376, 172910784701880087364388, 783057443745831099492242, 1108887450416103940016969, 554443763462086582132124, 614871085440904370116174, 307435562924974903683879, 718052697463516705099179, 362411326269728584433389, 181213121096292946444238, 264353877831594434844934, 772068565720789124224003, 1102798052256201460566713, 964614733395132976670180, 484511752614377327274610, 245352044817340535035193, 762569950553071752811172, 1096728649663575818193234], [2096219824289145559934226169, 1192914196792046455072319428, 57387520723407546261148568418, 70734760201764109637620923697, 35367380100882055469498025632, 17828160070862627249092780880, 51052584950617469997334890792, 25613372471118572501271182356, 74020786575134952915435671197, 64091198210948580543172126710, 69029395428375847208802298747, 66768798441429432819613822341, 65580395950737416135444451066, 64822385256842535948733605757, 64529329341032928881937058694, 32486919163683255795188563267, 75288055738950484669537928368, 59772696450774227924298834520, 66869809103461906343872303404, 33637401535779044764427464726, 16818702689230817992834504715, 8409353263646357279601536189, 56044284246691135647186884326, 69957360954162454486134229875, 17930252566038664269173710462, 51006128917761246824813834047, 25648097031209380970973147047, 12949963346390333063200042987, 53487423746752892534556774349, 26868839080731394332533907422, 13559957888743404025441277807, 53666957932330188045809275791, 60162378629818582336314453010, 30187685762699377418546796041, 42174496687888708613747780540, 21232128198525201101809036638, 10616067489392369849772600879, 5452916095390228915550451631, 54566065368568087484394275823, 27427836968931517623729256911, 53032205832877072315786177358, 73528205735313311192071138599, 64047329797781355290269896363, 32024307574230982632884037613, 43178530352349434807991110606, 78380102138511867390703435111, 61318229277834494406484936331, 30842269990456636175175934973, 43674236650800276080072294893, 78627955276820597643375147214, 39536682080559190574560869479, 42060328700879004914004082315, 77926785706970390825414172669, 61236040190718271036449798086, 67727166919287008008316511075, 33864375775005222199691364745, 41796317837830395629356911469, 77910496121125578748145417614, 61084295021424485176090551879, 67650730014151238084617270171, 34028348846792195423994085877, 44181344769980992104856418498, 22235479475236500697269697633, 48101764348153796152842010248, 74878651985916392391657059799, 59568221551593558124842042067, 29871264417904119410322727377, 14935632208952226281172994256, 7468153760009307166097097832, 3918095709148524394633634356, 1959388888788961164910989594, 979694449546729947811590157, 78238322470506754468126235636, 39264270260705030897656984954, 19632137925034321675436081725, 51857070421797054786099831206, 73038067525300891568270641235, 63685410318140877971079120017, 68970632967732581131896234736, 34611158539400287051384885624]]] = true
  a_SIDES : Addr
  g_SIDES : mg "SIDES" = some (.ref a_SIDES)
  l_SIDES : tupB K a_SIDES [8, 12, 16, 20, 24] = true
  a_SPANS : Addr
  g_SPANS : mg "SPANS" = some (.ref a_SPANS)
  l_SPANS : KInt K a_SPANS [(4, 16), (8, 256)]
  c_STARTS0 : Addr
  t_STARTS0 : tupB K c_STARTS0 [0, 1, 3, 6] = true
  c_STARTS1 : Addr
  t_STARTS1 : tupB K c_STARTS1 [0, 2, 6, 3] = true
  c_STARTS2 : Addr
  t_STARTS2 : tupB K c_STARTS2 [0, 60, 120, 180] = true
  c_STARTS3 : Addr
  t_STARTS3 : tupB K c_STARTS3 [0, 60, 120, 180] = true
  c_STARTS4 : Addr
  t_STARTS4 : tupB K c_STARTS4 [0, 60, 120, 180] = true
  a_STARTS : Addr
  g_STARTS : mg "STARTS" = some (.ref a_STARTS)
  l_STARTS : KTupR K a_STARTS [c_STARTS0, c_STARTS1, c_STARTS2, c_STARTS3, c_STARTS4]
  g_STRIP : ∃ t, mg "STRIP" = some (.int 10 t)
  a_WORD_BITS : Addr
  g_WORD_BITS : mg "WORD_BITS" = some (.ref a_WORD_BITS)
  l_WORD_BITS : tupB K a_WORD_BITS [4, 4, 8, 8, 8] = true
theorem getI_span {b : Nat} (hb : Wd b) : getI (b : Int) [(4, 16), (8, 256)] = some (span b : Int) := by rcases hb with rfl | rfl <;> rfl
theorem span_eq {b : Nat} (hb : Wd b) : span b = turn b + 1 := by rcases hb with rfl | rfl <;> rfl
theorem span_small {b : Nat} (hb : Wd b) : span b ≤ 256 := by rcases hb with rfl | rfl <;> decide
section
variable {P : Program} {w : World} {K : PySem.W.Frag} {mg : Str → Option Value} {base : Heap}
/-! ### the program's defs -/
def sp_is_number : Sp := fun vs H Q _ => ∃ i : Int, vs = [.int i] ∧ Q (.bl true) H
theorem ok_is_number (T : Txt K mg) : FnOk P w K mg base CX0 1 T.f_is_number T.d_is_number ["thing"] sp_is_number := by
  refine T.F_is_number.ok sc_is_number (fun vs H Q E h => ?_) (fun cdv A outer s H vs Q E hr h => ?_)
  · obtain ⟨i, rfl, _⟩ := h
    rfl
  · obtain ⟨i, rfl, q⟩ := h
    refine ⟨_, (pss_one (ps_ret (pe_and (pe_callB call_isi (by rfl) T.n_isinstance (by decide +kernel) (pa_cons (pv 0) (pa_cons (pe_bltn (v := .ty "int") (by rfl) T.n_int (by decide +kernel) rfl) pa_nil))) (pe_one (pe_not (pe_callB call_isi (by rfl) T.n_isinstance (by decide +kernel) (pa_cons (pv 0) (pa_cons (pe_bltn (v := .ty "bool") (by rfl) T.n_bool (by decide +kernel) rfl) pa_nil)))))))), ?_⟩
    refine ⟨_, rfl, .int i, .ty "int", .type "int", .type "int", true, rfl, .ty _, .base (.int i), kit_ty (by decide +kernel), true, rfl, ?_⟩
    exact ⟨_, rfl, .int i, .ty "bool", .type "int", .type "bool", false, rfl, .ty _, .base (.int i), kit_ty (by decide +kernel), _, rfl, q⟩
def sp_is_number_to : Sp := fun vs H Q _ => ∃ i l m : Int, vs = [.int i, .int l, .int m] ∧ Q (.bl (decide (l ≤ i) && decide (i ≤ m))) H
theorem ok_is_number_to (T : Txt K mg) : FnOk P w K mg base CX0 1 T.f_is_number_to T.d_is_number_to ["thing", "least", "most"] sp_is_number_to := by
  refine T.F_is_number_to.ok sc_is_number_to (fun vs H Q E h => ?_) (fun cdv A outer s H vs Q E hr h => ?_)
  · obtain ⟨i, l, m, rfl, _⟩ := h
    rfl
  · obtain ⟨i, l, m, rfl, q⟩ := h
    refine ⟨_, (pss_one (ps_ret (pe_and (pe_callB call_isi (by rfl) T.n_isinstance (by decide +kernel) (pa_cons (pv 0) (pa_cons (pe_bltn (v := .ty "int") (by rfl) T.n_int (by decide +kernel) rfl) pa_nil))) (pe_and (pe_not (pe_callB call_isi (by rfl) T.n_isinstance (by decide +kernel) (pa_cons (pv 0) (pa_cons (pe_bltn (v := .ty "bool") (by rfl) T.n_bool (by decide +kernel) rfl) pa_nil)))) (pe_one (pe_chain op_le op_le (pv 1) (pv 0) (pv 2))))))), ?_⟩
    refine ⟨_, rfl, .int i, .ty "int", .type "int", .type "int", true, rfl, .ty _, .base (.int i), kit_ty (by decide +kernel), true, rfl, ?_⟩
    refine ⟨_, rfl, .int i, .ty "bool", .type "int", .type "bool", false, rfl, .ty _, .base (.int i), kit_ty (by decide +kernel), _, rfl, true, rfl, ?_⟩
    refine ⟨_, rfl, _, rfl, _, _, rfl, rfl, _, rfl, ?_⟩
    refine ite2 (fun c => ?_) (fun c => ?_)
    · refine ⟨_, rfl, _, _, rfl, rfl, ?_⟩
      rw [show decide (l ≤ i) = true from c, Bool.true_and] at q
      exact q
    · rw [show decide (l ≤ i) = false by simpa using c, Bool.false_and] at q
      exact q
def sp_is_word : Sp := fun vs H Q _ => ∃ b x : Nat, vs = [vN b, vN x] ∧ Wd b ∧ x < span b ∧ Q (.bl true) H
theorem ok_is_word (T : Txt K mg) : FnOk P w K mg base CX0 3 T.f_is_word T.d_is_word ["bits", "thing"] sp_is_word := by
  refine T.F_is_word.ok sc_is_word (fun vs H Q E h => ?_) (fun cdv A outer s H vs Q E hr h => ?_)
  · obtain ⟨b, x, rfl, _⟩ := h
    rfl
  · obtain ⟨b, x, rfl, hb, hx, q⟩ := h
    refine ⟨_, (pss_one (ps_ret (pe_call (ok_is_number_to T) (hr.mono (by decide)) (by rfl) T.g_is_number_to T.F_is_number_to.kp T.b_is_number_to .nil pass0 (pa_cons (pv 1) (pa_cons pe_int (pa_cons (pe_op op_sub (pe_ix (ix_kint T.l_SPANS) (pe_glob (v := .ref T.a_SPANS) (by rfl) T.g_SPANS rfl) (pv 0) (fun _ _ => rfl)) pe_int) pa_nil)))))), ?_⟩
    refine ⟨_, rfl, _, rfl, _, _, rfl, rfl, getI_span hb, _, _, rfl, rfl, _, _, _, rfl, ?_⟩
    have e : (decide ((0 : Int) ≤ (x : Int)) && decide ((x : Int) ≤ (span b : Int) - 1)) = true := by
      simp
      omega
    rw [e]
    exact q
def sp_is_row (K : PySem.W.Frag) : Sp := fun vs H Q _ => ∃ (a : Addr) (k : Bool) (xs : List V), vs = [.ref a] ∧ SqB k K H a xs ∧ ∀ H', Same H H' → Q (.bl true) H'
theorem ok_is_row (T : Txt K mg) : FnOk P w K mg base CX0 1 T.f_is_row T.d_is_row ["thing"] (sp_is_row K) := by
  refine T.F_is_row.ok sc_is_row (fun vs H Q E h => ?_) (fun cdv A outer s H vs Q E hr h => ?_)
  · obtain ⟨a, k, xs, rfl, _⟩ := h
    rfl
  · obtain ⟨a, k, xs, rfl, hq, q⟩ := h
    refine ⟨_, (pss_one (ps_ret (pe_callB call_isiT (by rfl) T.n_isinstance (by decide +kernel) (pa_cons (pv 0) (pa_cons (pe_tup (pa_cons (pe_bltn (v := .ty "list") (by rfl) T.n_list (by decide +kernel) rfl) (pa_cons (pe_bltn (v := .ty "tuple") (by rfl) T.n_tuple (by decide +kernel) rfl) pa_nil))) pa_nil))))), ?_⟩
    refine ⟨_, rfl, (by show 2 ≤ sizeLine; decide), fun tp htp => ?_⟩
    have hq2 := Same.sqb (same_upd (o := .tup [.ty "list", .ty "tuple"]) htp) hq
    refine ⟨.ref a, tp, [.ty "list", .ty "tuple"], .type (if k = true then "list" else "tuple"), [.type "list", .type "tuple"], true, rfl, upd_same, .cons (.ty _) (.cons (.ty _) .nil), hq2.ty, ?_, q _ (same_upd htp)⟩
    cases k
    · exact kitAny_cons (kit_ty (r := false) (by decide +kernel)) (fun _ => kitAny_cons (kit_ty (r := true) (by decide +kernel)) (fun z => by cases z) (fun _ => rfl)) (fun z => by cases z)
    · exact kitAny_cons (kit_ty (r := true) (by decide +kernel)) (fun z => by cases z) (fun _ => rfl)
def sp_words (K : PySem.W.Frag) : Sp := fun vs H Q _ => ∃ (b : Nat) (a : Addr) (k : Bool) (ws : List Nat), vs = [vN b, .ref a] ∧ Wd b ∧ SqB k K H a (ws.map vN) ∧ Ws b ws ∧ ∀ H', Same H H' → Q (.bl true) H'
theorem ok_are_plain_words (T : Txt K mg) : FnOk P w K mg base CX0 1 T.f_are_plain_words T.d_are_plain_words ["bits", "things"] (sp_words K) := by
  refine T.F_are_plain_words.ok sc_are_plain_words (fun vs H Q E h => ?_) (fun cdv A outer s H vs Q E hr h => ?_)
  · obtain ⟨b, a, k, ws, rfl, _⟩ := h
    rfl
  · obtain ⟨b, a, k, ws, rfl, hb, hq, hw, q⟩ := h
    refine ⟨_, (pss_one (ps_ret (pe_notT (pe_lc (own := [("thing", 2)]) rfl sc_are_plain_words.nd (pi_seq (pv 1)) (blkOk_by (N := ["bits", "things", "thing"]) (sc := defScope s_are_plain_words) (by decide +kernel)) (fun _ _ _ _ _ => by exact (pg_name (i := 2) sc_are_plain_words.nd rfl (.inl rfl))) (fun _ _ _ _ _ => by exact (pts_one (PW.pt (pw_or (pt_cmpR op_isNotTy (pe_callTy RZ.call_type4 (by rfl) T.n_type (by decide +kernel) (pa_cons (pv 2) pa_nil)) (pe_bltn (v := .ty "int") (by rfl) T.n_int (by decide +kernel) rfl) (nomark _)) (pw_or1 (pt_truthK (K := K) rfl (pe_op op_shr (pv 2) (pv 0)) (fun _ => rfl))))))) (fun _ _ _ _ _ => by exact (pv 2)))))), ?_⟩
    refine ⟨_, rfl, a, _, k, rfl, hq, fun D hD => ?_⟩
    refine lc_it (walk_seq (b := k) (K := K) (a := a) (xs := ws.map vN)) (fun i H' => Same H H' ∧ H' D = some (.lst [])) ⟨same_upd hD, upd_same⟩ (fun i H' _ h => Same.sqb h.1 hq) ?_ ?_
    · rintro i v H1 H2 hi ⟨sm, g⟩ ⟨rfl, e2⟩
      rw [List.length_map] at hi
      have ey : v = vN (gd ws i) := by
        rw [List.getElem?_map, gd_in hi] at e2
        exact (Option.some.inj e2).symm
      subst ey
      refine ⟨rfl, ?_⟩
      refine ⟨_, rfl, _, "int", rfl, .int _, "int", "int", rfl, rfl, _, rfl, iteF ?_⟩
      refine ⟨_, rfl, _, rfl, _, _, rfl, rfl, by omega, _, rfl, ?_⟩
      rw [word_shr hb (gd_lt hb hw i)]
      exact iteF ⟨sm, g⟩
    · rintro H1 ⟨sm, g⟩
      exact ⟨_, SqB.truB (b := true) (.inl (.inl g)), q H1 sm⟩
def sp_need_words (K : PySem.W.Frag) : Sp := fun vs H Q _ => ∃ (b : Nat) (p : Str) (a : Addr) (k : Bool) (ws : List Nat), vs = [vN b, .str p, .ref a] ∧ Wd b ∧ SqB k K H a (ws.map vN) ∧ Ws b ws ∧ ∀ H', Same H H' → Q .non H'
theorem ok_need_words (T : Txt K mg) : FnOk P w K mg base CX0 4 T.f_need_words T.d_need_words ["bits", "part", "words"] (sp_need_words K) := by
  refine T.F_need_words.ok sc_need_words (fun vs H Q E h => ?_) (fun cdv A outer s H vs Q E hr h => ?_)
  · obtain ⟨b, p, a, k, ws, rfl, _⟩ := h
    rfl
  · obtain ⟨b, p, a, k, ws, rfl, hb, hq, hw, q⟩ := h
    refine ⟨_, (pss_cons (ps_if (pt_val (pe_call (ok_are_plain_words T) (hr.mono (by decide)) (by rfl) T.g_are_plain_words T.F_are_plain_words.kp T.b_are_plain_words .nil pass0 (pa_cons (pv 0) (pa_cons (pv 2) pa_nil)))) (pss_one ps_retN) pss_nil)
      (pss_one (ps_for PassesOwn.never rfl (pi_enumS (by rfl) T.n_enumerate (pa_cons (pv 2) pa_nil)) (pg_tup rfl (pgs_cons (pg_name (i := 3) sc_need_words.nd rfl (.inl rfl)) (pgs_cons (pg_name (i := 4) sc_need_words.nd rfl (.inl rfl)) pgs_nil))) (pss_one (ps_if (pt_not (pt_val (pe_call (ok_is_word T) (hr.mono (by decide)) (by rfl) T.g_is_word T.F_is_word.kp T.b_is_word .nil pass0 (pa_cons (pv 0) (pa_cons (pv 4) pa_nil))))) (pss_one ps_never) pss_nil))))), ?_⟩
    exact ⟨_, rfl, _, rfl, b, a, k, ws, rfl, hb, hq, hw, fun H1 s1 => ⟨_, rfl, iteT (q H1 s1)⟩⟩
/-! ### the class Field -/
def fl (b : Nat) (q r : Addr) : List (Str × V) := putF "exponents" (.ref r) (putF "powers" (.ref q) (putF "turn" (vN (turn b)) (putF "span" (vN (span b)) (putF "bits" (vN b) []))))
theorem fl_exponents (b : Nat) (q r : Addr) : (fl b q r).lookup ("exponents" : Str) = some (.ref r) := by
  unfold fl
  rw [lookup_putF, if_pos rfl]
theorem fl_powers (b : Nat) (q r : Addr) : (fl b q r).lookup ("powers" : Str) = some (.ref q) := by
  unfold fl
  rw [lookup_putF, if_neg (by decide +kernel), lookup_putF, if_pos rfl]
theorem fl_turn (b : Nat) (q r : Addr) : (fl b q r).lookup ("turn" : Str) = some (vN (turn b)) := by
  unfold fl
  rw [lookup_putF, if_neg (by decide +kernel), lookup_putF, if_neg (by decide +kernel), lookup_putF, if_pos rfl]
theorem fl_span (b : Nat) (q r : Addr) : (fl b q r).lookup ("span" : Str) = some (vN (span b)) := by
  unfold fl
  rw [lookup_putF, if_neg (by decide +kernel), lookup_putF, if_neg (by decide +kernel), lookup_putF, if_neg (by decide +kernel), lookup_putF, if_pos rfl]
theorem fl_no (b : Nat) (q r : Addr) {m : Str} (h1 : ¬ m = "exponents") (h2 : ¬ m = "powers") (h3 : ¬ m = "turn") (h4 : ¬ m = "span") (h5 : ¬ m = "bits" := by decide +kernel) : (fl b q r).lookup m = none := by
  unfold fl
  rw [lookup_putF, if_neg h1, lookup_putF, if_neg h2, lookup_putF, if_neg h3, lookup_putF, if_neg h4, lookup_putF, if_neg h5]
  rfl
structure FieldAt (K : PySem.W.Frag) (C : Addr) (H : Hp) (p : Addr) (b : Nat) : Prop where
  ex : ∃ dx q r, H p = some (.ins C dx (fl b q r)) ∧ H q = some (.tup (PP b)) ∧ SqT K H r ((tabE b).map V.int)
theorem FieldAt.same {C p : Addr} {H H' : Hp} {b : Nat} (F : FieldAt K C H p b) (s : Same H H') : FieldAt K C H' p b := by
  obtain ⟨dx, q, r, h1, h2, h3⟩ := F.ex
  exact ⟨⟨dx, q, r, s _ _ h1, s _ _ h2, Same.sqt s h3⟩⟩
theorem lg_pw {b i : Nat} (hb : Wd b) (h : i < turn b) : lg b (pw b i) = i := by
  have q : ((List.range (turn b)).all fun i => Nat.beq (lg b (pw b i)) i) = true := by rcases hb with rfl | rfl <;> decide +kernel
  exact Nat.eq_of_beq_eq_true (List.all_eq_true.mp q i (List.mem_range.mpr h))
theorem ixN_nat {n j : Nat} (h : j < n) : ixN n (j : Int) = some j := by
  unfold ixN
  rw [if_pos (by omega), if_pos (by omega), Int.toNat_natCast]
def expA (T : Txt K mg) (b : Nat) : Addr := cond (Nat.beq b 4) T.c_EXPONENTS0 T.c_EXPONENTS1
theorem tab_of (T : Txt K mg) {b : Nat} (hb : Wd b) : getA (b : Int) [(4, T.c_EXPONENTS0), (8, T.c_EXPONENTS1)] = some (expA T b) ∧ ∀ H, SqT K H (expA T b) ((tabE b).map V.int) := by
  rcases hb with rfl | rfl
  · exact ⟨rfl, fun H => tupB_ok (xs := E4) T.t_EXPONENTS0⟩
  · exact ⟨rfl, fun H => tupB_ok (xs := E8) T.t_EXPONENTS1⟩
def powA (T : Txt K mg) (b : Nat) : Addr := cond (Nat.beq b 4) T.c_POWERS0 T.c_POWERS1
theorem pow_of (T : Txt K mg) {b : Nat} (hb : Wd b) : getA (b : Int) [(4, T.c_POWERS0), (8, T.c_POWERS1)] = some (powA T b) ∧ ∀ H, SqT K H (powA T b) ((tabP b).map V.int) := by
  rcases hb with rfl | rfl
  · exact ⟨rfl, fun H => tupB_ok (xs := P4) T.t_POWERS0⟩
  · exact ⟨rfl, fun H => tupB_ok (xs := P8) T.t_POWERS1⟩
/-! CUT -/
def sp_init (K : PySem.W.Frag) (C : Addr) : Sp := fun vs H Q _ => ∃ (p dx : Addr) (b : Nat), vs = [.ref p, vN b] ∧ Wd b ∧ H p = some (.ins C dx []) ∧ ∀ H', (∀ c o, H c = some o → c ≠ p → H' c = some o) → FieldAt K C H' p b → Q .non H'
theorem ok_Field___init__ (T : Txt K mg) : FnOk P w K mg base CX0 3 T.f_Field___init__ T.d_Field___init__ ["self", "bits"] (sp_init K T.C_Field) := by
  refine T.F_Field___init__.ok sc_Field___init__ (fun vs H Q E h => ?_) (fun cdv A outer s H vs Q E hr h => ?_)
  · obtain ⟨p, dx, b, rfl, _⟩ := h
    rfl
  · obtain ⟨p, dx, b, rfl, hb, hp, q⟩ := h
    refine ⟨_, (pss_cons (ps_fld (pv 0) (pv 1) rfl)
      (pss_cons (ps_fld (pv 0) (pe_ix (ix_kint T.l_SPANS) (pe_glob (v := .ref T.a_SPANS) (by rfl) T.g_SPANS rfl) (pv 1) (fun _ _ => rfl)) rfl)
      (pss_cons (ps_fld (pv 0) (pe_op op_sub (pe_fld (pv 0) rfl) pe_int) rfl)
      (pss_cons (ps_fld (pv 0) (pe_op op_repT (pe_ix (ix_kref T.l_POWERS) (pe_glob (v := .ref T.a_POWERS) (by rfl) T.g_POWERS rfl) (pv 1) (fun _ _ => rfl)) pe_int) rfl)
      (pss_one (ps_fld (pv 0) (pe_ix (ix_kref T.l_EXPONENTS) (pe_glob (v := .ref T.a_EXPONENTS) (by rfl) T.g_EXPONENTS rfl) (pv 1) (fun _ _ => rfl)) rfl)))))), ?_⟩
    have hcl := T.cl_Field
    have hse := span_eq hb
    refine ⟨_, rfl, _, rfl, p, T.C_Field, dx, _, rfl, hp, hcl, T.a_Field_bits, (by show 0 < 1000; decide), ?_⟩
    refine ⟨_, rfl, _, _, rfl, rfl, getI_span hb, _, rfl, p, T.C_Field, dx, _, rfl, upd_same, hcl, T.a_Field_span, (by show 1 < 1000; decide), ?_⟩
    refine ⟨_, rfl, p, T.C_Field, dx, _, _, rfl, upd_same, hcl, T.a_Field_span, (by rw [lookup_putF, if_pos rfl]), _, _, rfl, rfl, _, rfl, p, T.C_Field, dx, _, rfl, upd_same, hcl, T.a_Field_turn, (by show 2 < 1000; decide), ?_⟩
    refine ⟨_, rfl, _, _, rfl, rfl, (pow_of T hb).1, _, 2, _, rfl, rfl, (pow_of T hb).2 _, (tabP_small hb).2, by decide, by decide, (tabP_small hb).1, fun q1 hq1 => ?_⟩
    have npq : p ≠ q1 := ne_of_none upd_same hq1
    refine ⟨_, rfl, p, T.C_Field, dx, _, rfl, by rw [upd_ne npq]; exact upd_same, hcl, T.a_Field_powers, (by show 3 < 1000; decide), ?_⟩
    refine ⟨_, rfl, _, _, rfl, rfl, (tab_of T hb).1, _, rfl, p, T.C_Field, dx, _, rfl, upd_same, hcl, T.a_Field_exponents, (by show 4 < 1000; decide), ?_⟩
    refine q _ (fun c o hc hcp => ?_) ⟨⟨dx, q1, expA T b, ?_, ?_, (tab_of T hb).2 _⟩⟩
    · have hcq : c ≠ q1 := ne_of_none (by rw [upd_ne hcp, upd_ne hcp, upd_ne hcp]; exact hc) hq1
      rw [upd_ne hcp, upd_ne hcp, upd_ne hcq, upd_ne hcp, upd_ne hcp, upd_ne hcp]
      exact hc
    · rw [upd_same]
      unfold fl
      rw [show vN (turn b) = V.int ((span b : Int) - 1) from congrArg V.int (by omega)]
      rfl
    · rw [upd_ne npq.symm, upd_ne npq.symm, upd_same]
      rfl
def sp_multiple (K : PySem.W.Frag) (C : Addr) : Sp := fun vs H Q _ => ∃ (p a : Addr) (k : Bool) (b y : Nat) (ws : List Nat), vs = [.ref p, .ref a, vN y] ∧ Wd b ∧ FieldAt K C H p b ∧ SqB k K H a (ws.map vN) ∧ Ws b ws ∧ y < span b ∧ ws.length ≤ 1000 ∧
  ∀ l H', Same H H' → H l = none → H' l = some (.lst ((ws.map fun x => mul b x y).map vN)) → Q (.ref l) H'
theorem flat_nought (n : Nat) : (List.replicate n [V.int 0]).flatten = List.replicate n (vN 0) := by
  induction n with
  | zero => rfl
  | succ n ih =>
    rw [List.replicate_succ, List.flatten_cons, ih, List.replicate_succ]
    rfl
theorem ok_Field_multiple (T : Txt K mg) : FnOk P w K mg base CX0 1 T.f_Field_multiple T.d_Field_multiple ["self", "words", "factor"] (sp_multiple K T.C_Field) := by
  refine T.F_Field_multiple.ok sc_Field_multiple (fun vs H Q E h => ?_) (fun cdv A outer s H vs Q E hr h => ?_)
  · obtain ⟨p, a, k, b, y, ws, rfl, _⟩ := h
    rfl
  · obtain ⟨p, a, k, b, y, ws, rfl, hb, hF, hq, hw, hy, hl, q⟩ := h
    obtain ⟨dx, q1, r, g1, g2, g3⟩ := hF.ex
    refine ⟨_, (pss_cons (ps_if (pt_cmpR op_eq (pv 2) pe_int (nomark _)) (pss_one (ps_ret (pe_op op_rep (pe_lst (pa_cons pe_int pa_nil)) (pe_callB call_len_seq (by rfl) T.n_len (by decide +kernel) (pa_cons (pv 1) pa_nil))))) pss_nil)
      (pss_cons (ps_set (i := 3) sc_Field_multiple.nd rfl (.inr rfl) (pe_fld (pv 0) rfl))
      (pss_cons (ps_set (i := 4) sc_Field_multiple.nd rfl (.inr rfl) (pe_fld (pv 0) rfl))
      (pss_cons (ps_set (i := 5) sc_Field_multiple.nd rfl (.inr rfl) (pe_ix ix_rowB (pv 4) (pv 2) (fun _ _ => rfl)))
      (pss_one (ps_ret (pe_lc (own := [("word", 6)]) rfl sc_Field_multiple.nd (pi_seq (pv 1)) (blkOk_by (N := ["self", "words", "factor", "powers", "exponents", "shift", "word"]) (sc := defScope s_Field_multiple) (by decide +kernel)) (fun _ _ _ _ _ => by exact (pg_name (i := 6) sc_Field_multiple.nd rfl (.inl rfl))) (fun _ _ _ _ _ => by exact pts_nil) (fun _ _ _ _ _ => by exact (pe_ifName (K := K) rfl (pv 6) (pe_ix (ix_rowBK (K := K) rfl) (pv 3) (pe_op op_add (pe_ix (ix_rowBK (K := K) rfl) (pv 4) (pv 6) (fun _ _ => rfl)) (pv 5)) (fun _ _ => rfl)) pe_int))))))))), ?_⟩
    have hcl := T.cl_Field
    refine ⟨_, rfl, rfl, _, rfl, ?_⟩
    refine ite2 (fun c => ?_) (fun c => ?_)
    · have e : y = 0 := by have := V.int.inj (of_decide_eq_true c); omega
      subst e
      refine ⟨(by show 1 ≤ sizeLine; decide), fun z hz => ?_⟩
      have sz := same_upd (o := .lst [.int 0]) hz
      refine ⟨_, rfl, a, _, rfl, (Same.sqb sz hq).or, z, _, _, rfl, rfl, upd_same, by omega, by simp; omega, ?_, fun l hl2 => ?_⟩
      · simp only [List.length_map, List.length_singleton]
        exact Nat.le_of_lt (small1000 (by omega))
      refine q l _ (sz.trans (same_upd hl2)) (Same.free sz hl2) ?_
      rw [upd_same, List.length_map, Int.toNat_natCast, flat_nought, List.map_map]
      refine congrArg (fun l => some (HO.lst l)) ?_
      refine (List.ext_getElem? fun i => ?_)
      rw [List.getElem?_replicate, List.getElem?_map]
      by_cases hi : i < ws.length
      · rw [if_pos hi, List.getElem?_eq_getElem hi]
        show _ = some (vN (mul b _ 0))
        rw [mul_zero]
      · rw [if_neg hi, List.getElem?_eq_none (by omega)]
        rfl
    · have h1 : y ≠ 0 := fun z => c (by rw [z]; rfl)
      refine ⟨_, rfl, p, _, dx, _, _, rfl, g1, hcl, T.a_Field_powers, fl_powers b q1 r, ?_⟩
      refine ⟨_, rfl, p, _, dx, _, _, rfl, g1, hcl, T.a_Field_exponents, fl_exponents b q1 r, ?_⟩
      refine ⟨_, rfl, _, rfl, r, _, _, _, false, rfl, rfl, g3, atI_nat (by rw [List.getElem?_map, tabE_at hb hy h1]; rfl), ?_⟩
      refine ⟨_, rfl, a, _, k, rfl, hq, fun D hD => ?_⟩
      refine lc_it (walk_seq (b := k) (K := K) (a := a) (xs := ws.map vN)) (fun i H' => Same H H' ∧ H' D = some (.lst (((ws.take i).map fun x => mul b x y).map vN)))
        ⟨same_upd hD, upd_same⟩ (fun i H' _ h => Same.sqb h.1 hq) ?_ ?_
      · rintro i v H1 H2 hi ⟨sm, g⟩ ⟨rfl, e2⟩
        rw [List.length_map] at hi
        have ey : v = vN (gd ws i) := by
          rw [List.getElem?_map, gd_in hi] at e2
          exact (Option.some.inj e2).symm
        subst ey
        have hx := gd_lt hb hw i
        have tk : ws.take (i + 1) = ws.take i ++ [gd ws i] := by
          rw [List.take_add_one, gd_in hi]
          rfl
        have fin : ∀ z : V, z = vN (mul b (gd ws i) y) → ∃ acc, H2 D = some (.lst acc) ∧ acc.length < sizeLine ∧ Same H (upd H2 D (.lst (acc ++ [z]))) ∧ (upd H2 D (.lst (acc ++ [z]))) D = some (.lst (((ws.take (i + 1)).map fun x => mul b x y).map vN)) := by
          rintro z rfl
          refine ⟨_, g, ?_, fun c o hc => ?_, ?_⟩
          · simp only [List.length_map, List.length_take]
            exact small1000 (by omega)
          · rw [upd_ne (ne_of_none hc hD)]
            exact sm _ _ hc
          · rw [upd_same, tk, List.map_append, List.map_append]
            rfl
        refine ⟨rfl, ?_⟩
        refine ⟨_, rfl, _, rfl, ?_⟩
        by_cases h0 : gd ws i = 0
        · have e : (((gd ws i : Nat) : Int) != 0) = false := by rw [h0]; rfl
          rw [e]
          refine iteF (fin _ ?_)
          rw [h0, zero_mul hb]
          rfl
        · have e : (((gd ws i : Nat) : Int) != 0) = true := by simp; omega
          rw [e]
          refine iteT ?_
          refine ⟨_, rfl, _, rfl, _, rfl, r, _, _, _, false, rfl, rfl, Same.sqt sm g3, atI_nat (by rw [List.getElem?_map, tabE_at hb hx h0]; rfl), ?_⟩
          exact ⟨_, rfl, _, _, rfl, rfl, q1, _, _, _, false, rfl, rfl, .tup (sm _ _ g2), sum_at hb hx hy h0 h1, fin _ rfl⟩
      · rintro H1 ⟨sm, g⟩
        rw [List.length_map, List.take_length] at g
        exact q D H1 sm hD g
def sp_two_to (K : PySem.W.Frag) (C : Addr) : Sp := fun vs H Q _ => ∃ (p : Addr) (b : Nat) (t : Int), vs = [.ref p, .int t] ∧ Wd b ∧ FieldAt K C H p b ∧ Q (vN (pwI b t)) H
theorem pp_at {b : Nat} {t : Int} (hb : Wd b) : atI (PP b) (t % (turn b : Int)) = some (vN (pwI b t)) := by
  have ht : (0 : Int) < (turn b : Int) := by have := turn_pos hb; omega
  have h0 := Int.emod_nonneg t (by omega : (turn b : Int) ≠ 0)
  have h1 := Int.emod_lt_of_pos t ht
  rw [show t % (turn b : Int) = ((t % (turn b : Int)).toNat : Int) from (Int.toNat_of_nonneg h0).symm]
  refine atI_nat ?_
  rw [PP_at hb (by omega)]
  rfl
theorem ok_Field_two_to (T : Txt K mg) : FnOk P w K mg base CX0 1 T.f_Field_two_to T.d_Field_two_to ["self", "times"] (sp_two_to K T.C_Field) := by
  refine T.F_Field_two_to.ok sc_Field_two_to (fun vs H Q E h => ?_) (fun cdv A outer s H vs Q E hr h => ?_)
  · obtain ⟨p, b, t, rfl, _⟩ := h
    rfl
  · obtain ⟨p, b, t, rfl, hb, hF, q⟩ := h
    obtain ⟨dx, q1, r, g1, g2, g3⟩ := hF.ex
    refine ⟨_, (pss_one (ps_ret (pe_ix ix_rowB (pe_fld (pv 0) rfl) (pe_op op_mod (pv 1) (pe_fld (pv 0) rfl)) (fun _ _ => rfl)))), ?_⟩
    have hcl := T.cl_Field
    have ht : (0 : Int) < (turn b : Int) := by have := turn_pos hb; omega
    refine ⟨_, rfl, p, _, dx, _, _, rfl, g1, hcl, T.a_Field_powers, fl_powers b q1 r, ?_⟩
    exact ⟨_, rfl, _, rfl, p, _, dx, _, _, rfl, g1, hcl, T.a_Field_turn, fl_turn b q1 r, _, _, rfl, rfl, ht, q1, _, _, _, false, rfl, rfl, .tup g2, pp_at hb, q⟩
/-- a fresh Field -/
theorem keep_same {H H' : Hp} {x dx C : Addr} (hx : H x = none) (hdx : H dx = none) (k : ∀ c o, (upd (upd H dx (.own x)) x (.ins C dx [])) c = some o → c ≠ x → H' c = some o) : Same H H' := fun c o hc =>
  k c o (by rw [upd_ne (ne_of_none hc hx), upd_ne (ne_of_none hc hdx)]; exact hc) (ne_of_none hc hx)
theorem flat_one (n : Nat) : (List.replicate n [V.int 0]).flatten = List.replicate n (vN 0) := flat_nought n
theorem cut_from (xs : List V) (k : Nat) (h : k ≤ xs.length) : cutV xs (some (k : Int)) none = xs.drop k := by
  unfold cutV
  rw [HT.sIx_none, HT.sIx_nat, Nat.min_eq_left h]
  exact List.take_of_length_le (by rw [List.length_drop]; omega)
theorem tE_at {b x : Nat} (hb : Wd b) (hx : x < span b) : ∃ e : Int, (tabE b)[x]? = some e ∧ tE b x = e := by
  have hl := tabE_len hb
  refine ⟨(tabE b)[x], List.getElem?_eq_getElem (by omega), ?_⟩
  unfold tE
  rw [List.getElem?_eq_getElem (by omega)]
  rfl
def sp_times (K : PySem.W.Frag) (C : Addr) : Sp := fun vs H Q _ => ∃ (p : Addr) (b x y : Nat), vs = [.ref p, vN x, vN y] ∧ Wd b ∧ FieldAt K C H p b ∧ x < span b ∧ y < span b ∧ Q (vN (mul b x y)) H
theorem ok_Field_times (T : Txt K mg) : FnOk P w K mg base CX0 1 T.f_Field_times T.d_Field_times ["self", "one", "other"] (sp_times K T.C_Field) := by
  refine T.F_Field_times.ok sc_Field_times (fun vs H Q E h => ?_) (fun cdv A outer s H vs Q E hr h => ?_)
  · obtain ⟨p, b, x, y, rfl, _⟩ := h
    rfl
  · obtain ⟨p, b, x, y, rfl, hb, hF, hx, hy, q⟩ := h
    obtain ⟨dx, q1, r, g1, g2, g3⟩ := hF.ex
    refine ⟨_, (pss_cons (ps_if (PW.pt (pw_or (pt_cmpR op_eq (pv 1) pe_int (nomark _)) (pw_or1 (pt_cmpR op_eq (pv 2) pe_int (nomark _))))) (pss_one (ps_ret pe_int)) pss_nil)
      (pss_one (ps_ret (pe_ix ix_rowB (pe_fld (pv 0) rfl) (pe_op op_add (pe_ix ix_rowB (pe_fld (pv 0) rfl) (pv 1) (fun _ _ => rfl)) (pe_ix ix_rowB (pe_fld (pv 0) rfl) (pv 2) (fun _ _ => rfl))) (fun _ _ => rfl))))), ?_⟩
    have hcl := T.cl_Field
    refine ⟨_, rfl, rfl, _, rfl, ?_⟩
    refine ite2 (fun c => ?_) (fun c => ?_)
    · have e : x = 0 := by have := V.int.inj (of_decide_eq_true c); omega
      subst e
      rw [zero_mul hb] at q
      exact q
    · have h0 : x ≠ 0 := fun z => c (by rw [z]; rfl)
      refine ⟨_, rfl, rfl, _, rfl, ?_⟩
      refine ite2 (fun c2 => ?_) (fun c2 => ?_)
      · have e : y = 0 := by have := V.int.inj (of_decide_eq_true c2); omega
        subst e
        rw [mul_zero] at q
        exact q
      · have h1 : y ≠ 0 := fun z => c2 (by rw [z]; rfl)
        refine ⟨_, rfl, p, _, dx, _, _, rfl, g1, hcl, T.a_Field_powers, fl_powers b q1 r, ?_⟩
        refine ⟨_, rfl, p, _, dx, _, _, rfl, g1, hcl, T.a_Field_exponents, fl_exponents b q1 r, _, rfl, r, _, _, _, false, rfl, rfl, g3, atI_nat (by rw [List.getElem?_map, tabE_at hb hx h0]; rfl), ?_⟩
        refine ⟨_, rfl, p, _, dx, _, _, rfl, g1, hcl, T.a_Field_exponents, fl_exponents b q1 r, _, rfl, r, _, _, _, false, rfl, rfl, g3, atI_nat (by rw [List.getElem?_map, tabE_at hb hy h1]; rfl), _, _, rfl, rfl, ?_⟩
        exact ⟨q1, _, _, _, false, rfl, rfl, .tup g2, sum_at hb hx hy h0 h1, q⟩
/-! CUT -/
def sp_check_factor (K : PySem.W.Frag) (C : Addr) : Sp := fun vs H Q _ => ∃ (p : Addr) (b m s : Nat), vs = [.ref p, vN m, vN s] ∧ Wd b ∧ FieldAt K C H p b ∧ m ≤ 500 ∧ ∀ l H', Same H H' → H l = none → H' l = some (.lst ((cfL b s m).map vN)) → Q (.ref l) H'
theorem ok_check_factor (T : Txt K mg) : FnOk P w K mg base CX0 2 T.f_check_factor T.d_check_factor ["field", "many", "start"] (sp_check_factor K T.C_Field) := by
  refine T.F_check_factor.ok sc_check_factor (fun vs H Q E h => ?_) (fun cdv A outer s H vs Q E hr h => ?_)
  · obtain ⟨p, b, m, s, rfl, _⟩ := h
    rfl
  · obtain ⟨p, b, m, s0, rfl, hb, hF, hm, q⟩ := h
    refine ⟨_, (pss_cons (ps_set (i := 3) sc_check_factor.nd rfl (.inl rfl) (pe_lst pa_nil))
      (pss_cons (ps_set (i := 4) sc_check_factor.nd rfl (.inl rfl) pe_int)
      (pss_cons (ps_for PassesOwn.never rfl (pi_range1 (by rfl) T.n_range (pa_cons (pv 1) pa_nil)) (pg_name (i := 5) sc_check_factor.nd rfl (.inl rfl)) (pss_cons (ps_set (i := 6) sc_check_factor.nd rfl (.inl rfl) (pe_op op_xor (pe_meth (pv 0) T.cl_Field T.m_Field_two_to (ok_Field_two_to T) (hr.mono (by decide)) T.b_Field_two_to .nil pass0 (pa_cons (pe_op op_sub (pv 1) (pv 5)) pa_nil)) pe_int))
      (pss_cons (ps_set (i := 7) sc_check_factor.nd rfl (.inl rfl) (pe_op op_xor (pe_meth (pv 0) T.cl_Field T.m_Field_two_to (ok_Field_two_to T) (hr.mono (by decide)) T.b_Field_two_to .nil pass0 (pa_cons (pe_op op_add (pv 5) pe_int) pa_nil)) pe_int))
      (pss_cons (ps_aug (i := 4) sc_check_factor.nd rfl (.inl rfl) (pe_op op_sub (pe_op op_add (pe_op op_add (pv 2) (pv 5)) (pe_ix ix_rowB (pe_fld (pv 0) rfl) (pv 6) (fun _ _ => rfl))) (pe_ix ix_rowB (pe_fld (pv 0) rfl) (pv 7) (fun _ _ => rfl))) ip_add)
      (pss_one (ps_expr (pe_bm PySem.F.plainAttrs_list PySem.F.slot_list_append PySem.F.type_list_append mt_append (pv 3) (pa_cons (pe_meth (pv 0) T.cl_Field T.m_Field_two_to (ok_Field_two_to T) (hr.mono (by decide)) T.b_Field_two_to .nil pass0 (pa_cons (pv 4) pa_nil)) pa_nil))))))))
      (pss_one (ps_ret (pv 3)))))), ?_⟩
    have hcl := T.cl_Field
    have hs1 := span_pos hb
    refine ⟨Nat.zero_le _, fun l hl => ?_⟩
    have sl := same_upd (o := .lst []) hl
    refine ⟨_, rfl, _, rfl, by omega, by omega, ?_⟩
    refine for_range (fun j σ H' => ∃ z5 z6 z7 : Option V, σ = [some (.ref p), some (vN m), some (vN s0), some (.ref l), some (.int (cfE b s0 m j)), z5, z6, z7] ∧ Same H H' ∧ H' l = some (.lst (((List.range j).map fun k => pwI b (cfE b s0 m (k + 1))).map vN)))
      ⟨_, _, _, rfl, sl, upd_same⟩ ?_ ?_
    · rintro j σ H1 hj ⟨z5, z6, z7, rfl, sm, hL⟩
      have hj2 : j < m := by simpa using hj
      obtain ⟨dx, q1, r, g1, g2, g3⟩ := (hF.same sm).ex
      have u1 : pw b (m - j) ^^^ 1 < span b := xor_lt hb (pw_lt hb _) hs1
      have u2 : pw b (j + 1) ^^^ 1 < span b := xor_lt hb (pw_lt hb _) hs1
      obtain ⟨eU, hU, tU⟩ := tE_at hb u1
      obtain ⟨eL, hE, tL⟩ := tE_at hb u2
      have X1 : Builtin.bitXor ((pwI b ((m : Int) - (0 + (j : Int))) : Nat) : Int) 1 = ((pw b (m - j) ^^^ 1 : Nat) : Int) := by
        rw [show (m : Int) - (0 + (j : Int)) = ((m - j : Nat) : Int) by omega, pwI_nat hb]
        exact bx _ 1
      have X2 : Builtin.bitXor ((pwI b (0 + (j : Int) + 1) : Nat) : Int) 1 = ((pw b (j + 1) ^^^ 1 : Nat) : Int) := by
        rw [show 0 + (j : Int) + 1 = ((j + 1 : Nat) : Int) by omega, pwI_nat hb]
        exact bx _ 1
      have no4 := fl_no b q1 r (m := "two_to") (by decide +kernel) (by decide +kernel) (by decide +kernel) (by decide +kernel)
      refine ⟨_, rfl, p, dx, _, rfl, g1, no4, _, rfl, _, rfl, _, _, rfl, rfl, p, b, _, rfl, hb, hF.same sm, _, _, rfl, rfl, ?_⟩
      refine ⟨_, rfl, p, dx, _, rfl, g1, no4, _, rfl, _, _, rfl, rfl, p, b, _, rfl, hb, hF.same sm, _, _, rfl, rfl, ?_⟩
      refine ⟨_, rfl, _, rfl, _, rfl, _, _, rfl, rfl, ?_⟩
      refine ⟨_, rfl, p, _, dx, _, _, rfl, g1, hcl, T.a_Field_exponents, fl_exponents b q1 r, _, rfl, r, _, _, _, false, rfl, rfl, g3, (by rw [X1]; exact atI_nat (by rw [List.getElem?_map, hU]; rfl)), _, _, rfl, rfl, ?_⟩
      refine ⟨_, rfl, p, _, dx, _, _, rfl, g1, hcl, T.a_Field_exponents, fl_exponents b q1 r, _, rfl, r, _, _, _, false, rfl, rfl, g3, (by rw [X2]; exact atI_nat (by rw [List.getElem?_map, hE]; rfl)), _, _, rfl, rfl, ?_⟩
      refine ⟨_, _, rfl, rfl, ?_⟩
      have eN : cfE b s0 m j + ((s0 : Int) + (0 + (j : Int)) + eU - eL) = cfE b s0 m (j + 1) := by
        show _ = cfE b s0 m j + ((s0 : Int) + (j : Int) + tE b (pw b (m - j) ^^^ 1) - tE b (pw b (j + 1) ^^^ 1))
        rw [tU, tL, Int.zero_add]
      refine ⟨.ref l, rfl, .inl ⟨rfl, _, .inl (.inl hL)⟩, ?_⟩
      refine ⟨_, rfl, p, dx, _, rfl, g1, no4, _, rfl, p, b, _, rfl, hb, hF.same sm, l, _, _, rfl, rfl, hL, ?_, ?_⟩
      · simp only [List.length_map, List.length_range]
        exact small1000 (by omega)
      refine ⟨some (.int (0 + (j : Int))), some (.int (Builtin.bitXor ((pwI b ((m : Int) - (0 + (j : Int))) : Nat) : Int) 1)), some (.int (Builtin.bitXor ((pwI b (0 + (j : Int) + 1) : Nat) : Int) 1)), ?_, fun c o hc => ?_, ?_⟩
      rotate_left
      · rw [upd_ne (ne_of_none hc hl)]
        exact sm _ _ hc
      · rw [upd_same, List.range_succ, List.map_append, List.map_append]
        show some (HO.lst (_ ++ [vN (pwI b (cfE b s0 m j + ((s0 : Int) + (0 + (j : Int)) + eU - eL)))])) = _
        rw [eN]
        rfl
      · rw [← eN]
        rfl
    · rintro σ H1 ⟨z5, z6, z7, rfl, sm, hL⟩
      rw [Int.toNat_natCast] at hL
      exact ⟨_, rfl, q l H1 sm hl hL⟩

/-! CUT -/
def sp_next_rest (K : PySem.W.Frag) (C : Addr) : Sp := fun vs H Q _ => ∃ (p a a2 : Addr) (b m x : Nat) (gs rs : List Nat), vs = [.ref p, .ref a, .ref a2, vN x] ∧ Wd b ∧ FieldAt K C H p b ∧ H a = some (.lst (gs.map vN)) ∧ H a2 = some (.lst (rs.map vN)) ∧ Ws b gs ∧ Ws b rs ∧ gs.length = m ∧ rs.length = m ∧ 0 < m ∧ m ≤ 500 ∧ x < span b ∧
  ∀ l H', Same H H' → H l = none → H' l = some (.lst ((nxt b m gs rs x).map vN)) → Q (.ref l) H'
theorem ok_next_rest (T : Txt K mg) : FnOk P w K mg base CX0 2 T.f_next_rest T.d_next_rest ["field", "factor", "rest", "word"] (sp_next_rest K T.C_Field) := by
  refine T.F_next_rest.ok sc_next_rest (fun vs H Q E h => ?_) (fun cdv A outer s H vs Q E hr h => ?_)
  · obtain ⟨p, a, a2, b, m, x, gs, rs, rfl, _⟩ := h
    rfl
  · obtain ⟨p, a, a2, b, m, x, gs, rs, rfl, hb, hF, hg, hr2, wg, wr, lg', lr, hm, hm5, hx, q⟩ := h
    refine ⟨_, (pss_cons (ps_set (i := 4) sc_next_rest.nd rfl (.inl rfl) (pe_meth (pv 0) T.cl_Field T.m_Field_multiple (ok_Field_multiple T) (hr.mono (by decide)) T.b_Field_multiple .nil pass0 (pa_cons (pv 1) (pa_cons (pe_op op_xor (pe_ix ix_list (pv 2) pe_int (fun _ _ => rfl)) (pv 3)) pa_nil))))
      (pss_one (ps_ret (pe_lc (own := [("one", 5), ("other", 6)]) (g := gTup K 2 (gCons (gName 5) (gCons (gName 6) gNil))) rfl sc_next_rest.nd (pi_zip (by rfl) T.n_zip (pa_cons (pe_op op_cat (pe_slice sl_list (pv 2) (po_some pe_int) po_none) (pe_lst (pa_cons pe_int pa_nil))) (pa_cons (pv 4) pa_nil))) (blkOk_by (N := ["field", "factor", "rest", "word", "share", "one", "other"]) (sc := defScope s_next_rest) (by decide +kernel)) (fun _ _ _ _ _ => by (refine pg_tup ?_ ?_); (exact rfl); (refine pgs_cons ?_ ?_); (exact (pg_name (i := 5) sc_next_rest.nd rfl (.inl rfl))); (refine pgs_cons ?_ ?_); (exact (pg_name (i := 6) sc_next_rest.nd rfl (.inl rfl))); (exact pgs_nil)) (fun _ _ _ _ _ => by exact pts_nil) (fun _ _ _ _ _ => by exact (pe_op op_xor (pv 5) (pv 6))))))), ?_⟩
    obtain ⟨dx, q1, r, g1, g2, g3⟩ := hF.ex
    have X1 : Builtin.bitXor ((gd rs 0 : Nat) : Int) (x : Int) = ((gd rs 0 ^^^ x : Nat) : Int) := bx _ _
    have hc : gd rs 0 ^^^ x < span b := xor_lt hb (gd_lt hb wr 0) hx
    refine ⟨_, rfl, p, dx, _, rfl, g1, fl_no b q1 r (by decide +kernel) (by decide +kernel) (by decide +kernel) (by decide +kernel), _, rfl, _, rfl, a2, _, 0, vN (gd rs 0), rfl, rfl, .inl (.inl hr2), atI_nat (j := 0) (by rw [List.getElem?_map, gd_in (by omega)]; rfl), _, rfl, _, _, rfl, rfl, ?_⟩
    refine ⟨p, a, true, b, gd rs 0 ^^^ x, gs, congrArg (fun z => [V.ref p, V.ref a, V.int z]) X1, hb, hF, .lst hg, wg, hc, by omega, fun l2 H1 s1 n1 e1 => ?_⟩
    refine ⟨_, rfl, 1, rfl, a2, _, rfl, .inl (.inl (s1 _ _ hr2)), fun c1 hc1 => ?_⟩
    have ecut : cutV (rs.map vN) (some 1) none = (rs.drop 1).map vN := by
      have e := cut_from (rs.map vN) 1 (by rw [List.length_map]; omega)
      rw [← List.map_drop] at e
      exact e
    rw [ecut]
    have sc1 := same_upd (o := .lst ((rs.drop 1).map vN)) hc1
    refine ⟨(by show 1 ≤ sizeLine; decide), fun z hz => ?_⟩
    have sz := same_upd (o := .lst [.int 0]) hz
    refine ⟨c1, z, _, _, rfl, rfl, sz _ _ upd_same, upd_same, ?_, fun d hd => ?_⟩
    · simp only [List.length_map, List.length_drop, List.length_singleton]
      exact Nat.le_of_lt (small1000 (by omega))
    have e0 : (rs.drop 1).map vN ++ [V.int 0] = (rs.drop 1 ++ [0]).map vN := by
      rw [List.map_append]
      rfl
    rw [e0]
    have sd := same_upd (o := .lst ((rs.drop 1 ++ [0]).map vN)) hd
    have sA := sc1.trans (sz.trans sd)
    have hX : (upd (upd (upd H1 c1 (.lst ((rs.drop 1).map vN))) z (.lst [.int 0])) d (.lst ((rs.drop 1 ++ [0]).map vN))) d = some (.lst ((rs.drop 1 ++ [0]).map vN)) := upd_same
    have hY := sA _ _ e1
    have sB := s1.trans sA
    generalize (upd (upd (upd H1 c1 (.lst ((rs.drop 1).map vN))) z (.lst [.int 0])) d (.lst ((rs.drop 1 ++ [0]).map vN))) = H2 at hX hY sA sB ⊢
    have LX : (rs.drop 1 ++ [0]).length = m := by
      rw [List.length_append, List.length_drop, List.length_singleton]
      omega
    have LY : (gs.map fun x_1 => mul b x_1 (gd rs 0 ^^^ x)).length = m := by rw [List.length_map, lg']
    refine ⟨_, rfl, d, l2, _, _, rfl, .inl (.inl hX), .inl (.inl hY), fun D hD => ?_⟩
    refine lc_it (walk_zip (K := K) (a := d) (b := l2) (xs := (rs.drop 1 ++ [0]).map vN) (ys := (gs.map fun x_1 => mul b x_1 (gd rs 0 ^^^ x)).map vN) (n := m) (by rw [List.length_map, List.length_map, LX, LY]; omega))
      (fun i H' => Same H2 H' ∧ H' D = some (.lst (((List.range i).map fun k => gd (rs.drop 1 ++ [0]) k ^^^ gd (gs.map fun x_1 => mul b x_1 (gd rs 0 ^^^ x)) k).map vN)))
      ⟨same_upd hD, upd_same⟩ (fun i H' _ h => ⟨.inl (.inl (h.1 _ _ hX)), .inl (.inl (h.1 _ _ hY))⟩) ?_ ?_
    · rintro i xv H3 H4 hi ⟨sm, g3⟩ ⟨T1, x1, y1, rfl, hT, rfl, e3, e4⟩
      have ex : x1 = vN (gd (rs.drop 1 ++ [0]) i) := by
        have e5 : ((rs.drop 1 ++ [0]).map vN)[i]? = some x1 := e3
        rw [List.getElem?_map, gd_in (by rw [LX]; exact hi)] at e5
        exact (Option.some.inj e5).symm
      have ey : y1 = vN (gd (gs.map fun x_1 => mul b x_1 (gd rs 0 ^^^ x)) i) := by
        have e5 : ((gs.map fun x_1 => mul b x_1 (gd rs 0 ^^^ x)).map vN)[i]? = some y1 := e4
        rw [List.getElem?_map, gd_in (by rw [LY]; exact hi)] at e5
        exact (Option.some.inj e5).symm
      subst ex
      subst ey
      have sT := same_upd (o := .tup [vN (gd (rs.drop 1 ++ [0]) i), vN (gd (gs.map fun x_1 => mul b x_1 (gd rs 0 ^^^ x)) i)]) hT
      refine ⟨T1, [_, _], rfl, .inl (.inl upd_same), rfl, _, [_], rfl, _, [], rfl, rfl, rfl, ?_⟩
      refine ⟨_, rfl, _, rfl, _, _, rfl, rfl, _, sT _ _ g3, ?_, fun c o hc => ?_, ?_⟩
      · simp only [List.length_map, List.length_range]
        exact small1000 (by omega)
      · rw [upd_ne (ne_of_none hc hD)]
        exact sT _ _ (sm _ _ hc)
      · rw [upd_same, List.range_succ, List.map_append, List.map_append]
        show some (HO.lst (_ ++ [V.int (Builtin.bitXor _ _)])) = _
        rw [bx]
        rfl
    · rintro H3 ⟨sm, g3⟩
      refine q D H3 (sB.trans sm) (Same.free sB hD) ?_
      rw [g3]
      refine congrArg (fun l : List Nat => some (HO.lst (l.map vN))) ?_
      unfold nxt
      refine List.map_congr_left fun k hk => ?_
      have hk := List.mem_range.mp hk
      have ea : gd (rs.drop 1 ++ [0]) k = gd rs (k + 1) := by
        unfold gd
        by_cases h : k < rs.length - 1
        · rw [List.getD_eq_getElem?_getD, List.getD_eq_getElem?_getD, List.getElem?_append_left (by rw [List.length_drop]; exact h), List.getElem?_drop, Nat.add_comm 1 k]
        · rw [List.getD_eq_getElem?_getD, List.getD_eq_getElem?_getD, List.getElem?_append_right (by rw [List.length_drop]; omega), List.getElem?_eq_none (show rs.length ≤ k + 1 by omega), List.length_drop, show k - (rs.length - 1) = 0 by omega]
          rfl
      have eb : gd (gs.map fun x_1 => mul b x_1 (gd rs 0 ^^^ x)) k = mul b (gd gs k) (gd rs 0 ^^^ x) := by
        have e := gd_in (ws := gs) (i := k) (by omega)
        have e2 : (gs.map fun x_1 => mul b x_1 (gd rs 0 ^^^ x))[k]? = some (mul b (gd gs k) (gd rs 0 ^^^ x)) := by
          rw [List.getElem?_map, e]
          rfl
        show (gs.map fun x_1 => mul b x_1 (gd rs 0 ^^^ x)).getD k 0 = _
        rw [List.getD_eq_getElem?_getD, e2]
        rfl
      rw [ea, eb]
def sp_with_checks (K : PySem.W.Frag) (C : Addr) : Sp := fun vs H Q _ => ∃ (p a : Addr) (k : Bool) (b m s : Nat) (ws : List Nat), vs = [.ref p, vN m, vN s, .ref a] ∧ Wd b ∧ FieldAt K C H p b ∧ SqB k K H a (ws.map vN) ∧ Ws b ws ∧ ws.length + m ≤ 500 ∧ 0 < m ∧
  ∀ l H', Same H H' → H l = none → H' l = some (.lst ((ws ++ chk b s m ws).map vN)) → Q (.ref l) H'
theorem take_one {ws : List Nat} {i : Nat} (h : i < ws.length) : ws.take (i + 1) = ws.take i ++ [gd ws i] := by
  rw [List.take_add_one, gd_in h]
  rfl
theorem chkF_snoc (b m : Nat) (g r ws : List Nat) (w : Nat) : chkF b m g r (ws ++ [w]) = nxt b m g (chkF b m g r ws) w := by
  unfold chkF
  rw [List.foldl_append]
  rfl
theorem ok_with_checks (T : Txt K mg) : FnOk P w K mg base CX0 3 T.f_with_checks T.d_with_checks ["field", "many", "start", "words"] (sp_with_checks K T.C_Field) := by
  refine T.F_with_checks.ok sc_with_checks (fun vs H Q E h => ?_) (fun cdv A outer s H vs Q E hr h => ?_)
  · obtain ⟨p, a, k, b, m, s, ws, rfl, _⟩ := h
    rfl
  · obtain ⟨p, a, k, b, m, s0, ws, rfl, hb, hF, hq, hw, hl, hm, q⟩ := h
    refine ⟨_, (pss_cons (ps_set (i := 4) sc_with_checks.nd rfl (.inl rfl) (pe_call (ok_check_factor T) (hr.mono (by decide)) (by rfl) T.g_check_factor T.F_check_factor.kp T.b_check_factor .nil pass0 (pa_cons (pv 0) (pa_cons (pv 1) (pa_cons (pv 2) pa_nil)))))
      (pss_cons (ps_set (i := 5) sc_with_checks.nd rfl (.inl rfl) (pe_op op_rep (pe_lst (pa_cons pe_int pa_nil)) (pv 1)))
      (pss_cons (ps_for PassesOwn.never rfl (pi_seq (pv 3)) (pg_name (i := 6) sc_with_checks.nd rfl (.inl rfl)) (pss_one (ps_set (i := 5) sc_with_checks.nd rfl (.inl rfl) (pe_call (ok_next_rest T) (hr.mono (by decide)) (by rfl) T.g_next_rest T.F_next_rest.kp T.b_next_rest .nil pass0 (pa_cons (pv 0) (pa_cons (pv 4) (pa_cons (pv 5) (pa_cons (pv 6) pa_nil))))))))
      (pss_one (ps_ret (pe_op op_cat (pe_callTy call_list_of (by rfl) T.n_list (by decide +kernel) (pa_cons (pv 3) pa_nil)) (pv 5))))))), ?_⟩
    refine ⟨_, rfl, _, rfl, _, rfl, p, b, m, s0, rfl, hb, hF, by omega, fun g H1 s1 n1 e1 => ?_⟩
    refine ⟨(by show 1 ≤ sizeLine; decide), fun z hz => ?_⟩
    have sz := same_upd (o := .lst [.int 0]) hz
    refine ⟨_, rfl, z, _, _, rfl, rfl, upd_same, by omega, by omega, ?_, fun r0 hr0 => ?_⟩
    · rw [Int.toNat_natCast]
      simp only [List.length_singleton]
      exact Nat.le_of_lt (small1000 (by omega))
    have sr := same_upd (o := .lst (List.replicate (m : Int).toNat [V.int 0]).flatten) hr0
    have s2 := s1.trans (sz.trans sr)
    have eR : (List.replicate (m : Int).toNat [V.int 0]).flatten = (List.replicate m 0).map vN := by
      rw [Int.toNat_natCast, flat_one, List.map_replicate]
    have wg := cfL_ws (s := s0) (m := m) hb
    refine ⟨_, rfl, a, _, k, rfl, Same.sqb s2 hq, ?_⟩
    refine for_it (walk_seq (b := k) (K := K) (a := a) (xs := ws.map vN)) (fun i σ H' => ∃ (rA : Addr) (z6 : Option V), σ = [some (.ref p), some (vN m), some (vN s0), some (.ref a), some (.ref g), some (.ref rA), z6] ∧ Same H H' ∧ H' g = some (.lst ((cfL b s0 m).map vN)) ∧ H' rA = some (.lst ((chk b s0 m (ws.take i)).map vN)))
      ⟨r0, _, rfl, s2, sr _ _ (sz _ _ e1), by rw [upd_same, eR]; rfl⟩ (fun i σ H' _ ⟨_, _, _, sm, _⟩ => Same.sqb sm hq) ?_ ?_
    · rintro i x σ H2 H3 hi ⟨rA, z6, rfl, sm, g1, g2⟩ ⟨rfl, e2⟩
      rw [List.length_map] at hi
      have ey : x = vN (gd ws i) := by
        rw [List.getElem?_map, gd_in hi] at e2
        exact (Option.some.inj e2).symm
      subst ey
      have wt : Ws b (ws.take i) := fun y hy => hw y (List.mem_of_mem_take hy)
      refine ⟨_, rfl, _, rfl, _, rfl, _, rfl, p, g, rA, b, m, gd ws i, cfL b s0 m, chk b s0 m (ws.take i), rfl, hb, hF.same sm, g1, g2, wg, chk_ws hb wt, cfL_len _ _ _, chk_len hb, hm, by omega, gd_lt hb hw i, fun l H4 s4 n4 e4 => ?_⟩
      refine ⟨l, _, rfl, sm.trans s4, s4 _ _ g1, ?_⟩
      rw [e4, take_one hi]
      unfold chk
      rw [chkF_snoc]
    · rintro σ H2 ⟨rA, z6, rfl, sm, g1, g2⟩
      rw [List.length_map, List.take_length] at g2
      refine ⟨_, rfl, a, _, rfl, (Same.sqb sm hq).or, fun c hc => ?_⟩
      have sc := same_upd (o := .lst (ws.map vN)) hc
      have lc := chk_len (s := s0) (m := m) (ws := ws) hb
      refine ⟨_, rfl, c, rA, _, _, rfl, rfl, upd_same, sc _ _ g2, ?_, fun d hd => ?_⟩
      · simp only [List.length_map]
        exact Nat.le_of_lt (small1000 (by omega))
      have sA := sm.trans sc
      refine q d _ (sA.trans (same_upd hd)) (Same.free sA hd) ?_
      rw [upd_same, List.map_append]
/-! CUT -/
def mostC (b : Nat) : Nat := if b = 4 then 14 else 40
theorem getI_most {b : Nat} (hb : Wd b) : getI (b : Int) [(4, 14), (8, 40)] = some (mostC b : Int) := by rcases hb with rfl | rfl <;> rfl
/-- a code that is one -/
def CodeOk (b m s : Nat) : Prop := Wd b ∧ 1 ≤ m ∧ m ≤ mostC b ∧ s + 2 ≤ span b
def sp_is_code (K : PySem.W.Frag) : Sp := fun vs H Q _ => ∃ (a : Addr) (b m s : Nat), vs = [.ref a] ∧ SqT K H a [vN b, vN m, vN s] ∧ CodeOk b m s ∧ Q (.bl true) H
theorem ok_is_code (T : Txt K mg) : FnOk P w K mg base CX0 3 T.f_is_code T.d_is_code ["code"] (sp_is_code K) := by
  refine T.F_is_code.ok sc_is_code (fun vs H Q E h => ?_) (fun cdv A outer s H vs Q E hr h => ?_)
  · obtain ⟨a, b, m, s, rfl, _⟩ := h
    rfl
  · obtain ⟨a, b, m, s0, rfl, hq, ⟨hb, h1, h2, h3⟩, q⟩ := h
    refine ⟨_, (pss_cons (ps_if (PW.pt (pw_or (pt_not (pt_val (pe_callB call_isi (by rfl) T.n_isinstance (by decide +kernel) (pa_cons (pv 0) (pa_cons (pe_bltn (v := .ty "tuple") (by rfl) T.n_tuple (by decide +kernel) rfl) pa_nil))))) (pw_or1 (pt_cmpR op_ne (pe_callB call_len_seq (by rfl) T.n_len (by decide +kernel) (pa_cons (pv 0) pa_nil)) pe_int (nomark _))))) (pss_one (ps_ret pe_bl)) pss_nil)
      (pss_cons (ps_asg (pv 0) (pg_tup rfl (pgs_cons (pg_name (i := 1) sc_is_code.nd rfl (.inl rfl)) (pgs_cons (pg_name (i := 2) sc_is_code.nd rfl (.inl rfl)) (pgs_cons (pg_name (i := 3) sc_is_code.nd rfl (.inl rfl)) pgs_nil)))))
      (pss_cons (ps_if (PW.pt (pw_or (pt_not (pt_val (pe_call (ok_is_number T) (hr.mono (by decide)) (by rfl) T.g_is_number T.F_is_number.kp T.b_is_number .nil pass0 (pa_cons (pv 1) pa_nil)))) (pw_or1 (pt_cmpR (op_notInKI T.l_MOST_CHECKS) (pv 1) (pe_glob (v := .ref T.a_MOST_CHECKS) (by rfl) T.g_MOST_CHECKS rfl) (by rfl))))) (pss_one (ps_ret pe_bl)) pss_nil)
      (pss_one (ps_ret (pe_and (pe_call (ok_is_number_to T) (hr.mono (by decide)) (by rfl) T.g_is_number_to T.F_is_number_to.kp T.b_is_number_to .nil pass0 (pa_cons (pv 2) (pa_cons pe_int (pa_cons (pe_ix (ix_kint T.l_MOST_CHECKS) (pe_glob (v := .ref T.a_MOST_CHECKS) (by rfl) T.g_MOST_CHECKS rfl) (pv 1) (fun _ _ => rfl)) pa_nil)))) (pe_one (pe_call (ok_is_number_to T) (hr.mono (by decide)) (by rfl) T.g_is_number_to T.F_is_number_to.kp T.b_is_number_to .nil pass0 (pa_cons (pv 3) (pa_cons pe_int (pa_cons (pe_op op_sub (pe_ix (ix_kint T.l_SPANS) (pe_glob (v := .ref T.a_SPANS) (by rfl) T.g_SPANS rfl) (pv 1) (fun _ _ => rfl)) pe_int) pa_nil))))))))))), ?_⟩
    refine ⟨_, rfl, .ref a, .ty "tuple", .type "tuple", .type "tuple", true, rfl, .ty _, SqB.ty (b := false) hq, kit_ty (by decide +kernel), true, rfl, iteF ?_⟩
    refine ⟨_, rfl, a, _, rfl, .inr hq, rfl, _, rfl, iteF ?_⟩
    refine ⟨_, rfl, a, [_, _, _], rfl, hq, rfl, _, [_, _], rfl, _, [_], rfl, _, [], rfl, rfl, ?_⟩
    refine ⟨_, rfl, _, rfl, true, rfl, iteF ?_⟩
    refine ⟨_, rfl, _, rfl, rfl, _, rfl, ?_⟩
    rw [getI_most hb]
    refine iteF ?_
    refine ⟨_, rfl, _, rfl, _, _, rfl, rfl, getI_most hb, _, _, _, rfl, ?_⟩
    have e : (decide ((1 : Int) ≤ (m : Int)) && decide ((m : Int) ≤ (mostC b : Int))) = true := by
      simp
      omega
    rw [e]
    refine ⟨_, rfl, iteT ?_⟩
    refine ⟨_, rfl, _, rfl, _, _, rfl, rfl, getI_span hb, _, _, rfl, rfl, _, _, _, rfl, ?_⟩
    have e : (decide ((0 : Int) ≤ (s0 : Int)) && decide ((s0 : Int) ≤ (span b : Int) - 2)) = true := by
      simp
      omega
    rw [e]
    exact q
def sp_need_code (K : PySem.W.Frag) : Sp := fun vs H Q _ => ∃ (a : Addr) (b m s : Nat), vs = [.ref a] ∧ SqT K H a [vN b, vN m, vN s] ∧ CodeOk b m s ∧ Q .non H
theorem ok_need_code (T : Txt K mg) : FnOk P w K mg base CX0 4 T.f_need_code T.d_need_code ["code"] (sp_need_code K) := by
  refine T.F_need_code.ok sc_need_code (fun vs H Q E h => ?_) (fun cdv A outer s H vs Q E hr h => ?_)
  · obtain ⟨a, b, m, s, rfl, _⟩ := h
    rfl
  · obtain ⟨a, b, m, s0, rfl, hq, hc, q⟩ := h
    refine ⟨_, (pss_one (ps_if (pt_not (pt_val (pe_call (ok_is_code T) (hr.mono (by decide)) (by rfl) T.g_is_code T.F_is_code.kp T.b_is_code .nil pass0 (pa_cons (pv 0) pa_nil)))) (pss_one ps_never) pss_nil)), ?_⟩
    exact ⟨_, rfl, a, b, m, s0, rfl, hq, hc, _, rfl, iteF q⟩
def sp_most_words : Sp := fun vs H Q _ => ∃ b : Nat, vs = [vN b] ∧ Wd b ∧ Q (vN (turn b)) H
theorem ok_most_words (T : Txt K mg) : FnOk P w K mg base CX0 1 T.f_most_words T.d_most_words ["bits"] sp_most_words := by
  refine T.F_most_words.ok sc_most_words (fun vs H Q E h => ?_) (fun cdv A outer s H vs Q E hr h => ?_)
  · obtain ⟨b, rfl, _⟩ := h
    rfl
  · obtain ⟨b, rfl, hb, q⟩ := h
    refine ⟨_, (pss_one (ps_ret (pe_op op_sub (pe_ix (ix_kint T.l_SPANS) (pe_glob (v := .ref T.a_SPANS) (by rfl) T.g_SPANS rfl) (pv 0) (fun _ _ => rfl)) pe_int))), ?_⟩
    refine ⟨_, rfl, _, _, rfl, rfl, getI_span hb, _, _, rfl, rfl, ?_⟩
    have e : vN (turn b) = V.int ((span b : Int) - 1) := by
      unfold vN
      have := span_eq hb
      exact congrArg V.int (by omega)
    rw [e] at q
    exact q
def sp_is_length (K : PySem.W.Frag) : Sp := fun vs H Q _ => ∃ (a : Addr) (b m s n : Nat), vs = [.ref a, vN n] ∧ SqT K H a [vN b, vN m, vN s] ∧ CodeOk b m s ∧ m < n ∧ n < span b ∧ Q (.bl true) H
theorem ok_is_length (T : Txt K mg) : FnOk P w K mg base CX0 3 T.f_is_length T.d_is_length ["code", "length"] (sp_is_length K) := by
  refine T.F_is_length.ok sc_is_length (fun vs H Q E h => ?_) (fun cdv A outer s H vs Q E hr h => ?_)
  · obtain ⟨a, b, m, s, n, rfl, _⟩ := h
    rfl
  · obtain ⟨a, b, m, s0, n, rfl, hq, ⟨hb, h1, h2, h3⟩, hm, hn, q⟩ := h
    refine ⟨_, (pss_cons (ps_asg (pv 0) (pg_tup rfl (pgs_cons (pg_name (i := 2) sc_is_length.nd rfl (.inl rfl)) (pgs_cons (pg_name (i := 3) sc_is_length.nd rfl (.inl rfl)) (pgs_cons (pg_name (i := 4) sc_is_length.nd rfl (.inl rfl)) pgs_nil)))))
      (pss_one (ps_ret (pe_call (ok_is_number_to T) (hr.mono (by decide)) (by rfl) T.g_is_number_to T.F_is_number_to.kp T.b_is_number_to .nil pass0 (pa_cons (pv 1) (pa_cons (pe_op op_add (pv 3) pe_int) (pa_cons (pe_call (ok_most_words T) (hr.mono (by decide)) (by rfl) T.g_most_words T.F_most_words.kp T.b_most_words .nil pass0 (pa_cons (pv 2) pa_nil)) pa_nil))))))), ?_⟩
    refine ⟨_, rfl, a, [_, _, _], rfl, hq, rfl, _, [_, _], rfl, _, [_], rfl, _, [], rfl, rfl, ?_⟩
    refine ⟨_, rfl, _, rfl, _, _, rfl, rfl, _, rfl, b, rfl, hb, _, _, _, rfl, ?_⟩
    have e : (decide ((m : Int) + 1 ≤ (n : Int)) && decide ((n : Int) ≤ (turn b : Int))) = true := by
      have := span_eq hb
      simp
      omega
    rw [e]
    exact q
theorem most_le {b m s : Nat} (h : CodeOk b m s) : m ≤ mostN b := by
  obtain ⟨hb, _, h2, _⟩ := h
  rcases hb with rfl | rfl
  · exact h2
  · exact h2
def sp_check_words (K : PySem.W.Frag) : Sp := fun vs H Q _ => ∃ (c a : Addr) (k : Bool) (b m s : Nat) (ws : List Nat), vs = [.ref c, .ref a] ∧ SqT K H c [vN b, vN m, vN s] ∧ CodeOk b m s ∧ SqB k K H a (ws.map vN) ∧ Ws b ws ∧ 0 < ws.length ∧ ws.length + m < span b ∧
  ∀ l H', Same H H' → H l = none → H' l = some (.lst ((chk b s m ws).map vN)) → Q (.ref l) H'
theorem ok_check_words (T : Txt K mg) : FnOk P w K mg base CX0 5 T.f_check_words T.d_check_words ["code", "words"] (sp_check_words K) := by
  refine T.F_check_words.ok sc_check_words (fun vs H Q E h => ?_) (fun cdv A outer s H vs Q E hr h => ?_)
  · obtain ⟨c, a, k, b, m, s, ws, rfl, _⟩ := h
    rfl
  · obtain ⟨c, a, k, b, m, s0, ws, rfl, hc, hok, hq, hw, h0, hl, q⟩ := h
    refine ⟨_, (pss_cons (ps_expr (pe_call (ok_need_code T) (hr.mono (by decide)) (by rfl) T.g_need_code T.F_need_code.kp T.b_need_code .nil pass0 (pa_cons (pv 0) pa_nil)))
      (pss_cons (ps_asg (pv 0) (pg_tup rfl (pgs_cons (pg_name (i := 2) sc_check_words.nd rfl (.inl rfl)) (pgs_cons (pg_name (i := 3) sc_check_words.nd rfl (.inl rfl)) (pgs_cons (pg_name (i := 4) sc_check_words.nd rfl (.inl rfl)) pgs_nil)))))
      (pss_cons (ps_if (PW.pt (pw_or (pt_not (pt_val (pe_call (ok_is_row T) (hr.mono (by decide)) (by rfl) T.g_is_row T.F_is_row.kp T.b_is_row .nil pass0 (pa_cons (pv 1) pa_nil)))) (pw_or1 (pt_not (pt_val (pe_call (ok_is_length T) (hr.mono (by decide)) (by rfl) T.g_is_length T.F_is_length.kp T.b_is_length .nil pass0 (pa_cons (pv 0) (pa_cons (pe_op op_add (pe_callB call_len_seq (by rfl) T.n_len (by decide +kernel) (pa_cons (pv 1) pa_nil)) (pv 3)) pa_nil)))))))) (pss_one ps_never) pss_nil)
      (pss_cons (ps_expr (pe_call (ok_need_words T) (hr.mono (by decide)) (by rfl) T.g_need_words T.F_need_words.kp T.b_need_words .nil pass0 (pa_cons (pv 2) (pa_cons pe_str (pa_cons (pv 1) pa_nil)))))
      (pss_one (ps_ret (pe_slice sl_list (pe_call (ok_with_checks T) (hr.mono (by decide)) (by rfl) T.g_with_checks T.F_with_checks.kp T.b_with_checks .nil pass0 (pa_cons (pe_make T.mk_Field (ok_Field___init__ T) (hr.mono (by decide)) (by rfl) T.g_Field T.b_Field___init__ .nil pass0 (pa_cons (pv 2) pa_nil)) (pa_cons (pv 3) (pa_cons (pv 4) (pa_cons (pv 1) pa_nil))))) (po_some (pe_callB call_len_seq (by rfl) T.n_len (by decide +kernel) (pa_cons (pv 1) pa_nil))) po_none))))))), ?_⟩
    have hb := hok.1
    have hs2 := span_small hb
    refine ⟨_, rfl, c, b, m, s0, rfl, hc, hok, ?_⟩
    refine ⟨_, rfl, c, [_, _, _], rfl, hc, rfl, _, [_, _], rfl, _, [_], rfl, _, [], rfl, rfl, ?_⟩
    refine ⟨_, rfl, a, k, _, rfl, hq, fun H1 s1 => ⟨_, rfl, iteF ?_⟩⟩
    refine ⟨_, rfl, _, rfl, a, _, rfl, (Same.sqb s1 hq).or, _, rfl, _, _, rfl, rfl, c, b, m, s0, ws.length + m, ?_, Same.sqt s1 hc, hok, by omega, by omega, _, rfl, iteF ?_⟩
    · rw [List.length_map]
      rfl
    refine ⟨_, rfl, _, rfl, b, _, a, k, ws, rfl, hb, Same.sqb s1 hq, hw, fun H2 s2 => ?_⟩
    refine ⟨_, rfl, fun x dx hx hdx ne => ⟨x, dx, b, rfl, hb, upd_same, fun H3 hk hF => ⟨rfl, ?_⟩⟩⟩
    have s3 := (s1.trans s2).trans (keep_same hx hdx hk)
    refine ⟨_, rfl, _, rfl, _, rfl, x, a, k, b, m, s0, ws, rfl, hb, hF, Same.sqb s3 hq, hw, by omega, hok.2.1, fun l H4 s4 n4 e4 => ?_⟩
    have s34 := s3.trans s4
    refine ⟨_, rfl, a, _, rfl, (Same.sqb s34 hq).or, _, rfl, l, _, rfl, .inl (.inl e4), fun out ho => ?_⟩
    refine q out _ (s34.trans (same_upd ho)) (Same.free s34 ho) ?_
    rw [upd_same, List.length_map, cut_from _ _ (by simp), List.map_append, List.drop_left' (by simp)]
/-! CUT -/
def sp_value_at (K : PySem.W.Frag) (C : Addr) : Sp := fun vs H Q _ => ∃ (p a : Addr) (k : Bool) (b t : Nat) (ws : List Nat), vs = [.ref p, .ref a, vN t] ∧ Wd b ∧ FieldAt K C H p b ∧ SqB k K H a (ws.map vN) ∧ Ws b ws ∧ t < span b ∧ Q (vN (evl b t ws)) H
theorem ok_value_at (T : Txt K mg) : FnOk P w K mg base CX0 2 T.f_value_at T.d_value_at ["field", "words", "at"] (sp_value_at K T.C_Field) := by
  refine T.F_value_at.ok sc_value_at (fun vs H Q E h => ?_) (fun cdv A outer s H vs Q E hr h => ?_)
  · obtain ⟨p, a, k, b, t, ws, rfl, _⟩ := h
    rfl
  · obtain ⟨p, a, k, b, t, ws, rfl, hb, hF, hq, hw, ht, q⟩ := h
    refine ⟨_, (pss_cons (ps_if (pt_cmpR op_eq (pv 2) pe_int (nomark _)) (pss_one (ps_ret (pe_ifExp (pt_truth (pv 1) (by intro _; rfl)) (pe_ix ix_rowB (pv 1) (pe_un un_neg pe_int) (fun _ _ => rfl)) pe_int))) pss_nil)
      (pss_cons (ps_set (i := 3) sc_value_at.nd rfl (.inl rfl) (pe_fld (pv 0) rfl))
      (pss_cons (ps_set (i := 4) sc_value_at.nd rfl (.inl rfl) (pe_fld (pv 0) rfl))
      (pss_cons (ps_set (i := 5) sc_value_at.nd rfl (.inl rfl) (pe_ix ix_rowB (pv 4) (pv 2) (fun _ _ => rfl)))
      (pss_cons (ps_set (i := 6) sc_value_at.nd rfl (.inl rfl) pe_int)
      (pss_cons (ps_for PassesOwn.never rfl (pi_seq (pv 1)) (pg_name (i := 7) sc_value_at.nd rfl (.inl rfl)) (pss_one (ps_set (i := 6) sc_value_at.nd rfl (.inl rfl) (pe_ifExp (pt_truth (pv 6) (by intro _; rfl)) (pe_op op_xor (pe_ix ix_rowB (pv 3) (pe_op op_add (pe_ix ix_rowB (pv 4) (pv 6) (fun _ _ => rfl)) (pv 5)) (fun _ _ => rfl)) (pv 7)) (pv 7)))))
      (pss_one (ps_ret (pv 6))))))))), ?_⟩
    obtain ⟨dx, q1, r, g1, g2, g3⟩ := hF.ex
    have hcl := T.cl_Field
    refine ⟨_, rfl, rfl, _, rfl, ?_⟩
    refine ite2 (fun c => ?_) (fun c => ?_)
    · have e : t = 0 := by have := V.int.inj (of_decide_eq_true c); omega
      subst e
      rw [evl_at0] at q
      refine ⟨_, rfl, _, hq.truB, ?_⟩
      rcases List.eq_nil_or_concat ws with rfl | ⟨u, x, rfl⟩
      · exact iteF q
      · rw [List.concat_eq_append] at hq q ⊢
        have e : (!((u ++ [x]).map vN).isEmpty) = true := by simp
        rw [e]
        refine iteT ?_
        refine ⟨_, rfl, _, rfl, a, _, -1, vN x, k, rfl, rfl, hq, ?_, ?_⟩
        · rw [List.map_append]
          exact atI_last (u.map vN) (vN x)
        · simpa using q
    · have h1 : t ≠ 0 := fun z => c (by rw [z]; rfl)
      refine ⟨_, rfl, p, _, dx, _, _, rfl, g1, hcl, T.a_Field_powers, fl_powers b q1 r, ?_⟩
      refine ⟨_, rfl, p, _, dx, _, _, rfl, g1, hcl, T.a_Field_exponents, fl_exponents b q1 r, ?_⟩
      refine ⟨_, rfl, _, rfl, r, _, _, _, false, rfl, rfl, g3, atI_nat (by rw [List.getElem?_map, tabE_at hb ht h1]; rfl), ?_⟩
      refine ⟨_, rfl, a, _, k, rfl, hq, ?_⟩
      refine for_it (walk_seq (b := k) (K := K) (a := a) (xs := ws.map vN)) (fun i σ H' => ∃ z : Option V, σ = [some (.ref p), some (.ref a), some (vN t), some (.ref q1), some (.ref r), some (vN (lg b t)), some (vN (evl b t (ws.take i))), z] ∧ H' = H) ⟨_, rfl, rfl⟩ (fun i σ H' _ ⟨_, _, e⟩ => by rw [e]; exact hq) ?_ ?_
      · rintro i x σ H1 H2 hi ⟨z, rfl, rfl⟩ ⟨rfl, e2⟩
        rw [List.length_map] at hi
        have ey : x = vN (gd ws i) := by
          rw [List.getElem?_map, gd_in hi] at e2
          exact (Option.some.inj e2).symm
        subst ey
        have w1 : Ws b (ws.take i) := fun y hy => hw y (List.mem_of_mem_take hy)
        have l1 := evl_lt (t := t) hb w1
        have tk := take_one hi
        have sn := evl_snoc (b := b) (t := t) (w := gd ws i) (r := ws.take i)
        refine ⟨_, rfl, _, rfl, ?_⟩
        by_cases h0 : evl b t (ws.take i) = 0
        · have e : (((evl b t (ws.take i) : Nat) : Int) != 0) = false := by rw [h0]; rfl
          rw [e]
          refine iteF ⟨_, rfl, ?_⟩
          refine ⟨some (vN (gd ws i)), ?_, rfl⟩
          rw [tk, sn, h0, zero_mul hb, Nat.zero_xor]
          rfl
        · have e : (((evl b t (ws.take i) : Nat) : Int) != 0) = true := by simp; omega
          rw [e]
          refine iteT ?_
          refine ⟨_, rfl, _, rfl, _, rfl, r, _, _, _, false, rfl, rfl, g3, atI_nat (by rw [List.getElem?_map, tabE_at hb l1 h0]; rfl), ?_⟩
          refine ⟨_, rfl, _, _, rfl, rfl, q1, _, _, _, false, rfl, rfl, .tup g2, sum_at hb l1 ht h0 h1, _, rfl, _, _, rfl, rfl, ?_⟩
          refine ⟨some (vN (gd ws i)), ?_, rfl⟩
          show [_, _, _, _, _, _, some (V.int (Builtin.bitXor _ _)), _] = _
          rw [bx, tk, sn]
          rfl
      · rintro σ H' ⟨z, rfl, rfl⟩
        rw [List.length_map, List.take_length]
        exact ⟨_, rfl, q⟩
def sp_sums_of (K : PySem.W.Frag) (C : Addr) : Sp := fun vs H Q _ => ∃ (p a : Addr) (k : Bool) (b m s : Nat) (ws : List Nat), vs = [.ref p, vN m, vN s, .ref a] ∧ Wd b ∧ m ≤ 500 ∧ FieldAt K C H p b ∧ SqB k K H a (ws.map vN) ∧ Ws b ws ∧
  ∀ l H', Same H H' → H l = none → H' l = some (.lst (((List.range m).map fun j => evl b (pw b (s + j)) ws).map vN)) → Q (.ref l) H'
theorem ok_sums_of (T : Txt K mg) : FnOk P w K mg base CX0 3 T.f_sums_of T.d_sums_of ["field", "many", "start", "row"] (sp_sums_of K T.C_Field) := by
  refine T.F_sums_of.ok sc_sums_of (fun vs H Q E h => ?_) (fun cdv A outer s H vs Q E hr h => ?_)
  · obtain ⟨p, a, k, b, m, s, ws, rfl, _⟩ := h
    rfl
  · obtain ⟨p, a, k, b, m, s0, ws, rfl, hb, hm, hF, hq, hw, q⟩ := h
    refine ⟨_, (pss_one (ps_ret (pe_lc (own := [("step", 4)]) rfl sc_sums_of.nd (pi_range1 (by rfl) T.n_range (pa_cons (pv 1) pa_nil)) (blkOk_by (N := ["field", "many", "start", "row", "step"]) (sc := defScope s_sums_of) (by decide +kernel)) (fun _ _ _ _ _ => by exact (pg_name (i := 4) sc_sums_of.nd rfl (.inl rfl))) (fun _ _ _ _ _ => by exact pts_nil) (fun _ _ _ _ _ => by exact (pe_call (ok_value_at T) (hr.mono (by decide)) (by rfl) T.g_value_at T.F_value_at.kp T.b_value_at .nil pass0 (pa_cons (pv 0) (pa_cons (pv 3) (pa_cons (pe_meth (pv 0) T.cl_Field T.m_Field_two_to (ok_Field_two_to T) (hr.mono (by decide)) T.b_Field_two_to .nil pass0 (pa_cons (pe_op op_add (pv 2) (pv 4)) pa_nil)) pa_nil)))))))), ?_⟩
    refine ⟨_, rfl, _, rfl, by omega, by omega, fun D hD => ?_⟩
    refine lc_range (lo := 0) (n := m) (fun i H' => Same H H' ∧ H' D = some (.lst (((List.range i).map fun j => evl b (pw b (s0 + j)) ws).map vN))) ⟨same_upd hD, upd_same⟩ ?_ ?_
    · rintro i H' hi ⟨sm, g⟩
      obtain ⟨dx, q1, r, g1, g2, g3⟩ := (hF.same sm).ex
      refine ⟨rfl, ?_⟩
      refine ⟨_, rfl, _, rfl, _, rfl, p, dx, _, rfl, g1, rfl, _, rfl, _, rfl, _, _, rfl, rfl, p, b, _, rfl, hb, hF.same sm, ?_⟩
      have e : pwI b ((s0 : Int) + (0 + (i : Int))) = pw b (s0 + i) := by
        rw [show (s0 : Int) + (0 + (i : Int)) = ((s0 + i : Nat) : Int) by omega]
        exact pwI_nat hb _
      rw [e]
      refine ⟨p, a, k, b, pw b (s0 + i), ws, rfl, hb, hF.same sm, Same.sqb sm hq, hw, pw_lt hb _, _, g, ?_, fun d o hd => ?_, ?_⟩
      · rw [List.length_map, List.length_map, List.length_range]
        exact small1000 (by omega)
      · rw [upd_ne (ne_of_none hd hD)]
        exact sm _ _ hd
      · rw [upd_same, List.range_succ, List.map_append, List.map_append]
        rfl
    · rintro H' ⟨sm, g⟩
      exact q D H' sm hD g
def sp_need_row (K : PySem.W.Frag) : Sp := fun vs H Q _ => ∃ (c a : Addr) (k : Bool) (b m s : Nat) (ws : List Nat), vs = [.ref c, .ref a] ∧ SqT K H c [vN b, vN m, vN s] ∧ CodeOk b m s ∧ SqB k K H a (ws.map vN) ∧ Ws b ws ∧ m < ws.length ∧ ws.length < span b ∧ ∀ H', Same H H' → Q .non H'
theorem ok_need_row (T : Txt K mg) : FnOk P w K mg base CX0 5 T.f_need_row T.d_need_row ["code", "row"] (sp_need_row K) := by
  refine T.F_need_row.ok sc_need_row (fun vs H Q E h => ?_) (fun cdv A outer s H vs Q E hr h => ?_)
  · obtain ⟨c, a, k, b, m, s, ws, rfl, _⟩ := h
    rfl
  · obtain ⟨c, a, k, b, m, s0, ws, rfl, hc, hok, hq, hw, hm, hl, q⟩ := h
    refine ⟨_, (pss_cons (ps_if (PW.pt (pw_or (pt_not (pt_val (pe_call (ok_is_row T) (hr.mono (by decide)) (by rfl) T.g_is_row T.F_is_row.kp T.b_is_row .nil pass0 (pa_cons (pv 1) pa_nil)))) (pw_or1 (pt_not (pt_val (pe_call (ok_is_length T) (hr.mono (by decide)) (by rfl) T.g_is_length T.F_is_length.kp T.b_is_length .nil pass0 (pa_cons (pv 0) (pa_cons (pe_callB call_len_seq (by rfl) T.n_len (by decide +kernel) (pa_cons (pv 1) pa_nil)) pa_nil)))))))) (pss_one ps_never) pss_nil)
      (pss_one (ps_expr (pe_call (ok_need_words T) (hr.mono (by decide)) (by rfl) T.g_need_words T.F_need_words.kp T.b_need_words .nil pass0 (pa_cons (pe_ix ix_rowB (pv 0) pe_int (fun _ _ => rfl)) (pa_cons pe_str (pa_cons (pv 1) pa_nil))))))), ?_⟩
    refine ⟨_, rfl, a, k, _, rfl, hq, fun H1 s1 => ⟨_, rfl, iteF ?_⟩⟩
    refine ⟨_, rfl, _, rfl, a, _, rfl, (Same.sqb s1 hq).or, c, b, m, s0, ws.length, ?_, Same.sqt s1 hc, hok, hm, hl, _, rfl, iteF ?_⟩
    · rw [List.length_map]
      rfl
    refine ⟨_, rfl, c, _, 0, vN b, false, rfl, rfl, Same.sqt s1 hc, rfl, _, rfl, b, _, a, k, ws, rfl, hok.1, Same.sqb s1 hq, hw, fun H2 s2 => ?_⟩
    exact q H2 (s1.trans s2)
def synL (b m s : Nat) (ws : List Nat) : List Nat := (List.range m).map fun j => evl b (pw b (s + j)) ws
def sp_syndromes (K : PySem.W.Frag) : Sp := fun vs H Q _ => ∃ (c a : Addr) (k : Bool) (b m s : Nat) (ws : List Nat), vs = [.ref c, .ref a] ∧ SqT K H c [vN b, vN m, vN s] ∧ CodeOk b m s ∧ SqB k K H a (ws.map vN) ∧ Ws b ws ∧ m < ws.length ∧ ws.length < span b ∧
  ∀ l H', Same H H' → H l = none → H' l = some (.lst ((synL b m s ws).map vN)) → Q (.ref l) H'
theorem ok_syndromes (T : Txt K mg) : FnOk P w K mg base CX0 6 T.f_syndromes T.d_syndromes ["code", "row"] (sp_syndromes K) := by
  refine T.F_syndromes.ok sc_syndromes (fun vs H Q E h => ?_) (fun cdv A outer s H vs Q E hr h => ?_)
  · obtain ⟨c, a, k, b, m, s, ws, rfl, _⟩ := h
    rfl
  · obtain ⟨c, a, k, b, m, s0, ws, rfl, hc, hok, hq, hw, hm, hl, q⟩ := h
    refine ⟨_, (pss_cons (ps_expr (pe_call (ok_need_code T) (hr.mono (by decide)) (by rfl) T.g_need_code T.F_need_code.kp T.b_need_code .nil pass0 (pa_cons (pv 0) pa_nil)))
      (pss_cons (ps_expr (pe_call (ok_need_row T) (hr.mono (by decide)) (by rfl) T.g_need_row T.F_need_row.kp T.b_need_row .nil pass0 (pa_cons (pv 0) (pa_cons (pv 1) pa_nil))))
      (pss_cons (ps_asg (pv 0) (pg_tup rfl (pgs_cons (pg_name (i := 2) sc_syndromes.nd rfl (.inl rfl)) (pgs_cons (pg_name (i := 3) sc_syndromes.nd rfl (.inl rfl)) (pgs_cons (pg_name (i := 4) sc_syndromes.nd rfl (.inl rfl)) pgs_nil)))))
      (pss_one (ps_ret (pe_call (ok_sums_of T) (hr.mono (by decide)) (by rfl) T.g_sums_of T.F_sums_of.kp T.b_sums_of .nil pass0 (pa_cons (pe_make T.mk_Field (ok_Field___init__ T) (hr.mono (by decide)) (by rfl) T.g_Field T.b_Field___init__ .nil pass0 (pa_cons (pv 2) pa_nil)) (pa_cons (pv 3) (pa_cons (pv 4) (pa_cons (pv 1) pa_nil)))))))))), ?_⟩
    have hb := hok.1
    have hm40 : m ≤ 40 := by
      have := hok.2.2.1
      unfold mostC at this
      split at this <;> omega
    refine ⟨_, rfl, c, b, m, s0, rfl, hc, hok, ?_⟩
    refine ⟨_, rfl, _, rfl, c, a, k, b, m, s0, ws, rfl, hc, hok, hq, hw, hm, hl, fun H1 s1 => ?_⟩
    refine ⟨_, rfl, c, [_, _, _], rfl, Same.sqt s1 hc, rfl, _, [_, _], rfl, _, [_], rfl, _, [], rfl, rfl, ?_⟩
    refine ⟨_, rfl, fun x dx hx hdx ne => ⟨x, dx, b, rfl, hb, upd_same, fun H3 hk hF => ⟨rfl, ?_⟩⟩⟩
    have s3 := s1.trans (keep_same hx hdx hk)
    refine ⟨_, rfl, _, rfl, _, rfl, x, a, k, b, m, s0, ws, rfl, hb, by omega, hF, Same.sqb s3 hq, hw, fun l H4 s4 n4 e4 => ?_⟩
    exact q l H4 (s3.trans s4) (Same.free s3 n4) e4
/-- whether a row is 0 at all told powers -/
def okB (b m s : Nat) (ws : List Nat) : Bool := !((synL b m s ws).any fun w => decide (w ≠ 0))
theorem okB_eq {b m s : Nat} {ws : List Nat} : okB b m s ws = decide (synL b m s ws = List.replicate m 0) := by
  unfold okB synL
  rw [Bool.eq_iff_iff, decide_eq_true_iff, Bool.not_eq_true', List.any_eq_false, List.eq_replicate_iff]
  constructor
  · intro h
    refine ⟨by simp, fun x hx => ?_⟩
    simpa using h x hx
  · rintro ⟨_, h⟩ x hx
    simp [h x hx]
def sp_is_right (K : PySem.W.Frag) : Sp := fun vs H Q _ => ∃ (c a : Addr) (k : Bool) (b m s : Nat) (ws : List Nat), vs = [.ref c, .ref a] ∧ SqT K H c [vN b, vN m, vN s] ∧ CodeOk b m s ∧ SqB k K H a (ws.map vN) ∧ Ws b ws ∧ m < ws.length ∧ ws.length < span b ∧
  ∀ H', Same H H' → Q (.bl (okB b m s ws)) H'
theorem ok_is_right (T : Txt K mg) : FnOk P w K mg base CX0 7 T.f_is_right T.d_is_right ["code", "row"] (sp_is_right K) := by
  refine T.F_is_right.ok sc_is_right (fun vs H Q E h => ?_) (fun cdv A outer s H vs Q E hr h => ?_)
  · obtain ⟨c, a, k, b, m, s, ws, rfl, _⟩ := h
    rfl
  · obtain ⟨c, a, k, b, m, s0, ws, rfl, hc, hok, hq, hw, hm, hl, q⟩ := h
    refine ⟨_, (pss_one (ps_ret (pe_not (pe_callB (cr_anyN rfl) (by rfl) T.n_any (by decide +kernel) (pa_cons (pe_call (ok_syndromes T) (hr.mono (by decide)) (by rfl) T.g_syndromes T.F_syndromes.kp T.b_syndromes .nil pass0 (pa_cons (pv 0) (pa_cons (pv 1) pa_nil))) pa_nil))))), ?_⟩
    exact ⟨_, rfl, _, rfl, c, a, k, b, m, s0, ws, rfl, hc, hok, hq, hw, hm, hl, fun l H1 s1 n1 e1 => ⟨l, _, rfl, .inl (.inl e1), _, rfl, q H1 s1⟩⟩
/-! CUT -/
/-! ### sizes -/
def sp_need_size : Sp := fun vs H Q _ => ∃ s : Nat, vs = [.int ((s : Int) + 1)] ∧ s < 5 ∧ Q .non H
theorem ok_need_size (T : Txt K mg) : FnOk P w K mg base CX0 2 T.f_need_size T.d_need_size ["size"] sp_need_size := by
  refine T.F_need_size.ok sc_need_size (fun vs H Q E h => ?_) (fun cdv A outer s H vs Q E hr h => ?_)
  · obtain ⟨s, rfl, _⟩ := h
    rfl
  · obtain ⟨s0, rfl, hs, q⟩ := h
    refine ⟨_, (pss_one (ps_if (pt_not (pt_val (pe_call (ok_is_number_to T) (hr.mono (by decide)) (by rfl) T.g_is_number_to T.F_is_number_to.kp T.b_is_number_to .nil pass0 (pa_cons (pv 0) (pa_cons pe_int (pa_cons (pe_callB call_len_seq (by rfl) T.n_len (by decide +kernel) (pa_cons (pe_glob (v := .ref T.a_SIDES) (by rfl) T.g_SIDES rfl) pa_nil)) pa_nil)))))) (pss_one ps_never) pss_nil)), ?_⟩
    refine ⟨_, rfl, T.a_SIDES, _, rfl, .inr (tupB_ok (xs := sidesI) T.l_SIDES), _, _, _, rfl, ?_⟩
    have e : (decide ((1 : Int) ≤ (s0 : Int) + 1) && decide ((s0 : Int) + 1 ≤ (((sidesI.map V.int).length : Nat) : Int))) = true := by
      have : (sidesI.map V.int).length = 5 := rfl
      rw [this]
      simp
      omega
    rw [e]
    exact ⟨_, rfl, iteF q⟩
def sp_need_level : Sp := fun vs H Q _ => ∃ l : Nat, vs = [vN l] ∧ l < 4 ∧ Q .non H
theorem ok_need_level (T : Txt K mg) : FnOk P w K mg base CX0 2 T.f_need_level T.d_need_level ["level"] sp_need_level := by
  refine T.F_need_level.ok sc_need_level (fun vs H Q E h => ?_) (fun cdv A outer s H vs Q E hr h => ?_)
  · obtain ⟨l, rfl, _⟩ := h
    rfl
  · obtain ⟨l, rfl, hl, q⟩ := h
    refine ⟨_, (pss_one (ps_if (pt_not (pt_val (pe_call (ok_is_number_to T) (hr.mono (by decide)) (by rfl) T.g_is_number_to T.F_is_number_to.kp T.b_is_number_to .nil pass0 (pa_cons (pv 0) (pa_cons pe_int (pa_cons (pe_op op_sub (pe_glob (v := .int 4) (by rfl) T.g_LEVELS.choose_spec ⟨_, rfl⟩) pe_int) pa_nil)))))) (pss_one ps_never) pss_nil)), ?_⟩
    refine ⟨_, rfl, _, _, rfl, rfl, _, _, _, rfl, ?_⟩
    have e : (decide ((0 : Int) ≤ (l : Int)) && decide ((l : Int) ≤ 4 - 1)) = true := by
      simp
      omega
    rw [e]
    exact ⟨_, rfl, iteF q⟩
def sp_need_mask : Sp := fun vs H Q _ => ∃ m : Nat, vs = [vN m] ∧ m < 8 ∧ Q .non H
theorem ok_need_mask (T : Txt K mg) : FnOk P w K mg base CX0 2 T.f_need_mask T.d_need_mask ["mask"] sp_need_mask := by
  refine T.F_need_mask.ok sc_need_mask (fun vs H Q E h => ?_) (fun cdv A outer s H vs Q E hr h => ?_)
  · obtain ⟨m, rfl, _⟩ := h
    rfl
  · obtain ⟨m, rfl, hm, q⟩ := h
    refine ⟨_, (pss_one (ps_if (pt_not (pt_val (pe_call (ok_is_number_to T) (hr.mono (by decide)) (by rfl) T.g_is_number_to T.F_is_number_to.kp T.b_is_number_to .nil pass0 (pa_cons (pv 0) (pa_cons pe_int (pa_cons (pe_op op_sub (pe_glob (v := .int 8) (by rfl) T.g_MASKS.choose_spec ⟨_, rfl⟩) pe_int) pa_nil)))))) (pss_one ps_never) pss_nil)), ?_⟩
    refine ⟨_, rfl, _, _, rfl, rfl, _, _, _, rfl, ?_⟩
    have e : (decide ((0 : Int) ≤ (m : Int)) && decide ((m : Int) ≤ 8 - 1)) = true := by
      simp
      omega
    rw [e]
    exact ⟨_, rfl, iteF q⟩
/-- the blocks' tuple of a size -/
theorem blk_at (T : Txt K mg) {s : Nat} (hs : s < 5) : ∃ c, atI ([T.c_BLOCKS0, T.c_BLOCKS1, T.c_BLOCKS2, T.c_BLOCKS3, T.c_BLOCKS4].map V.ref) (s : Int) = some (.ref c) ∧ ∀ H, SqT K H c ((blkF s).map vN) := by
  have : s = 0 ∨ s = 1 ∨ s = 2 ∨ s = 3 ∨ s = 4 := by omega
  rcases this with rfl | rfl | rfl | rfl | rfl
  · exact ⟨T.c_BLOCKS0, rfl, fun H => tupB_ok (xs := [4]) T.t_BLOCKS0⟩
  · exact ⟨T.c_BLOCKS1, rfl, fun H => tupB_ok (xs := [10, 10]) T.t_BLOCKS1⟩
  · exact ⟨T.c_BLOCKS2, rfl, fun H => tupB_ok (xs := [22]) T.t_BLOCKS2⟩
  · exact ⟨T.c_BLOCKS3, rfl, fun H => tupB_ok (xs := [19, 19]) T.t_BLOCKS3⟩
  · exact ⟨T.c_BLOCKS4, rfl, fun H => tupB_ok (xs := [20, 19, 19]) T.t_BLOCKS4⟩
def sp_bs : Sp := fun vs H Q _ => ∃ s : Nat, vs = [.int ((s : Int) + 1)] ∧ s < 5 ∧ ∀ l, H l = none → Q (.ref l) (upd H l (.lst ((blkF s).map vN)))
theorem ok_block_sizes (T : Txt K mg) : FnOk P w K mg base CX0 3 T.f_block_sizes T.d_block_sizes ["size"] sp_bs := by
  refine T.F_block_sizes.ok sc_block_sizes (fun vs H Q E h => ?_) (fun cdv A outer s H vs Q E hr h => ?_)
  · obtain ⟨s, rfl, _⟩ := h
    rfl
  · obtain ⟨s0, rfl, hs, q⟩ := h
    refine ⟨_, (pss_cons (ps_expr (pe_call (ok_need_size T) (hr.mono (by decide)) (by rfl) T.g_need_size T.F_need_size.kp T.b_need_size .nil pass0 (pa_cons (pv 0) pa_nil)))
      (pss_one (ps_ret (pe_callTy call_list_of (by rfl) T.n_list (by decide +kernel) (pa_cons (pe_ix ix_rowB (pe_glob (v := .ref T.a_BLOCKS) (by rfl) T.g_BLOCKS rfl) (pe_op op_sub (pv 0) pe_int) (fun _ _ => rfl)) pa_nil))))), ?_⟩
    obtain ⟨c, hc, hC⟩ := blk_at T hs
    refine ⟨_, rfl, s0, rfl, hs, ?_⟩
    refine ⟨_, rfl, _, _, rfl, rfl, T.a_BLOCKS, _, _, .ref c, false, rfl, rfl, T.l_BLOCKS.sq (by show 5 ≤ 1000; decide), ?_, c, _, rfl, .inr (hC _), q⟩
    rw [show (s0 : Int) + 1 - 1 = (s0 : Int) by omega]
    exact hc
def sp_wc : Sp := fun vs H Q _ => ∃ s : Nat, vs = [.int ((s : Int) + 1)] ∧ s < 5 ∧ ∀ H', Same H H' → Q (vN (totF s)) H'
theorem sum_vN (r : List Nat) : (r.map fun n : Nat => (n : Int)).sum = ((r.sum : Nat) : Int) := by
  induction r with
  | nil => rfl
  | cons x r ih => rw [List.map_cons, List.sum_cons, List.sum_cons, ih]; omega
theorem vN_ints (r : List Nat) : r.map vN = (r.map fun n : Nat => (n : Int)).map V.int := by
  rw [List.map_map]
  rfl
theorem ok_word_count (T : Txt K mg) : FnOk P w K mg base CX0 4 T.f_word_count T.d_word_count ["size"] sp_wc := by
  refine T.F_word_count.ok sc_word_count (fun vs H Q E h => ?_) (fun cdv A outer s H vs Q E hr h => ?_)
  · obtain ⟨s, rfl, _⟩ := h
    rfl
  · obtain ⟨s0, rfl, hs, q⟩ := h
    refine ⟨_, (pss_one (ps_ret (pe_callB (cr_sum rfl) (by rfl) T.n_sum (by decide +kernel) (pa_cons (pe_call (ok_block_sizes T) (hr.mono (by decide)) (by rfl) T.g_block_sizes T.F_block_sizes.kp T.b_block_sizes .nil pass0 (pa_cons (pv 0) pa_nil)) pa_nil)))), ?_⟩
    refine ⟨_, rfl, s0, rfl, hs, fun l hl => ⟨l, (blkF s0).map fun n : Nat => (n : Int), rfl, .inl (.inl (by rw [upd_same, vN_ints])), ?_⟩⟩
    rw [sum_vN]
    exact q _ (same_upd hl)
theorem bit_at (T : Txt K mg) {s : Nat} (hs : s < 5) : ∃ xs, (∀ H, SqT K H T.a_WORD_BITS xs) ∧ atI xs ((s : Int) + 1 - 1) = some (vN (bitsF s)) := by
  refine ⟨_, fun H => tupB_ok (xs := [4, 4, 8, 8, 8]) T.l_WORD_BITS, ?_⟩
  have : s = 0 ∨ s = 1 ∨ s = 2 ∨ s = 3 ∨ s = 4 := by omega
  rcases this with rfl | rfl | rfl | rfl | rfl <;> rfl
def sp_wbits : Sp := fun vs H Q _ => ∃ s : Nat, vs = [.int ((s : Int) + 1)] ∧ s < 5 ∧ Q (vN (bitsF s)) H
theorem ok_word_bits (T : Txt K mg) : FnOk P w K mg base CX0 3 T.f_word_bits T.d_word_bits ["size"] sp_wbits := by
  refine T.F_word_bits.ok sc_word_bits (fun vs H Q E h => ?_) (fun cdv A outer s H vs Q E hr h => ?_)
  · obtain ⟨s, rfl, _⟩ := h
    rfl
  · obtain ⟨s0, rfl, hs, q⟩ := h
    refine ⟨_, (pss_cons (ps_expr (pe_call (ok_need_size T) (hr.mono (by decide)) (by rfl) T.g_need_size T.F_need_size.kp T.b_need_size .nil pass0 (pa_cons (pv 0) pa_nil)))
      (pss_one (ps_ret (pe_ix ix_rowB (pe_glob (v := .ref T.a_WORD_BITS) (by rfl) T.g_WORD_BITS rfl) (pe_op op_sub (pv 0) pe_int) (fun _ _ => rfl))))), ?_⟩
    obtain ⟨xb, hX, hx⟩ := bit_at T hs
    refine ⟨_, rfl, s0, rfl, hs, ?_⟩
    exact ⟨_, rfl, _, _, rfl, rfl, T.a_WORD_BITS, xb, _, vN (bitsF s0), false, rfl, rfl, hX _, hx, q⟩
theorem chk_at (T : Txt K mg) {s : Nat} (hs : s < 5) : ∃ c, atI ([T.c_CHECKS0, T.c_CHECKS1, T.c_CHECKS2, T.c_CHECKS3, T.c_CHECKS4].map V.ref) (s : Int) = some (.ref c) ∧ ∀ H, SqT K H c ((cksL.getD s []).map vN) := by
  have : s = 0 ∨ s = 1 ∨ s = 2 ∨ s = 3 ∨ s = 4 := by omega
  rcases this with rfl | rfl | rfl | rfl | rfl
  · exact ⟨T.c_CHECKS0, rfl, fun H => tupB_ok (xs := [1, 2, 3, 3]) T.t_CHECKS0⟩
  · exact ⟨T.c_CHECKS1, rfl, fun H => tupB_ok (xs := [2, 4, 6, 8]) T.t_CHECKS1⟩
  · exact ⟨T.c_CHECKS2, rfl, fun H => tupB_ok (xs := [4, 8, 10, 12]) T.t_CHECKS2⟩
  · exact ⟨T.c_CHECKS3, rfl, fun H => tupB_ok (xs := [4, 8, 10, 12]) T.t_CHECKS3⟩
  · exact ⟨T.c_CHECKS4, rfl, fun H => tupB_ok (xs := [4, 8, 10, 12]) T.t_CHECKS4⟩
theorem ck_at {s l : Nat} (hs : s < 5) (hl : l < 4) : atI ((cksL.getD s []).map vN) (l : Int) = some (vN (ckF s l)) := by
  have h : decide ((cksL.getD s [])[l]? = some (ckF s l)) = true := all20 (P := fun s l => decide ((cksL.getD s [])[l]? = some (ckF s l))) (by decide +kernel) hs hl
  refine atI_nat ?_
  rw [List.getElem?_map, of_decide_eq_true h]
  rfl
def startL : List (List Nat) := [[0, 1, 3, 6], [0, 2, 6, 3], [0, 60, 120, 180], [0, 60, 120, 180], [0, 60, 120, 180]]
def startF (s l : Nat) : Nat := (startL.getD s []).getD l 0
theorem start_at (T : Txt K mg) {s : Nat} (hs : s < 5) : ∃ c, atI ([T.c_STARTS0, T.c_STARTS1, T.c_STARTS2, T.c_STARTS3, T.c_STARTS4].map V.ref) (s : Int) = some (.ref c) ∧ ∀ H, SqT K H c ((startL.getD s []).map vN) := by
  have : s = 0 ∨ s = 1 ∨ s = 2 ∨ s = 3 ∨ s = 4 := by omega
  rcases this with rfl | rfl | rfl | rfl | rfl
  · exact ⟨T.c_STARTS0, rfl, fun H => tupB_ok (xs := [0, 1, 3, 6]) T.t_STARTS0⟩
  · exact ⟨T.c_STARTS1, rfl, fun H => tupB_ok (xs := [0, 2, 6, 3]) T.t_STARTS1⟩
  · exact ⟨T.c_STARTS2, rfl, fun H => tupB_ok (xs := [0, 60, 120, 180]) T.t_STARTS2⟩
  · exact ⟨T.c_STARTS3, rfl, fun H => tupB_ok (xs := [0, 60, 120, 180]) T.t_STARTS3⟩
  · exact ⟨T.c_STARTS4, rfl, fun H => tupB_ok (xs := [0, 60, 120, 180]) T.t_STARTS4⟩
theorem st_at {s l : Nat} (hs : s < 5) (hl : l < 4) : atI ((startL.getD s []).map vN) (l : Int) = some (vN (startF s l)) := by
  have h : decide ((startL.getD s [])[l]? = some (startF s l)) = true := all20 (P := fun s l => decide ((startL.getD s [])[l]? = some (startF s l))) (by decide +kernel) hs hl
  refine atI_nat ?_
  rw [List.getElem?_map, of_decide_eq_true h]
  rfl
def sp_cc : Sp := fun vs H Q _ => ∃ s l : Nat, vs = [.int ((s : Int) + 1), vN l] ∧ s < 5 ∧ l < 4 ∧ Q (vN (ckF s l)) H
theorem ok_check_count (T : Txt K mg) : FnOk P w K mg base CX0 3 T.f_check_count T.d_check_count ["size", "level"] sp_cc := by
  refine T.F_check_count.ok sc_check_count (fun vs H Q E h => ?_) (fun cdv A outer s H vs Q E hr h => ?_)
  · obtain ⟨s, l, rfl, _⟩ := h
    rfl
  · obtain ⟨s0, l, rfl, hs, hl, q⟩ := h
    refine ⟨_, (pss_cons (ps_expr (pe_call (ok_need_size T) (hr.mono (by decide)) (by rfl) T.g_need_size T.F_need_size.kp T.b_need_size .nil pass0 (pa_cons (pv 0) pa_nil)))
      (pss_cons (ps_expr (pe_call (ok_need_level T) (hr.mono (by decide)) (by rfl) T.g_need_level T.F_need_level.kp T.b_need_level .nil pass0 (pa_cons (pv 1) pa_nil)))
      (pss_one (ps_ret (pe_ix ix_rowB (pe_ix ix_rowB (pe_glob (v := .ref T.a_CHECKS) (by rfl) T.g_CHECKS rfl) (pe_op op_sub (pv 0) pe_int) (fun _ _ => rfl)) (pv 1) (fun _ _ => rfl)))))), ?_⟩
    obtain ⟨c, hc, hC⟩ := chk_at T hs
    have one : (s0 : Int) + 1 - 1 = (s0 : Int) := by omega
    refine ⟨_, rfl, s0, rfl, hs, _, rfl, l, rfl, hl, ?_⟩
    refine ⟨_, rfl, _, _, rfl, rfl, T.a_CHECKS, _, _, .ref c, false, rfl, rfl, T.l_CHECKS.sq (by show 5 ≤ 1000; decide), (by rw [one]; exact hc), ?_⟩
    exact ⟨_, rfl, c, _, _, vN (ckF s0 l), false, rfl, rfl, hC _, ck_at hs hl, q⟩
def sp_cs : Sp := fun vs H Q _ => ∃ s l : Nat, vs = [.int ((s : Int) + 1), vN l] ∧ s < 5 ∧ l < 4 ∧ Q (vN (startF s l)) H
theorem ok_code_start (T : Txt K mg) : FnOk P w K mg base CX0 3 T.f_code_start T.d_code_start ["size", "level"] sp_cs := by
  refine T.F_code_start.ok sc_code_start (fun vs H Q E h => ?_) (fun cdv A outer s H vs Q E hr h => ?_)
  · obtain ⟨s, l, rfl, _⟩ := h
    rfl
  · obtain ⟨s0, l, rfl, hs, hl, q⟩ := h
    refine ⟨_, (pss_cons (ps_expr (pe_call (ok_need_size T) (hr.mono (by decide)) (by rfl) T.g_need_size T.F_need_size.kp T.b_need_size .nil pass0 (pa_cons (pv 0) pa_nil)))
      (pss_cons (ps_expr (pe_call (ok_need_level T) (hr.mono (by decide)) (by rfl) T.g_need_level T.F_need_level.kp T.b_need_level .nil pass0 (pa_cons (pv 1) pa_nil)))
      (pss_one (ps_ret (pe_ix ix_rowB (pe_ix ix_rowB (pe_glob (v := .ref T.a_STARTS) (by rfl) T.g_STARTS rfl) (pe_op op_sub (pv 0) pe_int) (fun _ _ => rfl)) (pv 1) (fun _ _ => rfl)))))), ?_⟩
    obtain ⟨c, hc, hC⟩ := start_at T hs
    have one : (s0 : Int) + 1 - 1 = (s0 : Int) := by omega
    refine ⟨_, rfl, s0, rfl, hs, _, rfl, l, rfl, hl, ?_⟩
    refine ⟨_, rfl, _, _, rfl, rfl, T.a_STARTS, _, _, .ref c, false, rfl, rfl, T.l_STARTS.sq (by show 5 ≤ 1000; decide), (by rw [one]; exact hc), ?_⟩
    exact ⟨_, rfl, c, _, _, vN (startF s0 l), false, rfl, rfl, hC _, st_at hs hl, q⟩
/-- how many data words the blocks of a size hold -/
def dataF (s l : Nat) : Nat := ((blkF s).map fun n => n - ckF s l).sum
theorem blk_ge {s l : Nat} (hs : s < 5) (hl : l < 4) : ∀ n ∈ blkF s, ckF s l < n ∧ n ≤ 22 := fun n hn =>
  of_decide_eq_true (List.all_eq_true.mp (all20 (P := fun s l => (blkF s).all fun n => decide (ckF s l < n ∧ n ≤ 22)) (by decide +kernel) hs hl) n hn)
theorem blk_le3 {s : Nat} (hs : s < 5) : (blkF s).length ≤ 3 := of_decide_eq_true (all5 (P := fun s => decide ((blkF s).length ≤ 3)) (by decide +kernel) hs)
def sp_dc : Sp := fun vs H Q _ => ∃ s l : Nat, vs = [.int ((s : Int) + 1), vN l] ∧ s < 5 ∧ l < 4 ∧ ∀ H', Same H H' → Q (vN (dataF s l)) H'
theorem ok_data_count (T : Txt K mg) : FnOk P w K mg base CX0 4 T.f_data_count T.d_data_count ["size", "level"] sp_dc := by
  refine T.F_data_count.ok sc_data_count (fun vs H Q E h => ?_) (fun cdv A outer s H vs Q E hr h => ?_)
  · obtain ⟨s, l, rfl, _⟩ := h
    rfl
  · obtain ⟨s0, l, rfl, hs, hl, q⟩ := h
    refine ⟨_, (pss_cons (ps_set (i := 2) sc_data_count.nd rfl (.inr rfl) (pe_call (ok_check_count T) (hr.mono (by decide)) (by rfl) T.g_check_count T.F_check_count.kp T.b_check_count .nil pass0 (pa_cons (pv 0) (pa_cons (pv 1) pa_nil))))
      (pss_one (ps_ret (pe_callB (cr_sum rfl) (by rfl) T.n_sum (by decide +kernel) (pa_cons (pe_lc (own := [("words", 3)]) rfl sc_data_count.nd (pi_list (pe_call (ok_block_sizes T) (hr.mono (by decide)) (by rfl) T.g_block_sizes T.F_block_sizes.kp T.b_block_sizes .nil pass0 (pa_cons (pv 0) pa_nil))) (blkOk_by (N := ["size", "level", "checks", "words"]) (sc := defScope s_data_count) (by decide +kernel)) (fun _ _ _ _ _ => by exact (pg_name (i := 3) sc_data_count.nd rfl (.inl rfl))) (fun _ _ _ _ _ => by exact pts_nil) (fun _ _ _ _ _ => by exact (pe_op op_sub (pv 3) (pv 2)))) pa_nil))))), ?_⟩
    refine ⟨_, rfl, _, rfl, s0, l, rfl, hs, hl, ?_⟩
    refine ⟨_, rfl, s0, rfl, hs, fun b hbn => ?_⟩
    have sb := same_upd (o := .lst ((blkF s0).map vN)) hbn
    refine ⟨b, rfl, ⟨_, .inl (.inl upd_same)⟩, fun D hD => ?_⟩
    have gb := upd_same (H := H) (a := b) (o := .lst ((blkF s0).map vN))
    generalize (upd H b (.lst ((blkF s0).map vN))) = H1 at sb gb hD ⊢
    have ge := blk_ge hs hl
    refine lc_it (walk_list (K := K) (a := b) (xs := (blkF s0).map vN)) (fun i H' => Same H1 H' ∧ H' D = some (.lst ((((blkF s0).take i).map fun n => n - ckF s0 l).map vN))) ⟨same_upd hD, upd_same⟩ (fun i H' _ h => .inl (.inl (h.1 _ _ gb))) ?_ ?_
    · rintro i v H2 H3 hi ⟨sm, gD⟩ ⟨rfl, e2⟩
      rw [List.length_map] at hi
      have e1 : (blkF s0)[i]? = some (blkF s0)[i] := List.getElem?_eq_getElem hi
      have hn := ge _ (List.getElem_mem hi)
      have l22 := blk_le3 hs
      generalize (blkF s0)[i] = n at e1 hn
      rw [List.getElem?_map, e1] at e2
      obtain rfl := (Option.some.inj e2).symm
      have ev : (fun i j : Int => V.int (i - j)) (n : Int) (ckF s0 l : Int) = vN (n - ckF s0 l) := congrArg V.int (by omega)
      refine ⟨rfl, ?_⟩
      refine ⟨_, rfl, _, rfl, _, _, rfl, rfl, _, gD, ?_, fun c o' hc => ?_, ?_⟩
      · rw [List.length_map, List.length_map, List.length_take]
        exact small1000 (by omega)
      · rw [upd_ne (ne_of_none hc hD)]
        exact sm _ _ hc
      · rw [upd_same, ev, List.take_add_one, e1, Option.toList_some, List.map_append, List.map_append]
        rfl
    · rintro H2 ⟨s2, g2⟩
      rw [List.length_map, List.take_length] at g2
      refine ⟨D, ((blkF s0).map fun n => n - ckF s0 l).map fun n : Nat => (n : Int), rfl, .inl (.inl (by rw [g2, vN_ints])), ?_⟩
      rw [sum_vN]
      exact q _ (sb.trans s2)
/-! CUT -/
def sp_plain (K : PySem.W.Frag) : Sp := fun vs H Q _ => ∃ (n : Nat) (a : Addr) (k : Bool) (g : Grid), vs = [vN n, .ref a] ∧ GrB k K H a g ∧ Sq n g ∧ ∀ H', Same H H' → Q (.bl true) H'
theorem ok_is_plain_grid (T : Txt K mg) : FnOk P w K mg base CX0 1 T.f_is_plain_grid T.d_is_plain_grid ["many", "grid"] (sp_plain K) := by
  refine T.F_is_plain_grid.ok sc_is_plain_grid (fun vs H Q E h => ?_) (fun cdv A outer s H vs Q E hr h => ?_)
  · obtain ⟨n, a, k, g, rfl, _⟩ := h
    rfl
  · obtain ⟨n, a, k, g, rfl, hg, hs, q⟩ := h
    refine ⟨_, (pss_cons (ps_if (pt_truth (pe_lc (own := [("dots", 3)]) rfl sc_is_plain_grid.nd (pi_seq (pv 1)) (blkOk_by (N := ["many", "grid", "odd", "dots", "dot"]) (sc := defScope s_is_plain_grid) (by decide +kernel)) (fun _ _ _ _ _ => by exact (pg_name (i := 3) sc_is_plain_grid.nd rfl (.inl rfl))) (fun _ _ _ _ _ => by exact (pts_one (PW.pt (pw_or (pt_not (pt_val (pe_callB (call_isiTK (K := K) rfl) (by rfl) T.n_isinstance (by decide +kernel) (pa_cons (pv 3) (pa_cons (pe_tup (pa_cons (pe_bltn (v := .ty "list") (by rfl) T.n_list (by decide +kernel) rfl) (pa_cons (pe_bltn (v := .ty "tuple") (by rfl) T.n_tuple (by decide +kernel) rfl) pa_nil))) pa_nil))))) (pw_or1 (pt_cmpR op_ne (pe_callB (call_len_seqG (K := K) rfl) (by rfl) T.n_len (by decide +kernel) (pa_cons (pv 3) pa_nil)) (pv 0) (nomark _))))))) (fun _ _ _ _ _ => by exact (pv 3))) (by intro _; rfl)) (pss_one (ps_ret pe_bl)) pss_nil)
      (pss_cons (ps_setLc2 (i := 2) (g := (gName 3)) (g1 := (gName 4)) (own := [("dots", 3), ("dot", 4)]) (vs1 := [4]) rfl sc_is_plain_grid.nd rfl rfl (sw_true rfl rfl rfl (by decide +kernel)) (pi_seq (pv 1)) (blkOk_by (N := ["many", "grid", "odd", "dots", "dot"]) (sc := defScope s_is_plain_grid) (by decide +kernel)) (by decide) (fun _ _ _ _ _ => by exact (pg_name (i := 3) sc_is_plain_grid.nd rfl (.inl rfl))) (fun _ _ _ _ _ => by exact pts_nil) (fun _ _ _ _ _ => by exact (pi_seqK (K := K) rfl (pv 3))) (fun _ _ _ _ _ => by exact (pg_name (i := 4) sc_is_plain_grid.nd rfl (.inl rfl))) (fun _ _ _ _ _ => by exact (pts_one (PW.pt (pw_and (PW.pt (pw_or (pt_cmpR op_isNotTy (pe_callTy call_typeG (by rfl) T.n_type (by decide +kernel) (pa_cons (pv 4) pa_nil)) (pe_bltn (v := .ty "int") (by rfl) T.n_int (by decide +kernel) rfl) (nomark _)) (pw_or (pt_cmpR op_gt (pv 4) pe_int (nomark _)) (pw_or1 (pt_cmpR op_lt (pv 4) pe_int (nomark _)))))) (pw_and1 (pt_cmpR op_notN (pv 4) pe_non (nomark _))))))) (fun _ _ _ _ _ => by exact (pv 4)))
      (pss_one (ps_ret (pe_notT (pv 2)))))), ?_⟩
    obtain ⟨L, h1, h2, h3⟩ := hg.ex
    have hrow : ∀ i (v : V), i < (L.map V.ref).length → (L.map V.ref)[i]? = some v → ∃ (l : Addr) (r : List (Option Nat)), v = .ref l ∧ SqB k K H l (r.map vG) ∧ r ∈ g := fun i v hi e => by
      rw [List.length_map] at hi
      have e1 : L[i]? = some L[i] := List.getElem?_eq_getElem hi
      have e2 : g[i]? = some (g[i]'(by omega)) := List.getElem?_eq_getElem _
      rw [List.getElem?_map, e1] at e
      exact ⟨_, _, (Option.some.inj e).symm, h3 i _ _ e1 e2, List.getElem_mem _⟩
    refine ⟨_, rfl, a, _, k, rfl, h1, fun D hD => ?_⟩
    refine lc_it (walk_seq (b := k) (K := K) (a := a) (xs := L.map V.ref)) (fun i H' => Same H H' ∧ H' D = some (.lst [])) ⟨same_upd hD, upd_same⟩ (fun i H' _ h => Same.sqb h.1 h1) ?_ ?_
    · rintro i v H1 H2 hi ⟨sm, gD⟩ ⟨rfl, e2⟩
      obtain ⟨l, r, rfl, hq, hm⟩ := hrow i v hi e2
      refine ⟨rfl, ?_⟩
      refine ⟨_, rfl, (by show 2 ≤ sizeLine; decide), fun tp htp => ?_⟩
      have st := same_upd (o := .tup [.ty "list", .ty "tuple"]) htp
      have hq2 := Same.sqb (sm.trans st) hq
      refine ⟨.ref l, tp, [.ty "list", .ty "tuple"], .type (if k = true then "list" else "tuple"), [.type "list", .type "tuple"], true, rfl, upd_same, .cons (.ty _) (.cons (.ty _) .nil), hq2.ty, ?_, ?_⟩
      · cases k
        · exact kitAny_cons (kit_ty (r := false) (by decide +kernel)) (fun _ => kitAny_cons (kit_ty (r := true) (by decide +kernel)) (fun z => by cases z) (fun _ => rfl)) (fun z => by cases z)
        · exact kitAny_cons (kit_ty (r := true) (by decide +kernel)) (fun z => by cases z) (fun _ => rfl)
      have hl : (r.map vG).length = n := by rw [List.length_map]; exact hs.row r hm
      refine ⟨true, rfl, iteF ⟨_, rfl, l, _, rfl, hq2.or, ?_⟩⟩
      rw [hl]
      refine ⟨_, rfl, rfl, _, rfl, ?_⟩
      rw [show (!decide (V.int (n : Int) = vN n)) = false from by simp [vN]]
      exact iteF ⟨sm.trans st, st _ _ gD⟩
    · rintro H1 ⟨s1, g1⟩
      refine ⟨_, SqB.truB (b := true) (.inl (.inl g1)), iteF ?_⟩
      refine ⟨_, rfl, a, _, k, rfl, Same.sqb s1 h1, fun D2 hD2 => ?_⟩
      refine lc2_it (walk_seq (b := k) (K := K) (a := a) (xs := L.map V.ref)) (fun i H' => Same H1 H' ∧ H' D2 = some (.lst [])) ⟨same_upd hD2, upd_same⟩ (fun i H' _ h => Same.sqb (s1.trans h.1) h1) ?_ ?_
      · rintro i v H2 H3 hi ⟨sm, gD⟩ ⟨rfl, e2⟩
        obtain ⟨l, r, rfl, hq, hm⟩ := hrow i v hi e2
        have hq2 := Same.sqb (s1.trans sm) hq
        refine ⟨rfl, ?_⟩
        refine iteT (B := Same H1 H3 ∧ H3 D2 = some (HO.lst [])) ⟨_, rfl, l, _, k, rfl, hq2, ?_⟩
        refine lc_in (walk_seq (b := k) (K := K) (a := l) (xs := r.map vG)) (fun j H' => Same H1 H' ∧ H' D2 = some (.lst [])) ⟨sm, gD⟩ (fun i H' _ h => Same.sqb (s1.trans h.1) hq) ?_ (fun H' h => h)
        rintro j v H4 H5 hj ⟨s4, g4⟩ ⟨rfl, e4⟩
        obtain ⟨o, ho, rfl⟩ : ∃ o, o ∈ r ∧ v = vG o := by
          obtain ⟨o, ho, e⟩ := List.mem_map.mp (List.mem_of_getElem? e4)
          exact ⟨o, ho, e.symm⟩
        refine ⟨rfl, ?_⟩
        refine ⟨_, rfl, o, rfl, _, _, rfl, rfl, _, rfl, ?_⟩
        rcases hs.dot r hm o ho with rfl | rfl | rfl
        · rw [show (!decide (tyG none = "int")) = true from by decide]
          exact iteT ⟨_, rfl, rfl, _, rfl, iteF ⟨s4, g4⟩⟩
        · rw [show (!decide (tyG (some 0) = "int")) = false from by decide]
          exact iteF ⟨_, rfl, _, _, rfl, rfl, _, rfl, iteF ⟨_, rfl, _, _, rfl, rfl, _, rfl, iteF (iteF ⟨s4, g4⟩)⟩⟩
        · rw [show (!decide (tyG (some 1) = "int")) = false from by decide]
          exact iteF ⟨_, rfl, _, _, rfl, rfl, _, rfl, iteF ⟨_, rfl, _, _, rfl, rfl, _, rfl, iteF (iteF ⟨s4, g4⟩)⟩⟩
      · rintro H2 ⟨s2, g2⟩
        exact ⟨_, rfl, _, SqB.truB (b := true) (.inl (.inl g2)), q _ (s1.trans s2)⟩
/-! CUT -/
def sp_ndr (K : PySem.W.Frag) : Sp := fun vs H Q _ => ∃ (n : Nat) (a : Addr) (k : Bool) (g : Grid), vs = [vN n, .ref a, .bl true] ∧ GrB k K H a g ∧ Sq n g ∧ ∀ H', Same H H' → Q .non H'
theorem ok_need_dot_rows (T : Txt K mg) : FnOk P w K mg base CX0 2 T.f_need_dot_rows T.d_need_dot_rows ["many", "grid", "gapped"] (sp_ndr K) := by
  refine T.F_need_dot_rows.ok sc_need_dot_rows (fun vs H Q E h => ?_) (fun cdv A outer s H vs Q E hr h => ?_)
  · obtain ⟨n, a, k, g, rfl, _⟩ := h
    rfl
  · obtain ⟨n, a, k, g, rfl, hg, hs, q⟩ := h
    refine ⟨_, (pss_cons (ps_if (PW.pt (pw_or (pt_not (pt_val (pe_call (ok_is_row T) (hr.mono (by decide)) (by rfl) T.g_is_row T.F_is_row.kp T.b_is_row .nil pass0 (pa_cons (pv 1) pa_nil)))) (pw_or1 (pt_cmpR op_ne (pe_callB call_len_seq (by rfl) T.n_len (by decide +kernel) (pa_cons (pv 1) pa_nil)) (pv 0) (nomark _))))) (pss_one ps_never) pss_nil)
      (pss_cons (ps_if (PW.pt (pw_and (pt_val (pe_call (ok_is_plain_grid T) (hr.mono (by decide)) (by rfl) T.g_is_plain_grid T.F_is_plain_grid.kp T.b_is_plain_grid .nil pass0 (pa_cons (pv 0) (pa_cons (pv 1) pa_nil)))) (pw_and1 (PW.pt (pw_or (pt_val (pv 2)) (pw_or1 pt_never)))))) (pss_one ps_retN) pss_nil)
      (pss_one ps_never))), ?_⟩
    obtain ⟨L, h1, h2, h3⟩ := hg.ex
    have hl : (L.map V.ref).length = n := by rw [List.length_map, h2, hs.len]
    refine ⟨_, rfl, a, k, _, rfl, h1, fun H1 s1 => ⟨true, rfl, iteF ⟨_, rfl, a, _, rfl, (Same.sqb s1 h1).or, ?_⟩⟩⟩
    rw [hl]
    refine ⟨_, rfl, rfl, _, rfl, ?_⟩
    rw [show (!decide (V.int (n : Int) = vN n)) = false from by simp [vN]]
    refine iteF ?_
    refine ⟨_, rfl, _, rfl, n, a, k, g, rfl, hg.same s1, hs, fun H2 s2 => ⟨true, rfl, iteT ⟨_, rfl, true, rfl, iteT (iteT (q H2 (s1.trans s2)))⟩⟩⟩
def sp_ng (K : PySem.W.Frag) : Sp := fun vs H Q _ => ∃ (n i : Nat) (a : Addr) (k : Bool) (g : Grid), vs = [.int ((i : Int) + 1), .ref a] ∧ i < 5 ∧ sidesI[i]? = some (n : Int) ∧ GrB k K H a g ∧ Sq n g ∧ ∀ H', Same H H' → Q .non H'
theorem ok_need_grid (T : Txt K mg) : FnOk P w K mg base CX0 3 T.f_need_grid T.d_need_grid ["size", "grid"] (sp_ng K) := by
  refine T.F_need_grid.ok sc_need_grid (fun vs H Q E h => ?_) (fun cdv A outer s H vs Q E hr h => ?_)
  · obtain ⟨n, i, a, k, g, rfl, _⟩ := h
    rfl
  · obtain ⟨n, i, a, k, g, rfl, hi, hn, hg, hs, q⟩ := h
    refine ⟨_, (pss_one (ps_expr (pe_call (ok_need_dot_rows T) (hr.mono (by decide)) (by rfl) T.g_need_dot_rows T.F_need_dot_rows.kp T.b_need_dot_rows .nil pass0 (pa_cons (pe_ix ix_rowB (pe_glob (v := .ref T.a_SIDES) (by rfl) T.g_SIDES rfl) (pe_op op_sub (pv 0) pe_int) (fun _ _ => rfl)) (pa_cons (pv 1) (pa_cons pe_bl pa_nil)))))), ?_⟩
    refine ⟨_, rfl, _, _, rfl, rfl, T.a_SIDES, _, _, vN n, false, rfl, rfl, tupB_ok (xs := sidesI) T.l_SIDES, ?_, ?_⟩
    · rw [show (i : Int) + 1 - 1 = (i : Int) by omega]
      refine atI_nat ?_
      rw [List.getElem?_map, hn]
      rfl
    exact ⟨_, rfl, n, a, k, g, rfl, hg, hs, fun H1 s1 => q H1 s1⟩
/-! CUT -/
theorem tot_le {s : Nat} (hs : s < 5) : totF s ≤ 58 := by
  have h : decide (totF s ≤ 58) = true := all5 (P := fun s => decide (totF s ≤ 58)) (by decide +kernel) hs
  exact of_decide_eq_true h
def sp_nsw (K : PySem.W.Frag) : Sp := fun vs H Q _ => ∃ (s : Nat) (a : Addr) (k gp : Bool) (ws : List Nat), vs = [.int ((s : Int) + 1), .ref a, .bl gp] ∧ s < 5 ∧ SqB k K H a (ws.map vN) ∧ (∀ x ∈ ws, x < span (bitsF s)) ∧ ws.length = totF s ∧ ∀ H', Same H H' → Q .non H'
theorem ok_need_symbol_words (T : Txt K mg) : FnOk P w K mg base CX0 5 T.f_need_symbol_words T.d_need_symbol_words ["size", "words", "gapped"] (sp_nsw K) := by
  refine T.F_need_symbol_words.ok sc_need_symbol_words (fun vs H Q E h => ?_) (fun cdv A outer s H vs Q E hr h => ?_)
  · obtain ⟨s, a, k, gp, ws, rfl, _⟩ := h
    rfl
  · obtain ⟨s0, a, k, gp, ws, rfl, hs, hq, hw, hl, q⟩ := h
    refine ⟨_, (pss_cons (ps_if (PW.pt (pw_or (pt_not (pt_val (pe_call (ok_is_row T) (hr.mono (by decide)) (by rfl) T.g_is_row T.F_is_row.kp T.b_is_row .nil pass0 (pa_cons (pv 1) pa_nil)))) (pw_or1 (pt_cmpR op_ne (pe_callB call_len_seq (by rfl) T.n_len (by decide +kernel) (pa_cons (pv 1) pa_nil)) (pe_call (ok_word_count T) (hr.mono (by decide)) (by rfl) T.g_word_count T.F_word_count.kp T.b_word_count .nil pass0 (pa_cons (pv 0) pa_nil)) (nomark _))))) (pss_one ps_never) pss_nil)
      (pss_cons (ps_if (pt_val (pe_call (ok_are_plain_words T) (hr.mono (by decide)) (by rfl) T.g_are_plain_words T.F_are_plain_words.kp T.b_are_plain_words .nil pass0 (pa_cons (pe_ix ix_rowB (pe_glob (v := .ref T.a_WORD_BITS) (by rfl) T.g_WORD_BITS rfl) (pe_op op_sub (pv 0) pe_int) (fun _ _ => rfl)) (pa_cons (pv 1) pa_nil)))) (pss_one ps_retN) pss_nil)
      (pss_one ps_never))), ?_⟩
    have le := tot_le hs
    have hb := bits_wd hs
    obtain ⟨xb, hX, hx⟩ := bit_at T hs
    refine ⟨_, rfl, a, k, _, rfl, hq, fun H1 s1 => ⟨true, rfl, iteF ⟨_, rfl, a, _, rfl, (Same.sqb s1 hq).or, ?_⟩⟩⟩
    rw [List.length_map, hl]
    refine ⟨_, rfl, s0, rfl, hs, fun H2 s2 => ⟨rfl, _, rfl, ?_⟩⟩
    rw [show (!decide (V.int (totF s0 : Nat) = vN (totF s0))) = false from by simp [vN]]
    refine iteF ?_
    refine ⟨_, rfl, _, _, rfl, rfl, T.a_WORD_BITS, xb, _, vN (bitsF s0), false, rfl, rfl, hX _, hx, _, rfl, bitsF s0, a, k, ws, rfl, hb, Same.sqb (s1.trans s2) hq, hw, fun H3 s3 => ⟨true, rfl, iteT (q H3 ((s1.trans s2).trans s3))⟩⟩
theorem filter_snoc' {P : Nat → Bool} (i : Nat) : (List.range (i + 1)).filter P = (List.range i).filter P ++ (if P i = true then [i] else []) := by
  rw [List.range_succ, List.filter_append]
  cases h : P i <;> simp [h]
theorem acc_yes {H1 H' : Hp} {D : Addr} {P : Nat → Bool} {i : Nat} (sm : Same H1 H') (hD : H1 D = none) (g : H' D = some (.lst (((List.range i).filter P).map vN))) (hi : i < 1000) (hp : P i = true) :
    ∃ acc, H' D = some (.lst acc) ∧ acc.length < sizeLine ∧ Same H1 (upd H' D (.lst (acc ++ [vN i]))) ∧ (upd H' D (.lst (acc ++ [vN i]))) D = some (.lst (((List.range (i + 1)).filter P).map vN)) := by
  refine ⟨_, g, ?_, fun c o hc => ?_, ?_⟩
  · have h := List.length_filter_le P (List.range i)
    rw [List.length_range] at h
    rw [List.length_map]
    exact small1000 (by omega)
  · rw [upd_ne (ne_of_none hc hD)]
    exact sm _ _ hc
  · rw [upd_same, filter_snoc', if_pos hp, List.map_append]
    rfl
theorem acc_no {P : Nat → Bool} {i : Nat} (hp : P i = false) : ((List.range (i + 1)).filter P).map vN = ((List.range i).filter P).map vN := by
  rw [filter_snoc', hp, if_neg Bool.false_ne_true, List.append_nil]
theorem own_le {s l : Nat} (hs : s < 5) (hl : l < 4) : ownF s l ≤ 30 := of_decide_eq_true (all20 (P := fun s l => decide (ownF s l ≤ 30)) (by decide +kernel) hs hl)
theorem ck_le {s l : Nat} (hs : s < 5) (hl : l < 4) : ckF s l ≤ 30 := of_decide_eq_true (all20 (P := fun s l => decide (ckF s l ≤ 30)) (by decide +kernel) hs hl)
theorem long_le {s : Nat} (hs : s < 5) : (longF s).length ≤ 3 := of_decide_eq_true (all5 (P := fun s => decide ((longF s).length ≤ 3)) (by decide +kernel) hs)
theorem flat_vN (ys : List Nat) : (ys.map vN).all flatV = true := by
  rw [List.all_map]
  exact List.all_eq_true.mpr fun _ _ => rfl
theorem inV_vN (n : Nat) : ∀ xs : List Nat, inV (vN n) (xs.map vN) = decide (n ∈ xs)
  | [] => rfl
  | x :: xs => by
    have ih := inV_vN n xs
    unfold inV at ih ⊢
    rw [List.map_cons, List.any_cons, ih]
    have e : eqV (vN x) (vN n) = decide (n = x) := by
      show ((x : Int) == (n : Int)) = _
      by_cases h : n = x
      · subst h; simp
      · rw [decide_eq_false h, beq_eq_false_iff_ne]
        omega
    rw [e]
    by_cases h : n = x <;> simp [h]
theorem blk_pos {s : Nat} (hs : s < 5) : 0 < (blkF s).length := of_decide_eq_true (all5 (P := fun s => decide (0 < (blkF s).length)) (by decide +kernel) hs)
theorem blk_le {s : Nat} (hs : s < 5) : (blkF s).length ≤ 3 := of_decide_eq_true (all5 (P := fun s => decide ((blkF s).length ≤ 3)) (by decide +kernel) hs)
theorem min_is {s : Nat} {m : Int} (hs : s < 5) (hm : m ∈ (blkF s).map fun n : Nat => (n : Int)) (h : ∀ y ∈ (blkF s).map fun n : Nat => (n : Int), m ≤ y) : m = (minF s : Int) := by
  have : s = 0 ∨ s = 1 ∨ s = 2 ∨ s = 3 ∨ s = 4 := by omega
  rcases this with rfl | rfl | rfl | rfl | rfl
  · have e : m = 4 := by simpa [blkF, blksL] using hm
    exact e
  · have e : m = 10 := by simpa [blkF, blksL] using hm
    exact e
  · have e : m = 22 := by simpa [blkF, blksL] using hm
    exact e
  · have e : m = 19 := by simpa [blkF, blksL] using hm
    exact e
  · have e : m = 20 ∨ m = 19 := by simpa [blkF, blksL] using hm
    have e2 := h 19 (by simp [blkF, blksL])
    have e3 : minF 4 = 19 := by decide
    rw [e3]
    omega
theorem own_is {s l : Nat} (hs : s < 5) (hl : l < 4) : (minF s : Int) - (ckF s l : Int) = (ownF s l : Int) :=
  of_decide_eq_true (all20 (P := fun s l => decide ((minF s : Int) - (ckF s l : Int) = (ownF s l : Int))) (by decide +kernel) hs hl)
def moreF (s l b : Nat) : List Nat := if b ∈ longF s then [(blkF s).length * ownF s l + b] else []
def firstF (s l b : Nat) : Nat := (blkF s).length * ownF s l + (longF s).length + b
theorem place_is (s l b : Nat) : placeF s l b = stepsF b (ownF s l) (blkF s).length ++ moreF s l b ++ stepsF (firstF s l b) (ckF s l) (blkF s).length := rfl
instance {i j c : Int} {n : Nat} : Decidable (RgC i j c n) := by unfold RgC; infer_instance
theorem rgs {s l b : Nat} (hs : s < 5) (hl : l < 4) (hb : b < (blkF s).length) : RgC (b : Int) ((blkF s).length * (ownF s l : Int)) ((blkF s).length : Int) (ownF s l) ∧
    RgC (firstF s l b : Int) ((firstF s l b : Int) + (blkF s).length * (ckF s l : Int)) ((blkF s).length : Int) (ckF s l) := by
  have h := all20 (P := fun s l => (List.range (blkF s).length).all fun b => decide (RgC (b : Int) ((blkF s).length * (ownF s l : Int)) ((blkF s).length : Int) (ownF s l)) && decide (RgC (firstF s l b : Int) ((firstF s l b : Int) + (blkF s).length * (ckF s l : Int)) ((blkF s).length : Int) (ckF s l))) (by decide +kernel) hs hl
  have h2 := List.all_eq_true.mp h b (List.mem_range.mpr hb)
  rw [Bool.and_eq_true] at h2
  exact ⟨of_decide_eq_true h2.1, of_decide_eq_true h2.2⟩
theorem rng_is (a n c : Nat) : (rngL (a : Int) (c : Int) n).map V.int = (stepsF a n c).map vN := by
  unfold rngL stepsF
  rw [List.map_map, List.map_map]
  refine List.map_congr_left fun k _ => ?_
  show V.int ((a : Int) + (k : Int) * (c : Int)) = V.int ((a + k * c : Nat) : Int)
  congr 1
theorem FrI.ext {H H' H2 : Hp} {D : Addr} {L : List Addr} {g : Grid} {i : Nat} (F : FrI H H' D L g i) (s : Same H' H2) : FrI H H2 D L g i :=
  ⟨F.same.trans s, s _ _ F.out, F.len, fun j l r e1 e2 => let ⟨q1, q2, q3⟩ := F.row j l r e1 e2; ⟨q1, q2, s _ _ q3⟩⟩
theorem more_le (s l b : Nat) : (moreF s l b).length ≤ 1 := by
  unfold moreF
  split <;> simp
def sp_bp : Sp := fun vs H Q _ => ∃ s l : Nat, vs = [.int ((s : Int) + 1), vN l] ∧ s < 5 ∧ l < 4 ∧ ∀ D H', Fr H H' D (gridN (placesF s l)) → Q (.ref D) H'
theorem ok_block_places (T : Txt K mg) : FnOk P w K mg base CX0 1 T.f_block_places T.d_block_places ["size", "level"] (sp_bp) := by
  refine T.F_block_places.ok sc_block_places (fun vs H Q E h => ?_) (fun cdv A outer s H vs Q E hr h => ?_)
  · obtain ⟨s, l, rfl, _⟩ := h
    rfl
  · obtain ⟨s0, l0, rfl, hs, hl, q⟩ := h
    refine ⟨_, (pss_cons (ps_set (i := 2) sc_block_places.nd rfl (.inr rfl) (pe_ix ix_rowB (pe_glob (v := .ref T.a_BLOCKS) (by rfl) T.g_BLOCKS rfl) (pe_op op_sub (pv 0) pe_int) (fun _ _ => rfl)))
      (pss_cons (ps_set (i := 3) sc_block_places.nd rfl (.inl rfl) (pe_callB call_len_seq (by rfl) T.n_len (by decide +kernel) (pa_cons (pv 2) pa_nil)))
      (pss_cons (ps_set (i := 4) sc_block_places.nd rfl (.inl rfl) (pe_ix ix_rowB (pe_ix ix_rowB (pe_glob (v := .ref T.a_CHECKS) (by rfl) T.g_CHECKS rfl) (pe_op op_sub (pv 0) pe_int) (fun _ _ => rfl)) (pv 1) (fun _ _ => rfl)))
      (pss_cons (ps_set (i := 5) sc_block_places.nd rfl (.inl rfl) (pe_op op_sub (pe_callB (cr_minTK (K := K) rfl rfl) (by rfl) T.n_min (by decide +kernel) (pa_cons (pv 2) pa_nil)) (pv 4)))
      (pss_cons (ps_setLc (i := 7) (own := [("block", 6), ("words", 11)]) (g := gTup K 2 (gCons (gName 6) (gCons (gName 11) gNil))) rfl sc_block_places.nd rfl rfl (sw_true rfl rfl rfl (by decide +kernel)) (pi_enumS (by rfl) T.n_enumerate (pa_cons (pv 2) pa_nil)) (blkOk_by (N := ["size", "level", "blocks", "many", "checks", "own", "block", "longer", "found", "more", "first_check", "words"]) (sc := defScope s_block_places) (by decide +kernel)) (fun _ _ _ _ _ => by (refine pg_tup ?_ ?_); (exact rfl); (refine pgs_cons ?_ ?_); (exact (pg_name (i := 6) sc_block_places.nd rfl (.inl rfl))); (refine pgs_cons ?_ ?_); (exact (pg_name (i := 11) sc_block_places.nd rfl (.inl rfl))); (exact pgs_nil)) (fun _ _ _ _ _ => by exact (pts_one (pt_cmpR op_gt (pv 11) (pe_callB (cr_minTK (K := K) rfl rfl) (by rfl) T.n_min (by decide +kernel) (pa_cons (pv 2) pa_nil)) (nomark _)))) (fun _ _ _ _ _ => by exact (pv 6)))
      (pss_cons (ps_set (i := 8) sc_block_places.nd rfl (.inl rfl) (pe_lst pa_nil))
      (pss_cons (ps_for PassesOwn.never rfl (pi_range1 (by rfl) T.n_range (pa_cons (pv 3) pa_nil)) (pg_name (i := 6) sc_block_places.nd rfl (.inl rfl)) (Evl.pss_cut (ps_set (i := 9) sc_block_places.nd rfl (.inl rfl) (pe_ifExp (pt_cmpR op_in_seq (pv 6) (pv 7) (by rfl)) (pe_lst (pa_cons (pe_op op_add (pe_op op_mul (pv 3) (pv 5)) (pv 6)) pa_nil)) (pe_lst pa_nil)))
      (Evl.pss_cut (ps_set (i := 10) sc_block_places.nd rfl (.inl rfl) (pe_op op_add (pe_op op_add (pe_op op_mul (pv 3) (pv 5)) (pe_callB call_len_seq (by rfl) T.n_len (by decide +kernel) (pa_cons (pv 7) pa_nil))) (pv 6)))
      (pss_one (ps_expr (pe_bm PySem.F.plainAttrs_list PySem.F.slot_list_append PySem.F.type_list_append mt_append (pv 8) (pa_cons (pe_op op_cat (pe_op op_cat (pe_callTy (cr_listR rfl) (by rfl) T.n_list (by decide +kernel) (pa_cons (pe_callTy cr_range3 (by rfl) T.n_range (by decide +kernel) (pa_cons (pv 6) (pa_cons (pe_op op_mul (pv 3) (pv 5)) (pa_cons (pv 3) pa_nil)))) pa_nil)) (pv 9)) (pe_callTy (cr_listR rfl) (by rfl) T.n_list (by decide +kernel) (pa_cons (pe_callTy cr_range3 (by rfl) T.n_range (by decide +kernel) (pa_cons (pv 10) (pa_cons (pe_op op_add (pv 10) (pe_op op_mul (pv 3) (pv 4))) (pa_cons (pv 3) pa_nil)))) pa_nil))) pa_nil)))))))
      (pss_one (ps_ret (pv 8)))))))))), ?_⟩
    obtain ⟨c, hc, hC⟩ := blk_at T hs
    obtain ⟨c2, hc2, hC2⟩ := chk_at T hs
    have e1 : (s0 : Int) + 1 - 1 = (s0 : Int) := by omega
    refine ⟨_, rfl, _, _, rfl, rfl, T.a_BLOCKS, _, _, .ref c, false, rfl, rfl, T.l_BLOCKS.sq (by show 5 ≤ 1000; decide), by rw [e1]; exact hc, ?_⟩
    refine ⟨_, rfl, c, _, rfl, .inr (hC _), ?_⟩
    refine ⟨_, rfl, _, _, rfl, rfl, T.a_CHECKS, _, _, .ref c2, false, rfl, rfl, T.l_CHECKS.sq (by show 5 ≤ 1000; decide), by rw [e1]; exact hc2, ?_⟩
    refine ⟨_, rfl, c2, _, _, vN (ckF s0 l0), false, rfl, rfl, hC2 _, ck_at hs hl, ?_⟩
    rw [List.length_map]
    refine ⟨_, rfl, c, (blkF s0).map fun n : Nat => (n : Int), rfl, by rw [← vN_ints]; exact hC _, by rw [List.length_map]; exact blk_pos hs, fun m hm hle => ?_⟩
    obtain rfl := min_is hs hm hle
    refine ⟨_, rfl, _, _, rfl, rfl, ?_⟩
    have eo : (fun i j : Int => V.int (i - j)) (minF s0 : Int) (ckF s0 l0 : Int) = vN (ownF s0 l0) := congrArg V.int (own_is hs hl)
    rw [eo]
    refine ⟨_, rfl, c, _, false, rfl, hC _, fun D hD => ?_⟩
    refine lc_it (walk_enumS (b := false) (K := K) (a := c) (xs := (blkF s0).map vN)) (fun i H' => Same H H' ∧ H' D = some (.lst (((List.range i).filter fun b => decide (minF s0 < (blkF s0).getD b 0)).map vN))) ⟨same_upd hD, upd_same⟩ (fun i H' _ h => hC _) ?_ ?_
    · rintro i v H1 H2 hi ⟨sm, g⟩ ⟨T1, x1, y1, rfl, hT1, rfl, e1, e2⟩
      rw [List.length_map] at hi
      have ex : x1 = .int (i : Int) := (Option.some.inj e1).symm
      replace e2 : ((blkF s0).map vN)[i]? = some y1 := e2
      rw [List.getElem?_map, List.getElem?_eq_getElem hi] at e2
      obtain rfl := (Option.some.inj e2).symm
      subst ex
      have sT := same_upd (o := .tup [.int (i : Int), vN (blkF s0)[i]]) hT1
      refine ⟨T1, [_, _], rfl, .inl (.inl upd_same), rfl, _, [_], rfl, _, [], rfl, rfl, rfl, ?_⟩
      refine ⟨_, rfl, _, rfl, c, (blkF s0).map fun n : Nat => (n : Int), rfl, by rw [← vN_ints]; exact hC _, by rw [List.length_map]; exact blk_pos hs, fun m hm hle => ?_⟩
      obtain rfl := min_is hs hm hle
      refine ⟨_, _, rfl, rfl, _, rfl, ?_⟩
      have ed : decide ((minF s0 : Int) < (((blkF s0)[i] : Nat) : Int)) = decide (minF s0 < (blkF s0).getD i 0) := by
        rw [getD_in hi]
        exact decide_eq_decide.mpr Int.ofNat_lt
      have l3 := blk_le hs
      rw [ed]
      cases hp : decide (minF s0 < (blkF s0).getD i 0) with
      | true => exact iteT ⟨_, rfl, acc_yes (P := fun b => decide (minF s0 < (blkF s0).getD b 0)) (sm.trans sT) hD (sT _ _ g) (by omega) hp⟩
      | false =>
        refine iteF ⟨sm.trans sT, ?_⟩
        rw [acc_no (P := fun b => decide (minF s0 < (blkF s0).getD b 0)) hp]
        exact sT _ _ g
    rintro H1 ⟨s1, hL⟩
    rw [List.length_map] at hL
    replace hL : H1 D = some (.lst ((longF s0).map vN)) := hL
    have l3 := blk_le hs
    have o30 := own_le hs hl
    have k30 := ck_le hs hl
    have lg3 := long_le hs
    refine ⟨(by show 0 ≤ sizeLine; decide), fun F hF => ?_⟩
    refine ⟨_, rfl, ((blkF s0).length : Int), rfl, by omega, by omega, ?_⟩
    refine for_range (lo := 0) (n := (blkF s0).length) (fun i σ H' => ∃ (z6 z9 z10 z11 : Option V) (M : List Addr), σ = [some (.int ((s0 : Int) + 1)), some (vN l0), some (.ref c), some (.int (blkF s0).length), some (vN (ckF s0 l0)), some (vN (ownF s0 l0)), z6, some (.ref D), some (.ref F), z9, z10, z11] ∧ FrI H1 H' F M (gridN (placesF s0 l0)) i) ⟨_, _, _, _, [], rfl, FrI.start hF⟩ ?_ ?_
    · rintro i σ H2 hi ⟨z6, z9, z10, z11, M, rfl, FI⟩
      have hL2 := FI.same _ _ hL
      have e0 : V.int (0 + (i : Int)) = vN i := by rw [Int.zero_add]; rfl
      rw [e0]
      refine ⟨fun σ' H' => ∃ p : Addr, σ' = [some (.int ((s0 : Int) + 1)), some (vN l0), some (.ref c), some (.int (blkF s0).length), some (vN (ckF s0 l0)), some (vN (ownF s0 l0)), some (vN i), some (.ref D), some (.ref F), some (.ref p), z10, z11] ∧ Same H2 H' ∧ H2 p = none ∧ H' p = some (.lst ((moreF s0 l0 i).map vN)), ?_, ?_⟩
      · refine ⟨_, rfl, _, rfl, D, _, rfl, .inl (.inl (.inl hL2)), rfl, flat_vN _, _, rfl, ?_⟩
        rw [inV_vN]
        refine ite2 (fun hm => ?_) (fun hm => ?_)
        · refine ⟨_, rfl, _, rfl, _, _, rfl, rfl, .inl ⟨by omega, by omega⟩, _, rfl, _, _, rfl, rfl, (by show 1 ≤ sizeLine; decide), fun p hp => ⟨p, rfl, same_upd hp, hp, ?_⟩⟩
          rw [upd_same]
          unfold moreF
          rw [if_pos (of_decide_eq_true hm)]
          have e : ((blkF s0).length : Int) * (ownF s0 l0 : Int) + (i : Int) = (((blkF s0).length * ownF s0 l0 + i : Nat) : Int) := by push_cast; rfl
          show some (HO.lst [V.int _]) = _
          rw [e]
          rfl
        · refine ⟨(by show 0 ≤ sizeLine; decide), fun p hp => ⟨p, rfl, same_upd hp, hp, ?_⟩⟩
          rw [upd_same]
          unfold moreF
          rw [if_neg (fun h => hm (decide_eq_true h))]
          rfl
      rintro σ H3 ⟨p, rfl, s3, hp0, hp⟩
      refine ⟨fun σ' H' => σ' = [some (.int ((s0 : Int) + 1)), some (vN l0), some (.ref c), some (.int (blkF s0).length), some (vN (ckF s0 l0)), some (vN (ownF s0 l0)), some (vN i), some (.ref D), some (.ref F), some (.ref p), some (vN (firstF s0 l0 i)), z11] ∧ H' = H3, ?_, ?_⟩
      · refine ⟨_, rfl, _, rfl, _, _, rfl, rfl, .inl ⟨by omega, by omega⟩, _, rfl, D, _, rfl, .inl (.inl (.inl (s3 _ _ hL2))), _, _, rfl, rfl, _, rfl, _, _, rfl, rfl, ?_⟩
        rw [List.length_map]
        have e : ((blkF s0).length : Int) * (ownF s0 l0 : Int) + ((longF s0).length : Int) + (i : Int) = ((firstF s0 l0 i : Nat) : Int) := by unfold firstF; push_cast; rfl
        refine ⟨?_, rfl⟩
        show List.set _ 10 (some (V.int _)) = _
        rw [e]
        rfl
      rintro σ H4 ⟨rfl, rfl⟩
      obtain ⟨r1, r2⟩ := rgs hs hl hi
      have F4 := FI.ext s3
      have m1 := more_le s0 l0 i
      have ln : ∀ (a c : Int) (n : Nat), ((rngL a c n).map V.int).length = n := fun a c n => by unfold rngL; rw [List.length_map, List.length_map, List.length_range]
      refine ⟨_, rfl, .inl ⟨rfl, _, .inl (.inl F4.out)⟩, ?_⟩
      refine ⟨_, rfl, _, rfl, _, rfl, _, _, rfl, rfl, .inl ⟨by omega, by omega⟩, _, rfl, _, _, _, _, rfl, r1, fun g1 hg1 => ?_⟩
      refine ⟨g1, _, _, _, _, rfl, upd_same, r1, by omega, fun l1 hl1 => ?_⟩
      have sb := (same_upd hg1).trans (same_upd (o := .lst ((rngL (i : Int) ((blkF s0).length : Int) (ownF s0 l0)).map V.int)) hl1)
      refine ⟨_, rfl, l1, p, _, _, rfl, rfl, upd_same, sb _ _ hp, ?_, fun l2 hl2 => ?_⟩
      · rw [ln, List.length_map]
        exact Nat.le_of_lt (small1000 (by omega))
      have sd := sb.trans (same_upd (o := .lst ((rngL (i : Int) ((blkF s0).length : Int) (ownF s0 l0)).map V.int ++ (moreF s0 l0 i).map vN)) hl2)
      refine ⟨_, rfl, _, rfl, _, rfl, _, rfl, _, _, rfl, rfl, .inl ⟨by omega, by omega⟩, _, _, rfl, rfl, _, rfl, _, _, _, _, rfl, r2, fun g2 hg2 => ?_⟩
      refine ⟨g2, _, _, _, _, rfl, upd_same, r2, by omega, fun l3 hl3 => ?_⟩
      have se := (same_upd hg2).trans (same_upd (o := .lst ((rngL (firstF s0 l0 i : Int) ((blkF s0).length : Int) (ckF s0 l0)).map V.int)) hl3)
      refine ⟨l2, l3, _, _, rfl, rfl, se _ _ upd_same, upd_same, ?_, fun l4 hl4 => ?_⟩
      · rw [List.length_append, ln, ln, List.length_map]
        exact Nat.le_of_lt (small1000 (by omega))
      have sf := (sd.trans se).trans (same_upd (o := .lst ((rngL (i : Int) ((blkF s0).length : Int) (ownF s0 l0)).map V.int ++ (moreF s0 l0 i).map vN ++ (rngL (firstF s0 l0 i : Int) ((blkF s0).length : Int) (ckF s0 l0)).map V.int)) hl4)
      refine ⟨F, _, _, rfl, rfl, sf _ _ F4.out, ?_, ?_⟩
      · rw [List.length_map, F4.len]
        exact small1000 (by omega)
      refine ⟨_, _, _, _, _, rfl, F4.step (c := l4) (r := ofN (placeF s0 l0 i)) hF ?_ sf (Same.free (sd.trans se) hl4) ?_⟩
      · unfold gridN placesF
        rw [List.map_map, List.getElem?_map, List.getElem?_range hi]
        rfl
      · rw [upd_same, ofN_v, place_is, List.map_append, List.map_append, ← rng_is, ← rng_is]
    · rintro σ H2 ⟨z6, z9, z10, z11, M, rfl, FI⟩
      have e : (gridN (placesF s0 l0)).length = (blkF s0).length := by unfold gridN placesF; rw [List.length_map, List.length_map, List.length_range]
      exact ⟨_, rfl, q F H2 (Fr.back ⟨hF, M, by rw [e]; exact FI⟩ s1)⟩
/-! CUT -/
abbrev sc_lc_gath : Scope := { kind := .function, names := [(".0", .local), ("places", .local), ("words", .cell)], isGenerator := false, isCoroutine := false }
def Kp (p : Addr) (H H' : Hp) : Prop := ∀ b o, H b = some o → b ≠ p → H' b = some o
theorem Kp.upd {p : Addr} {H : Hp} {o : HO} : Kp p H (upd H p o) := fun b u e n => by
  rw [upd_ne n]
  exact e
theorem Kp.trans {p : Addr} {H H1 H2 : Hp} (a : Kp p H H1) (b : Kp p H1 H2) : Kp p H H2 := fun c o e n => b c o (a c o e n) n
theorem Same.kp {p : Addr} {H H1 : Hp} (a : Same H H1) : Kp p H H1 := fun c o e _ => a c o e
theorem Kp.sqb {p a : Addr} {k : Bool} {K : PySem.W.Frag} {H H' : Hp} {xs ys : List V} (kp : Kp p H H') (hp : H p = some (.lst ys)) (hne : xs ≠ ys) (h : SqB k K H a xs) : SqB k K H' a xs := by
  cases k
  · rcases h with (h | ⟨o, h⟩) | h
    · exact .inl (.inl (kp _ _ h (fun e => by rw [e, hp] at h; cases h)))
    · exact .inl (.inr ⟨o, kp _ _ h (fun e => by rw [e, hp] at h; cases h)⟩)
    · exact .inr h
  · rcases h with (h | ⟨o, h⟩) | h
    · exact .inl (.inl (kp _ _ h (fun e => by rw [e, hp] at h; cases h; exact hne rfl)))
    · exact .inl (.inr ⟨o, kp _ _ h (fun e => by rw [e, hp] at h; cases h)⟩)
    · exact .inr h
theorem len_ne {α : Type} {xs ys : List α} (h : xs.length ≠ ys.length) : xs ≠ ys := fun e => h (by rw [e])
def sp_dw (K : PySem.W.Frag) : Sp := fun vs H Q _ => ∃ (s l : Nat) (a : Addr) (k : Bool) (rows : List (List Nat)), vs = [.int ((s : Int) + 1), vN l, .ref a] ∧ s < 5 ∧ l < 4 ∧ GrB k K H a (gridN rows) ∧ RowsOk s rows ∧ ∀ D H', Same H H' → H D = none → H' D = some (.lst ((dueF s l rows).map vN)) → Q (.ref D) H'
theorem ok_dealt_words (T : Txt K mg) : FnOk P w K mg base CX0 5 T.f_dealt_words T.d_dealt_words ["size", "level", "blocks"] (sp_dw K) := by
  refine T.F_dealt_words.ok sc_dealt_words (fun vs H Q E h => ?_) (fun cdv A outer s H vs Q E hr h => ?_)
  · obtain ⟨s, l, a, k, rows, rfl, _⟩ := h
    rfl
  · obtain ⟨s0, l0, a, k, rows, rfl, hs, hl, ha, hR, q⟩ := h
    refine ⟨_, (pss_cons (ps_set (i := 3) sc_dealt_words.nd rfl (.inl rfl) (pe_op op_rep (pe_lst (pa_cons pe_non pa_nil)) (pe_call (ok_word_count T) (hr.mono (by decide)) (by rfl) T.g_word_count T.F_word_count.kp T.b_word_count .nil pass0 (pa_cons (pv 0) pa_nil))))
      (pss_cons (ps_for PassesOwn.never rfl (pi_zipB (K := K) rfl (by rfl) T.n_zip (pa_cons (pe_call (ok_block_places T) (hr.mono (by decide)) (by rfl) T.g_block_places T.F_block_places.kp T.b_block_places .nil pass0 (pa_cons (pv 0) (pa_cons (pv 1) pa_nil))) (pa_cons (pv 2) pa_nil))) (pg_tup rfl (pgs_cons (pg_name (i := 4) sc_dealt_words.nd rfl (.inl rfl)) (pgs_cons (pg_name (i := 5) sc_dealt_words.nd rfl (.inl rfl)) pgs_nil))) (pss_one (ps_for PassesOwn.never rfl (pi_zipB (K := K) rfl (by rfl) T.n_zip (pa_cons (pv 4) (pa_cons (pv 5) pa_nil))) (pg_tup rfl (pgs_cons (pg_name (i := 6) sc_dealt_words.nd rfl (.inl rfl)) (pgs_cons (pg_name (i := 7) sc_dealt_words.nd rfl (.inl rfl)) pgs_nil))) (pss_one (ps_asg (pv 7) (pg_sub (pv 3) (pv 6) set_list))))))
      (pss_one (ps_ret (pv 3))))), ?_⟩
    have tl := tot_le hs
    have tp := tot_pos hs
    refine ⟨(by show 1 ≤ sizeLine; decide), fun w0 hw0 => ⟨_, rfl, s0, rfl, hs, fun H1 s1 => ?_⟩⟩
    refine ⟨w0, _, _, rfl, rfl, s1 _ _ upd_same, by omega, by omega, ?_, fun D hD => ?_⟩
    · rw [Int.toNat_natCast]
      exact Nat.le_of_lt (small1000 (by show 1 * totF s0 ≤ 1000; omega))
    rw [Int.toNat_natCast, rep1]
    have sD := ((same_upd hw0).trans s1).trans (same_upd (o := .lst (List.replicate (totF s0) V.non)) hD)
    have gD := upd_same (H := H1) (a := D) (o := .lst (List.replicate (totF s0) V.non))
    have fD : H D = none := Same.free ((same_upd hw0).trans s1) hD
    generalize upd H1 D (.lst (List.replicate (totF s0) V.non)) = HD at sD gD ⊢
    refine ⟨_, rfl, _, rfl, s0, l0, rfl, hs, hl, fun P1 H2 F1 => ?_⟩
    obtain ⟨hP, LP, FP⟩ := F1
    have s2 := sD.trans FP.same
    have gD2 := FP.same _ _ gD
    obtain ⟨La, h1, h2, h3⟩ := ha.ex
    have lP : LP.length = (blkF s0).length := by rw [FP.len]; unfold gridN placesF; rw [List.length_map, List.length_map, List.length_range]
    have lA : La.length = (blkF s0).length := by rw [h2]; unfold gridN; rw [List.length_map, hR.len]
    have q1 : SqB true K H2 P1 (LP.map V.ref) := .lst FP.out
    have q2 := Same.sqb s2 h1
    refine ⟨_, rfl, P1, a, _, _, k, rfl, q1, q2, ?_⟩
    refine for_it (walk_zipB (n := (blkF s0).length) (ka := true) (kb := k) (K := K) (a := P1) (b := a) (xs := LP.map V.ref) (ys := La.map V.ref) (by rw [List.length_map, List.length_map, lP, lA, Nat.min_self])) (fun i σ H' => ∃ (z4 z5 z6 z7 : Option V) (W : List (Option Nat)), σ = [some (.int ((s0 : Int) + 1)), some (vN l0), some (.ref a), some (.ref D), z4, z5, z6, z7] ∧ Kp D H2 H' ∧ H' D = some (.lst (W.map vG)) ∧ DealtW s0 l0 rows i 0 W)
      ⟨_, _, _, _, _, rfl, Same.kp (Same.refl _), by rw [List.map_replicate]; exact gD2, DealtW.start _ _ _⟩ (fun i σ H' _ ⟨_, _, _, _, _, _, kp, _⟩ => ⟨Kp.sqb kp gD2 (refs_ne tp) q1, Kp.sqb kp gD2 (refs_ne tp) q2⟩) ?_ ?_
    · rintro i x σ H3 H4 hi ⟨z4, z5, z6, z7, W, rfl, kp, gW, dw⟩ ⟨T1, x1, y1, rfl, hT, rfl, e1, e2⟩
      have eP : LP[i]? = some (LP[i]'(by omega)) := List.getElem?_eq_getElem _
      have eA : La[i]? = some (La[i]'(by omega)) := List.getElem?_eq_getElem _
      generalize LP[i]'(by omega) = lp at eP
      generalize La[i]'(by omega) = la at eA
      replace e1 : (LP.map V.ref)[i]? = some x1 := e1
      replace e2 : (La.map V.ref)[i]? = some y1 := e2
      rw [List.getElem?_map, eP] at e1
      rw [List.getElem?_map, eA] at e2
      obtain rfl := (Option.some.inj e1).symm
      obtain rfl := (Option.some.inj e2).symm
      obtain ⟨r, er, lr, eg, hr4⟩ := hR.row hi
      have qp : SqB true K H2 lp ((placeF s0 l0 i).map vN) := by
        have := (FP.row i lp (ofN (placeF s0 l0 i)) eP (by unfold gridN placesF; rw [List.map_map, List.getElem?_map, List.getElem?_range hi]; rfl)).2.2
        rw [ofN_v] at this
        exact .lst this
      have qa : SqB k K H2 la (r.map vN) := by
        have := h3 i la (ofN r) eA (by unfold gridN; rw [List.getElem?_map, er]; rfl)
        rw [ofN_v] at this
        exact Same.sqb s2 this
      have sT := same_upd (o := .tup [V.ref lp, V.ref la]) hT
      refine ⟨T1, [_, _], rfl, .inl (.inl upd_same), rfl, _, [_], rfl, _, [], rfl, rfl, ?_⟩
      generalize (upd H3 T1 (.tup [V.ref lp, V.ref la])) = H5 at sT ⊢
      have kp5 : Kp D H2 H5 := kp.trans (Same.kp sT)
      have gW5 := sT _ _ gW
      refine ⟨_, rfl, _, rfl, lp, la, _, _, k, rfl, Kp.sqb kp5 gD2 (words_ne tp) qp, Kp.sqb kp5 gD2 (words_ne tp) qa, ?_⟩
      have lpl := place_len hs hl hi
      refine for_it (walk_zipB (n := (blkF s0).getD i 0) (ka := true) (kb := k) (K := K) (a := lp) (b := la) (xs := (placeF s0 l0 i).map vN) (ys := r.map vN) (by rw [List.length_map, List.length_map, lpl, lr, Nat.min_self])) (fun j σ H' => ∃ (z6 z7 : Option V) (W : List (Option Nat)), σ = [some (.int ((s0 : Int) + 1)), some (vN l0), some (.ref a), some (.ref D), some (.ref lp), some (.ref la), z6, z7] ∧ Kp D H2 H' ∧ H' D = some (.lst (W.map vG)) ∧ DealtW s0 l0 rows i j W)
        ⟨_, _, W, rfl, kp5, gW5, dw⟩ (fun j σ H' _ ⟨_, _, _, _, kp, _⟩ => ⟨Kp.sqb kp gD2 (words_ne tp) qp, Kp.sqb kp gD2 (words_ne tp) qa⟩) ?_ ?_
      · rintro j x σ H6 H7 hj ⟨z6, z7, W6, rfl, kp6, gW6, dw6⟩ ⟨T2, x2, y2, rfl, hT2, rfl, e3, e4⟩
        replace e3 : ((placeF s0 l0 i).map vN)[j]? = some x2 := e3
        replace e4 : (r.map vN)[j]? = some y2 := e4
        rw [List.getElem?_map, List.getElem?_eq_getElem (by omega)] at e3
        rw [List.getElem?_map, List.getElem?_eq_getElem (by omega)] at e4
        have ex : x2 = vN ((placeF s0 l0 i).getD j 0) := by rw [getD_in (by omega)]; exact (Option.some.inj e3).symm
        have ey : y2 = vG (some ((rows.getD i []).getD j 0)) := by rw [eg, getD_in (by omega)]; exact (Option.some.inj e4).symm
        subst ex ey
        clear e3 e4
        have sT2 := same_upd (o := .tup [vN ((placeF s0 l0 i).getD j 0), vG (some ((rows.getD i []).getD j 0))]) hT2
        refine ⟨T2, [_, _], rfl, .inl (.inl upd_same), rfl, _, [_], rfl, _, [], rfl, rfl, ?_⟩
        generalize (upd H6 T2 (.tup [vN ((placeF s0 l0 i).getD j 0), vG (some ((rows.getD i []).getD j 0))])) = H8 at sT2 ⊢
        have gW8 := sT2 _ _ gW6
        have pin := place_in hs hl hi hj
        refine ⟨_, rfl, _, rfl, _, rfl, D, _, _, (placeF s0 l0 i).getD j 0, rfl, rfl, gW8, ?_, ?_⟩
        · exact ixN_nat (by rw [List.length_map, dw6.len]; exact pin.1)
        · refine ⟨_, _, _, rfl, (kp6.trans (Same.kp sT2)).trans Kp.upd, ?_, dw6.step hs hl hi hj⟩
          rw [upd_same, List.map_set]
      · rintro σ H6 ⟨z6, z7, W6, rfl, kp6, gW6, dw6⟩
        exact ⟨_, _, _, _, W6, rfl, kp6, gW6, dw6.next (Nat.le_refl _)⟩
    · rintro σ H3 ⟨z4, z5, z6, z7, W, rfl, kp, gW, dw⟩
      have eW := dw.done hs hl
      subst eW
      rw [ofN_v] at gW
      refine ⟨_, rfl, q D H3 (fun b o hb => kp b o (s2 b o hb) (ne_of_none hb fD)) fD gW⟩
theorem blk_at_le {s b : Nat} (hs : s < 5) (hb : b < (blkF s).length) : (blkF s).getD b 0 ≤ 22 := by
  have h := all5 (P := fun s => (List.range (blkF s).length).all fun b => decide ((blkF s).getD b 0 ≤ 22)) (by decide +kernel) hs
  exact of_decide_eq_true (List.all_eq_true.mp h b (List.mem_range.mpr hb))
def backF (s l : Nat) (ws : List (Option Nat)) : Grid := (placesF s l).map fun ps => ps.map fun i => ws.getD i none
def sp_gw (K : PySem.W.Frag) : Sp := fun vs H Q _ => ∃ (s l : Nat) (a : Addr) (k : Bool) (ws : List (Option Nat)), vs = [.int ((s : Int) + 1), vN l, .ref a] ∧ s < 5 ∧ l < 4 ∧ SqB k K H a (ws.map vG) ∧ ws.length = totF s ∧ ∀ D H', Fr H H' D (backF s l ws) → Q (.ref D) H'
theorem ok_gathered_words (T : Txt K mg) : FnOk P w K mg base CX0 2 T.f_gathered_words T.d_gathered_words ["size", "level", "words"] (sp_gw K) := by
  refine T.F_gathered_words.ok sc_gathered_words (fun vs H Q E h => ?_) (fun cdv A outer s H vs Q E hr h => ?_)
  · obtain ⟨s, l, a, k, ws, rfl, _⟩ := h
    rfl
  · obtain ⟨s0, l0, a, k, ws, rfl, hs, hl, ha, hw, q⟩ := h
    refine ⟨_, (pss_one (ps_ret (pe_lc (own := [("places", 3)]) rfl sc_gathered_words.nd (pi_list (pe_call (ok_block_places T) (hr.mono (by decide)) (by rfl) T.g_block_places T.F_block_places.kp T.b_block_places .nil pass0 (pa_cons (pv 0) (pa_cons (pv 1) pa_nil)))) (blkOk_by (N := ["size", "level", "words", "places", "index"]) (sc := defScope s_gathered_words) (by decide +kernel)) (fun _ _ _ _ _ => by exact (pg_name (i := 3) sc_gathered_words.nd rfl (.inl rfl))) (fun _ _ _ _ _ => by exact pts_nil) (fun _ _ _ _ _ => by exact (pe_lc (own := [("index", 4)]) rfl sc_gathered_words.nd (pi_seqK (K := K) rfl (pv 3)) (blkOk_by (N := ["size", "level", "words", "places", "index"]) (sc := sc_lc_gath) (by decide +kernel)) (fun _ _ _ _ _ => by exact (pg_name (i := 4) sc_gathered_words.nd rfl (.inl rfl))) (fun _ _ _ _ _ => by exact pts_nil) (fun _ _ _ _ _ => by exact (pe_ix (ix_rowBK (K := K) rfl) (pv 2) (pv 4) (fun _ _ => rfl)))))))), ?_⟩
    refine ⟨_, rfl, _, rfl, s0, l0, rfl, hs, hl, fun P1 H1 F1 => ?_⟩
    obtain ⟨hP, LP, FP⟩ := F1
    have lP : LP.length = (blkF s0).length := by rw [FP.len]; unfold gridN placesF; rw [List.length_map, List.length_map, List.length_range]
    refine ⟨P1, rfl, ⟨_, .inl (.inl FP.out)⟩, fun D hD => ?_⟩
    have tl := tot_le hs
    have bl := blk_le hs
    have hq1 := Same.sqb FP.same ha
    refine lc_it (walk_list (K := K) (a := P1) (xs := LP.map V.ref)) (fun i H' => ∃ M, FrI H1 H' D M (backF s0 l0 ws) i) ⟨[], FrI.start hD⟩ (fun i H' _ ⟨_, F⟩ => .inl (.inl (F.same _ _ FP.out))) ?_ ?_
    · rintro i v H3 H4 hi ⟨M, FI⟩ ⟨rfl, e2⟩
      rw [List.length_map, lP] at hi
      have eP : LP[i]? = some (LP[i]'(by omega)) := List.getElem?_eq_getElem _
      generalize LP[i]'(by omega) = lp at eP
      rw [List.getElem?_map, eP] at e2
      obtain rfl := (Option.some.inj e2).symm
      have gp : H1 lp = some (.lst ((placeF s0 l0 i).map vN)) := by
        have := (FP.row i lp (ofN (placeF s0 l0 i)) eP (by unfold gridN placesF; rw [List.map_map, List.getElem?_map, List.getElem?_range hi]; rfl)).2.2
        rw [ofN_v] at this
        exact this
      have lpl := place_len hs hl hi
      have lb := blk_at_le hs hi
      refine ⟨rfl, iteT (B := ∃ M, FrI H1 H4 D M (backF s0 l0 ws) (i + 1)) ⟨_, rfl, lp, _, true, rfl, .lst (FI.same _ _ gp), fun c hc => ?_⟩⟩
      have ncD : c ≠ D := fun z => by rw [z, FI.out] at hc; cases hc
      refine lc_it (walk_seq (b := true) (K := K) (a := lp) (xs := (placeF s0 l0 i).map vN)) (fun j H' => Same H4 H' ∧ H' c = some (.lst ((((placeF s0 l0 i).take j).map fun i => ws.getD i none).map vG))) ⟨same_upd hc, upd_same⟩ (fun j H' _ h => .lst (h.1 _ _ (FI.same _ _ gp))) ?_ ?_
      · rintro j v H5 H6 hj ⟨sm, g⟩ ⟨rfl, e2⟩
        rw [List.length_map] at hj
        have ej : (placeF s0 l0 i)[j]? = some ((placeF s0 l0 i)[j]) := List.getElem?_eq_getElem hj
        rw [List.getElem?_map, ej] at e2
        obtain rfl := (Option.some.inj e2).symm
        have pin := (place_in hs hl hi (c := j) (by omega)).1
        rw [getD_in hj] at pin
        have ew : (ws.map vG)[(placeF s0 l0 i)[j]]? = some (vG (ws.getD (placeF s0 l0 i)[j] none)) := by
          rw [List.getElem?_map, getD_in (l := ws) (by omega), List.getElem?_eq_getElem (by omega)]
          rfl
        refine ⟨rfl, iteT (B := Same H4 H6 ∧ H6 c = some (.lst ((((placeF s0 l0 i).take (j + 1)).map fun i => ws.getD i none).map vG))) ⟨_, rfl, _, rfl, a, _, _, _, k, rfl, rfl, Same.sqb (FI.same.trans sm) hq1, atI_nat ew, ?_⟩⟩
        refine ⟨_, g, ?_, fun f o hf => ?_, ?_⟩
        · rw [List.length_map, List.length_map, List.length_take]
          exact small1000 (by omega)
        · rw [upd_ne (ne_of_none hf hc)]
          exact sm _ _ hf
        · rw [upd_same, List.take_add_one, ej, List.map_append, List.map_append]
          rfl
      · rintro H5 ⟨sm, g⟩
        rw [List.length_map, List.take_length] at g
        refine ⟨_, sm _ _ FI.out, ?_, M ++ [c], FI.step hD ?_ sm hc g⟩
        · rw [List.length_map, FI.len]
          exact small1000 (by omega)
        · unfold backF placesF
          rw [List.map_map, List.getElem?_map, List.getElem?_range hi]
          rfl
    · rintro H3 ⟨M, FI⟩
      have e : (backF s0 l0 ws).length = (LP.map V.ref).length := by unfold backF placesF; rw [List.length_map, List.length_map, List.length_range, List.length_map, lP]
      exact q D H3 (Fr.back ⟨hD, M, by rw [e]; exact FI⟩ FP.same)
def sp_nb (K : PySem.W.Frag) : Sp := fun vs H Q _ => ∃ (s b : Nat) (a : Addr) (k : Bool) (r : List Nat), vs = [.int ((s : Int) + 1), vN b, .ref a] ∧ s < 5 ∧ (blkF s)[b]? = some r.length ∧ SqB k K H a (r.map vN) ∧ (∀ x ∈ r, x < span (bitsF s)) ∧ ∀ H', Same H H' → Q .non H'
theorem ok_need_block (T : Txt K mg) : FnOk P w K mg base CX0 4 T.f_need_block T.d_need_block ["size", "block", "words"] (sp_nb K) := by
  refine T.F_need_block.ok sc_need_block (fun vs H Q E h => ?_) (fun cdv A outer s H vs Q E hr h => ?_)
  · obtain ⟨s, b, a, k, r, rfl, _⟩ := h
    rfl
  · obtain ⟨s0, b, a, k, r, rfl, hs, hb, hq, hw, q⟩ := h
    refine ⟨_, (pss_cons (ps_if (PW.pt (pw_or (pt_not (pt_val (pe_call (ok_is_row T) (hr.mono (by decide)) (by rfl) T.g_is_row T.F_is_row.kp T.b_is_row .nil pass0 (pa_cons (pv 2) pa_nil)))) (pw_or1 (pt_cmpR op_ne (pe_callB call_len_seq (by rfl) T.n_len (by decide +kernel) (pa_cons (pv 2) pa_nil)) (pe_ix ix_rowB (pe_ix ix_rowB (pe_glob (v := .ref T.a_BLOCKS) (by rfl) T.g_BLOCKS rfl) (pe_op op_sub (pv 0) pe_int) (fun _ _ => rfl)) (pv 1) (fun _ _ => rfl)) (nomark _))))) (pss_one ps_never) pss_nil)
      (pss_one (ps_for PassesOwn.never rfl (pi_enumS (by rfl) T.n_enumerate (pa_cons (pv 2) pa_nil)) (pg_tup rfl (pgs_cons (pg_name (i := 3) sc_need_block.nd rfl (.inl rfl)) (pgs_cons (pg_name (i := 4) sc_need_block.nd rfl (.inl rfl)) pgs_nil))) (pss_one (ps_if (pt_not (pt_val (pe_call (ok_is_word T) (hr.mono (by decide)) (by rfl) T.g_is_word T.F_is_word.kp T.b_is_word .nil pass0 (pa_cons (pe_ix ix_rowB (pe_glob (v := .ref T.a_WORD_BITS) (by rfl) T.g_WORD_BITS rfl) (pe_op op_sub (pv 0) pe_int) (fun _ _ => rfl)) (pa_cons (pv 4) pa_nil))))) (pss_one ps_never) pss_nil))))), ?_⟩
    obtain ⟨c, hc, hC⟩ := blk_at T hs
    obtain ⟨xb, hX, hx⟩ := bit_at T hs
    have e1 : (s0 : Int) + 1 - 1 = (s0 : Int) := by omega
    have hbi := bits_wd hs
    refine ⟨_, rfl, a, k, _, rfl, hq, fun H1 s1 => ⟨true, rfl, iteF ⟨_, rfl, a, _, rfl, (Same.sqb s1 hq).or, ?_⟩⟩⟩
    rw [List.length_map]
    refine ⟨_, rfl, _, _, rfl, rfl, T.a_BLOCKS, _, _, .ref c, false, rfl, rfl, T.l_BLOCKS.sq (by show 5 ≤ 1000; decide), by rw [e1]; exact hc, ?_⟩
    refine ⟨_, rfl, c, _, _, vN r.length, false, rfl, rfl, hC _, atI_nat (by rw [List.getElem?_map, hb]; rfl), rfl, _, rfl, ?_⟩
    rw [show (!decide (V.int (r.length : Nat) = vN r.length)) = false from by simp [vN]]
    refine iteF ?_
    refine ⟨_, rfl, a, _, k, rfl, Same.sqb s1 hq, ?_⟩
    refine for_it (walk_enumS (b := k) (K := K) (a := a) (xs := r.map vN)) (fun i σ H' => ∃ z3 z4 : Option V, σ = [some (.int ((s0 : Int) + 1)), some (vN b), some (.ref a), z3, z4] ∧ Same H H') ⟨_, _, rfl, s1⟩ (fun i σ H' _ ⟨_, _, _, sm⟩ => Same.sqb sm hq) ?_ (fun σ H' ⟨_, _, _, sm⟩ => q H' sm)
    rintro i x σ H4 H5 hi ⟨z2, z3, rfl, sm⟩ ⟨T1, x1, y1, rfl, hT, rfl, e1, e2⟩
    rw [List.length_map] at hi
    have ex : x1 = .int (i : Int) := (Option.some.inj e1).symm
    replace e2 : (r.map vN)[i]? = some y1 := e2
    rw [List.getElem?_map, List.getElem?_eq_getElem hi] at e2
    obtain rfl := (Option.some.inj e2).symm
    subst ex
    have sT := same_upd (o := .tup [.int (i : Int), vN r[i]]) hT
    refine ⟨T1, [_, _], rfl, .inl (.inl upd_same), rfl, _, [_], rfl, _, [], rfl, rfl, ?_⟩
    generalize (upd H4 T1 (.tup [.int (i : Int), vN r[i]])) = H6 at sT ⊢
    have smT := sm.trans sT
    exact ⟨_, rfl, _, _, rfl, rfl, T.a_WORD_BITS, xb, _, vN (bitsF s0), false, rfl, rfl, hX _, hx, _, rfl, bitsF s0, r[i], rfl, hbi, hw _ (List.getElem_mem hi), _, rfl, iteF ⟨_, _, rfl, smT⟩⟩
/-! CUT -/
theorem ok_dealt (T : Txt K mg) : FnOk P w K mg base CX0 6 T.f_dealt T.d_dealt ["size", "level", "blocks"] (sp_dw K) := by
  refine T.F_dealt.ok sc_dealt (fun vs H Q E h => ?_) (fun cdv A outer s H vs Q E hr h => ?_)
  · obtain ⟨s, l, a, k, rows, rfl, _⟩ := h
    rfl
  · obtain ⟨s0, l0, a, k, rows, rfl, hs, hl, ha, hR, q⟩ := h
    refine ⟨_, (pss_cons (ps_expr (pe_call (ok_need_size T) (hr.mono (by decide)) (by rfl) T.g_need_size T.F_need_size.kp T.b_need_size .nil pass0 (pa_cons (pv 0) pa_nil)))
      (pss_cons (ps_expr (pe_call (ok_need_level T) (hr.mono (by decide)) (by rfl) T.g_need_level T.F_need_level.kp T.b_need_level .nil pass0 (pa_cons (pv 1) pa_nil)))
      (pss_cons (ps_if (PW.pt (pw_or (pt_not (pt_val (pe_call (ok_is_row T) (hr.mono (by decide)) (by rfl) T.g_is_row T.F_is_row.kp T.b_is_row .nil pass0 (pa_cons (pv 2) pa_nil)))) (pw_or1 (pt_cmpR op_ne (pe_callB call_len_seq (by rfl) T.n_len (by decide +kernel) (pa_cons (pv 2) pa_nil)) (pe_callB call_len_seq (by rfl) T.n_len (by decide +kernel) (pa_cons (pe_ix ix_rowB (pe_glob (v := .ref T.a_BLOCKS) (by rfl) T.g_BLOCKS rfl) (pe_op op_sub (pv 0) pe_int) (fun _ _ => rfl)) pa_nil)) (nomark _))))) (pss_one ps_never) pss_nil)
      (pss_cons (ps_for PassesOwn.never rfl (pi_enumS (by rfl) T.n_enumerate (pa_cons (pv 2) pa_nil)) (pg_tup rfl (pgs_cons (pg_name (i := 3) sc_dealt.nd rfl (.inl rfl)) (pgs_cons (pg_name (i := 4) sc_dealt.nd rfl (.inl rfl)) pgs_nil))) (pss_one (ps_expr (pe_call (ok_need_block T) (hr.mono (by decide)) (by rfl) T.g_need_block T.F_need_block.kp T.b_need_block .nil pass0 (pa_cons (pv 0) (pa_cons (pv 3) (pa_cons (pv 4) pa_nil)))))))
      (pss_one (ps_ret (pe_call (ok_dealt_words T) (hr.mono (by decide)) (by rfl) T.g_dealt_words T.F_dealt_words.kp T.b_dealt_words .nil pass0 (pa_cons (pv 0) (pa_cons (pv 1) (pa_cons (pv 2) pa_nil)))))))))), ?_⟩
    obtain ⟨c, hc, hC⟩ := blk_at T hs
    have e1 : (s0 : Int) + 1 - 1 = (s0 : Int) := by omega
    obtain ⟨La, h1, h2, h3⟩ := ha.ex
    have lA : La.length = (blkF s0).length := by rw [h2]; unfold gridN; rw [List.length_map, hR.len]
    refine ⟨_, rfl, s0, rfl, hs, _, rfl, l0, rfl, hl, ?_⟩
    refine ⟨_, rfl, a, k, _, rfl, h1, fun H1 s1 => ⟨true, rfl, iteF ⟨_, rfl, a, _, rfl, (Same.sqb s1 h1).or, ?_⟩⟩⟩
    rw [List.length_map, lA]
    refine ⟨_, rfl, _, _, rfl, rfl, T.a_BLOCKS, _, _, .ref c, false, rfl, rfl, T.l_BLOCKS.sq (by show 5 ≤ 1000; decide), by rw [e1]; exact hc, ?_⟩
    refine ⟨c, _, rfl, .inr (hC _), rfl, _, rfl, ?_⟩
    rw [List.length_map]
    rw [show (!decide (V.int ((blkF s0).length : Nat) = V.int ((blkF s0).length : Nat))) = false from by simp]
    refine iteF ?_
    refine ⟨_, rfl, a, _, k, rfl, Same.sqb s1 h1, ?_⟩
    refine for_it (walk_enumS (b := k) (K := K) (a := a) (xs := La.map V.ref)) (fun i σ H' => ∃ z3 z4 : Option V, σ = [some (.int ((s0 : Int) + 1)), some (vN l0), some (.ref a), z3, z4] ∧ Same H H') ⟨_, _, rfl, s1⟩ (fun i σ H' _ ⟨_, _, _, sm⟩ => Same.sqb sm h1) ?_ ?_
    · rintro i x σ H4 H5 hi ⟨z2, z3, rfl, sm⟩ ⟨T1, x1, y1, rfl, hT, rfl, e1, e2⟩
      rw [List.length_map, lA] at hi
      have ex : x1 = .int (i : Int) := (Option.some.inj e1).symm
      have eA : La[i]? = some (La[i]'(by omega)) := List.getElem?_eq_getElem _
      generalize La[i]'(by omega) = la at eA
      replace e2 : (La.map V.ref)[i]? = some y1 := e2
      rw [List.getElem?_map, eA] at e2
      obtain rfl := (Option.some.inj e2).symm
      subst ex
      obtain ⟨r, er, lr, eg, hr4⟩ := hR.row hi
      have qa : SqB k K H la (r.map vN) := by
        have := h3 i la (ofN r) eA (by unfold gridN; rw [List.getElem?_map, er]; rfl)
        rw [ofN_v] at this
        exact this
      have hb : (blkF s0)[i]? = some r.length := by rw [List.getElem?_eq_getElem hi, lr, getD_in hi]
      have sT := same_upd (o := .tup [.int (i : Int), V.ref la]) hT
      refine ⟨T1, [_, _], rfl, .inl (.inl upd_same), rfl, _, [_], rfl, _, [], rfl, rfl, ?_⟩
      generalize (upd H4 T1 (.tup [.int (i : Int), V.ref la])) = H6 at sT ⊢
      have smT := sm.trans sT
      exact ⟨_, rfl, _, rfl, _, rfl, s0, i, la, k, r, rfl, hs, hb, Same.sqb smT qa, hr4, fun H7 s7 => ⟨_, _, rfl, smT.trans s7⟩⟩
    · rintro σ H4 ⟨z2, z3, rfl, sm⟩
      exact ⟨_, rfl, _, rfl, _, rfl, s0, l0, a, k, rows, rfl, hs, hl, ha.same sm, hR, fun D H' s5 hD g => q D H' (sm.trans s5) (Same.free sm hD) g⟩
def sp_ga (K : PySem.W.Frag) : Sp := fun vs H Q _ => ∃ (s l : Nat) (a : Addr) (k : Bool) (ws : List Nat), vs = [.int ((s : Int) + 1), vN l, .ref a] ∧ s < 5 ∧ l < 4 ∧ SqB k K H a (ws.map vN) ∧ (∀ x ∈ ws, x < span (bitsF s)) ∧ ws.length = totF s ∧ ∀ D H', Fr H H' D (backF s l (ws.map some)) → Q (.ref D) H'
theorem ok_gathered (T : Txt K mg) : FnOk P w K mg base CX0 6 T.f_gathered T.d_gathered ["size", "level", "words"] (sp_ga K) := by
  refine T.F_gathered.ok sc_gathered (fun vs H Q E h => ?_) (fun cdv A outer s H vs Q E hr h => ?_)
  · obtain ⟨s, l, a, k, ws, rfl, _⟩ := h
    rfl
  · obtain ⟨s0, l, a, k, ws, rfl, hs, hl, hq, hw, hn, q⟩ := h
    refine ⟨_, (pss_cons (ps_expr (pe_call (ok_need_size T) (hr.mono (by decide)) (by rfl) T.g_need_size T.F_need_size.kp T.b_need_size .nil pass0 (pa_cons (pv 0) pa_nil)))
      (pss_cons (ps_expr (pe_call (ok_need_level T) (hr.mono (by decide)) (by rfl) T.g_need_level T.F_need_level.kp T.b_need_level .nil pass0 (pa_cons (pv 1) pa_nil)))
      (pss_cons (ps_expr (pe_call (ok_need_symbol_words T) (hr.mono (by decide)) (by rfl) T.g_need_symbol_words T.F_need_symbol_words.kp T.b_need_symbol_words .nil pass0 (pa_cons (pv 0) (pa_cons (pv 2) (pa_cons pe_bl pa_nil)))))
      (pss_one (ps_ret (pe_call (ok_gathered_words T) (hr.mono (by decide)) (by rfl) T.g_gathered_words T.F_gathered_words.kp T.b_gathered_words .nil pass0 (pa_cons (pv 0) (pa_cons (pv 1) (pa_cons (pv 2) pa_nil))))))))), ?_⟩
    have e : ws.map vN = (ws.map some).map vG := by
      rw [List.map_map]
      rfl
    refine ⟨_, rfl, s0, rfl, hs, _, rfl, l, rfl, hl, ?_⟩
    refine ⟨_, rfl, _, rfl, s0, a, k, true, ws, rfl, hs, hq, hw, hn, fun H1 s1 => ?_⟩
    exact ⟨_, rfl, _, rfl, _, rfl, s0, l, a, k, ws.map some, rfl, hs, hl, by rw [← e]; exact Same.sqb s1 hq, by rw [List.length_map]; exact hn, fun D H' F => q D H' (F.back s1)⟩
/-! CUT -/
theorem quads_at (T : Txt K mg) {w : Nat} (hw : w < 16) : ∃ c, atI ([T.c_QUADS0, T.c_QUADS1, T.c_QUADS2, T.c_QUADS3, T.c_QUADS4, T.c_QUADS5, T.c_QUADS6, T.c_QUADS7, T.c_QUADS8, T.c_QUADS9, T.c_QUADS10, T.c_QUADS11, T.c_QUADS12, T.c_QUADS13, T.c_QUADS14, T.c_QUADS15].map V.ref) (w : Int) = some (.ref c) ∧ ∀ H, SqT K H c ((bitsW 4 w).map vN) := by
  have : w = 0 ∨ w = 1 ∨ w = 2 ∨ w = 3 ∨ w = 4 ∨ w = 5 ∨ w = 6 ∨ w = 7 ∨ w = 8 ∨ w = 9 ∨ w = 10 ∨ w = 11 ∨ w = 12 ∨ w = 13 ∨ w = 14 ∨ w = 15 := by omega
  rcases this with rfl | rfl | rfl | rfl | rfl | rfl | rfl | rfl | rfl | rfl | rfl | rfl | rfl | rfl | rfl | rfl
  · exact ⟨T.c_QUADS0, rfl, fun H => tupB_ok (xs := [0, 0, 0, 0]) T.t_QUADS0⟩
  · exact ⟨T.c_QUADS1, rfl, fun H => tupB_ok (xs := [0, 0, 0, 1]) T.t_QUADS1⟩
  · exact ⟨T.c_QUADS2, rfl, fun H => tupB_ok (xs := [0, 0, 1, 0]) T.t_QUADS2⟩
  · exact ⟨T.c_QUADS3, rfl, fun H => tupB_ok (xs := [0, 0, 1, 1]) T.t_QUADS3⟩
  · exact ⟨T.c_QUADS4, rfl, fun H => tupB_ok (xs := [0, 1, 0, 0]) T.t_QUADS4⟩
  · exact ⟨T.c_QUADS5, rfl, fun H => tupB_ok (xs := [0, 1, 0, 1]) T.t_QUADS5⟩
  · exact ⟨T.c_QUADS6, rfl, fun H => tupB_ok (xs := [0, 1, 1, 0]) T.t_QUADS6⟩
  · exact ⟨T.c_QUADS7, rfl, fun H => tupB_ok (xs := [0, 1, 1, 1]) T.t_QUADS7⟩
  · exact ⟨T.c_QUADS8, rfl, fun H => tupB_ok (xs := [1, 0, 0, 0]) T.t_QUADS8⟩
  · exact ⟨T.c_QUADS9, rfl, fun H => tupB_ok (xs := [1, 0, 0, 1]) T.t_QUADS9⟩
  · exact ⟨T.c_QUADS10, rfl, fun H => tupB_ok (xs := [1, 0, 1, 0]) T.t_QUADS10⟩
  · exact ⟨T.c_QUADS11, rfl, fun H => tupB_ok (xs := [1, 0, 1, 1]) T.t_QUADS11⟩
  · exact ⟨T.c_QUADS12, rfl, fun H => tupB_ok (xs := [1, 1, 0, 0]) T.t_QUADS12⟩
  · exact ⟨T.c_QUADS13, rfl, fun H => tupB_ok (xs := [1, 1, 0, 1]) T.t_QUADS13⟩
  · exact ⟨T.c_QUADS14, rfl, fun H => tupB_ok (xs := [1, 1, 1, 0]) T.t_QUADS14⟩
  · exact ⟨T.c_QUADS15, rfl, fun H => tupB_ok (xs := [1, 1, 1, 1]) T.t_QUADS15⟩
theorem and15 {w : Nat} (h : w < 256) : Builtin.bitAnd (w : Int) 15 = ((w % 16 : Nat) : Int) := by
  have q : ((List.range 256).all fun w => decide (Builtin.bitAnd (w : Int) 15 = ((w % 16 : Nat) : Int))) = true := by decide +kernel
  exact of_decide_eq_true (List.all_eq_true.mp q w (List.mem_range.mpr h))
def sp_wab (K : PySem.W.Frag) : Sp := fun vs H Q _ => ∃ (a : Addr) (k : Bool) (b : Nat) (ws : List Nat), vs = [.ref a, vN b] ∧ Wd b ∧ SqB k K H a (ws.map vN) ∧ (∀ x ∈ ws, x < span b) ∧ ws.length ≤ 100 ∧ ∀ D H', Same H H' → H D = none → H' D = some (.lst ((wordsB b ws).map vN)) → Q (.ref D) H'
theorem ok_words_as_bits (T : Txt K mg) : FnOk P w K mg base CX0 1 T.f_words_as_bits T.d_words_as_bits ["words", "many"] (sp_wab K) := by
  refine T.F_words_as_bits.ok sc_words_as_bits (fun vs H Q E h => ?_) (fun cdv A outer s H vs Q E hr h => ?_)
  · obtain ⟨a, k, b, ws, rfl, _⟩ := h
    rfl
  · obtain ⟨a, k, b, ws, rfl, hb, hq, hw, hl, q⟩ := h
    refine ⟨_, (pss_cons (ps_if (pt_cmpR op_eq (pv 1) pe_int (nomark _)) (pss_one (ps_ret (pe_lc2 (g := (gName 2)) (g1 := (gName 3)) (own := [("word", 2), ("bit", 3)]) (vs1 := [3]) rfl sc_words_as_bits.nd (pi_seq (pv 0)) (blkOk_by (N := ["words", "many", "word", "bit"]) (sc := defScope s_words_as_bits) (by decide +kernel)) (by decide) (fun _ _ _ _ _ => by exact (pg_name (i := 2) sc_words_as_bits.nd rfl (.inl rfl))) (fun _ _ _ _ _ => by exact pts_nil) (fun _ _ _ _ _ => by exact (pi_seqK (K := K) rfl (pe_ix (ix_rowBK (K := K) rfl) (pe_glob (v := .ref T.a_QUADS) (by rfl) T.g_QUADS rfl) (pv 2) (fun _ _ => rfl)))) (fun _ _ _ _ _ => by exact (pg_name (i := 3) sc_words_as_bits.nd rfl (.inl rfl))) (fun _ _ _ _ _ => by exact pts_nil) (fun _ _ _ _ _ => by exact (pv 3))))) pss_nil)
      (pss_one (ps_ret (pe_lc2 (g := (gName 2)) (g1 := (gName 3)) (own := [("word", 2), ("bit", 3)]) (vs1 := [3]) rfl sc_words_as_bits.nd (pi_seq (pv 0)) (blkOk_by (N := ["words", "many", "word", "bit"]) (sc := defScope s_words_as_bits) (by decide +kernel)) (by decide) (fun _ _ _ _ _ => by exact (pg_name (i := 2) sc_words_as_bits.nd rfl (.inl rfl))) (fun _ _ _ _ _ => by exact pts_nil) (fun _ _ _ _ _ => by exact (pi_seqK (K := K) rfl (pe_op (op_catTK (K := K) rfl) (pe_ix (ix_rowBK (K := K) rfl) (pe_glob (v := .ref T.a_QUADS) (by rfl) T.g_QUADS rfl) (pe_op op_shr (pv 2) pe_int) (fun _ _ => rfl)) (pe_ix (ix_rowBK (K := K) rfl) (pe_glob (v := .ref T.a_QUADS) (by rfl) T.g_QUADS rfl) (pe_op op_and (pv 2) pe_int) (fun _ _ => rfl))))) (fun _ _ _ _ _ => by exact (pg_name (i := 3) sc_words_as_bits.nd rfl (.inl rfl))) (fun _ _ _ _ _ => by exact pts_nil) (fun _ _ _ _ _ => by exact (pv 3)))))), ?_⟩
    have fin : ∀ (D : Addr) (H1 : Hp), H D = none → Same H H1 ∧ H1 D = some (.lst ((wordsB b (ws.take (ws.map vN).length)).map vN)) → Q (.ref D) H1 := fun D H1 hD h => by
      rw [List.length_map, List.take_length] at h
      exact q D H1 h.1 hD h.2
    have step : ∀ (i : Nat) (hi : i < ws.length), wordsB b (ws.take (i + 1)) = wordsB b (ws.take i) ++ bitsW b ws[i] := fun i hi => by
      rw [List.take_add_one, List.getElem?_eq_getElem hi]
      exact wordsB_snoc b _ _
    have len : ∀ i, (wordsB b (ws.take i)).length ≤ 800 := fun i => by
      rw [wordsB_len, List.length_take]
      have h1 : b ≤ 8 := by rcases hb with h | h <;> omega
      exact Nat.le_trans (Nat.mul_le_mul h1 (Nat.min_le_right i ws.length)) (by omega)
    rcases hb with rfl | rfl
    · refine ⟨_, rfl, rfl, _, rfl, ?_⟩
      refine iteT ?_
      refine ⟨_, rfl, a, _, k, rfl, hq, fun D hD => ?_⟩
      refine lc2_it (walk_seq (b := k) (K := K) (a := a) (xs := ws.map vN)) (fun i H' => Same H H' ∧ H' D = some (.lst ((wordsB 4 (ws.take i)).map vN))) ⟨same_upd hD, upd_same⟩ (fun i H' _ h => Same.sqb h.1 hq) ?_ (fun H1 h => fin D H1 hD h)
      rintro i v H1 H2 hi ⟨sm, g⟩ ⟨rfl, e2⟩
      rw [List.length_map] at hi
      rw [List.getElem?_map, List.getElem?_eq_getElem hi] at e2
      obtain rfl := (Option.some.inj e2).symm
      obtain ⟨c, hc, hC⟩ := quads_at T (hw _ (List.getElem_mem hi))
      refine ⟨rfl, iteT (B := Same H H2 ∧ H2 D = some (.lst ((wordsB 4 (ws.take (i + 1))).map vN))) ⟨_, rfl, T.a_QUADS, _, _, .ref c, false, rfl, rfl, T.l_QUADS.sq (by show 16 ≤ 1000; decide), hc, c, _, false, rfl, hC _, ?_⟩⟩
      refine lc_in (walk_seq (b := false) (K := K) (a := c) (xs := (bitsW 4 ws[i]).map vN)) (fun j H' => (Same H H' ∧ SqT K H' c ((bitsW 4 ws[i]).map vN)) ∧ H' D = some (.lst ((wordsB 4 (ws.take i) ++ (bitsW 4 ws[i]).take j).map vN))) ⟨⟨sm, hC _⟩, by rw [List.take_zero, List.append_nil]; exact g⟩ (fun j H' _ h => h.1.2) ?_ ?_
      · rintro j v H5 H6 hj ⟨⟨s3, q3⟩, g3⟩ ⟨rfl, e3⟩
        rw [List.length_map] at hj
        rw [List.getElem?_map, List.getElem?_eq_getElem hj] at e3
        obtain rfl := (Option.some.inj e3).symm
        have lj := len i
        have hj8 : j < 4 := by rw [bitsW_len] at hj; exact hj
        refine ⟨rfl, iteT (B := (Same H H6 ∧ SqT K H6 c ((bitsW 4 ws[i]).map vN)) ∧ H6 D = some (.lst ((wordsB 4 (ws.take i) ++ (bitsW 4 ws[i]).take (j + 1)).map vN))) ⟨_, rfl, _, g3, ?_, ⟨fun f o hf => ?_, ?_⟩, ?_⟩⟩
        · rw [List.length_map, List.length_append, List.length_take, bitsW_len]
          exact small1000 (by omega)
        · rw [upd_ne (ne_of_none hf hD)]
          exact s3 _ _ hf
        · exact hC _
        · have e : ∀ A : List Nat, A ++ (bitsW 4 ws[i]).take (j + 1) = (A ++ (bitsW 4 ws[i]).take j) ++ [(bitsW 4 ws[i])[j]] := fun A => by
            rw [List.take_add_one, List.getElem?_eq_getElem hj, ← List.append_assoc]
            rfl
          rw [upd_same, e]
          exact congrArg (fun z => some (HO.lst z)) (@List.map_append _ _ vN _ [(bitsW 4 ws[i])[j]]).symm
      · rintro H5 ⟨⟨s3, _⟩, g3⟩
        rw [List.length_map, List.take_length] at g3
        rw [step i hi]
        exact ⟨s3, g3⟩
    · refine ⟨_, rfl, rfl, _, rfl, ?_⟩
      refine iteF ?_
      refine ⟨_, rfl, a, _, k, rfl, hq, fun D hD => ?_⟩
      refine lc2_it (walk_seq (b := k) (K := K) (a := a) (xs := ws.map vN)) (fun i H' => Same H H' ∧ H' D = some (.lst ((wordsB 8 (ws.take i)).map vN))) ⟨same_upd hD, upd_same⟩ (fun i H' _ h => Same.sqb h.1 hq) ?_ (fun H1 h => fin D H1 hD h)
      rintro i v H1 H2 hi ⟨sm, g⟩ ⟨rfl, e2⟩
      rw [List.length_map] at hi
      rw [List.getElem?_map, List.getElem?_eq_getElem hi] at e2
      obtain rfl := (Option.some.inj e2).symm
      have h256 : ws[i] < 256 := hw _ (List.getElem_mem hi)
      obtain ⟨c1, hc1, hC1⟩ := quads_at T (w := ws[i] / 16) (by omega)
      obtain ⟨c2, hc2, hC2⟩ := quads_at T (w := ws[i] % 16) (by omega)
      have v1 : ((ws[i] : Nat) : Int) / 2 ^ (4 : Int).toNat = ((ws[i] / 16 : Nat) : Int) := by
        show ((ws[i] : Nat) : Int) / 16 = _
        omega
      have v2 : Builtin.bitAnd ((ws[i] : Nat) : Int) 15 = ((ws[i] % 16 : Nat) : Int) := and15 h256
      refine ⟨rfl, iteT (B := Same H H2 ∧ H2 D = some (.lst ((wordsB 8 (ws.take (i + 1))).map vN))) ⟨_, rfl, _, _, rfl, rfl, (show (0 : Int) ≤ 4 by decide), T.a_QUADS, _, _, .ref c1, false, rfl, rfl, T.l_QUADS.sq (by show 16 ≤ 1000; decide), (by rw [v1]; exact hc1), ?_⟩⟩
      refine ⟨_, rfl, _, _, rfl, rfl, T.a_QUADS, _, _, .ref c2, false, rfl, rfl, T.l_QUADS.sq (by show 16 ≤ 1000; decide), (by rw [v2]; exact hc2), ?_⟩
      refine ⟨c1, c2, _, _, rfl, rfl, hC1 _, hC2 _, ?_, ?_, ?_, fun _ u nu => ?_⟩
      · intro z
        have := congrArg List.length z
        rw [List.length_map, bitsW_len] at this
        cases this
      · rw [List.length_map, List.length_map, bitsW_len, bitsW_len]
        decide
      · intro z
        have := congrArg List.length z
        rw [List.length_map, bitsW_len] at this
        cases this
      rw [← List.map_append, ← bits8 h256]
      have gu := upd_same (H := H2) (a := u) (o := .tup ((bitsW 8 ws[i]).map vN))
      have su := same_upd (o := .tup ((bitsW 8 ws[i]).map vN)) nu
      have smu := sm.trans su
      have gD := su _ _ g
      have nuD : u ≠ D := fun z => by rw [z, g] at nu; cases nu
      refine ⟨u, _, false, rfl, .inl (.inl gu), ?_⟩
      refine lc_in (walk_seq (b := false) (K := K) (a := u) (xs := (bitsW 8 ws[i]).map vN)) (fun j H' => (Same H H' ∧ H' u = some (.tup ((bitsW 8 ws[i]).map vN))) ∧ H' D = some (.lst ((wordsB 8 (ws.take i) ++ (bitsW 8 ws[i]).take j).map vN))) ⟨⟨smu, gu⟩, by rw [List.take_zero, List.append_nil]; exact gD⟩ (fun j H' _ h => .inl (.inl h.1.2)) ?_ ?_
      · rintro j v H5 H6 hj ⟨⟨s3, q3⟩, g3⟩ ⟨rfl, e3⟩
        rw [List.length_map] at hj
        rw [List.getElem?_map, List.getElem?_eq_getElem hj] at e3
        obtain rfl := (Option.some.inj e3).symm
        have lj := len i
        have hj8 : j < 8 := by rw [bitsW_len] at hj; exact hj
        refine ⟨rfl, iteT (B := (Same H H6 ∧ H6 u = some (.tup ((bitsW 8 ws[i]).map vN))) ∧ H6 D = some (.lst ((wordsB 8 (ws.take i) ++ (bitsW 8 ws[i]).take (j + 1)).map vN))) ⟨_, rfl, _, g3, ?_, ⟨fun f o hf => ?_, ?_⟩, ?_⟩⟩
        · rw [List.length_map, List.length_append, List.length_take, bitsW_len]
          exact small1000 (by omega)
        · rw [upd_ne (ne_of_none hf hD)]
          exact s3 _ _ hf
        · rw [upd_ne nuD]; exact q3
        · have e : ∀ A : List Nat, A ++ (bitsW 8 ws[i]).take (j + 1) = (A ++ (bitsW 8 ws[i]).take j) ++ [(bitsW 8 ws[i])[j]] := fun A => by
            rw [List.take_add_one, List.getElem?_eq_getElem hj, ← List.append_assoc]
            rfl
          rw [upd_same, e]
          exact congrArg (fun z => some (HO.lst z)) (@List.map_append _ _ vN _ [(bitsW 8 ws[i])[j]]).symm
      · rintro H5 ⟨⟨s3, _⟩, g3⟩
        rw [List.length_map, List.take_length] at g3
        rw [step i hi]
        exact ⟨s3, g3⟩
/-! CUT -/
def ruleF : Nat → Int → Int → Bool
  | 0, r, c => (r + c) % 2 == 0
  | 1, r, c => (r + 2 * c) % 3 == 0
  | 2, r, _ => r % 3 == 1
  | 3, _, c => decide (c % 4 < 2)
  | 4, r, c => (r / 2 + c / 2) % 2 == 0
  | 5, r, c => r * c % 3 == 0
  | 6, r, c => decide ((r * r + c) % 5 < 2)
  | _, r, c => decide ((r + c) % 7 < 3)
def placesD : List (List (List Int)) := [[[37, 36, 37, 36, 37, 36, 37, 36], [37, 16, 17, 18, 19, 20, 21, 36], [37, 22, 23, 24, 25, 9, 8, 37], [37, 29, 33, 11, 10, 7, 6, 37], [37, 28, 32, 13, 12, 5, 4, 36], [37, 27, 31, 35, 14, 3, 2, 36], [37, 26, 30, 34, 15, 1, 0, 37], [37, 37, 37, 37, 37, 37, 37, 37]], [[101, 100, 101, 100, 101, 100, 101, 100, 101, 100, 101, 100], [101, 80, 81, 82, 83, 84, 85, 86, 87, 88, 89, 100], [101, 98, 79, 55, 54, 53, 52, 19, 18, 17, 16, 101], [101, 97, 78, 57, 56, 51, 50, 21, 20, 15, 14, 101], [101, 96, 77, 59, 58, 49, 48, 23, 22, 13, 12, 100], [101, 95, 76, 61, 60, 47, 46, 25, 24, 11, 10, 100], [101, 94, 75, 63, 62, 45, 44, 27, 26, 9, 8, 101], [101, 93, 74, 65, 64, 43, 42, 29, 28, 7, 6, 101], [101, 92, 73, 67, 66, 41, 40, 31, 30, 5, 4, 100], [101, 91, 72, 69, 68, 39, 38, 33, 32, 3, 2, 100], [101, 90, 99, 71, 70, 37, 36, 35, 34, 1, 0, 101], [101, 101, 101, 101, 101, 101, 101, 101, 101, 101, 101, 101]], [[197, 196, 197, 196, 197, 196, 197, 196, 197, 196, 197, 196, 197, 196, 197, 196], [197, 176, 177, 178, 179, 180, 181, 182, 183, 184, 185, 29, 28, 27, 26, 196], [197, 175, 174, 135, 134, 133, 132, 83, 82, 81, 80, 31, 30, 25, 24, 197], [197, 173, 172, 137, 136, 131, 130, 85, 84, 79, 78, 33, 32, 23, 22, 197], [197, 171, 170, 139, 138, 129, 128, 87, 86, 77, 76, 35, 34, 21, 20, 196], [197, 195, 169, 141, 140, 127, 126, 89, 88, 75, 74, 37, 36, 19, 18, 196], [197, 194, 168, 143, 142, 125, 124, 91, 90, 73, 72, 39, 38, 17, 16, 197], [197, 193, 167, 145, 144, 123, 122, 93, 92, 71, 70, 41, 40, 15, 14, 197], [197, 192, 166, 147, 146, 121, 120, 95, 94, 69, 68, 43, 42, 13, 12, 196], [197, 191, 165, 149, 148, 119, 118, 97, 96, 67, 66, 45, 44, 11, 10, 196], [197, 190, 164, 151, 150, 117, 116, 99, 98, 65, 64, 47, 46, 9, 8, 197], [197, 189, 163, 153, 152, 115, 114, 101, 100, 63, 62, 49, 48, 7, 6, 197], [197, 188, 162, 155, 154, 113, 112, 103, 102, 61, 60, 51, 50, 5, 4, 196], [197, 187, 161, 157, 156, 111, 110, 105, 104, 59, 58, 53, 52, 3, 2, 196], [197, 186, 160, 159, 158, 109, 108, 107, 106, 57, 56, 55, 54, 1, 0, 197], [197, 197, 197, 197, 197, 197, 197, 197, 197, 197, 197, 197, 197, 197, 197, 197]], [[325, 324, 325, 324, 325, 324, 325, 324, 325, 324, 325, 324, 325, 324, 325, 324, 325, 324, 325, 324], [325, 304, 305, 306, 307, 308, 309, 310, 311, 312, 313, 109, 108, 107, 106, 37, 36, 35, 34, 324], [325, 303, 302, 247, 246, 245, 244, 179, 178, 177, 176, 111, 110, 105, 104, 39, 38, 33, 32, 325], [325, 301, 300, 249, 248, 243, 242, 181, 180, 175, 174, 113, 112, 103, 102, 41, 40, 31, 30, 325], [325, 299, 298, 251, 250, 241, 240, 183, 182, 173, 172, 115, 114, 101, 100, 43, 42, 29, 28, 324], [325, 297, 296, 253, 252, 239, 238, 185, 184, 171, 170, 117, 116, 99, 98, 45, 44, 27, 26, 324], [325, 295, 294, 255, 254, 237, 236, 187, 186, 169, 168, 119, 118, 97, 96, 47, 46, 25, 24, 325], [325, 293, 292, 257, 256, 235, 234, 189, 188, 167, 166, 121, 120, 95, 94, 49, 48, 23, 22, 325], [325, 291, 290, 259, 258, 233, 232, 191, 190, 165, 164, 123, 122, 93, 92, 51, 50, 21, 20, 324], [325, 323, 289, 261, 260, 231, 230, 193, 192, 163, 162, 125, 124, 91, 90, 53, 52, 19, 18, 324], [325, 322, 288, 263, 262, 229, 228, 195, 194, 161, 160, 127, 126, 89, 88, 55, 54, 17, 16, 325], [325, 321, 287, 265, 264, 227, 226, 197, 196, 159, 158, 129, 128, 87, 86, 57, 56, 15, 14, 325], [325, 320, 286, 267, 266, 225, 224, 199, 198, 157, 156, 131, 130, 85, 84, 59, 58, 13, 12, 324], [325, 319, 285, 269, 268, 223, 222, 201, 200, 155, 154, 133, 132, 83, 82, 61, 60, 11, 10, 324], [325, 318, 284, 271, 270, 221, 220, 203, 202, 153, 152, 135, 134, 81, 80, 63, 62, 9, 8, 325], [325, 317, 283, 273, 272, 219, 218, 205, 204, 151, 150, 137, 136, 79, 78, 65, 64, 7, 6, 325], [325, 316, 282, 275, 274, 217, 216, 207, 206, 149, 148, 139, 138, 77, 76, 67, 66, 5, 4, 324], [325, 315, 281, 277, 276, 215, 214, 209, 208, 147, 146, 141, 140, 75, 74, 69, 68, 3, 2, 324], [325, 314, 280, 279, 278, 213, 212, 211, 210, 145, 144, 143, 142, 73, 72, 71, 70, 1, 0, 325], [325, 325, 325, 325, 325, 325, 325, 325, 325, 325, 325, 325, 325, 325, 325, 325, 325, 325, 325, 325]], [[485, 484, 485, 484, 485, 484, 485, 484, 485, 484, 485, 484, 485, 484, 485, 484, 485, 484, 485, 484, 485, 484, 485, 484], [485, 464, 465, 466, 467, 468, 469, 470, 471, 472, 473, 221, 220, 219, 218, 133, 132, 131, 130, 45, 44, 43, 42, 484], [485, 463, 462, 391, 390, 389, 388, 307, 306, 305, 304, 223, 222, 217, 216, 135, 134, 129, 128, 47, 46, 41, 40, 485], [485, 461, 460, 393, 392, 387, 386, 309, 308, 303, 302, 225, 224, 215, 214, 137, 136, 127, 126, 49, 48, 39, 38, 485], [485, 459, 458, 395, 394, 385, 384, 311, 310, 301, 300, 227, 226, 213, 212, 139, 138, 125, 124, 51, 50, 37, 36, 484], [485, 457, 456, 397, 396, 383, 382, 313, 312, 299, 298, 229, 228, 211, 210, 141, 140, 123, 122, 53, 52, 35, 34, 484], [485, 455, 454, 399, 398, 381, 380, 315, 314, 297, 296, 231, 230, 209, 208, 143, 142, 121, 120, 55, 54, 33, 32, 485], [485, 453, 452, 401, 400, 379, 378, 317, 316, 295, 294, 233, 232, 207, 206, 145, 144, 119, 118, 57, 56, 31, 30, 485], [485, 451, 450, 403, 402, 377, 376, 319, 318, 293, 292, 235, 234, 205, 204, 147, 146, 117, 116, 59, 58, 29, 28, 484], [485, 449, 448, 405, 404, 375, 374, 321, 320, 291, 290, 237, 236, 203, 202, 149, 148, 115, 114, 61, 60, 27, 26, 484], [485, 447, 446, 407, 406, 373, 372, 323, 322, 289, 288, 239, 238, 201, 200, 151, 150, 113, 112, 63, 62, 25, 24, 485], [485, 445, 444, 409, 408, 371, 370, 325, 324, 287, 286, 241, 240, 199, 198, 153, 152, 111, 110, 65, 64, 23, 22, 485], [485, 443, 442, 411, 410, 369, 368, 327, 326, 285, 284, 243, 242, 197, 196, 155, 154, 109, 108, 67, 66, 21, 20, 484], [485, 483, 441, 413, 412, 367, 366, 329, 328, 283, 282, 245, 244, 195, 194, 157, 156, 107, 106, 69, 68, 19, 18, 484], [485, 482, 440, 415, 414, 365, 364, 331, 330, 281, 280, 247, 246, 193, 192, 159, 158, 105, 104, 71, 70, 17, 16, 485], [485, 481, 439, 417, 416, 363, 362, 333, 332, 279, 278, 249, 248, 191, 190, 161, 160, 103, 102, 73, 72, 15, 14, 485], [485, 480, 438, 419, 418, 361, 360, 335, 334, 277, 276, 251, 250, 189, 188, 163, 162, 101, 100, 75, 74, 13, 12, 484], [485, 479, 437, 421, 420, 359, 358, 337, 336, 275, 274, 253, 252, 187, 186, 165, 164, 99, 98, 77, 76, 11, 10, 484], [485, 478, 436, 423, 422, 357, 356, 339, 338, 273, 272, 255, 254, 185, 184, 167, 166, 97, 96, 79, 78, 9, 8, 485], [485, 477, 435, 425, 424, 355, 354, 341, 340, 271, 270, 257, 256, 183, 182, 169, 168, 95, 94, 81, 80, 7, 6, 485], [485, 476, 434, 427, 426, 353, 352, 343, 342, 269, 268, 259, 258, 181, 180, 171, 170, 93, 92, 83, 82, 5, 4, 484], [485, 475, 433, 429, 428, 351, 350, 345, 344, 267, 266, 261, 260, 179, 178, 173, 172, 91, 90, 85, 84, 3, 2, 484], [485, 474, 432, 431, 430, 349, 348, 347, 346, 265, 264, 263, 262, 177, 176, 175, 174, 89, 88, 87, 86, 1, 0, 485], [485, 485, 485, 485, 485, 485, 485, 485, 485, 485, 485, 485, 485, 485, 485, 485, 485, 485, 485, 485, 485, 485, 485, 485]]]
def maskD : List (List (List Int)) := [[[9, 9, 9, 9], [9, 2, 5, 8], [0, 12, 0, 12], [5, 5, 6, 11], [9, 6, 9, 10], [14, 11, 11, 5], [7, 6, 8, 9], [0, 7, 14, 14]], [[9, 9, 9, 9, 10, 6, 6, 6, 6, 9, 9, 9, 9, 10, 6, 6, 6, 6, 5, 5], [9, 2, 4, 9, 2, 1, 8, 6, 1, 2, 4, 9, 2, 4, 6, 1, 8, 6, 4, 9], [12, 3, 0, 12, 0, 3, 0, 12, 3, 12, 3, 0, 12, 0, 3, 0, 12, 3, 2, 4], [5, 5, 5, 5, 6, 10, 10, 10, 10, 5, 5, 5, 5, 6, 10, 10, 10, 10, 0, 0], [9, 6, 9, 6, 9, 6, 9, 6, 9, 9, 6, 9, 6, 9, 6, 9, 6, 9, 3, 3], [7, 5, 13, 7, 4, 12, 3, 0, 12, 11, 10, 14, 11, 9, 13, 7, 5, 13, 9, 2], [11, 0, 14, 12, 1, 4, 0, 5, 0, 13, 10, 7, 6, 8, 2, 2, 0, 8, 6, 3], [0, 1, 15, 8, 1, 0, 2, 15, 4, 15, 8, 0, 7, 12, 11, 13, 0, 2, 3, 8]], [[153, 153, 153, 150, 102, 102, 102, 153, 153, 153, 166, 102, 102, 105, 153, 153, 154, 102, 102, 102, 170, 166], [146, 73, 36, 145, 134, 24, 97, 36, 146, 73, 33, 134, 24, 100, 146, 73, 36, 97, 134, 24, 146, 82], [48, 195, 12, 60, 48, 195, 12, 48, 195, 12, 3, 12, 48, 195, 12, 48, 192, 48, 195, 12, 73, 48], [85, 85, 85, 90, 170, 170, 170, 85, 85, 85, 106, 170, 170, 165, 85, 85, 86, 170, 170, 170, 0, 21], [150, 150, 150, 153, 105, 105, 105, 150, 150, 150, 150, 150, 150, 153, 105, 105, 105, 105, 105, 105, 153, 154], [12, 48, 195, 10, 235, 174, 186, 93, 117, 215, 76, 48, 195, 10, 235, 174, 185, 215, 93, 117, 36, 140], [130, 32, 136, 35, 196, 241, 60, 195, 176, 236, 20, 5, 1, 70, 157, 167, 104, 34, 8, 130, 99, 15], [128, 126, 1, 242, 244, 11, 208, 126, 1, 248, 16, 47, 64, 176, 31, 128, 124, 189, 2, 244, 225, 192]], [[153, 153, 153, 153, 150, 102, 102, 102, 102, 153, 153, 153, 153, 150, 102, 102, 102, 102, 153, 153, 153, 153, 166, 102, 102, 102, 105, 153, 153, 153, 154, 102, 102, 102, 102, 170, 166, 102], [146, 73, 36, 146, 72, 97, 134, 24, 97, 36, 146, 73, 36, 145, 134, 24, 97, 134, 73, 36, 146, 73, 33, 134, 24, 97, 137, 36, 146, 73, 36, 97, 134, 24, 97, 73, 36, 146], [12, 48, 195, 12, 60, 48, 195, 12, 48, 12, 48, 195, 12, 60, 48, 195, 12, 48, 12, 48, 195, 12, 3, 12, 48, 195, 0, 195, 12, 48, 192, 48, 195, 12, 48, 36, 140, 48], [85, 85, 85, 85, 90, 170, 170, 170, 170, 85, 85, 85, 85, 90, 170, 170, 170, 170, 85, 85, 85, 85, 106, 170, 170, 170, 165, 85, 85, 85, 86, 170, 170, 170, 170, 0, 21, 85], [150, 150, 150, 150, 153, 105, 105, 105, 105, 150, 150, 150, 150, 153, 105, 105, 105, 105, 150, 150, 150, 150, 150, 150, 150, 150, 153, 105, 105, 105, 105, 105, 105, 105, 105, 153, 154, 90], [235, 174, 186, 235, 165, 215, 93, 117, 215, 195, 12, 48, 195, 10, 235, 174, 186, 235, 215, 93, 117, 215, 76, 48, 195, 12, 62, 186, 235, 174, 185, 215, 93, 117, 215, 146, 67, 12], [80, 20, 5, 1, 70, 157, 167, 105, 218, 8, 130, 32, 136, 35, 196, 241, 60, 79, 14, 195, 176, 236, 20, 5, 1, 64, 90, 118, 157, 167, 104, 34, 8, 130, 32, 198, 60, 79], [224, 31, 128, 126, 4, 11, 208, 47, 64, 31, 128, 126, 1, 242, 244, 11, 208, 47, 128, 126, 1, 248, 16, 47, 64, 189, 7, 224, 31, 128, 124, 189, 2, 244, 11, 14, 31, 128]], [[153, 153, 153, 153, 153, 150, 102, 102, 102, 102, 102, 153, 153, 153, 153, 153, 150, 102, 102, 102, 102, 102, 153, 153, 153, 153, 153, 150, 102, 102, 102, 102, 102, 153, 153, 153, 153, 153, 166, 102, 102, 102, 102, 105, 153, 153, 153, 153, 154, 102, 102, 102, 102, 102, 170, 166, 102, 102], [146, 73, 36, 146, 73, 38, 24, 97, 134, 24, 97, 36, 146, 73, 36, 146, 72, 97, 134, 24, 97, 134, 73, 36, 146, 73, 36, 145, 134, 24, 97, 134, 24, 146, 73, 36, 146, 73, 33, 134, 24, 97, 134, 18, 73, 36, 146, 73, 36, 97, 134, 24, 97, 134, 36, 137, 36, 146], [195, 12, 48, 195, 12, 60, 48, 195, 12, 48, 195, 195, 12, 48, 195, 12, 60, 48, 195, 12, 48, 195, 195, 12, 48, 195, 12, 60, 48, 195, 12, 48, 195, 195, 12, 48, 195, 12, 3, 12, 48, 195, 12, 60, 48, 195, 12, 48, 192, 48, 195, 12, 48, 195, 146, 67, 12, 48], [85, 85, 85, 85, 85, 90, 170, 170, 170, 170, 170, 85, 85, 85, 85, 85, 90, 170, 170, 170, 170, 170, 85, 85, 85, 85, 85, 90, 170, 170, 170, 170, 170, 85, 85, 85, 85, 85, 106, 170, 170, 170, 170, 165, 85, 85, 85, 85, 86, 170, 170, 170, 170, 170, 0, 21, 85, 85], [150, 150, 150, 150, 150, 153, 105, 105, 105, 105, 105, 150, 150, 150, 150, 150, 153, 105, 105, 105, 105, 105, 150, 150, 150, 150, 150, 153, 105, 105, 105, 105, 105, 150, 150, 150, 150, 150, 150, 150, 150, 150, 150, 153, 105, 105, 105, 105, 105, 105, 105, 105, 105, 105, 153, 154, 90, 90], [117, 215, 93, 117, 215, 80, 195, 12, 48, 195, 12, 186, 235, 174, 186, 235, 165, 215, 93, 117, 215, 93, 48, 195, 12, 48, 195, 10, 235, 174, 186, 235, 174, 117, 215, 93, 117, 215, 76, 48, 195, 12, 48, 203, 174, 186, 235, 174, 185, 215, 93, 117, 215, 93, 73, 48, 195, 12], [196, 241, 60, 79, 19, 204, 59, 14, 195, 176, 236, 64, 80, 20, 5, 1, 70, 157, 167, 105, 218, 118, 34, 8, 130, 32, 136, 35, 196, 241, 60, 79, 19, 59, 14, 195, 176, 236, 20, 5, 1, 64, 80, 25, 218, 118, 157, 167, 104, 34, 8, 130, 32, 136, 140, 113, 60, 79], [248, 7, 224, 31, 128, 123, 208, 47, 64, 189, 2, 7, 224, 31, 128, 126, 4, 11, 208, 47, 64, 189, 224, 31, 128, 126, 1, 242, 244, 11, 208, 47, 64, 31, 128, 126, 1, 248, 16, 47, 64, 189, 2, 248, 7, 224, 31, 128, 124, 189, 2, 244, 11, 208, 112, 224, 31, 128]]]
def plF (s r c : Nat) : Nat := (((placesD.getD s []).getD r []).getD c 0).toNat
def mwF (s m : Nat) : List Nat := ((maskD.getD s []).getD m []).map Int.toNat
theorem all8 {P : Nat → Bool} (h : ((List.range 8).all P) = true) {m : Nat} (hm : m < 8) : P m = true := List.all_eq_true.mp h m (List.mem_range.mpr hm)
theorem pl_way {s i : Nat} (hs : s < 5) (h : i < ptF s) : ∃ q, (wayF (sdF s))[i]? = some q ∧ plF s q.1 q.2 = i := by
  have z : ((wayL.getD s []).map fun q => plF s q.1 q.2) = List.range (ptF s) := eq_of_beq (all5 (P := fun s => ((wayL.getD s []).map fun q => plF s q.1 q.2) == List.range (ptF s)) (by decide +kernel) hs)
  have hl : i < (wayF (sdF s)).length := by rw [way_len hs]; exact h
  refine ⟨(wayF (sdF s))[i], List.getElem?_eq_getElem hl, ?_⟩
  have e : (((wayL.getD s []).map fun q => plF s q.1 q.2))[i]? = some i := by rw [z, List.getElem?_range h]
  rw [← way_at hs, List.getElem?_map, List.getElem?_eq_getElem hl] at e
  exact Option.some.inj e
theorem way_pl {s r c : Nat} (hs : s < 5) (hr : r < sdF s) (hc : c < sdF s) : plF s r c < ptF s + 22 ∧ (plF s r c < ptF s → (wayF (sdF s))[plF s r c]? = some (r, c)) := by
  have z := all5 (P := fun s => (List.range (sdF s)).all fun r => (List.range (sdF s)).all fun c => decide (plF s r c < ptF s + 22) && (!decide (plF s r c < ptF s) || (wayL.getD s [])[plF s r c]? == some (r, c))) (by decide +kernel) hs
  have z2 := List.all_eq_true.mp (List.all_eq_true.mp z r (List.mem_range.mpr hr)) c (List.mem_range.mpr hc)
  rw [Bool.and_eq_true, Bool.or_eq_true] at z2
  refine ⟨of_decide_eq_true z2.1, fun h => ?_⟩
  rcases z2.2 with q | q
  · rw [decide_eq_true h] at q
    cases q
  · rw [way_at hs]
    exact eq_of_beq q
theorem mask_bits {s m : Nat} (hs : s < 5) (hm : m < 8) : wordsB (bitsF s) (mwF s m) = (wayF (sdF s)).map fun q => if ruleF m q.1 q.2 = true then 1 else 0 := by
  rw [way_at hs]
  exact eq_of_beq (all8 (all5 (P := fun s => (List.range 8).all fun m => wordsB (bitsF s) (mwF s m) == (wayL.getD s []).map fun q => if ruleF m q.1 q.2 = true then 1 else 0) (by decide +kernel) hs) hm)
theorem mask_words {s m : Nat} (hs : s < 5) (hm : m < 8) : ((maskD.getD s []).getD m []).map V.int = (mwF s m).map vN ∧ (∀ x ∈ mwF s m, x < span (bitsF s)) ∧ (mwF s m).length ≤ 100 := by
  have z := all8 (all5 (P := fun s => (List.range 8).all fun m => (((maskD.getD s []).getD m []) == (mwF s m).map Int.ofNat) && (mwF s m).all (fun x => decide (x < span (bitsF s))) && decide ((mwF s m).length ≤ 100)) (by decide +kernel) hs) hm
  rw [Bool.and_eq_true, Bool.and_eq_true] at z
  refine ⟨?_, fun x hx => of_decide_eq_true (List.all_eq_true.mp z.1.2 x hx), of_decide_eq_true z.2⟩
  rw [eq_of_beq z.1.1, List.map_map]
  rfl
theorem places_at {s r : Nat} (hs : s < 5) (hr : r < sdF s) : ∃ P R, placesD[s]? = some P ∧ P.length = sdF s ∧ P[r]? = some R ∧ R.length = sdF s ∧ ∀ c, c < sdF s → R[c]? = some ((plF s r c : Nat) : Int) := by
  have z := all5 (P := fun s => decide (s < placesD.length) && decide ((placesD.getD s []).length = sdF s) && (List.range (sdF s)).all fun r => decide (((placesD.getD s []).getD r []).length = sdF s) && ((placesD.getD s []).getD r []).all fun x => decide (0 ≤ x)) (by decide +kernel) hs
  rw [Bool.and_eq_true, Bool.and_eq_true] at z
  have z1 := of_decide_eq_true z.1.1
  have z2 := of_decide_eq_true z.1.2
  have z3 := List.all_eq_true.mp z.2 r (List.mem_range.mpr hr)
  rw [Bool.and_eq_true] at z3
  have z4 := of_decide_eq_true z3.1
  refine ⟨placesD.getD s [], (placesD.getD s []).getD r [], ?_, z2, ?_, z4, fun c hc => ?_⟩
  · rw [List.getD_eq_getElem?_getD, List.getElem?_eq_getElem z1]
    rfl
  · rw [getD_in (l := placesD.getD s []) (by omega)]
    exact List.getElem?_eq_getElem _
  · have h0 := of_decide_eq_true (List.all_eq_true.mp z3.2 _ (getD_mem (d := 0) (show c < ((placesD.getD s []).getD r []).length by omega)))
    rw [List.getElem?_eq_getElem (by omega)]
    unfold plF
    rw [Int.toNat_of_nonneg h0, getD_in (l := ((placesD.getD s []).getD r [])) (by omega)]
theorem mask_at {s m : Nat} (hs : s < 5) (hm : m < 8) : ∃ M, maskD[s]? = some M ∧ M.length = 8 ∧ M[m]? = some ((maskD.getD s []).getD m []) := by
  have z := all5 (P := fun s => decide (s < maskD.length) && decide ((maskD.getD s []).length = 8)) (by decide +kernel) hs
  rw [Bool.and_eq_true] at z
  have z1 := of_decide_eq_true z.1
  have z2 := of_decide_eq_true z.2
  refine ⟨maskD.getD s [], ?_, z2, ?_⟩
  · rw [List.getD_eq_getElem?_getD, List.getElem?_eq_getElem z1]
    rfl
  · rw [getD_in (l := maskD.getD s []) (by omega)]
    exact List.getElem?_eq_getElem _
/-- whether a mask turns a dot of a symbol -/
def hitF (s m r c : Nat) : Bool := decide (plF s r c < ptF s) && ruleF m r c
def maskG (s m : Nat) (g : Grid) : Grid := turnG (hitF s m) g
theorem mbit_at {s m r c : Nat} (hs : s < 5) (hm : m < 8) (hr : r < sdF s) (hc : c < sdF s) : (wordsB (bitsF s) (mwF s m) ++ List.replicate 22 0)[plF s r c]? = some (if hitF s m r c = true then 1 else 0) := by
  obtain ⟨h1, h2⟩ := way_pl hs hr hc
  have hl : (wordsB (bitsF s) (mwF s m)).length = ptF s := by rw [mask_bits hs hm, List.length_map, way_len hs]
  unfold hitF
  by_cases q : plF s r c < ptF s
  · rw [List.getElem?_append_left (by rw [hl]; exact q), mask_bits hs hm, List.getElem?_map, h2 q, decide_eq_true q]
    rfl
  · rw [List.getElem?_append_right (by rw [hl]; omega), hl, List.getElem?_replicate, if_pos (by omega), decide_eq_false q]
    rfl
/-! CUT -/
theorem xor_flip {o : Option Nat} {b : Bool} {x : Nat} (h : DotOk o) (e : o = some x) : V.int (Builtin.bitXor (x : Int) (if b = true then 1 else 0 : Nat)) = vG (if b = true then flipO o else o) := by
  rcases h with rfl | rfl | rfl
  · cases e
  · cases e
    cases b <;> rfl
  · cases e
    cases b <;> rfl
theorem wbit_at (T : Txt K mg) {s : Nat} (hs : s < 5) : ∃ xs, (∀ H, SqT K H T.a_WORD_BITS xs) ∧ atI xs ((s : Int) + 1 - 1) = some (vN (bitsF s)) := by
  refine ⟨_, fun H => tupB_ok (xs := [4, 4, 8, 8, 8]) T.l_WORD_BITS, ?_⟩
  rw [show (s : Int) + 1 - 1 = (s : Int) by omega]
  refine atI_nat ?_
  have : s = 0 ∨ s = 1 ∨ s = 2 ∨ s = 3 ∨ s = 4 := by omega
  rcases this with rfl | rfl | rfl | rfl | rfl <;> rfl
theorem rep_one (n : Nat) (x : V) : (List.replicate n [x]).flatten = List.replicate n x := by
  induction n with
  | zero => rfl
  | succ n ih => rw [List.replicate_succ, List.flatten_cons, ih]; rfl
abbrev sc_lc_mask : Scope := { kind := .function, names := [(".0", .local), ("dots", .local), ("places", .local), ("zip", .globalImplicit), ("turned", .cell)], isGenerator := false, isCoroutine := false }
def sp_maskg (K : PySem.W.Frag) : Sp := fun vs H Q _ => ∃ (s m : Nat) (a : Addr) (k : Bool) (g : Grid), vs = [.int ((s : Int) + 1), .ref a, vN m] ∧ s < 5 ∧ m < 8 ∧ GrB k K H a g ∧ Sq (sdF s) g ∧ ∀ D H', Fr H H' D (maskG s m g) → Q (.ref D) H'
theorem ok_masked_grid (T : Txt K mg) : FnOk P w K mg base CX0 2 T.f_masked_grid T.d_masked_grid ["size", "grid", "mask"] (sp_maskg K) := by
  refine T.F_masked_grid.ok sc_masked_grid (fun vs H Q E h => ?_) (fun cdv A outer s H vs Q E hr h => ?_)
  · obtain ⟨s, m, a, k, g, rfl, _⟩ := h
    rfl
  · obtain ⟨s0, m, a, k, g, rfl, hs, hm, hg, sq, q⟩ := h
    refine ⟨_, (pss_cons (ps_set (i := 3) sc_masked_grid.nd rfl (.inr rfl) (pe_op op_cat (pe_call (ok_words_as_bits T) (hr.mono (by decide)) (by rfl) T.g_words_as_bits T.F_words_as_bits.kp T.b_words_as_bits .nil pass0 (pa_cons (pe_ix ix_rowB (pe_ix ix_rowB (pe_glob (v := .ref T.a_MASK_WORDS) (by rfl) T.g_MASK_WORDS rfl) (pe_op op_sub (pv 0) pe_int) (fun _ _ => rfl)) (pv 2) (fun _ _ => rfl)) (pa_cons (pe_ix ix_rowB (pe_glob (v := .ref T.a_WORD_BITS) (by rfl) T.g_WORD_BITS rfl) (pe_op op_sub (pv 0) pe_int) (fun _ _ => rfl)) pa_nil))) (pe_op op_rep (pe_lst (pa_cons pe_int pa_nil)) (pe_op op_add (pe_op op_mul pe_int (pe_glob (v := .int 10) (by rfl) T.g_STRIP.choose_spec ⟨_, rfl⟩)) pe_int))))
      (pss_one (ps_ret (pe_lc (own := [("dots", 4), ("places", 5)]) (g := gTup K 2 (gCons (gName 4) (gCons (gName 5) gNil))) rfl sc_masked_grid.nd (pi_zipRT (K := K) rfl (by rfl) T.n_zip (pa_cons (pv 1) (pa_cons (pe_ix (ix_rowBK (K := K) rfl) (pe_glob (v := .ref T.a_PLACES) (by rfl) T.g_PLACES rfl) (pe_op op_sub (pv 0) pe_int) (fun _ _ => rfl)) pa_nil))) (blkOk_by (N := ["size", "grid", "mask", "turned", "dots", "places", "dot", "place"]) (sc := defScope s_masked_grid) (by decide +kernel)) (fun _ _ _ _ _ => by (refine pg_tup ?_ ?_); (exact rfl); (refine pgs_cons ?_ ?_); (exact (pg_name (i := 4) sc_masked_grid.nd rfl (.inl rfl))); (refine pgs_cons ?_ ?_); (exact (pg_name (i := 5) sc_masked_grid.nd rfl (.inl rfl))); (exact pgs_nil)) (fun _ _ _ _ _ => by exact pts_nil) (fun _ _ _ _ _ => by exact (pe_lc (own := [("dot", 6), ("place", 7)]) (g := gTup K 2 (gCons (gName 6) (gCons (gName 7) gNil))) rfl sc_masked_grid.nd (pi_zipRT (K := K) rfl (by rfl) T.n_zip (pa_cons (pv 4) (pa_cons (pv 5) pa_nil))) (blkOk_by (N := ["size", "grid", "mask", "turned", "dots", "places", "dot", "place"]) (sc := sc_lc_mask) (by decide +kernel)) (fun _ _ _ _ _ => by (refine pg_tup ?_ ?_); (exact rfl); (refine pgs_cons ?_ ?_); (exact (pg_name (i := 6) sc_masked_grid.nd rfl (.inl rfl))); (refine pgs_cons ?_ ?_); (exact (pg_name (i := 7) sc_masked_grid.nd rfl (.inl rfl))); (exact pgs_nil)) (fun _ _ _ _ _ => by exact pts_nil) (fun _ _ _ _ _ => by exact (pe_ifExp (pt_cmpR op_isN (pv 6) pe_non (nomark _)) pe_non (pe_op op_xor (pv 6) (pe_ix (ix_rowBK (K := K) rfl) (pv 3) (pv 7) (fun _ _ => rfl))))))))))), ?_⟩
    have n24 := (side_le (sd_ok hs)).2
    obtain ⟨Md, eM, lM, eMr⟩ := mask_at hs hm
    obtain ⟨cs, hcs, c, hat, bs, hbs, lbs, hrow⟩ := tup3_at (i := s0) (show tup3B K T.a_MASK_WORDS maskD = true from T.l_MASK_WORDS) eM
    obtain ⟨xb, hX, hx⟩ := wbit_at T hs
    obtain ⟨mw1, mw2, mw3⟩ := mask_words hs hm
    have eb : bs[m]? = some (bs[m]'(by omega)) := List.getElem?_eq_getElem _
    generalize bs[m]'(by omega) = b at eb
    have hb : ∀ H, SqT K H b ((mwF s0 m).map vN) := fun H => by rw [← mw1]; exact hrow m b _ eb eMr H
    have lw : (wordsB (bitsF s0) (mwF s0 m)).length ≤ 800 := by
      rw [wordsB_len]
      have h1 : bitsF s0 ≤ 8 := by rcases bits_wd hs with h | h <;> omega
      exact Nat.le_trans (Nat.mul_le_mul h1 mw3) (by omega)
    refine ⟨_, rfl, _, _, rfl, rfl, T.a_MASK_WORDS, _, _, .ref c, false, rfl, rfl, hcs _, (by rw [show (s0 : Int) + 1 - 1 = (s0 : Int) by omega]; exact hat), ?_⟩
    refine ⟨_, rfl, c, _, _, .ref b, false, rfl, rfl, hbs _, atI_nat (by rw [List.getElem?_map, eb]; rfl), ?_⟩
    refine ⟨_, rfl, _, _, rfl, rfl, T.a_WORD_BITS, xb, _, vN (bitsF s0), false, rfl, rfl, hX _, hx, ?_⟩
    refine ⟨b, false, bitsF s0, mwF s0 m, rfl, bits_wd hs, hb _, mw2, mw3, fun D1 H1 s1 n1 g1 => ?_⟩
    refine ⟨(by show 1 ≤ sizeLine; decide), fun z hz => ?_⟩
    have s2 := same_upd (o := .lst [V.int 0]) hz
    refine ⟨_, _, rfl, rfl, .inl ⟨by decide, by decide⟩, _, _, rfl, rfl, z, _, _, rfl, rfl, upd_same, by decide, by decide, (by show 1 * 22 ≤ sizeLine; decide), fun z2 hz2 => ?_⟩
    have s3 := same_upd (o := .lst (List.replicate ((2 : Int) * 10 + 2).toNat [V.int 0]).flatten) hz2
    refine ⟨D1, z2, _, _, rfl, rfl, s3 _ _ (s2 _ _ g1), upd_same, ?_, fun tl htl => ?_⟩
    · rw [rep_one, List.length_map, List.length_replicate]
      show _ + 22 ≤ sizeLine
      exact Nat.le_of_lt (small1000 (by omega))
    have s4 := same_upd (o := .lst (List.map vN (wordsB (bitsF s0) (mwF s0 m)) ++ (List.replicate ((2 : Int) * 10 + 2).toNat [V.int 0]).flatten)) htl
    have sA := ((s1.trans s2).trans s3).trans s4
    have gtl : (upd (upd (upd H1 z (.lst [V.int 0])) z2 (.lst (List.replicate ((2 : Int) * 10 + 2).toNat [V.int 0]).flatten)) tl (.lst (List.map vN (wordsB (bitsF s0) (mwF s0 m)) ++ (List.replicate ((2 : Int) * 10 + 2).toNat [V.int 0]).flatten))) tl = some (.lst ((wordsB (bitsF s0) (mwF s0 m) ++ List.replicate 22 0).map vN)) := by
      rw [upd_same, rep_one, List.map_append]
      rfl
    generalize (upd (upd (upd H1 z (.lst [V.int 0])) z2 (.lst (List.replicate ((2 : Int) * 10 + 2).toNat [V.int 0]).flatten)) tl (.lst (List.map vN (wordsB (bitsF s0) (mwF s0 m)) ++ (List.replicate ((2 : Int) * 10 + 2).toNat [V.int 0]).flatten))) = H2 at sA gtl ⊢
    clear s1 s2 s3 s4 hz hz2 htl g1 n1
    obtain ⟨Pd, _, eP, lP, _⟩ := places_at (r := 0) hs (by have := (side_le (sd_ok hs)).1; omega)
    obtain ⟨cp, hcp, c2, hat2, bp, hbp, lbp, prow⟩ := tup3_at (i := s0) (show tup3B K T.a_PLACES placesD = true from T.l_PLACES) eP
    obtain ⟨L, h1, h2, h3⟩ := (hg.same sA).ex
    have lg := sq.len
    have q1 : ∀ {H'}, Same H2 H' → SqB k K H' a (L.map V.ref) := fun s => Same.sqb s h1
    refine ⟨_, rfl, _, rfl, _, _, rfl, rfl, T.a_PLACES, _, _, .ref c2, false, rfl, rfl, hcp _, (by rw [show (s0 : Int) + 1 - 1 = (s0 : Int) by omega]; exact hat2), ?_⟩
    refine ⟨a, c2, _, _, k, rfl, h1, hbp _, fun D hD => ?_⟩
    refine lc_it (walk_zipB (n := sdF s0) (ka := k) (kb := false) (K := K) (a := a) (b := c2) (xs := L.map V.ref) (ys := bp.map V.ref) (by rw [List.length_map, List.length_map]; omega)) (fun i H' => ∃ M, FrI H2 H' D M (maskG s0 m g) i) ⟨[], FrI.start hD⟩ (fun i H' _ ⟨_, F⟩ => ⟨q1 F.same, hbp _⟩) ?_ ?_
    · rintro i v H3 H4 hi ⟨M, F⟩ ⟨T1, x1, y1, rfl, hT, rfl, e1, e2⟩
      have eL : L[i]? = some (L[i]'(by omega)) := List.getElem?_eq_getElem _
      have eB : bp[i]? = some (bp[i]'(by omega)) := List.getElem?_eq_getElem _
      generalize L[i]'(by omega) = la at eL
      generalize bp[i]'(by omega) = lb at eB
      obtain ⟨r, eg, lr, dr⟩ : ∃ r, g[i]? = some r ∧ r.length = sdF s0 ∧ ∀ o ∈ r, DotOk o := ⟨g[i]'(by omega), List.getElem?_eq_getElem _, sq.row _ (List.getElem_mem _), sq.dot _ (List.getElem_mem _)⟩
      replace e1 : (L.map V.ref)[i]? = some x1 := e1
      replace e2 : (bp.map V.ref)[i]? = some y1 := e2
      rw [List.getElem?_map, eL] at e1
      rw [List.getElem?_map, eB] at e2
      obtain rfl := (Option.some.inj e1).symm
      obtain rfl := (Option.some.inj e2).symm
      obtain ⟨_, R, eP2, _, eR, lR, cR⟩ := places_at hs hi
      obtain rfl : Pd = _ := Option.some.inj (eP.symm.trans eP2)
      have qp : ∀ H', SqB false K H' lb (R.map V.int) := fun H' => prow i lb R eB eR H'
      have er := turn_row (b := hitF s0 m) eg
      have sT := same_upd (o := .tup [V.ref la, V.ref lb]) hT
      have gT := upd_same (H := H3) (a := T1) (o := .tup [V.ref la, V.ref lb])
      generalize (upd H3 T1 (.tup [V.ref la, V.ref lb])) = H5 at sT gT ⊢
      have s25 := F.same.trans sT
      have qa : ∀ {H'}, Same H5 H' → SqB k K H' la (r.map vG) := fun s => Same.sqb (s25.trans s) (h3 i la r eL eg)
      refine ⟨T1, [_, _], rfl, .inl (.inl gT), rfl, _, [_], rfl, _, [], rfl, rfl, rfl, ?_⟩
      refine ⟨_, rfl, _, rfl, la, lb, _, _, k, rfl, qa (Same.refl _), qp _, fun D2 hD2 => ?_⟩
      refine lc_it (walk_zipB (n := sdF s0) (ka := k) (kb := false) (K := K) (a := la) (b := lb) (xs := r.map vG) (ys := R.map V.int) (by rw [List.length_map, List.length_map]; omega)) (fun j H' => Same H5 H' ∧ H' D2 = some (.lst (((r.mapIdx fun c o => if hitF s0 m i c = true then flipO o else o).take j).map vG))) ⟨same_upd hD2, upd_same⟩ (fun j H' _ ⟨sm, _⟩ => ⟨qa sm, qp _⟩) ?_ ?_
      · rintro j v H6 H7 hj ⟨sm, gD⟩ ⟨T2, x2, y2, rfl, hT2, rfl, e3, e4⟩
        replace e3 : (r.map vG)[j]? = some x2 := e3
        replace e4 : (R.map V.int)[j]? = some y2 := e4
        obtain ⟨o, ej, dj⟩ : ∃ o, r[j]? = some o ∧ DotOk o := ⟨r[j]'(by omega), List.getElem?_eq_getElem _, dr _ (List.getElem_mem _)⟩
        rw [List.getElem?_map, ej] at e3
        rw [List.getElem?_map, cR j hj] at e4
        obtain rfl := (Option.some.inj e3).symm
        obtain rfl := (Option.some.inj e4).symm
        have sT2 := same_upd (o := .tup [vG o, V.int ((plF s0 i j : Nat) : Int)]) hT2
        have gT2 := upd_same (H := H6) (a := T2) (o := .tup [vG o, V.int ((plF s0 i j : Nat) : Int)])
        have etk : (r.mapIdx fun c o => if hitF s0 m i c = true then flipO o else o).take (j + 1) = (r.mapIdx fun c o => if hitF s0 m i c = true then flipO o else o).take j ++ [if hitF s0 m i j = true then flipO o else o] := by
          rw [List.take_add_one, List.getElem?_mapIdx, ej]
          rfl
        have ltk : ((r.mapIdx fun c o => if hitF s0 m i c = true then flipO o else o).take j).length ≤ 24 := by
          rw [List.length_take, List.length_mapIdx]
          omega
        generalize (upd H6 T2 (.tup [vG o, V.int ((plF s0 i j : Nat) : Int)])) = H8 at sT2 gT2 ⊢
        have gD8 := sT2 _ _ gD
        have s58 := sm.trans sT2
        have gtl8 := s58 _ _ (s25 _ _ gtl)
        have push : ∀ v, v = vG (if hitF s0 m i j = true then flipO o else o) → ∃ acc, H8 D2 = some (.lst acc) ∧ acc.length < sizeLine ∧ (Same H5 (upd H8 D2 (.lst (acc ++ [v]))) ∧ (upd H8 D2 (.lst (acc ++ [v]))) D2 = some (.lst (((r.mapIdx fun c o => if hitF s0 m i c = true then flipO o else o).take (j + 1)).map vG))) := by
          rintro v rfl
          refine ⟨_, gD8, ?_, fun b o hb => ?_, ?_⟩
          · rw [List.length_map]
            exact small1000 (by omega)
          · rw [upd_ne (ne_of_none hb hD2)]
            exact s58 _ _ hb
          · rw [upd_same, etk, List.map_append]
            rfl
        refine ⟨T2, [_, _], rfl, .inl (.inl gT2), rfl, _, [_], rfl, _, [], rfl, rfl, rfl, ?_⟩
        refine ⟨_, rfl, rfl, _, rfl, ?_⟩
        cases o with
        | none => exact iteT (push _ (by split <;> rfl))
        | some x =>
          refine iteF ⟨_, rfl, _, rfl, _, rfl, tl, _, _, vN (if hitF s0 m i j = true then 1 else 0), true, rfl, rfl, .inl (.inl gtl8), atI_nat (by rw [List.getElem?_map, mbit_at hs hm hi hj]; rfl), _, _, rfl, rfl, push _ ?_⟩
          exact xor_flip dj rfl
      · rintro H6 ⟨sm, gD⟩
        rw [List.take_of_length_le (by rw [List.length_mapIdx]; omega)] at gD
        refine ⟨_, sm _ _ (sT _ _ F.out), ?_, M ++ [D2], F.step hD er (sT.trans sm) (Same.free sT hD2) gD⟩
        rw [List.length_map, F.len]
        exact small1000 (by omega)
    · rintro H3 ⟨M, F⟩
      exact q D H3 (Fr.back ⟨hD, M, by rw [show (maskG s0 m g).length = sdF s0 from (turnG_sq (b := hitF s0 m) sq).len]; exact F⟩ sA)
def sp_masked (K : PySem.W.Frag) : Sp := sp_maskg K
theorem ok_masked (T : Txt K mg) : FnOk P w K mg base CX0 4 T.f_masked T.d_masked ["size", "grid", "mask"] (sp_masked K) := by
  refine T.F_masked.ok sc_masked (fun vs H Q E h => ?_) (fun cdv A outer s H vs Q E hr h => ?_)
  · obtain ⟨s, m, a, k, g, rfl, _⟩ := h
    rfl
  · obtain ⟨s0, m, a, k, g, rfl, hs, hm, hg, sq, q⟩ := h
    refine ⟨_, (pss_cons (ps_expr (pe_call (ok_need_size T) (hr.mono (by decide)) (by rfl) T.g_need_size T.F_need_size.kp T.b_need_size .nil pass0 (pa_cons (pv 0) pa_nil)))
      (pss_cons (ps_expr (pe_call (ok_need_grid T) (hr.mono (by decide)) (by rfl) T.g_need_grid T.F_need_grid.kp T.b_need_grid .nil pass0 (pa_cons (pv 0) (pa_cons (pv 1) pa_nil))))
      (pss_cons (ps_expr (pe_call (ok_need_mask T) (hr.mono (by decide)) (by rfl) T.g_need_mask T.F_need_mask.kp T.b_need_mask .nil pass0 (pa_cons (pv 2) pa_nil)))
      (pss_one (ps_ret (pe_call (ok_masked_grid T) (hr.mono (by decide)) (by rfl) T.g_masked_grid T.F_masked_grid.kp T.b_masked_grid .nil pass0 (pa_cons (pv 0) (pa_cons (pv 1) (pa_cons (pv 2) pa_nil))))))))), ?_⟩
    refine ⟨_, rfl, s0, rfl, hs, ?_⟩
    refine ⟨_, rfl, _, rfl, sdF s0, s0, a, k, g, rfl, hs, sd_side hs, hg, sq, fun H1 s1 => ?_⟩
    refine ⟨_, rfl, m, rfl, hm, ?_⟩
    exact ⟨_, rfl, _, rfl, _, rfl, s0, m, a, k, g, rfl, hs, hm, hg.same s1, sq, fun D H' F => q D H' (F.back s1)⟩
/-! CUT -/
/-! ### words read from dots -/
theorem str4 {s j : Nat} (hs : s < 5) (hj : j < 4) : strG (ptF s / 4) j 4 = true :=
  List.all_eq_true.mp (all5 (P := fun s => (List.range 4).all fun j => strG (ptF s / 4) j 4) (by decide +kernel) hs) j (List.mem_range.mpr hj)
theorem str2 {s j : Nat} (hs : s < 5) (hj : j < 2) : strG (ptF s / 8) j 2 = true :=
  List.all_eq_true.mp (all5 (P := fun s => (List.range 2).all fun j => strG (ptF s / 8) j 2) (by decide +kernel) hs) j (List.mem_range.mpr hj)
theorem pt_parts {s : Nat} (hs : s < 5) : ptF s = 4 * (ptF s / 4) ∧ ptF s / 4 ≤ 116 ∧ 0 < ptF s ∧ (bitsF s = 4 ∨ (bitsF s = 8 ∧ ptF s / 4 = 2 * (ptF s / 8))) :=
  of_decide_eq_true (all5 (P := fun s => decide (ptF s = 4 * (ptF s / 4) ∧ ptF s / 4 ≤ 116 ∧ 0 < ptF s ∧ (bitsF s = 4 ∨ (bitsF s = 8 ∧ ptF s / 4 = 2 * (ptF s / 8))))) (by decide +kernel) hs)
def sp_baw (K : PySem.W.Frag) : Sp := fun vs H Q _ => ∃ (s : Nat) (a : Addr) (os : List (Option Nat)), vs = [.ref a, vN (bitsF s)] ∧ s < 5 ∧ SqL K H a (os.map vG) ∧ os.length = ptF s ∧ (∀ o ∈ os, DotOk o) ∧
  ∀ D H', Same H H' → H D = none → H' D = some (.lst ((heardF (bitsF s) os).map vG)) → Q (.ref D) H'
theorem ok_bits_as_words (T : Txt K mg) : FnOk P w K mg base CX0 1 T.f_bits_as_words T.d_bits_as_words ["bits", "many"] (sp_baw K) := by
  refine T.F_bits_as_words.ok sc_bits_as_words (fun vs H Q E h => ?_) (fun cdv A outer s H vs Q E hr h => ?_)
  · obtain ⟨s, a, os, rfl, _⟩ := h
    rfl
  · obtain ⟨s0, a, os, rfl, hs, hq, hl, hd, q⟩ := h
    refine ⟨_, (pss_cons (ps_setLc (i := 2) (own := [("quad", 3)]) rfl sc_bits_as_words.nd rfl rfl (sw_true rfl rfl rfl (by decide +kernel)) (pi_zipN (K := K) rfl (by rfl) T.n_zip (pa_cons (pe_stride (K := K) rfl (by decide) (pv 0)) (pa_cons (pe_stride (K := K) rfl (by decide) (pv 0)) (pa_cons (pe_stride (K := K) rfl (by decide) (pv 0)) (pa_cons (pe_stride (K := K) rfl (by decide) (pv 0)) pa_nil))))) (blkOk_by (N := ["bits", "many", "quads", "quad", "high", "low"]) (sc := defScope s_bits_as_words) (by decide +kernel)) (fun _ _ _ _ _ => by exact (pg_name (i := 3) sc_bits_as_words.nd rfl (.inl rfl))) (fun _ _ _ _ _ => by exact pts_nil) (fun _ _ _ _ _ => by exact (pe_getO (K := K) (kvs := quadsT) rfl (un1 hr) T.l_QUAD_WORDS (by decide) (pe_glob (v := .ref T.a_QUAD_WORDS) (by rfl) T.g_QUAD_WORDS rfl) (pa_cons (pv 3) pa_nil))))
      (pss_cons (ps_if (pt_cmpR op_eq (pv 1) pe_int (nomark _)) (pss_one (ps_ret (pv 2))) pss_nil)
      (pss_one (ps_ret (pe_lc (own := [("high", 4), ("low", 5)]) (g := gTup K 2 (gCons (gName 4) (gCons (gName 5) gNil))) rfl sc_bits_as_words.nd (pi_zip (by rfl) T.n_zip (pa_cons (pe_stride (K := K) rfl (by decide) (pv 2)) (pa_cons (pe_stride (K := K) rfl (by decide) (pv 2)) pa_nil))) (blkOk_by (N := ["bits", "many", "quads", "quad", "high", "low"]) (sc := defScope s_bits_as_words) (by decide +kernel)) (fun _ _ _ _ _ => by (refine pg_tup ?_ ?_); (exact rfl); (refine pgs_cons ?_ ?_); (exact (pg_name (i := 4) sc_bits_as_words.nd rfl (.inl rfl))); (refine pgs_cons ?_ ?_); (exact (pg_name (i := 5) sc_bits_as_words.nd rfl (.inl rfl))); (exact pgs_nil)) (fun _ _ _ _ _ => by exact pts_nil) (fun _ _ _ _ _ => by exact (pe_ifExp (PW.pt (pw_or (pt_cmpR op_isN (pv 4) pe_non (nomark _)) (pw_or1 (pt_cmpR op_isN (pv 5) pe_non (nomark _))))) pe_non (pe_op op_or (pe_op op_shl (pv 4) pe_int) (pv 5))))))))), ?_⟩
    obtain ⟨pt4, pt116, pt0, hb⟩ := pt_parts hs
    have hl4 : os.length = 4 * (ptF s0 / 4) := by rw [hl]; exact pt4
    have st : ∀ j : Nat, j < 4 → (strideL (os.map vG) (j : Int) ((4 : Nat) : Int)).length = ptF s0 / 4 ∧ ∀ i, i < ptF s0 / 4 → (strideL (os.map vG) (j : Int) ((4 : Nat) : Int))[i]? = (os.map vG)[4 * i + j]? := fun j hj => stride_is (by rw [List.length_map]; exact hl4) (str4 hs hj) hj
    have part4 : ∀ i, i < ptF s0 / 4 → colAt [strideL (os.map vG) 0 4, strideL (os.map vG) 1 4, strideL (os.map vG) 2 4, strideL (os.map vG) 3 4] i = (partO os 4 i).map vG := fun i hi => by
      have lp := part_len hl4 hi
      obtain ⟨x0, x1, x2, x3, ep⟩ := four lp
      have at4 : ∀ j x, j < 4 → [x0, x1, x2, x3][j]? = some x → (os.map vG)[4 * i + j]? = some (vG x) := fun j x hj e => by
        rw [← ep, part_at hj] at e
        rw [List.getElem?_map, e]
        rfl
      have c : ∀ (j : Nat) (x : Option Nat), j < 4 → [x0, x1, x2, x3][j]? = some x → (strideL (os.map vG) (j : Int) ((4 : Nat) : Int)).getD i .non = vG x := fun j x hj e => by
        rw [List.getD_eq_getElem?_getD, (st j hj).2 i hi, at4 j x hj e]
        rfl
      rw [ep]
      show [(strideL (os.map vG) 0 4).getD i .non, (strideL (os.map vG) 1 4).getD i .non, (strideL (os.map vG) 2 4).getD i .non, (strideL (os.map vG) 3 4).getD i .non] = [vG x0, vG x1, vG x2, vG x3]
      rw [show (strideL (os.map vG) 0 4).getD i .non = vG x0 from c 0 x0 (by decide) rfl, show (strideL (os.map vG) 1 4).getD i .non = vG x1 from c 1 x1 (by decide) rfl, show (strideL (os.map vG) 2 4).getD i .non = vG x2 from c 2 x2 (by decide) rfl, show (strideL (os.map vG) 3 4).getD i .non = vG x3 from c 3 x3 (by decide) rfl]
    refine ⟨_, rfl, a, _, rfl, hq, fun p0 H1 s1 n1 g1 z1 => ?_⟩
    refine ⟨_, rfl, a, _, rfl, s1.seq hq, fun p1 H2 s2 n2 g2 z2 => ?_⟩
    refine ⟨_, rfl, a, _, rfl, s2.seq (s1.seq hq), fun p2 H3 s3 n3 g3 z3 => ?_⟩
    refine ⟨_, rfl, a, _, rfl, s3.seq (s2.seq (s1.seq hq)), fun p3 H4 s4 n4 g4 z4 => ?_⟩
    have s14 := ((s1.trans s2).trans s3).trans s4
    have rows : RowsL K H4 [p0, p1, p2, p3] [strideL (os.map vG) 0 4, strideL (os.map vG) 1 4, strideL (os.map vG) 2 4, strideL (os.map vG) 3 4] := ⟨rfl, fun j l r e1 e2 => by
      match j, e1, e2 with
      | 0, e1, e2 => cases e1; cases e2; exact .inl (.inl (s4 _ _ (s3 _ _ (s2 _ _ g1))))
      | 1, e1, e2 => cases e1; cases e2; exact .inl (.inl (s4 _ _ (s3 _ _ g2)))
      | 2, e1, e2 => cases e1; cases e2; exact .inl (.inl (s4 _ _ g3))
      | 3, e1, e2 => cases e1; cases e2; exact .inl (.inl g4)⟩
    refine ⟨[p0, p1, p2, p3], _, rfl, rows, by simp, by show 4 ≤ 1000; decide, fun D hD => ?_⟩
    refine lc_it (walk_zipS (K := K) (L := [p0, p1, p2, p3]) (rows := [strideL (os.map vG) 0 4, strideL (os.map vG) 1 4, strideL (os.map vG) 2 4, strideL (os.map vG) 3 4]) (n := ptF s0 / 4) (by simp) (fun r hr => ?_)) (fun i H' => Same H4 H' ∧ H' D = some (.lst (((List.range i).map fun i => wordO (partO os 4 i)).map vG))) ⟨same_upd hD, upd_same⟩ (fun i H' _ h => Same.rows h.1 rows) ?_ ?_
    · simp only [List.mem_cons, List.not_mem_nil, or_false] at hr
      rcases hr with rfl | rfl | rfl | rfl
      · exact (st 0 (by decide)).1
      · exact (st 1 (by decide)).1
      · exact (st 2 (by decide)).1
      · exact (st 3 (by decide)).1
    · rintro i v H5 H6 hi ⟨sm, g⟩ ⟨T1, rfl, hT, rfl⟩
      rw [part4 i hi]
      refine ⟨rfl, ?_⟩
      refine ⟨rfl, _, rfl, T1, _, rfl, rfl, .inl (.inl upd_same), ?_⟩
      rw [quad_word (part_len hl4 hi) (part_dot hd)]
      have sT := same_upd (o := .tup ((partO os 4 i).map vG)) hT
      have g6 := sT _ _ g
      refine ⟨_, g6, ?_, fun c o' hc => ?_, ?_⟩
      · rw [List.length_map, List.length_map, List.length_range]
        exact small1000 (by omega)
      · rw [upd_ne (ne_of_none hc hD)]
        exact sT _ _ (sm _ _ hc)
      · rw [upd_same, List.range_succ, List.map_append, List.map_append]
        rfl
    · rintro H5 ⟨sm, g⟩
      have s15 := s14.trans sm
      have hD0 : H D = none := Same.free s14 hD
      refine ⟨_, rfl, rfl, _, rfl, ?_⟩
      rcases hb with hb | ⟨hb, hpp⟩
      · have eh : heardF (bitsF s0) os = (List.range (ptF s0 / 4)).map fun i => wordO (partO os 4 i) := by
          unfold heardF
          rw [hb, hl]
        refine ite2 (fun _ => ?_) (fun c => absurd c (by simp [hb, vN]))
        exact ⟨_, rfl, q D H5 s15 hD0 (by rw [eh]; exact g)⟩
      · refine ite2 (fun c => absurd c (by simp [hb, vN])) (fun _ => ?_)
        have eh : heardF (bitsF s0) os = (List.range (ptF s0 / 8)).map fun i => wordO (partO os 8 i) := by
          unfold heardF
          rw [hb, hl]
        generalize hQL : ((List.range (ptF s0 / 4)).map fun i => wordO (partO os 4 i)) = QL at g
        have lQ : QL.length = 2 * (ptF s0 / 8) := by rw [← hQL, List.length_map, List.length_range]; exact hpp
        have st2 : ∀ j : Nat, j < 2 → (strideL (QL.map vG) (j : Int) ((2 : Nat) : Int)).length = ptF s0 / 8 ∧ ∀ i, i < ptF s0 / 8 → (strideL (QL.map vG) (j : Int) ((2 : Nat) : Int))[i]? = (QL.map vG)[2 * i + j]? := fun j hj => stride_is (by rw [List.length_map]; exact lQ) (str2 hs hj) hj
        have qAt : ∀ i, i < ptF s0 / 4 → QL[i]? = some (wordO (partO os 4 i)) := fun i hi => by
          rw [← hQL, List.getElem?_map, List.getElem?_range hi]
          rfl
        refine ⟨_, rfl, D, _, rfl, .inl (.inl g), fun p4 H6 s6 n6 g6 z6 => ?_⟩
        refine ⟨_, rfl, D, _, rfl, s6.seq (.inl (.inl g)), fun p5 H7 s7 n7 g7 z7 => ?_⟩
        refine ⟨p4, p5, _, _, rfl, .inl (.inl (s7 _ _ g6)), .inl (.inl g7), fun D2 hD2 => ?_⟩
        have hD20 : H D2 = none := Same.free ((s15.trans s6).trans s7) hD2
        refine lc_it (walk_zip (K := K) (a := p4) (b := p5) (xs := strideL (QL.map vG) 0 2) (ys := strideL (QL.map vG) 1 2) (n := ptF s0 / 8) (by rw [show (strideL (QL.map vG) 0 2).length = _ from (st2 0 (by decide)).1, show (strideL (QL.map vG) 1 2).length = _ from (st2 1 (by decide)).1]; omega)) (fun i H' => Same H7 H' ∧ H' D2 = some (.lst (((List.range i).map fun i => wordO (partO os 8 i)).map vG))) ⟨same_upd hD2, upd_same⟩ (fun i H' _ h => ⟨.inl (.inl (h.1 _ _ (s7 _ _ g6))), .inl (.inl (h.1 _ _ g7))⟩) ?_ ?_
        · rintro i v H8 H9 hi ⟨sm8, g8⟩ ⟨T1, x, y, rfl, hT, rfl, hx, hy⟩
          have hx := hx.symm.trans ((st2 0 (by decide)).2 i hi)
          have hy := hy.symm.trans ((st2 1 (by decide)).2 i hi)
          rw [List.getElem?_map, qAt _ (by omega)] at hx hy
          cases hx
          cases hy
          have sT := same_upd (o := .tup [vG (wordO (partO os 4 (2 * i + 0))), vG (wordO (partO os 4 (2 * i + 1)))]) hT
          refine ⟨T1, _, rfl, .inl (.inl upd_same), rfl, _, _, rfl, _, _, rfl, rfl, rfl, ?_⟩
          have g9 := sT _ _ g8
          have fin : ∃ acc, (upd H8 T1 (.tup [vG (wordO (partO os 4 (2 * i + 0))), vG (wordO (partO os 4 (2 * i + 1)))])) D2 = some (HO.lst acc) ∧ acc.length < sizeLine ∧ Same H7 (upd (upd H8 T1 (.tup [vG (wordO (partO os 4 (2 * i + 0))), vG (wordO (partO os 4 (2 * i + 1)))])) D2 (HO.lst (acc ++ [vG (wordO (partO os 8 i))]))) ∧
              upd (upd H8 T1 (.tup [vG (wordO (partO os 4 (2 * i + 0))), vG (wordO (partO os 4 (2 * i + 1)))])) D2 (HO.lst (acc ++ [vG (wordO (partO os 8 i))])) D2 = some (HO.lst (List.map vG (List.map (fun i => wordO (partO os 8 i)) (List.range (i + 1))))) := by
            refine ⟨_, g9, ?_, fun c o' hc => ?_, ?_⟩
            · rw [List.length_map, List.length_map, List.length_range]
              exact small1000 (by omega)
            · rw [upd_ne (ne_of_none hc hD2)]
              exact sT _ _ (sm8 _ _ hc)
            · rw [upd_same, List.range_succ, List.map_append, List.map_append]
              rfl
          generalize (upd H8 T1 (.tup [vG (wordO (partO os 4 (2 * i + 0))), vG (wordO (partO os 4 (2 * i + 1)))])) = H9 at fin ⊢
          have l1 := part_len hl4 (show 2 * i + 0 < ptF s0 / 4 by omega)
          have l2 := part_len hl4 (show 2 * i + 1 < ptF s0 / 4 by omega)
          have e8 : wordO (partO os 8 i) = joinO (wordO (partO os 4 (2 * i + 0))) (wordO (partO os 4 (2 * i + 1))) 4 := by
            have := word_app (partO os 4 (2 * i + 0)) (partO os 4 (2 * i + 1))
            rw [l2] at this
            rw [← this]
            exact congrArg wordO (part_two (b := 4))
          have w1 := fun x => word_lt (x := x) (part_dot (os := os) (b := 4) (i := 2 * i + 0) hd)
          have w2 := fun x => word_lt (x := x) (part_dot (os := os) (b := 4) (i := 2 * i + 1) hd)
          rw [l1] at w1
          rw [l2] at w2
          generalize wordO (partO os 8 i) = W8 at e8 fin
          generalize wordO (partO os 4 (2 * i + 0)) = A1 at e8 w1 ⊢
          generalize wordO (partO os 4 (2 * i + 1)) = A2 at e8 w2 ⊢
          subst e8
          cases A1 with
          | none => exact ⟨_, rfl, rfl, _, rfl, ite2 (fun _ => fin) (fun c => absurd c (by decide))⟩
          | some x =>
            refine ⟨_, rfl, rfl, _, rfl, ite2 (fun c => absurd c (by rw [decide_eq_false (fun e => by cases e)]; decide)) (fun _ => ?_)⟩
            cases A2 with
            | none => exact ⟨_, rfl, rfl, _, rfl, ite2 (fun _ => fin) (fun c => absurd c (by decide))⟩
            | some y =>
              refine ⟨_, rfl, rfl, _, rfl, ite2 (fun c => absurd c (by rw [decide_eq_false (fun e => by cases e)]; decide)) (fun _ => ?_)⟩
              have ev : V.int (Builtin.bitOr ((x : Int) * 2 ^ (4 : Int).toNat) (y : Int)) = vG (joinO (some x) (some y) 4) := congrArg V.int (or16 (w1 x rfl) (w2 y rfl))
              rw [← ev] at fin
              have := w1 x rfl
              exact ⟨_, rfl, _, _, rfl, rfl, ⟨by decide, by omega⟩, _, rfl, _, _, rfl, rfl, fin⟩
        · rintro H8 ⟨sm8, g8⟩
          exact q D2 H8 (((s15.trans s6).trans s7).trans sm8) hD20 (by rw [eh]; exact g8)
/-! CUT -/
/-! ### words in grids -/
def pathsD : List (List Int) := [[54, 53, 46, 45, 38, 37, 30, 29, 22, 21, 28, 27, 36, 35, 44, 52], [130, 129, 118, 117, 106, 105, 94, 93, 82, 81, 70, 69, 58, 57, 46, 45, 34, 33, 32, 31, 44, 43, 56, 55, 68, 67, 80, 79, 92, 91, 104, 103, 116, 115, 128, 127, 126, 125, 114, 113, 102, 101, 90, 89, 78, 77, 66, 65, 54, 53, 42, 41, 30, 29, 28, 27, 40, 39, 52, 51, 64, 63, 76, 75, 88, 87, 100, 99, 112, 111, 124, 123, 110, 98, 86, 74, 62, 50, 38, 26], [238, 237, 222, 221, 206, 205, 190, 189, 174, 173, 158, 157, 142, 141, 126, 125, 110, 109, 94, 93, 78, 77, 62, 61, 46, 45, 30, 29, 28, 27, 44, 43, 60, 59, 76, 75, 92, 91, 108, 107, 124, 123, 140, 139, 156, 155, 172, 171, 188, 187, 204, 203, 220, 219, 236, 235, 234, 233, 218, 217, 202, 201, 186, 185, 170, 169, 154, 153, 138, 137, 122, 121, 106, 105, 90, 89, 74, 73, 58, 57, 42, 41, 40, 39, 56, 55, 72, 71, 88, 87, 104, 103, 120, 119, 136, 135, 152, 151, 168, 167, 184, 183, 200, 199, 216, 215, 232, 231, 230, 229, 214, 213, 198, 197, 182, 181, 166, 165, 150, 149, 134, 133, 118, 117, 102, 101, 86, 85, 70, 69, 54, 53, 38, 37, 36, 35, 52, 51, 68, 67, 84, 83, 100, 99, 116, 115, 132, 131, 148, 147, 164, 163, 180, 179, 196, 195, 212, 211, 228, 227, 226, 210, 194, 178, 162, 146, 130, 114, 98, 82, 66, 65, 50, 49, 34, 33], [378, 377, 358, 357, 338, 337, 318, 317, 298, 297, 278, 277, 258, 257, 238, 237, 218, 217, 198, 197, 178, 177, 158, 157, 138, 137, 118, 117, 98, 97, 78, 77, 58, 57, 38, 37, 36, 35, 56, 55, 76, 75, 96, 95, 116, 115, 136, 135, 156, 155, 176, 175, 196, 195, 216, 215, 236, 235, 256, 255, 276, 275, 296, 295, 316, 315, 336, 335, 356, 355, 376, 375, 374, 373, 354, 353, 334, 333, 314, 313, 294, 293, 274, 273, 254, 253, 234, 233, 214, 213, 194, 193, 174, 173, 154, 153, 134, 133, 114, 113, 94, 93, 74, 73, 54, 53, 34, 33, 32, 31, 52, 51, 72, 71, 92, 91, 112, 111, 132, 131, 152, 151, 172, 171, 192, 191, 212, 211, 232, 231, 252, 251, 272, 271, 292, 291, 312, 311, 332, 331, 352, 351, 372, 371, 370, 369, 350, 349, 330, 329, 310, 309, 290, 289, 270, 269, 250, 249, 230, 229, 210, 209, 190, 189, 170, 169, 150, 149, 130, 129, 110, 109, 90, 89, 70, 69, 50, 49, 48, 47, 68, 67, 88, 87, 108, 107, 128, 127, 148, 147, 168, 167, 188, 187, 208, 207, 228, 227, 248, 247, 268, 267, 288, 287, 308, 307, 328, 327, 348, 347, 368, 367, 366, 365, 346, 345, 326, 325, 306, 305, 286, 285, 266, 265, 246, 245, 226, 225, 206, 205, 186, 185, 166, 165, 146, 145, 126, 125, 106, 105, 86, 85, 66, 65, 46, 45, 44, 43, 64, 63, 84, 83, 104, 103, 124, 123, 144, 143, 164, 163, 184, 183, 204, 203, 224, 223, 244, 243, 264, 263, 284, 283, 304, 303, 324, 323, 344, 343, 364, 363, 362, 342, 322, 302, 282, 262, 242, 222, 202, 182, 162, 161, 142, 141, 122, 121, 102, 101, 82, 81, 62, 61, 42, 41], [550, 549, 526, 525, 502, 501, 478, 477, 454, 453, 430, 429, 406, 405, 382, 381, 358, 357, 334, 333, 310, 309, 286, 285, 262, 261, 238, 237, 214, 213, 190, 189, 166, 165, 142, 141, 118, 117, 94, 93, 70, 69, 46, 45, 44, 43, 68, 67, 92, 91, 116, 115, 140, 139, 164, 163, 188, 187, 212, 211, 236, 235, 260, 259, 284, 283, 308, 307, 332, 331, 356, 355, 380, 379, 404, 403, 428, 427, 452, 451, 476, 475, 500, 499, 524, 523, 548, 547, 546, 545, 522, 521, 498, 497, 474, 473, 450, 449, 426, 425, 402, 401, 378, 377, 354, 353, 330, 329, 306, 305, 282, 281, 258, 257, 234, 233, 210, 209, 186, 185, 162, 161, 138, 137, 114, 113, 90, 89, 66, 65, 42, 41, 40, 39, 64, 63, 88, 87, 112, 111, 136, 135, 160, 159, 184, 183, 208, 207, 232, 231, 256, 255, 280, 279, 304, 303, 328, 327, 352, 351, 376, 375, 400, 399, 424, 423, 448, 447, 472, 471, 496, 495, 520, 519, 544, 543, 542, 541, 518, 517, 494, 493, 470, 469, 446, 445, 422, 421, 398, 397, 374, 373, 350, 349, 326, 325, 302, 301, 278, 277, 254, 253, 230, 229, 206, 205, 182, 181, 158, 157, 134, 133, 110, 109, 86, 85, 62, 61, 38, 37, 36, 35, 60, 59, 84, 83, 108, 107, 132, 131, 156, 155, 180, 179, 204, 203, 228, 227, 252, 251, 276, 275, 300, 299, 324, 323, 348, 347, 372, 371, 396, 395, 420, 419, 444, 443, 468, 467, 492, 491, 516, 515, 540, 539, 538, 537, 514, 513, 490, 489, 466, 465, 442, 441, 418, 417, 394, 393, 370, 369, 346, 345, 322, 321, 298, 297, 274, 273, 250, 249, 226, 225, 202, 201, 178, 177, 154, 153, 130, 129, 106, 105, 82, 81, 58, 57, 56, 55, 80, 79, 104, 103, 128, 127, 152, 151, 176, 175, 200, 199, 224, 223, 248, 247, 272, 271, 296, 295, 320, 319, 344, 343, 368, 367, 392, 391, 416, 415, 440, 439, 464, 463, 488, 487, 512, 511, 536, 535, 534, 533, 510, 509, 486, 485, 462, 461, 438, 437, 414, 413, 390, 389, 366, 365, 342, 341, 318, 317, 294, 293, 270, 269, 246, 245, 222, 221, 198, 197, 174, 173, 150, 149, 126, 125, 102, 101, 78, 77, 54, 53, 52, 51, 76, 75, 100, 99, 124, 123, 148, 147, 172, 171, 196, 195, 220, 219, 244, 243, 268, 267, 292, 291, 316, 315, 340, 339, 364, 363, 388, 387, 412, 411, 436, 435, 460, 459, 484, 483, 508, 507, 532, 531, 530, 506, 482, 458, 434, 410, 386, 362, 338, 314, 290, 289, 266, 265, 242, 241, 218, 217, 194, 193, 170, 169, 146, 145, 122, 121, 98, 97, 74, 73, 50, 49]]
theorem path_is {s : Nat} (hs : s < 5) : pathsD.getD s [] = ((wayF (sdF s)).map fun q => q.1 * sdF s + q.2).map fun n : Nat => (n : Int) := by
  rw [way_at hs]
  exact eq_of_beq (all5 (P := fun s => pathsD.getD s [] == ((wayL.getD s []).map fun q => q.1 * sdF s + q.2).map fun n : Nat => (n : Int)) (by decide +kernel) hs)
theorem path_at (T : Txt K mg) {s : Nat} (hs : s < 5) : ∃ c, atI ([T.c_PATHS0, T.c_PATHS1, T.c_PATHS2, T.c_PATHS3, T.c_PATHS4].map V.ref) (s : Int) = some (.ref c) ∧ ∀ H, SqT K H c (((wayF (sdF s)).map fun q => q.1 * sdF s + q.2).map vN) := by
  have e : ((wayF (sdF s)).map fun q => q.1 * sdF s + q.2).map vN = (pathsD.getD s []).map V.int := by
    rw [path_is hs, List.map_map (g := V.int)]
    rfl
  rw [e]
  have : s = 0 ∨ s = 1 ∨ s = 2 ∨ s = 3 ∨ s = 4 := by omega
  rcases this with rfl | rfl | rfl | rfl | rfl
  · exact ⟨T.c_PATHS0, rfl, fun H => tupB_ok (xs := pathsD.getD 0 []) T.t_PATHS0⟩
  · exact ⟨T.c_PATHS1, rfl, fun H => tupB_ok (xs := pathsD.getD 1 []) T.t_PATHS1⟩
  · exact ⟨T.c_PATHS2, rfl, fun H => tupB_ok (xs := pathsD.getD 2 []) T.t_PATHS2⟩
  · exact ⟨T.c_PATHS3, rfl, fun H => tupB_ok (xs := pathsD.getD 3 []) T.t_PATHS3⟩
  · exact ⟨T.c_PATHS4, rfl, fun H => tupB_ok (xs := pathsD.getD 4 []) T.t_PATHS4⟩
/-- the dots on the way through a grid -/
def dotsF (s : Nat) (g : Grid) : List (Option Nat) := (wayF (sdF s)).map fun q => cell g q.1 q.2
theorem wdots_len {s : Nat} (hs : s < 5) (g : Grid) : (dotsF s g).length = ptF s := by
  unfold dotsF
  rw [List.length_map, way_len hs]
theorem cell_ok {n : Nat} {g : Grid} (sq : Sq n g) {i j : Nat} (hi : i < n) (hj : j < n) : DotOk (cell g i j) :=
  sq.dot _ (getD_mem (by rw [sq.len]; exact hi)) _ (getD_mem (by rw [sq.row _ (getD_mem (by rw [sq.len]; exact hi))]; exact hj))
theorem wdots_ok {s : Nat} (hs : s < 5) {g : Grid} (sq : Sq (sdF s) g) : ∀ o ∈ dotsF s g, DotOk o := by
  intro o ho
  obtain ⟨q, hq, rfl⟩ := List.mem_map.mp ho
  have hi := way_in hs hq
  exact cell_ok sq hi.1 hi.2
theorem flat_at {α : Type} {n : Nat} : ∀ {g : List (List α)}, (∀ r ∈ g, r.length = n) → ∀ {i j : Nat} {r : List α}, g[i]? = some r → j < n → g.flatten[i * n + j]? = r[j]?
  | [], _, i, j, r, e, _ => by cases e
  | r0 :: g, h, 0, j, r, e, hj => by
    cases e
    rw [List.flatten_cons, Nat.zero_mul, Nat.zero_add, List.getElem?_append_left (by rw [h r0 (List.mem_cons_self ..)]; exact hj)]
  | r0 :: g, h, i + 1, j, r, e, hj => by
    have hl := h r0 (List.mem_cons_self ..)
    rw [List.flatten_cons, List.getElem?_append_right (by rw [hl, Nat.succ_mul]; omega), hl, Nat.succ_mul, show i * n + n + j - n = i * n + j by omega]
    exact flat_at (fun r hr => h r (List.mem_cons_of_mem _ hr)) e hj
theorem flat_len {α : Type} {n : Nat} : ∀ {g : List (List α)}, (∀ r ∈ g, r.length = n) → g.flatten.length = g.length * n
  | [], _ => by simp
  | r0 :: g, h => by
    rw [List.flatten_cons, List.length_append, h r0 (List.mem_cons_self ..), flat_len fun r hr => h r (List.mem_cons_of_mem _ hr), List.length_cons, Nat.succ_mul]
    omega
theorem bitw_at (T : Txt K mg) {s : Nat} (hs : s < 5) : ∃ xs, (∀ H, SqT K H T.a_WORD_BITS xs) ∧ atI xs ((s : Int) + 1 - 1) = some (vN (bitsF s)) := bit_at T hs
def sp_won (K : PySem.W.Frag) : Sp := fun vs H Q _ => ∃ (s : Nat) (a : Addr) (k : Bool) (g : Grid), vs = [.int ((s : Int) + 1), .ref a] ∧ s < 5 ∧ GrB k K H a g ∧ Sq (sdF s) g ∧ ∀ D H', Same H H' → H D = none → H' D = some (.lst ((heardF (bitsF s) (dotsF s g)).map vG)) → Q (.ref D) H'
theorem ok_words_on (T : Txt K mg) : FnOk P w K mg base CX0 2 T.f_words_on T.d_words_on ["size", "grid"] (sp_won K) := by
  refine T.F_words_on.ok sc_words_on (fun vs H Q E h => ?_) (fun cdv A outer s H vs Q E hr h => ?_)
  · obtain ⟨s, a, k, g, rfl, _⟩ := h
    rfl
  · obtain ⟨s0, a, k, g, rfl, hs, hG, sq, q⟩ := h
    refine ⟨_, (pss_cons (ps_set (i := 2) sc_words_on.nd rfl (.inr rfl) (pe_lc2 (g := (gName 3)) (g1 := (gName 4)) (own := [("dots", 3), ("dot", 4)]) (vs1 := [4]) rfl sc_words_on.nd (pi_seq (pv 1)) (blkOk_by (N := ["size", "grid", "shades", "dots", "dot", "at"]) (sc := defScope s_words_on) (by decide +kernel)) (by decide) (fun _ _ _ _ _ => by exact (pg_name (i := 3) sc_words_on.nd rfl (.inl rfl))) (fun _ _ _ _ _ => by exact pts_nil) (fun _ _ _ _ _ => by exact (pi_seqK (K := K) rfl (pv 3))) (fun _ _ _ _ _ => by exact (pg_name (i := 4) sc_words_on.nd rfl (.inl rfl))) (fun _ _ _ _ _ => by exact pts_nil) (fun _ _ _ _ _ => by exact (pv 4))))
      (pss_one (ps_ret (pe_call (ok_bits_as_words T) (hr.mono (by decide)) (by rfl) T.g_bits_as_words T.F_bits_as_words.kp T.b_bits_as_words .nil pass0 (pa_cons (pe_lc (own := [("at", 5)]) rfl sc_words_on.nd (pi_seqK (K := K) rfl (pe_ix (ix_rowBK (K := K) rfl) (pe_glob (v := .ref T.a_PATHS) (by rfl) T.g_PATHS rfl) (pe_op op_sub (pv 0) pe_int) (fun _ _ => rfl))) (blkOk_by (N := ["size", "grid", "shades", "dots", "dot", "at"]) (sc := defScope s_words_on) (by decide +kernel)) (fun _ _ _ _ _ => by exact (pg_name (i := 5) sc_words_on.nd rfl (.inl rfl))) (fun _ _ _ _ _ => by exact pts_nil) (fun _ _ _ _ _ => by exact (pe_ix (ix_rowBK (K := K) rfl) (pv 2) (pv 5) (fun _ _ => rfl)))) (pa_cons (pe_ix ix_rowB (pe_glob (v := .ref T.a_WORD_BITS) (by rfl) T.g_WORD_BITS rfl) (pe_op op_sub (pv 0) pe_int) (fun _ _ => rfl)) pa_nil)))))), ?_⟩
    obtain ⟨c, hc, hrow⟩ := path_at T hs
    obtain ⟨xb, hX, hx⟩ := bit_at T hs
    obtain ⟨L, h1, h2, h3⟩ := hG.ex
    have one : (s0 : Int) + 1 - 1 = (s0 : Int) := by omega
    have hm := side_le (sd_ok hs)
    refine ⟨_, rfl, a, _, k, rfl, h1, fun D hD => ?_⟩
    refine lc2_it (walk_seq (b := k) (K := K) (a := a) (xs := L.map V.ref)) (fun i H' => Same H H' ∧ H' D = some (.lst ((g.take i).flatten.map vG))) ⟨same_upd hD, upd_same⟩ (fun i H' _ h => Same.sqb h.1 h1) ?_ ?_
    · rintro i v H1 H2 hi ⟨sm, gD⟩ ⟨rfl, e2⟩
      rw [List.length_map] at hi
      have e1 : L[i]? = some L[i] := List.getElem?_eq_getElem hi
      have eg : g[i]? = some (g[i]'(by omega)) := List.getElem?_eq_getElem _
      rw [List.getElem?_map, e1] at e2
      obtain rfl := (Option.some.inj e2).symm
      have hq := h3 i _ _ e1 eg
      generalize hr0 : g[i]'(by omega) = r at eg hq
      have lr : r.length = sdF s0 := sq.row r (List.mem_of_getElem? eg)
      have tk : (g.take (i + 1)).flatten = (g.take i).flatten ++ r := by
        rw [List.take_add_one, eg, Option.toList_some, List.flatten_append]
        simp
      refine ⟨rfl, ?_⟩
      refine iteT (B := Same H H2 ∧ H2 D = some (HO.lst ((g.take (i + 1)).flatten.map vG))) ⟨_, rfl, L[i], _, k, rfl, Same.sqb sm hq, ?_⟩
      refine lc_in (walk_seq (b := k) (K := K) (a := L[i]) (xs := r.map vG)) (fun j H' => Same H H' ∧ H' D = some (.lst (((g.take i).flatten ++ r.take j).map vG))) ⟨sm, by rw [List.take_zero, List.append_nil]; exact gD⟩ (fun j H' _ h => Same.sqb h.1 hq) ?_ ?_
      · rintro j v H4 H5 hj ⟨s4, g4⟩ ⟨rfl, e4⟩
        rw [List.length_map] at hj
        rw [List.getElem?_map, List.getElem?_eq_getElem hj] at e4
        obtain rfl := (Option.some.inj e4).symm
        refine ⟨rfl, iteT (B := Same H H5 ∧ H5 D = some (HO.lst (((g.take i).flatten ++ r.take (j + 1)).map vG))) ⟨_, rfl, _, g4, ?_, fun c o' hc => ?_, ?_⟩⟩
        · have := flat_len (n := sdF s0) (g := g.take i) fun r hr => sq.row r (List.mem_of_mem_take hr)
          have h4 : (g.take i).length ≤ 24 := by rw [List.length_take, sq.len]; omega
          have h5 : (g.take i).length * sdF s0 ≤ 24 * 24 := Nat.mul_le_mul h4 hm.2
          rw [List.length_map, List.length_append, List.length_take, this]
          exact small1000 (by omega)
        · rw [upd_ne (ne_of_none hc hD)]
          exact s4 _ _ hc
        · rw [upd_same, List.take_add_one, List.getElem?_eq_getElem hj, Option.toList_some, ← List.append_assoc]
          exact congrArg (fun z => some (HO.lst z)) (@List.map_append _ _ vG _ [r[j]]).symm
      · rintro H4 ⟨s4, g4⟩
        rw [List.length_map, List.take_length] at g4
        rw [tk]
        exact ⟨s4, g4⟩
    · rintro H1 ⟨s1, g1⟩
      rw [List.length_map, h2, List.take_length] at g1
      have lW := way_len hs
      refine ⟨_, rfl, _, _, rfl, rfl, T.a_PATHS, _, _, .ref c, false, rfl, rfl, (T.l_PATHS.sq (hz := by show 5 ≤ 1000; decide)), (by rw [one]; exact hc), c, _, false, rfl, hrow _, fun D2 hD2 => ?_⟩
      refine lc_it (walk_seq (b := false) (K := K) (a := c) (xs := ((wayF (sdF s0)).map fun q : Nat × Nat => q.1 * sdF s0 + q.2).map vN)) (fun i H' => Same H1 H' ∧ H' D2 = some (.lst (((dotsF s0 g).take i).map vG))) ⟨same_upd hD2, upd_same⟩ (fun i H' _ h => hrow _) ?_ ?_
      · rintro i v H2 H3 hi ⟨sm, gD2⟩ ⟨rfl, e2⟩
        rw [List.length_map, List.length_map, lW] at hi
        have eq0 : (wayF (sdF s0))[i]? = some ((wayF (sdF s0))[i]'(by rw [lW]; exact hi)) := List.getElem?_eq_getElem _
        generalize (wayF (sdF s0))[i]'(by rw [lW]; exact hi) = qq at eq0
        obtain ⟨x, y⟩ := qq
        obtain ⟨hx1, hy1⟩ := way_in hs (List.mem_of_getElem? eq0)
        have hx1 : x < sdF s0 := hx1
        have hy1 : y < sdF s0 := hy1
        rw [List.getElem?_map, List.getElem?_map, eq0] at e2
        obtain rfl := (Option.some.inj e2).symm
        have ed : (dotsF s0 g)[i]? = some (cell g x y) := by
          unfold dotsF
          rw [List.getElem?_map, eq0]
          rfl
        have er : g[x]? = some (g.getD x []) := by
          rw [getD_in (by rw [sq.len]; exact hx1)]
          exact List.getElem?_eq_getElem _
        have lr : (g.getD x []).length = sdF s0 := sq.row _ (List.mem_of_getElem? er)
        have ey : (g.getD x [])[y]? = some (cell g x y) := by
          unfold cell
          rw [List.getD_eq_getElem?_getD (l := g.getD x []), List.getElem?_eq_getElem (by rw [lr]; exact hy1)]
          rfl
        have ef : g.flatten[x * sdF s0 + y]? = some (cell g x y) := by rw [flat_at (fun r hr => sq.row r hr) er hy1, ey]
        refine ⟨rfl, ?_⟩
        refine ⟨_, rfl, _, rfl, D, _, _, vG (cell g x y), true, rfl, rfl, .lst (sm _ _ g1), atI_nat (by rw [List.getElem?_map, ef]; rfl), _, gD2, ?_, fun c o' hc => ?_, ?_⟩
        · rw [List.length_map, List.length_take]
          have := (pt_parts hs)
          exact small1000 (by omega)
        · rw [upd_ne (ne_of_none hc hD2)]
          exact sm _ _ hc
        · rw [upd_same, List.take_add_one, ed, Option.toList_some, List.map_append]
          rfl
      · rintro H2 ⟨s2, g2⟩
        rw [List.length_map, List.length_map, lW, List.take_of_length_le (by rw [wdots_len hs]; exact Nat.le_refl _)] at g2
        refine ⟨_, rfl, _, _, rfl, rfl, T.a_WORD_BITS, xb, _, vN (bitsF s0), false, rfl, rfl, hX _, hx, s0, D2, dotsF s0 g, rfl, hs, .inl (.inl g2), wdots_len hs g, wdots_ok hs sq, fun D3 H3 s3 n3 g3 => q D3 H3 ((s1.trans s2).trans s3) (Same.free (s1.trans s2) n3) g3⟩
def sp_win (K : PySem.W.Frag) : Sp := sp_won K
theorem ok_words_in (T : Txt K mg) : FnOk P w K mg base CX0 4 T.f_words_in T.d_words_in ["size", "grid"] (sp_win K) := by
  refine T.F_words_in.ok sc_words_in (fun vs H Q E h => ?_) (fun cdv A outer s H vs Q E hr h => ?_)
  · obtain ⟨s, a, k, g, rfl, _⟩ := h
    rfl
  · obtain ⟨s0, a, k, g, rfl, hs, hG, sq, q⟩ := h
    refine ⟨_, (pss_cons (ps_expr (pe_call (ok_need_size T) (hr.mono (by decide)) (by rfl) T.g_need_size T.F_need_size.kp T.b_need_size .nil pass0 (pa_cons (pv 0) pa_nil)))
      (pss_cons (ps_expr (pe_call (ok_need_grid T) (hr.mono (by decide)) (by rfl) T.g_need_grid T.F_need_grid.kp T.b_need_grid .nil pass0 (pa_cons (pv 0) (pa_cons (pv 1) pa_nil))))
      (pss_one (ps_ret (pe_call (ok_words_on T) (hr.mono (by decide)) (by rfl) T.g_words_on T.F_words_on.kp T.b_words_on .nil pass0 (pa_cons (pv 0) (pa_cons (pv 1) pa_nil))))))), ?_⟩
    refine ⟨_, rfl, s0, rfl, hs, ?_⟩
    refine ⟨_, rfl, _, rfl, sdF s0, s0, a, k, g, rfl, hs, sd_side hs, hG, sq, fun H1 s1 => ?_⟩
    refine ⟨_, rfl, _, rfl, s0, a, k, g, rfl, hs, hG.same s1, sq, fun D H' s2 n2 g2 => q D H' (s1.trans s2) (Same.free s1 n2) g2⟩
/-! CUT -/
/-! ### grids of words -/
def shadesF (s : Nat) (ws : List Nat) (st : List (Option Nat)) : List (Option Nat) := (wordsB (bitsF s) ws).map some ++ (st ++ [some 0, some 1])
/-- the grid that some words make -/
def layF (s : Nat) (ws : List Nat) (st : List (Option Nat)) : Grid := (List.range (sdF s)).map fun r => (List.range (sdF s)).map fun c => (shadesF s ws st).getD (plF s r c) none
theorem tot_pt {s : Nat} (hs : s < 5) : bitsF s * totF s = ptF s := of_decide_eq_true (all5 (P := fun s => decide (bitsF s * totF s = ptF s)) (by decide +kernel) hs)
theorem shades_len {s : Nat} (hs : s < 5) {ws : List Nat} {st : List (Option Nat)} (hl : ws.length = totF s) (h2 : st.length = 20) : (shadesF s ws st).length = ptF s + 22 := by
  unfold shadesF
  rw [List.length_append, List.length_map, wordsB_len, hl, tot_pt hs, List.length_append, h2]
  rfl
theorem bitsW_lt (b w : Nat) : ∀ x ∈ bitsW b w, x < 2 := fun x hx => by
  unfold bitsW at hx
  obtain ⟨i, _, rfl⟩ := List.mem_map.mp hx
  exact Nat.mod_lt _ (by decide)
theorem wordsB_lt (b : Nat) (ws : List Nat) : ∀ x ∈ wordsB b ws, x < 2 := fun x hx => by
  unfold wordsB at hx
  obtain ⟨w, _, h⟩ := List.mem_flatMap.mp hx
  exact bitsW_lt b w x h
theorem shades_ok (s : Nat) (ws : List Nat) {st : List (Option Nat)} (hst : ∀ o ∈ st, DotOk o) : ∀ o ∈ shadesF s ws st, DotOk o := fun o ho => by
  unfold shadesF at ho
  rcases List.mem_append.mp ho with h | h
  · obtain ⟨x, hx, rfl⟩ := List.mem_map.mp h
    have := wordsB_lt _ _ x hx
    have : x = 0 ∨ x = 1 := by omega
    rcases this with rfl | rfl
    · exact .inr (.inl rfl)
    · exact .inr (.inr rfl)
  · rcases List.mem_append.mp h with h | h
    · exact hst o h
    · simp at h
      rcases h with rfl | rfl
      · exact .inr (.inl rfl)
      · exact .inr (.inr rfl)
theorem lay_row {s r : Nat} (ws : List Nat) (st : List (Option Nat)) (hr : r < sdF s) : (layF s ws st)[r]? = some ((List.range (sdF s)).map fun c => (shadesF s ws st).getD (plF s r c) none) := by
  unfold layF
  rw [List.getElem?_map, List.getElem?_range hr]
  rfl
theorem lay_len (s : Nat) (ws : List Nat) (st : List (Option Nat)) : (layF s ws st).length = sdF s := by
  unfold layF
  rw [List.length_map, List.length_range]
theorem lay_sq {s : Nat} (hs : s < 5) {ws : List Nat} {st : List (Option Nat)} (hl : ws.length = totF s) (h2 : st.length = 20) (hst : ∀ o ∈ st, DotOk o) : Sq (sdF s) (layF s ws st) where
  len := lay_len s ws st
  row r hr := by
    obtain ⟨i, _, rfl⟩ := List.mem_map.mp hr
    rw [List.length_map, List.length_range]
  dot r hr o ho := by
    obtain ⟨i, hi, rfl⟩ := List.mem_map.mp hr
    obtain ⟨j, hj, rfl⟩ := List.mem_map.mp ho
    have := (way_pl hs (List.mem_range.mp hi) (List.mem_range.mp hj)).1
    exact shades_ok s ws hst _ (getD_mem (by rw [shades_len hs hl h2]; exact this))
abbrev sc_lc_gow : Scope := { kind := .function, names := [(".0", .local), ("places", .local), ("shades", .cell)], isGenerator := false, isCoroutine := false }
def sp_gow (K : PySem.W.Frag) : Sp := fun vs H Q _ => ∃ (s : Nat) (a b : Addr) (k : Bool) (ws : List Nat) (st : List (Option Nat)), vs = [.int ((s : Int) + 1), .ref a, .ref b] ∧ s < 5 ∧ SqB k K H a (ws.map vN) ∧ (∀ x ∈ ws, x < span (bitsF s)) ∧ ws.length = totF s ∧ H b = some (.lst (st.map vG)) ∧ st.length = 20 ∧ ∀ D H', Fr H H' D (layF s ws st) → Q (.ref D) H'
theorem ok_grid_of_words (T : Txt K mg) : FnOk P w K mg base CX0 2 T.f_grid_of_words T.d_grid_of_words ["size", "words", "strip_shades"] (sp_gow K) := by
  refine T.F_grid_of_words.ok sc_grid_of_words (fun vs H Q E h => ?_) (fun cdv A outer s H vs Q E hr h => ?_)
  · obtain ⟨s, a, b, k, ws, st, rfl, _⟩ := h
    rfl
  · obtain ⟨s0, a, b, k, ws, st, rfl, hs, hq, hw, hl, hb, hst, q⟩ := h
    refine ⟨_, (pss_cons (ps_set (i := 3) sc_grid_of_words.nd rfl (.inr rfl) (pe_op op_cat (pe_op op_cat (pe_call (ok_words_as_bits T) (hr.mono (by decide)) (by rfl) T.g_words_as_bits T.F_words_as_bits.kp T.b_words_as_bits .nil pass0 (pa_cons (pv 1) (pa_cons (pe_ix ix_rowB (pe_glob (v := .ref T.a_WORD_BITS) (by rfl) T.g_WORD_BITS rfl) (pe_op op_sub (pv 0) pe_int) (fun _ _ => rfl)) pa_nil))) (pv 2)) (pe_lst (pa_cons pe_int (pa_cons pe_int pa_nil)))))
      (pss_one (ps_ret (pe_lc (own := [("places", 4)]) rfl sc_grid_of_words.nd (pi_seqK (K := K) rfl (pe_ix (ix_rowBK (K := K) rfl) (pe_glob (v := .ref T.a_PLACES) (by rfl) T.g_PLACES rfl) (pe_op op_sub (pv 0) pe_int) (fun _ _ => rfl))) (blkOk_by (N := ["size", "words", "strip_shades", "shades", "places", "place"]) (sc := defScope s_grid_of_words) (by decide +kernel)) (fun _ _ _ _ _ => by exact (pg_name (i := 4) sc_grid_of_words.nd rfl (.inl rfl))) (fun _ _ _ _ _ => by exact pts_nil) (fun _ _ _ _ _ => by exact (pe_lc (own := [("place", 5)]) rfl sc_grid_of_words.nd (pi_seqK (K := K) rfl (pv 4)) (blkOk_by (N := ["size", "words", "strip_shades", "shades", "places", "place"]) (sc := sc_lc_gow) (by decide +kernel)) (fun _ _ _ _ _ => by exact (pg_name (i := 5) sc_grid_of_words.nd rfl (.inl rfl))) (fun _ _ _ _ _ => by exact pts_nil) (fun _ _ _ _ _ => by exact (pe_ix (ix_rowBK (K := K) rfl) (pv 3) (pv 5) (fun _ _ => rfl))))))))), ?_⟩
    have n24 := (side_le (sd_ok hs)).2
    have t58 := tot_le hs
    obtain ⟨xb, hX, hx⟩ := bit_at T hs
    have lw : (wordsB (bitsF s0) ws).length = ptF s0 := by rw [wordsB_len, hl, tot_pt hs]
    have p464 := (pt_parts hs)
    refine ⟨_, rfl, _, rfl, _, _, rfl, rfl, T.a_WORD_BITS, xb, _, vN (bitsF s0), false, rfl, rfl, hX _, hx, ?_⟩
    refine ⟨a, k, bitsF s0, ws, rfl, bits_wd hs, hq, hw, by omega, fun D1 H1 s1 n1 g1 => ?_⟩
    refine ⟨_, rfl, D1, b, _, _, rfl, rfl, g1, s1 _ _ hb, ?_, fun p2 hp2 => ?_⟩
    · rw [List.length_map, lw, List.length_map, hst]
      exact Nat.le_of_lt (small1000 (by omega))
    have s2 := same_upd (o := .lst ((wordsB (bitsF s0) ws).map vN ++ st.map vG)) hp2
    refine ⟨(by show 2 ≤ sizeLine; decide), fun p3 hp3 => ?_⟩
    have s3 := same_upd (o := .lst [V.int 0, V.int 1]) hp3
    refine ⟨p2, p3, _, _, rfl, rfl, s3 _ _ upd_same, upd_same, ?_, fun tl htl => ?_⟩
    · rw [List.length_append, List.length_map, lw, List.length_map, hst]
      show ptF s0 + 20 + 2 ≤ sizeLine
      exact Nat.le_of_lt (small1000 (by omega))
    have s4 := same_upd (o := .lst ((wordsB (bitsF s0) ws).map vN ++ st.map vG ++ [V.int 0, V.int 1])) htl
    have sA := ((s1.trans s2).trans s3).trans s4
    have gtl : (upd (upd (upd H1 p2 (.lst ((wordsB (bitsF s0) ws).map vN ++ st.map vG))) p3 (.lst [V.int 0, V.int 1])) tl (.lst ((wordsB (bitsF s0) ws).map vN ++ st.map vG ++ [V.int 0, V.int 1]))) tl = some (.lst ((shadesF s0 ws st).map vG)) := by
      rw [upd_same]
      unfold shadesF
      rw [List.map_append, List.map_append, List.map_map, List.append_assoc]
      rfl
    generalize (upd (upd (upd H1 p2 (.lst ((wordsB (bitsF s0) ws).map vN ++ st.map vG))) p3 (.lst [V.int 0, V.int 1])) tl (.lst ((wordsB (bitsF s0) ws).map vN ++ st.map vG ++ [V.int 0, V.int 1]))) = H2 at sA gtl ⊢
    clear s1 s2 s3 s4 hp2 hp3 htl g1 n1
    obtain ⟨Pd, _, eP, lP, _⟩ := places_at (r := 0) hs (by have := (side_le (sd_ok hs)).1; omega)
    obtain ⟨cp, hcp, c2, hat2, bp, hbp, lbp, prow⟩ := tup3_at (i := s0) (show tup3B K T.a_PLACES placesD = true from T.l_PLACES) eP
    refine ⟨_, rfl, _, _, rfl, rfl, T.a_PLACES, _, _, .ref c2, false, rfl, rfl, hcp _, (by rw [show (s0 : Int) + 1 - 1 = (s0 : Int) by omega]; exact hat2), ?_⟩
    refine ⟨c2, _, false, rfl, hbp _, fun D hD => ?_⟩
    refine lc_it (walk_seq (b := false) (K := K) (a := c2) (xs := bp.map V.ref)) (fun i H' => ∃ M, FrI H2 H' D M (layF s0 ws st) i) ⟨[], FrI.start hD⟩ (fun i H' _ _ => hbp _) ?_ ?_
    · rintro i v H3 H4 hi ⟨M, F⟩ ⟨rfl, e2⟩
      rw [List.length_map] at hi
      have eB : bp[i]? = some (bp[i]'hi) := List.getElem?_eq_getElem _
      have hi2 : i < sdF s0 := by omega
      generalize bp[i]'hi = lb at eB
      rw [List.getElem?_map, eB] at e2
      obtain rfl := (Option.some.inj e2).symm
      obtain ⟨_, R, eP2, _, eR, lR, cR⟩ := places_at hs hi2
      obtain rfl : Pd = _ := Option.some.inj (eP.symm.trans eP2)
      have qp : ∀ H', SqB false K H' lb (R.map V.int) := fun H' => prow i lb R eB eR H'
      have er := lay_row ws st hi2
      refine ⟨rfl, ?_⟩
      refine ⟨_, rfl, lb, _, false, rfl, qp _, fun D2 hD2 => ?_⟩
      refine lc_it (walk_seq (b := false) (K := K) (a := lb) (xs := R.map V.int)) (fun j H' => Same H4 H' ∧ H' D2 = some (.lst (((List.range j).map fun c => (shadesF s0 ws st).getD (plF s0 i c) none).map vG))) ⟨same_upd hD2, upd_same⟩ (fun j H' _ _ => qp _) ?_ ?_
      · rintro j v H6 H7 hj ⟨sm, gD⟩ ⟨rfl, e4⟩
        rw [List.length_map, lR] at hj
        rw [List.getElem?_map, cR j hj] at e4
        obtain rfl := (Option.some.inj e4).symm
        have gtl8 := sm _ _ (F.same _ _ gtl)
        have hp := (way_pl hs hi2 hj).1
        have ep : (shadesF s0 ws st)[plF s0 i j]? = some ((shadesF s0 ws st).getD (plF s0 i j) none) := by
          rw [getD_in (by rw [shades_len hs hl hst]; exact hp)]
          exact List.getElem?_eq_getElem _
        refine ⟨rfl, ?_⟩
        refine ⟨_, rfl, _, rfl, tl, _, _, vG ((shadesF s0 ws st).getD (plF s0 i j) none), true, rfl, rfl, .lst gtl8, atI_nat (by rw [List.getElem?_map, ep]; rfl), _, gD, ?_, fun b' o hb' => ?_, ?_⟩
        · rw [List.length_map, List.length_map, List.length_range]
          exact small1000 (by omega)
        · rw [upd_ne (ne_of_none hb' hD2)]
          exact sm _ _ hb'
        · rw [upd_same, List.range_succ, List.map_append, List.map_append]
          rfl
      · rintro H6 ⟨sm, gD⟩
        rw [List.length_map, lR] at gD
        refine ⟨_, sm _ _ F.out, ?_, M ++ [D2], F.step hD er sm hD2 gD⟩
        rw [List.length_map, F.len]
        exact small1000 (by omega)
    · rintro H3 ⟨M, F⟩
      rw [List.length_map, lbp, lP] at F
      exact q D H3 (Fr.back ⟨hD, M, by rw [lay_len]; exact F⟩ sA)
/-! CUT -/
theorem walk_rngC {lo c : Int} {n : Nat} : Walk (Itc lo c n) n (fun _ => True) (fun i H x H' => H' = H ∧ x = .int (lo + (i : Nat) * c)) where
  goes := fun i H h _ => h
  stops := fun H _ => Nat.le_refl n
  yields := fun i H x H' _ _ y => y
def fwI : List Int := fwL.map fun x : Nat => (x : Int)
theorem fwI_at {i : Nat} (h : i < 32) : atI (fwI.map V.int) (i : Int) = some (vN (fwF i)) := by
  refine atI_nat ?_
  unfold fwI
  rw [List.map_map, List.getElem?_map, fwF, List.getD_eq_getElem?_getD, List.getElem?_eq_getElem (by exact h)]
  rfl
def sp_wof : Sp := fun vs H Q _ => ∃ l m : Nat, vs = [vN l, vN m] ∧ l < 4 ∧ m < 8 ∧ Q (vN (fwF (8 * l + m))) H
theorem ok_word_of_format (T : Txt K mg) : FnOk P w K mg base CX0 1 T.f_word_of_format T.d_word_of_format ["level", "mask"] sp_wof := by
  refine T.F_word_of_format.ok sc_word_of_format (fun vs H Q E h => ?_) (fun cdv A outer s H vs Q E hr h => ?_)
  · obtain ⟨l, m, rfl, _⟩ := h
    rfl
  · obtain ⟨l, m, rfl, hl, hm, q⟩ := h
    refine ⟨_, (pss_one (ps_ret (pe_ix ix_rowB (pe_glob (v := .ref T.a_FORMAT_WORDS) (by rfl) T.g_FORMAT_WORDS rfl) (pe_op op_add (pe_op op_mul (pe_glob (v := .int 8) (by rfl) T.g_MASKS.choose_spec ⟨_, rfl⟩) (pv 0)) (pv 1)) (fun _ _ => rfl)))), ?_⟩
    exact ⟨_, rfl, _, _, rfl, rfl, .inl ⟨by decide, by decide⟩, _, rfl, _, _, rfl, rfl, T.a_FORMAT_WORDS, _, _, vN (fwF (8 * l + m)), false, rfl, rfl, tupB_ok (xs := fwI) T.l_FORMAT_WORDS, fwI_at (i := 8 * l + m) (by omega), q⟩
def sp_asb : Sp := fun vs H Q _ => ∃ n m : Nat, vs = [vN n, vN m] ∧ m ≤ 100 ∧ ∀ D H', Same H H' → H D = none → H' D = some (.lst ((bitsW m n).map vN)) → Q (.ref D) H'
theorem and_one (n : Nat) : Builtin.bitAnd (n : Int) 1 = ((n % 2 : Nat) : Int) := by
  have h := PyProof.Rows.bitAnd_pp (x := (n : Int)) (y := 1) (by omega) (by omega)
  rw [h]
  show (((n : Int).toNat &&& (1 : Int).toNat : Nat) : Int) = _
  rw [Int.toNat_natCast]
  show ((n &&& 1 : Nat) : Int) = _
  rw [Nat.and_one_is_mod]
theorem bitsW_snoc (m n i : Nat) : (List.range (i + 1)).map (fun k => n / 2 ^ (m - 1 - k) % 2) = (List.range i).map (fun k => n / 2 ^ (m - 1 - k) % 2) ++ [n / 2 ^ (m - 1 - i) % 2] := by
  rw [List.range_succ, List.map_append]
  rfl
theorem ok_as_bits (T : Txt K mg) : FnOk P w K mg base CX0 1 T.f_as_bits T.d_as_bits ["number", "many"] sp_asb := by
  refine T.F_as_bits.ok sc_as_bits (fun vs H Q E h => ?_) (fun cdv A outer s H vs Q E hr h => ?_)
  · obtain ⟨n, m, rfl, _⟩ := h
    rfl
  · obtain ⟨n, m, rfl, hm, q⟩ := h
    refine ⟨_, (pss_one (ps_ret (pe_lc (own := [("place", 2)]) rfl sc_as_bits.nd (pi_range3 (by rfl) T.n_range (pa_cons (pe_op op_sub (pv 1) pe_int) (pa_cons (pe_un un_neg pe_int) (pa_cons (pe_un un_neg pe_int) pa_nil)))) (blkOk_by (N := ["number", "many", "place"]) (sc := defScope s_as_bits) (by decide +kernel)) (fun _ _ _ _ _ => by exact (pg_name (i := 2) sc_as_bits.nd rfl (.inl rfl))) (fun _ _ _ _ _ => by exact pts_nil) (fun _ _ _ _ _ => by exact (pe_op op_and (pe_op op_shr (pv 0) (pv 2)) pe_int))))), ?_⟩
    refine ⟨_, rfl, _, _, rfl, rfl, _, rfl, _, rfl, (m : Int) - 1, -1, -1, m, rfl, ?_, fun D hD => ?_⟩
    · have h := RgC.neg (i := (m : Int) - 1) (j := -1) (by omega) (by omega) (by decide) (by decide)
      rw [show ((m : Int) - 1 - -1).toNat = m by omega] at h
      exact h
    refine lc_it (walk_rngC (lo := (m : Int) - 1) (c := -1) (n := m)) (fun i H' => Same H H' ∧ H' D = some (.lst (((List.range i).map fun k => n / 2 ^ (m - 1 - k) % 2).map vN))) ⟨same_upd hD, upd_same⟩ (fun i H' _ h => trivial) ?_ ?_
    · rintro i v H1 H2 hi ⟨sm, gD⟩ ⟨rfl, rfl⟩
      have ev : V.int (Builtin.bitAnd ((n : Int) / 2 ^ ((m : Int) - 1 + (i : Nat) * -1).toNat) 1) = vN (n / 2 ^ (m - 1 - i) % 2) := by
        rw [show ((m : Int) - 1 + (i : Nat) * -1).toNat = m - 1 - i by omega]
        have e : (n : Int) / 2 ^ (m - 1 - i) = ((n / 2 ^ (m - 1 - i) : Nat) : Int) := by
          rw [Int.natCast_ediv, Int.natCast_pow]
          rfl
        rw [e, and_one]
        rfl
      refine ⟨rfl, ?_⟩
      refine ⟨_, rfl, _, rfl, _, _, rfl, rfl, (by show (0 : Int) ≤ (m : Int) - 1 + (i : Nat) * -1; omega), _, _, rfl, rfl, _, gD, ?_, fun c o' hc => ?_, ?_⟩
      · rw [List.length_map, List.length_map, List.length_range]
        exact small1000 (by omega)
      · rw [upd_ne (ne_of_none hc hD)]
        exact sm _ _ hc
      · rw [upd_same, bitsW_snoc, List.map_append, List.map_cons, ← ev]
        rfl
    · rintro H1 ⟨s1, g1⟩
      exact q D H1 s1 hD g1
def stripL (l m : Nat) : List Nat := bitsW 10 (fwF (8 * l + m)) ++ bitsW 10 (fwF (8 * l + m))
def sp_ss : Sp := fun vs H Q _ => ∃ l m : Nat, vs = [vN l, vN m] ∧ l < 4 ∧ m < 8 ∧ ∀ D H', Same H H' → H D = none → H' D = some (.lst ((stripL l m).map vN)) → Q (.ref D) H'
theorem ok_strip_shades (T : Txt K mg) : FnOk P w K mg base CX0 2 T.f_strip_shades T.d_strip_shades ["level", "mask"] sp_ss := by
  refine T.F_strip_shades.ok sc_strip_shades (fun vs H Q E h => ?_) (fun cdv A outer s H vs Q E hr h => ?_)
  · obtain ⟨l, m, rfl, _⟩ := h
    rfl
  · obtain ⟨l, m, rfl, hl, hm, q⟩ := h
    refine ⟨_, (pss_one (ps_ret (pe_op op_rep (pe_call (ok_as_bits T) (hr.mono (by decide)) (by rfl) T.g_as_bits T.F_as_bits.kp T.b_as_bits .nil pass0 (pa_cons (pe_call (ok_word_of_format T) (hr.mono (by decide)) (by rfl) T.g_word_of_format T.F_word_of_format.kp T.b_word_of_format .nil pass0 (pa_cons (pv 0) (pa_cons (pv 1) pa_nil))) (pa_cons (pe_glob (v := .int 10) (by rfl) T.g_STRIP.choose_spec ⟨_, rfl⟩) pa_nil))) pe_int))), ?_⟩
    refine ⟨_, rfl, _, rfl, l, m, rfl, hl, hm, ?_⟩
    refine ⟨fwF (8 * l + m), 10, rfl, by decide, fun D H1 s1 n1 g1 => ?_⟩
    refine ⟨D, 2, _, rfl, rfl, g1, by decide, by decide, ?_, fun D2 hD2 => ?_⟩
    · rw [List.length_map, bitsW_len]
      decide
    have s2 := same_upd (o := .lst (List.replicate (2 : Int).toNat ((bitsW 10 (fwF (8 * l + m))).map vN)).flatten) hD2
    refine q D2 _ (s1.trans s2) (Same.free s1 hD2) ?_
    rw [upd_same]
    unfold stripL
    rw [List.map_append]
    show some (HO.lst (_ ++ (_ ++ []))) = _
    rw [List.append_nil]
theorem mw_len {s m : Nat} (hs : s < 5) (hm : m < 8) : (mwF s m).length = totF s :=
  of_decide_eq_true (all8 (all5 (P := fun s => (List.range 8).all fun m => decide ((mwF s m).length = totF s)) (by decide +kernel) hs) hm)
/-- words with a mask over them -/
def maskW (s m : Nat) (ws : List Nat) : List Nat := List.zipWith (fun x y => x ^^^ y) ws (mwF s m)
theorem maskW_len {s m : Nat} (hs : s < 5) (hm : m < 8) {ws : List Nat} (hl : ws.length = totF s) : (maskW s m ws).length = totF s := by
  unfold maskW
  rw [List.length_zipWith, hl, mw_len hs hm, Nat.min_self]
theorem maskW_lt {s m : Nat} (hs : s < 5) (hm : m < 8) {ws : List Nat} (hw : ∀ x ∈ ws, x < span (bitsF s)) : ∀ x ∈ maskW s m ws, x < span (bitsF s) := fun x hx => by
  unfold maskW at hx
  obtain ⟨i, hi, rfl⟩ := List.getElem_of_mem hx
  rw [List.getElem_zipWith]
  exact xor_lt (bits_wd hs) (hw _ (List.getElem_mem _)) ((mask_words hs hm).2.1 _ (List.getElem_mem _))
def sp_mw (K : PySem.W.Frag) : Sp := fun vs H Q _ => ∃ (s m : Nat) (a : Addr) (k : Bool) (ws : List Nat), vs = [.int ((s : Int) + 1), vN m, .ref a] ∧ s < 5 ∧ m < 8 ∧ SqB k K H a (ws.map vN) ∧ ws.length = totF s ∧ ∀ D H', Same H H' → H D = none → H' D = some (.lst ((maskW s m ws).map vN)) → Q (.ref D) H'
theorem ok_masked_words (T : Txt K mg) : FnOk P w K mg base CX0 1 T.f_masked_words T.d_masked_words ["size", "mask", "words"] (sp_mw K) := by
  refine T.F_masked_words.ok sc_masked_words (fun vs H Q E h => ?_) (fun cdv A outer s H vs Q E hr h => ?_)
  · obtain ⟨s, m, a, k, ws, rfl, _⟩ := h
    rfl
  · obtain ⟨s0, m, a, k, ws, rfl, hs, hm, hq, hl, q⟩ := h
    refine ⟨_, (pss_cons (ps_set (i := 3) sc_masked_words.nd rfl (.inl rfl) (pe_ix ix_rowB (pe_ix ix_rowB (pe_glob (v := .ref T.a_MASK_WORDS) (by rfl) T.g_MASK_WORDS rfl) (pe_op op_sub (pv 0) pe_int) (fun _ _ => rfl)) (pv 1) (fun _ _ => rfl)))
      (pss_one (ps_ret (pe_lc (own := [("word", 4), ("turn", 5)]) (g := gTup K 2 (gCons (gName 4) (gCons (gName 5) gNil))) rfl sc_masked_words.nd (pi_zipRT (K := K) rfl (by rfl) T.n_zip (pa_cons (pv 2) (pa_cons (pv 3) pa_nil))) (blkOk_by (N := ["size", "mask", "words", "turned", "word", "turn"]) (sc := defScope s_masked_words) (by decide +kernel)) (fun _ _ _ _ _ => by (refine pg_tup ?_ ?_); (exact rfl); (refine pgs_cons ?_ ?_); (exact (pg_name (i := 4) sc_masked_words.nd rfl (.inl rfl))); (refine pgs_cons ?_ ?_); (exact (pg_name (i := 5) sc_masked_words.nd rfl (.inl rfl))); (exact pgs_nil)) (fun _ _ _ _ _ => by exact pts_nil) (fun _ _ _ _ _ => by exact (pe_ifExp (pt_cmpR op_isN (pv 4) pe_non (nomark _)) pe_non (pe_op op_xor (pv 4) (pv 5)))))))), ?_⟩
    obtain ⟨Md, eM, lM, eMr⟩ := mask_at hs hm
    obtain ⟨cs, hcs, c, hat, bs, hbs, lbs, hrow⟩ := tup3_at (i := s0) (show tup3B K T.a_MASK_WORDS maskD = true from T.l_MASK_WORDS) eM
    obtain ⟨mw1, mw2, mw3⟩ := mask_words hs hm
    have eb : bs[m]? = some (bs[m]'(by omega)) := List.getElem?_eq_getElem _
    generalize bs[m]'(by omega) = b at eb
    have hb : ∀ H, SqT K H b ((mwF s0 m).map vN) := fun H => by rw [← mw1]; exact hrow m b _ eb eMr H
    have ml := mw_len hs hm
    refine ⟨_, rfl, _, _, rfl, rfl, T.a_MASK_WORDS, _, _, .ref c, false, rfl, rfl, hcs _, (by rw [show (s0 : Int) + 1 - 1 = (s0 : Int) by omega]; exact hat), ?_⟩
    refine ⟨_, rfl, c, _, _, .ref b, false, rfl, rfl, hbs _, atI_nat (by rw [List.getElem?_map, eb]; rfl), ?_⟩
    refine ⟨_, rfl, _, rfl, a, b, _, _, k, rfl, hq, hb _, fun D hD => ?_⟩
    refine lc_it (walk_zipB (n := totF s0) (ka := k) (kb := false) (K := K) (a := a) (b := b) (xs := ws.map vN) (ys := (mwF s0 m).map vN) (by rw [List.length_map, List.length_map]; omega)) (fun i H' => Same H H' ∧ H' D = some (.lst (((maskW s0 m ws).take i).map vN))) ⟨same_upd hD, upd_same⟩ (fun i H' _ h => ⟨Same.sqb h.1 hq, hb _⟩) ?_ ?_
    · rintro i v H3 H4 hi ⟨sm, gD⟩ ⟨T1, x1, y1, rfl, hT, rfl, e1, e2⟩
      have ex : ws[i]? = some (ws[i]'(by omega)) := List.getElem?_eq_getElem _
      have ey : (mwF s0 m)[i]? = some ((mwF s0 m)[i]'(by omega)) := List.getElem?_eq_getElem _
      generalize ws[i]'(by omega) = x at ex
      generalize (mwF s0 m)[i]'(by omega) = y at ey
      replace e1 : (ws.map vN)[i]? = some x1 := e1
      replace e2 : ((mwF s0 m).map vN)[i]? = some y1 := e2
      rw [List.getElem?_map, ex] at e1
      rw [List.getElem?_map, ey] at e2
      obtain rfl := (Option.some.inj e1).symm
      obtain rfl := (Option.some.inj e2).symm
      have ez : (maskW s0 m ws)[i]? = some (x ^^^ y) := by
        unfold maskW
        rw [List.getElem?_zipWith, ex, ey]
      have sT := same_upd (o := .tup [vN x, vN y]) hT
      have gT := sT _ _ gD
      have ev : V.int (Builtin.bitXor (x : Int) (y : Int)) = vN (x ^^^ y) := congrArg V.int (bx x y)
      refine ⟨T1, [_, _], rfl, .inl (.inl upd_same), rfl, _, [_], rfl, _, [], rfl, rfl, rfl, ?_⟩
      refine ⟨_, rfl, rfl, _, rfl, ite2 (fun c => absurd c (by rw [decide_eq_false (fun e => by cases e)]; decide)) (fun _ => ?_)⟩
      refine ⟨_, rfl, _, rfl, _, _, rfl, rfl, _, gT, ?_, fun c o' hc => ?_, ?_⟩
      · have t58 := tot_le hs
        rw [List.length_map, List.length_take]
        exact small1000 (by omega)
      · rw [upd_ne (ne_of_none hc hD)]
        exact sT _ _ (sm _ _ hc)
      · rw [upd_same, List.take_add_one, ez, Option.toList_some, List.map_append, List.map_cons, ← ev]
        rfl
    · rintro H3 ⟨s3, g3⟩
      rw [List.take_of_length_le (by rw [maskW_len hs hm hl]; exact Nat.le_refl _)] at g3
      exact q D H3 s3 hD g3
/-- a symbol drawn -/
def drawF (s l m : Nat) (ws : List Nat) : Grid := layF s (maskW s m ws) ((stripL l m).map some)
def sp_dg (K : PySem.W.Frag) : Sp := fun vs H Q _ => ∃ (s l m : Nat) (a : Addr) (k : Bool) (ws : List Nat), vs = [.int ((s : Int) + 1), vN l, vN m, .ref a] ∧ s < 5 ∧ l < 4 ∧ m < 8 ∧ SqB k K H a (ws.map vN) ∧ (∀ x ∈ ws, x < span (bitsF s)) ∧ ws.length = totF s ∧ ∀ D H', Fr H H' D (drawF s l m ws) → Q (.ref D) H'
theorem ok_drawn_grid (T : Txt K mg) : FnOk P w K mg base CX0 3 T.f_drawn_grid T.d_drawn_grid ["size", "level", "mask", "words"] (sp_dg K) := by
  refine T.F_drawn_grid.ok sc_drawn_grid (fun vs H Q E h => ?_) (fun cdv A outer s H vs Q E hr h => ?_)
  · obtain ⟨s, l, m, a, k, ws, rfl, _⟩ := h
    rfl
  · obtain ⟨s0, l, m, a, k, ws, rfl, hs, hl, hm, hq, hw, hn, q⟩ := h
    refine ⟨_, (pss_one (ps_ret (pe_call (ok_grid_of_words T) (hr.mono (by decide)) (by rfl) T.g_grid_of_words T.F_grid_of_words.kp T.b_grid_of_words .nil pass0 (pa_cons (pv 0) (pa_cons (pe_call (ok_masked_words T) (hr.mono (by decide)) (by rfl) T.g_masked_words T.F_masked_words.kp T.b_masked_words .nil pass0 (pa_cons (pv 0) (pa_cons (pv 2) (pa_cons (pv 3) pa_nil)))) (pa_cons (pe_call (ok_strip_shades T) (hr.mono (by decide)) (by rfl) T.g_strip_shades T.F_strip_shades.kp T.b_strip_shades .nil pass0 (pa_cons (pv 1) (pa_cons (pv 2) pa_nil))) pa_nil)))))), ?_⟩
    refine ⟨_, rfl, _, rfl, _, rfl, _, rfl, s0, m, a, k, ws, rfl, hs, hm, hq, hn, fun D1 H1 s1 n1 g1 => ?_⟩
    refine ⟨_, rfl, _, rfl, l, m, rfl, hl, hm, fun D2 H2 s2 n2 g2 => ?_⟩
    have e : (stripL l m).map vN = ((stripL l m).map some).map vG := by
      rw [List.map_map]
      rfl
    refine ⟨s0, D1, D2, true, maskW s0 m ws, (stripL l m).map some, rfl, hs, .lst (s2 _ _ g1), maskW_lt hs hm hw, maskW_len hs hm hn, by rw [← e]; exact g2, ?_, fun D H' F => q D H' (F.back (s1.trans s2))⟩
    unfold stripL
    rw [List.length_map, List.length_append, bitsW_len]
def sp_drawn (K : PySem.W.Frag) : Sp := sp_dg K
theorem ok_drawn (T : Txt K mg) : FnOk P w K mg base CX0 6 T.f_drawn T.d_drawn ["size", "level", "mask", "words"] (sp_drawn K) := by
  refine T.F_drawn.ok sc_drawn (fun vs H Q E h => ?_) (fun cdv A outer s H vs Q E hr h => ?_)
  · obtain ⟨s, l, m, a, k, ws, rfl, _⟩ := h
    rfl
  · obtain ⟨s0, l, m, a, k, ws, rfl, hs, hl, hm, hq, hw, hn, q⟩ := h
    refine ⟨_, (pss_cons (ps_expr (pe_call (ok_need_size T) (hr.mono (by decide)) (by rfl) T.g_need_size T.F_need_size.kp T.b_need_size .nil pass0 (pa_cons (pv 0) pa_nil)))
      (pss_cons (ps_expr (pe_call (ok_need_level T) (hr.mono (by decide)) (by rfl) T.g_need_level T.F_need_level.kp T.b_need_level .nil pass0 (pa_cons (pv 1) pa_nil)))
      (pss_cons (ps_expr (pe_call (ok_need_mask T) (hr.mono (by decide)) (by rfl) T.g_need_mask T.F_need_mask.kp T.b_need_mask .nil pass0 (pa_cons (pv 2) pa_nil)))
      (pss_cons (ps_expr (pe_call (ok_need_symbol_words T) (hr.mono (by decide)) (by rfl) T.g_need_symbol_words T.F_need_symbol_words.kp T.b_need_symbol_words .nil pass0 (pa_cons (pv 0) (pa_cons (pv 3) (pa_cons pe_bl pa_nil)))))
      (pss_one (ps_ret (pe_call (ok_drawn_grid T) (hr.mono (by decide)) (by rfl) T.g_drawn_grid T.F_drawn_grid.kp T.b_drawn_grid .nil pass0 (pa_cons (pv 0) (pa_cons (pv 1) (pa_cons (pv 2) (pa_cons (pv 3) pa_nil))))))))))), ?_⟩
    refine ⟨_, rfl, s0, rfl, hs, _, rfl, l, rfl, hl, _, rfl, m, rfl, hm, ?_⟩
    refine ⟨_, rfl, _, rfl, s0, a, k, false, ws, rfl, hs, hq, hw, hn, fun H1 s1 => ?_⟩
    exact ⟨_, rfl, _, rfl, _, rfl, _, rfl, s0, l, m, a, k, ws, rfl, hs, hl, hm, Same.sqb s1 hq, hw, hn, fun D H' F => q D H' (F.back s1)⟩
/-! CUT -/
theorem due_at {s l i : Nat} {rows : List (List Nat)} (hi : i < totF s) : (dueF s l rows)[i]? = some ((rows.getD (spotF s l i).1 []).getD (spotF s l i).2 0) := by
  unfold dueF
  rw [List.getElem?_map, order_at hi]
  rfl
theorem due_len (s l : Nat) (rows : List (List Nat)) : (dueF s l rows).length = totF s := by
  unfold dueF
  rw [List.length_map, order_len]
theorem back_due {s l : Nat} {rows : List (List Nat)} (hs : s < 5) (hl : l < 4) (h : RowsOk s rows) : backF s l (ofN (dueF s l rows)) = gridN rows := by
  refine List.ext_getElem? fun b => ?_
  unfold backF placesF gridN
  rw [List.map_map, List.getElem?_map, List.getElem?_map]
  by_cases hb : b < (blkF s).length
  · obtain ⟨r, er, lr, eg, _⟩ := h.row hb
    rw [List.getElem?_range hb, er]
    refine congrArg some ?_
    show (placeF s l b).map (fun i => (ofN (dueF s l rows)).getD i none) = r.map some
    refine List.ext_getElem? fun c => ?_
    rw [List.getElem?_map, List.getElem?_map]
    by_cases hc : c < (blkF s).getD b 0
    · have pin := place_in hs hl hb hc
      have lp := place_len hs hl hb
      have e1 : (placeF s l b)[c]? = some ((placeF s l b).getD c 0) := by rw [getD_in (by omega), List.getElem?_eq_getElem (by omega)]
      have e2 : r[c]? = some (r.getD c 0) := by rw [getD_in (by omega), List.getElem?_eq_getElem (by omega)]
      rw [e1, e2]
      refine congrArg some ?_
      show ((dueF s l rows).map some).getD ((placeF s l b).getD c 0) none = some (r.getD c 0)
      rw [List.getD_eq_getElem?_getD, List.getElem?_map, due_at pin.1, pin.2]
      show some ((rows.getD b []).getD c 0) = _
      rw [eg]
    · have lp := place_len hs hl hb
      rw [List.getElem?_eq_none (by omega), List.getElem?_eq_none (by omega)]
      rfl
  · rw [List.getElem?_eq_none (by rw [List.length_range]; omega), List.getElem?_eq_none (by rw [h.len]; omega)]
    rfl
theorem due_words {s l : Nat} {rows : List (List Nat)} (hs : s < 5) (hl : l < 4) (h : RowsOk s rows) {x : Nat} (hx : x ∈ dueF s l rows) : x < span (bitsF s) := by
  obtain ⟨i, hi, e⟩ := List.getElem_of_mem hx
  have ht : i < totF s := by rw [← due_len s l rows]; exact hi
  have e2 := due_at (l := l) (rows := rows) ht
  rw [List.getElem?_eq_getElem hi, e] at e2
  obtain ⟨b1, b2, _⟩ := spot_in hs hl ht
  obtain ⟨r, er, lr, eg, hw⟩ := h.row b1
  rw [eg] at e2
  rw [Option.some.inj e2, getD_in (by omega)]
  exact hw _ (List.getElem_mem _)
/-! ### the blocks of data words -/
def sharesD : List (List (List Int)) := [[[8, 4, 2, 1, 8, 4, 2, 1, 8, 4, 2, 1], [57, 216, 164, 82, 47, 27, 201, 104], [1601, 812, 3350, 2755], [741, 382, 3319, 1727]], [[230, 115, 253, 186, 59, 217, 168, 84, 145, 140, 70, 35, 196, 98, 49, 220, 42, 21, 206, 103, 93, 234, 117, 254, 162, 81, 236, 118, 25, 200, 100, 50], [53820, 41430, 23715, 58973, 5074, 52641, 27228, 13798, 19417, 10664, 6228, 50402, 45670, 37171, 36061, 18090, 52378, 26245, 13134, 56615, 54660, 44610, 22305, 61212], [7149884, 3852502, 13984931, 11416157, 15489839, 7792923, 15956169, 12448872, 1728909, 12926026, 7263781, 3646238, 11972949, 9673966, 9274999, 4867071], [3755124567, 2879479791, 1499261819, 3907418617, 507582810, 3341600997, 1863738494, 1002648311]], [[3304254554, 1652127277, 830749614, 2688722263, 1344400019, 682128881, 341082816, 170541408, 3224441698, 1621143857, 810606752, 405303376, 202651688, 101325844, 50662922, 3115976453, 178691248, 89345624, 3130074924, 1576053526, 2524507403, 1262276285, 2636015590, 4128213875, 3863766094, 1931883047, 2165512619, 4172395757, 2095078094, 1047539047, 523808395, 3072088061, 2334746955, 4255943837, 3327543030, 1663771515, 2309859717, 4243516666, 2121758333, 1065565062, 2113027378, 2256119321, 1132745652, 2571276634, 4095864877, 2057861294, 1028930647, 2787778195, 1475599608, 2478927484, 4057478974, 3228345119, 1614211511, 807128291, 414541513, 216151004, 3386238329, 3704801924, 1852400962, 931957281, 2739291560, 3911424596, 3433647402, 1726782997, 708767611, 354406277, 2998394874, 1508104061, 2496254854, 1255985475, 628019353, 2855758068, 2567668886, 4106043979, 2061902237, 1030990070, 2793493627, 1408772741, 2440828410, 4030640765, 4201325362, 2106435865, 2264853684, 1132426842, 2575776557, 4110132654, 2059790935, 1037727123, 1467237862, 2470091379, 4045229441, 3233193720, 1616596860, 815111998, 418576159, 209306551, 536003753, 3078185708, 3817091446, 3376586811, 3693170853, 1856514282, 928257141, 2737441410, 1964910540, 2182064998, 1103097139, 2565328545, 1288398824, 652053364, 332856634, 2976630301, 980604703, 490329015, 3064254947, 1532154057, 2502519004, 4071371886, 2035685943, 2217414051, 930518101, 2738571922, 3919914313, 3437931164, 1718965582, 864195111, 2705410475, 3902315757, 2875835526, 3985400387, 3460706713, 1730388212, 2343129210, 4260112445, 3329627302, 1664813651, 2797532268, 1398766134, 2442607899, 4042499765, 2025935842, 1020825969, 510455936, 255227968], [11631445368222200359, 16757226603236759979, 8430264473103348973, 4215132682286095054, 2127692246514806119, 13185144227365891723, 6612698019052607485, 10798148012564517830, 11286156707044472768, 5643156968611488608, 2821780691498690864, 12327615842502233112, 17080612548063618572, 14845346474573443846, 7474455287152681219, 10042451597182888121, 10639353337785837107, 17389508145544639393, 13876083323396268520, 6985189233553631348, 3492595336183837754, 1746297670633667101, 873148835316833718, 436575001373947483, 14725918171734653040, 7362959087603768376, 3681480057057259036, 11651691798684899086, 16780895730720682759, 8415225909652808123, 4207709540982114533, 2103986162130576586, 12784775150913286762, 16156358658598254901, 8078180051516368034, 4086315699446436433, 2081297710278060432, 1040780828751342664, 540515875210483236, 13492826890641615634, 15693895632876875266, 15338545437432289025, 7698483995361915832, 3849242373501608284, 11713186419122948142, 5908244177151353879, 10412083074042966707, 5226167373665933793, 601442746768626484, 300721682216694042, 150360841108381709, 75180796363829438, 13311810352767907935, 6694045035739225239, 3347022519606054643, 1693839062989604801, 15045864825244261926, 7556569119678353171, 3778399079910252465, 1914013077710043104, 1008657197088228208, 13747022565349710136, 6907147542391804956, 10940667417025866254, 10964401003168060513, 5524843960555694728, 2762422493526439236, 1381211966179156514, 12802896753314517265, 16207896343290089648, 8104150376557856856, 4072349634138874924, 17689354081001786075, 14017069458881996245, 7008534729450949330, 9843056902220301673, 4968675509709216396, 2484338542981107014, 1242169271499464227, 12728871940985999273, 18441550478853928801, 14397522581902771080, 15809644568615180612, 15387578905448076322, 15203567669887592977, 7621909295786440112, 10115994847903261272, 5082776050207445292, 17661694130517478392, 13983043655520025980, 7043172485986436670, 9826626511443288863, 4942446500601498039, 2518370685917920483, 1279311317042364105, 12742939365588156380, 8331638501093071846, 9365180490124875123, 17925285001190953601, 8996374970669427192, 4527521905812671612, 2263840218683098686, 13201567761388806943, 16402824318065224119, 842175138573635872, 13643858282969616400, 16585733578153158664, 8292866790276150276, 9298551368861948418, 17923679016823688449, 9000128354123497144, 4500161172460363612], [15953170217339834914600, 874530834917010197893908, 1077152410060201040269578, 538576252291540552765445, 269288126329940487792826, 774535658523382648550493, 390663723656105412598422, 197831395650040356277579, 411268812698841356545256, 694405642366696607340148, 1141584184732933224082234, 910947134753112213531933, 455486790077105873678006, 229067541009105795577691, 117918748173848054563733, 58965708443746700884466, 462603992718255429742907, 645828005812005161500837, 322914002906004863992042, 163071143359096611479669, 81535609985985134334082, 831777413442883507259457, 415888706722023729530008, 211041679094202757808716, 810187335599123403592467, 1120539672544734968123825, 973488973301854438486240, 486749663398338402482288, 656581950601709510343736, 1198230222737304291188252, 936764315060410342706958, 468382182255848710651655, 1191507474855280717556494, 597967887280414404873479, 302080078496575889342139, 792248250840013244432357, 1113774538730999335454666, 972003574742022022822757, 1050330916246656532530570, 525178727839543512652357, 1049852354028773180849902, 524926177111381984354167, 675670202953843558430595, 1204400267808998430925817, 939860254155178672966084, 1037644247185864810617954, 1007587054570524121001521, 994474030446415501473696, 1063923808221992058118640, 947373357445474288306296, 476776533080658313823292, 238400336187330521866782, 120528907831907866054927, 854645864683686684242111, 427328104663892981143783, 214982994533216728198347, 621580836221128364132323, 1180434517475533231602633, 929190590385403207411164, 466812903678018933541486, 235315689850638405362999, 757543655638707052186275, 378771875133710633354729, 191894120411191046085324, 600202709149728473246168, 640853610415071442209900, 1186981079443966223402550, 931147252859113805652763, 1032703172656144935791029, 516356758571952751111394, 673303347196092097132145, 339741523355853233273728, 1001513588223395066256852, 500767710837707539871338, 250383855567839605062453, 768457563750661051549090, 384239698600828471474769, 682804986665721688784272, 341402493333581987874376, 172910784701880087364388, 783057443745831099492242, 1108887450416103940016969, 554443763462086582132124, 614871085440904370116174, 307435562924974903683879, 718052697463516705099179, 362411326269728584433389, 181213121096292946444238, 264353877831594434844934, 772068565720789124224003, 1102798052256201460566713, 964614733395132976670180, 484511752614377327274610, 245352044817340535035193, 762569950553071752811172, 1096728649663575818193234], [2096219824289145559934226169, 1192914196792046455072319428, 57387520723407546261148568418, 70734760201764109637620923697, 35367380100882055469498025632, 17828160070862627249092780880, 51052584950617469997334890792, 25613372471118572501271182356, 74020786575134952915435671197, 64091198210948580543172126710, 69029395428375847208802298747, 66768798441429432819613822341, 65580395950737416135444451066, 64822385256842535948733605757, 64529329341032928881937058694, 32486919163683255795188563267, 75288055738950484669537928368, 59772696450774227924298834520, 66869809103461906343872303404, 33637401535779044764427464726, 16818702689230817992834504715, 8409353263646357279601536189, 56044284246691135647186884326, 69957360954162454486134229875, 17930252566038664269173710462, 51006128917761246824813834047, 25648097031209380970973147047, 12949963346390333063200042987, 53487423746752892534556774349, 26868839080731394332533907422, 13559957888743404025441277807, 53666957932330188045809275791, 60162378629818582336314453010, 30187685762699377418546796041, 42174496687888708613747780540, 21232128198525201101809036638, 10616067489392369849772600879, 5452916095390228915550451631, 54566065368568087484394275823, 27427836968931517623729256911, 53032205832877072315786177358, 73528205735313311192071138599, 64047329797781355290269896363, 32024307574230982632884037613, 43178530352349434807991110606, 78380102138511867390703435111, 61318229277834494406484936331, 30842269990456636175175934973, 43674236650800276080072294893, 78627955276820597643375147214, 39536682080559190574560869479, 42060328700879004914004082315, 77926785706970390825414172669, 61236040190718271036449798086, 67727166919287008008316511075, 33864375775005222199691364745, 41796317837830395629356911469, 77910496121125578748145417614, 61084295021424485176090551879, 67650730014151238084617270171, 34028348846792195423994085877, 44181344769980992104856418498, 22235479475236500697269697633, 48101764348153796152842010248, 74878651985916392391657059799, 59568221551593558124842042067, 29871264417904119410322727377, 14935632208952226281172994256, 7468153760009307166097097832, 3918095709148524394633634356, 1959388888788961164910989594, 979694449546729947811590157, 78238322470506754468126235636, 39264270260705030897656984954, 19632137925034321675436081725, 51857070421797054786099831206, 73038067525300891568270641235, 63685410318140877971079120017, 68970632967732581131896234736, 34611158539400287051384885624]]]
def mostL : List (List Nat) := [[3, 2, 1, 1], [8, 6, 4, 2], [18, 14, 12, 10]]
/-- how many words the shares are told for -/
def mostW (s l : Nat) : Nat := (mostL.getD (min s 2) []).getD l 0
def shF (s l n : Nat) : List Nat := shL (bitsF s) (startF s l) (ckF s l) n
def chF (s l : Nat) (ws : List Nat) : List Nat := chk (bitsF s) (startF s l) (ckF s l) ws
theorem shares_is {s l : Nat} (hs : s < 5) (hl : l < 4) : (sharesD.getD (min s 2) []).getD l [] = (shF s l (mostW s l)).map fun n : Nat => (n : Int) :=
  eq_of_beq (all20 (P := fun s l => (sharesD.getD (min s 2) []).getD l [] == (shF s l (mostW s l)).map fun n : Nat => (n : Int)) (by decide +kernel) hs hl)
theorem own_most {s l : Nat} (hs : s < 5) (hl : l < 4) : ∀ n ∈ blkF s, n - ckF s l ≤ mostW s l := fun n hn =>
  of_decide_eq_true (List.all_eq_true.mp (all20 (P := fun s l => (blkF s).all fun n => decide (n - ckF s l ≤ mostW s l)) (by decide +kernel) hs hl) n hn)
theorem most_18 {s l : Nat} (hs : s < 5) (hl : l < 4) : mostW s l ≤ 18 := of_decide_eq_true (all20 (P := fun s l => decide (mostW s l ≤ 18)) (by decide +kernel) hs hl)
theorem shares_row {s l : Nat} (hs : s < 5) (hl : l < 4) : ∃ S, sharesD[min s 2]? = some S ∧ S.length = 4 ∧ S[l]? = some ((shF s l (mostW s l)).map fun n : Nat => (n : Int)) := by
  have z := all20 (P := fun s l => decide (min s 2 < sharesD.length) && decide ((sharesD.getD (min s 2) []).length = 4)) (by decide +kernel) hs hl
  rw [Bool.and_eq_true] at z
  have z1 := of_decide_eq_true z.1
  have z2 := of_decide_eq_true z.2
  refine ⟨sharesD.getD (min s 2) [], ?_, z2, ?_⟩
  · rw [List.getD_eq_getElem?_getD, List.getElem?_eq_getElem z1]
    rfl
  · rw [← shares_is hs hl, List.getD_eq_getElem?_getD (l := sharesD.getD (min s 2) []), List.getElem?_eq_getElem (by omega)]
    rfl
def sp_so (K : PySem.W.Frag) : Sp := fun vs H Q _ => ∃ s l n : Nat, vs = [.int ((s : Int) + 1), vN l, vN n] ∧ s < 5 ∧ l < 4 ∧ n ≤ mostW s l ∧ ∀ p H', Same H H' → SqT K H' p ((shF s l n).map vN) → Q (.ref p) H'
theorem ok_shares_of (T : Txt K mg) : FnOk P w K mg base CX0 1 T.f_shares_of T.d_shares_of ["size", "level", "own"] (sp_so K) := by
  refine T.F_shares_of.ok sc_shares_of (fun vs H Q E h => ?_) (fun cdv A outer s H vs Q E hr h => ?_)
  · obtain ⟨s, l, n, rfl, _⟩ := h
    rfl
  · obtain ⟨s0, l, n, rfl, hs, hl, hn, q⟩ := h
    refine ⟨_, (pss_cons (ps_set (i := 3) sc_shares_of.nd rfl (.inl rfl) (pe_ix ix_rowB (pe_ix ix_rowB (pe_glob (v := .ref T.a_SHARES) (by rfl) T.g_SHARES rfl) (pe_op op_sub (pe_callB (call_min2 rfl) (by rfl) T.n_min (by decide +kernel) (pa_cons (pv 0) (pa_cons pe_int pa_nil))) pe_int) (fun _ _ => rfl)) (pv 1) (fun _ _ => rfl)))
      (pss_one (ps_ret (pe_slice sl_rowB (pv 3) (po_some (pe_op op_sub (pe_callB call_len_seq (by rfl) T.n_len (by decide +kernel) (pa_cons (pv 3) pa_nil)) (pe_op op_mul (pv 2) (pe_ix ix_rowB (pe_glob (v := .ref T.a_WORD_BITS) (by rfl) T.g_WORD_BITS rfl) (pe_op op_sub (pv 0) pe_int) (fun _ _ => rfl))))) po_none)))), ?_⟩
    obtain ⟨S, eS, lS, eR⟩ := shares_row hs hl
    obtain ⟨cs, hcs, c, hat, bs, hbs, lbs, hrow⟩ := tup3_at (i := min s0 2) (show tup3B K T.a_SHARES sharesD = true from T.l_SHARES) eS
    obtain ⟨xb, hX, hx⟩ := bit_at T hs
    have eb : bs[l]? = some (bs[l]'(by omega)) := List.getElem?_eq_getElem _
    generalize bs[l]'(by omega) = b at eb
    have hb : ∀ H, SqT K H b ((shF s0 l (mostW s0 l)).map vN) := fun H => by rw [vN_ints]; exact hrow l b _ eb eR H
    have ls : (shF s0 l (mostW s0 l)).length = mostW s0 l * bitsF s0 := shL_len _ _ _ _
    have m18 := most_18 hs hl
    have hwd := bits_wd hs
    have b8 : bitsF s0 ≤ 8 := by rcases hwd with h | h <;> omega
    have em : (if (3 : Int) < (s0 : Int) + 1 then (3 : Int) else (s0 : Int) + 1) - 1 = ((min s0 2 : Nat) : Int) := by
      split <;> omega
    refine ⟨_, rfl, _, _, rfl, _, _, rfl, rfl, T.a_SHARES, _, _, .ref c, false, rfl, rfl, hcs _, (by rw [em]; exact hat), ?_⟩
    refine ⟨_, rfl, c, _, _, .ref b, false, rfl, rfl, hbs _, atI_nat (by rw [List.getElem?_map, eb]; rfl), ?_⟩
    refine ⟨_, rfl, ?_⟩
    refine ⟨_, rfl, b, _, rfl, .inr (hb _), _, rfl, _, rfl, _, _, rfl, rfl, T.a_WORD_BITS, _, _, vN (bitsF s0), false, rfl, rfl, hX _, (by rw [show (s0 : Int) + 1 - 1 = (s0 : Int) + 1 - 1 from rfl]; exact hx), _, _, rfl, rfl, .inr ⟨by omega, by omega⟩, _, _, rfl, rfl, _, rfl, b, _, false, rfl, hb _, fun p H' sm hp => q p H' sm ?_⟩
    have le : ((((shF s0 l (mostW s0 l)).map vN).length : Nat) : Int) - (n : Int) * (bitsF s0 : Int) = (((mostW s0 l - n) * bitsF s0 : Nat) : Int) := by
      have h1 := Nat.sub_mul (mostW s0 l) n (bitsF s0)
      have h2 : n * bitsF s0 ≤ mostW s0 l * bitsF s0 := Nat.mul_le_mul_right _ hn
      rw [List.length_map, ls, h1, Int.ofNat_sub h2, Int.natCast_mul, Int.natCast_mul]
    have lk : (mostW s0 l - n) * bitsF s0 ≤ ((shF s0 l (mostW s0 l)).map vN).length := by
      rw [List.length_map, ls]
      exact Nat.mul_le_mul_right _ (Nat.sub_le _ _)
    have hp' : SqT K H' p (cutV ((shF s0 l (mostW s0 l)).map vN) (some (((((shF s0 l (mostW s0 l)).map vN).length : Nat) : Int) - (n : Int) * (bitsF s0 : Int))) none) := hp
    rw [le, cut_from _ _ lk, ← List.map_drop] at hp'
    have ed : (shF s0 l (mostW s0 l)).drop ((mostW s0 l - n) * bitsF s0) = shF s0 l n := by
      have z := shL_drop (bitsF s0) (startF s0 l) (ckF s0 l) n (mostW s0 l - n)
      rw [show n + (mostW s0 l - n) = mostW s0 l by omega] at z
      exact z
    rw [ed] at hp'
    exact hp'
/-! CUT -/
def ownsF (s l : Nat) : List Nat := (blkF s).map fun n => n - ckF s l
def sp_oc : Sp := fun vs H Q _ => ∃ s l : Nat, vs = [.int ((s : Int) + 1), vN l] ∧ s < 5 ∧ l < 4 ∧ ∀ D H', Same H H' → H D = none → H' D = some (.lst ((ownsF s l).map vN)) → Q (.ref D) H'
theorem ok_own_counts (T : Txt K mg) : FnOk P w K mg base CX0 1 T.f_own_counts T.d_own_counts ["size", "level"] sp_oc := by
  refine T.F_own_counts.ok sc_own_counts (fun vs H Q E h => ?_) (fun cdv A outer s H vs Q E hr h => ?_)
  · obtain ⟨s, l, rfl, _⟩ := h
    rfl
  · obtain ⟨s0, l, rfl, hs, hl, q⟩ := h
    refine ⟨_, (pss_cons (ps_set (i := 2) sc_own_counts.nd rfl (.inr rfl) (pe_ix ix_rowB (pe_ix ix_rowB (pe_glob (v := .ref T.a_CHECKS) (by rfl) T.g_CHECKS rfl) (pe_op op_sub (pv 0) pe_int) (fun _ _ => rfl)) (pv 1) (fun _ _ => rfl)))
      (pss_one (ps_ret (pe_lc (own := [("words", 3)]) rfl sc_own_counts.nd (pi_seqK (K := K) rfl (pe_ix (ix_rowBK (K := K) rfl) (pe_glob (v := .ref T.a_BLOCKS) (by rfl) T.g_BLOCKS rfl) (pe_op op_sub (pv 0) pe_int) (fun _ _ => rfl))) (blkOk_by (N := ["size", "level", "checks", "words"]) (sc := defScope s_own_counts) (by decide +kernel)) (fun _ _ _ _ _ => by exact (pg_name (i := 3) sc_own_counts.nd rfl (.inl rfl))) (fun _ _ _ _ _ => by exact pts_nil) (fun _ _ _ _ _ => by exact (pe_op op_sub (pv 3) (pv 2))))))), ?_⟩
    obtain ⟨c, hc, hC⟩ := chk_at T hs
    obtain ⟨b, hb, hB⟩ := blk_at T hs
    have one : (s0 : Int) + 1 - 1 = (s0 : Int) := by omega
    refine ⟨_, rfl, _, _, rfl, rfl, T.a_CHECKS, _, _, .ref c, false, rfl, rfl, T.l_CHECKS.sq (by show 5 ≤ 1000; decide), (by rw [one]; exact hc), ?_⟩
    refine ⟨_, rfl, c, _, _, vN (ckF s0 l), false, rfl, rfl, hC _, ck_at hs hl, ?_⟩
    refine ⟨_, rfl, _, _, rfl, rfl, T.a_BLOCKS, _, _, .ref b, false, rfl, rfl, T.l_BLOCKS.sq (by show 5 ≤ 1000; decide), (by rw [one]; exact hb), ?_⟩
    refine ⟨b, _, false, rfl, hB _, fun D hD => ?_⟩
    have ge := blk_ge hs hl
    refine lc_it (walk_seq (b := false) (K := K) (a := b) (xs := (blkF s0).map vN)) (fun i H' => Same H H' ∧ H' D = some (.lst (((ownsF s0 l).take i).map vN))) ⟨same_upd hD, upd_same⟩ (fun i H' _ h => hB _) ?_ ?_
    · rintro i v H2 H3 hi ⟨sm, gD⟩ ⟨rfl, e2⟩
      rw [List.length_map] at hi
      have e1 : (blkF s0)[i]? = some (blkF s0)[i] := List.getElem?_eq_getElem hi
      have hn := ge _ (List.getElem_mem hi)
      have l22 := blk_le3 hs
      generalize (blkF s0)[i] = n at e1 hn
      rw [List.getElem?_map, e1] at e2
      obtain rfl := (Option.some.inj e2).symm
      have eo : (ownsF s0 l)[i]? = some (n - ckF s0 l) := by
        unfold ownsF
        rw [List.getElem?_map, e1]
        rfl
      have ev : (fun i j : Int => V.int (i - j)) (n : Int) (ckF s0 l : Int) = vN (n - ckF s0 l) := congrArg V.int (by omega)
      refine ⟨rfl, ?_⟩
      refine ⟨_, rfl, _, rfl, _, _, rfl, rfl, _, gD, ?_, fun c o' hc => ?_, ?_⟩
      · rw [List.length_map, List.length_take]
        exact small1000 (by omega)
      · rw [upd_ne (ne_of_none hc hD)]
        exact sm _ _ hc
      · rw [upd_same, ev, List.take_add_one, eo, Option.toList_some, List.map_append]
        rfl
    · rintro H2 ⟨s2, g2⟩
      rw [List.take_of_length_le (by unfold ownsF; rw [List.length_map, List.length_map]; exact Nat.le_refl _)] at g2
      exact q D _ s2 hD g2
def sp_ct (K : PySem.W.Frag) : Sp := fun vs H Q _ => ∃ (s l : Nat) (a : Addr) (k : Bool) (ws : List Nat), vs = [.int ((s : Int) + 1), vN l, .ref a] ∧ s < 5 ∧ l < 4 ∧ SqB k K H a (ws.map vN) ∧ (∀ x ∈ ws, x < span (bitsF s)) ∧ ws.length ≤ mostW s l ∧ ∀ H', Same H H' → Q (vN (numF (bitsF s) (chF s l ws))) H'
theorem ok_checks_told (T : Txt K mg) : FnOk P w K mg base CX0 2 T.f_checks_told T.d_checks_told ["size", "level", "words"] (sp_ct K) := by
  refine T.F_checks_told.ok sc_checks_told (fun vs H Q E h => ?_) (fun cdv A outer s H vs Q E hr h => ?_)
  · obtain ⟨s, l, a, k, ws, rfl, _⟩ := h
    rfl
  · obtain ⟨s0, l, a, k, ws, rfl, hs, hl, hq, hw, hn, q⟩ := h
    refine ⟨_, (pss_cons (ps_set (i := 3) sc_checks_told.nd rfl (.inl rfl) pe_int)
      (pss_cons (ps_for PassesOwn.never rfl (pi_zipTL (K := K) rfl (by rfl) T.n_zip (pa_cons (pe_call (ok_shares_of T) (hr.mono (by decide)) (by rfl) T.g_shares_of T.F_shares_of.kp T.b_shares_of .nil pass0 (pa_cons (pv 0) (pa_cons (pv 1) (pa_cons (pe_callB call_len_seq (by rfl) T.n_len (by decide +kernel) (pa_cons (pv 2) pa_nil)) pa_nil)))) (pa_cons (pe_call (ok_words_as_bits T) (hr.mono (by decide)) (by rfl) T.g_words_as_bits T.F_words_as_bits.kp T.b_words_as_bits .nil pass0 (pa_cons (pv 2) (pa_cons (pe_ix ix_rowB (pe_glob (v := .ref T.a_WORD_BITS) (by rfl) T.g_WORD_BITS rfl) (pe_op op_sub (pv 0) pe_int) (fun _ _ => rfl)) pa_nil))) pa_nil))) (pg_tup rfl (pgs_cons (pg_name (i := 4) sc_checks_told.nd rfl (.inl rfl)) (pgs_cons (pg_name (i := 5) sc_checks_told.nd rfl (.inl rfl)) pgs_nil))) (pss_one (ps_if (pt_truth (pv 5) (by intro _; rfl)) (pss_one (ps_aug (i := 3) sc_checks_told.nd rfl (.inl rfl) (pv 4) (pip_of iop_xor))) pss_nil)))
      (pss_one (ps_ret (pv 3))))), ?_⟩
    obtain ⟨xb, hX, hx⟩ := bit_at T hs
    have hwd := bits_wd hs
    have m18 := most_18 hs hl
    refine ⟨_, rfl, _, rfl, _, rfl, a, _, rfl, hq.or, ?_⟩
    rw [List.length_map]
    refine ⟨s0, l, ws.length, rfl, hs, hl, hn, fun p H1 s1 g1 => ?_⟩
    refine ⟨_, rfl, _, rfl, _, _, rfl, rfl, T.a_WORD_BITS, _, _, vN (bitsF s0), false, rfl, rfl, hX _, hx, a, k, bitsF s0, ws, rfl, hwd, Same.sqb s1 hq, hw, by omega, fun D H2 s2 n2 g2 => ?_⟩
    have ls : (shF s0 l ws.length).length = ws.length * bitsF s0 := shL_len _ _ _ _
    have lb : (wordsB (bitsF s0) ws).length = ws.length * bitsF s0 := by rw [wordsB_len, Nat.mul_comm]
    have g3 : SqB false K H2 p ((shF s0 l ws.length).map vN) := Same.sqb s2 (b := false) g1
    have g4 : SqB true K H2 D ((wordsB (bitsF s0) ws).map vN) := .inl (.inl g2)
    have smA := s1.trans s2
    refine ⟨p, D, _, _, rfl, g3, g4, ?_⟩
    refine for_it (walk_zipB (n := ws.length * bitsF s0) (ka := false) (kb := true) (K := K) (a := p) (b := D) (xs := (shF s0 l ws.length).map vN) (ys := (wordsB (bitsF s0) ws).map vN) (by rw [List.length_map, List.length_map, ls, lb, Nat.min_self])) (fun i σ H' => ∃ z1 z2 : Option V, σ = [some (.int ((s0 : Int) + 1)), some (vN l), some (.ref a), some (vN (tellF 0 ((shF s0 l ws.length).take i) ((wordsB (bitsF s0) ws).take i))), z1, z2] ∧ Same H2 H') ⟨_, _, rfl, Same.refl _⟩ (fun i σ H' _ ⟨_, _, _, sm⟩ => ⟨Same.sqb sm g3, Same.sqb sm g4⟩) ?_ ?_
    · rintro i x σ H4 H5 hi ⟨z2, z3, rfl, sm⟩ ⟨T1, x1, y1, rfl, hT, rfl, e1, e2⟩
      have ex : (shF s0 l ws.length)[i]? = some ((shF s0 l ws.length)[i]'(by omega)) := List.getElem?_eq_getElem _
      have ey : (wordsB (bitsF s0) ws)[i]? = some ((wordsB (bitsF s0) ws)[i]'(by omega)) := List.getElem?_eq_getElem _
      generalize (shF s0 l ws.length)[i]'(by omega) = x at ex
      generalize (wordsB (bitsF s0) ws)[i]'(by omega) = y at ey
      replace e1 : ((shF s0 l ws.length).map vN)[i]? = some x1 := e1
      replace e2 : ((wordsB (bitsF s0) ws).map vN)[i]? = some y1 := e2
      rw [List.getElem?_map, ex] at e1
      rw [List.getElem?_map, ey] at e2
      obtain rfl := (Option.some.inj e1).symm
      obtain rfl := (Option.some.inj e2).symm
      have sT := same_upd (o := .tup [vN x, vN y]) hT
      have et : tellF 0 ((shF s0 l ws.length).take (i + 1)) ((wordsB (bitsF s0) ws).take (i + 1)) = if y = 0 then tellF 0 ((shF s0 l ws.length).take i) ((wordsB (bitsF s0) ws).take i) else tellF 0 ((shF s0 l ws.length).take i) ((wordsB (bitsF s0) ws).take i) ^^^ x := by
        rw [List.take_add_one, List.take_add_one, ex, ey]
        exact tell_snoc (by rw [List.length_take, List.length_take, ls, lb])
      refine ⟨T1, [_, _], rfl, .inl (.inl upd_same), rfl, _, [_], rfl, _, [], rfl, rfl, ?_⟩
      rcases Nat.eq_zero_or_pos y with e0 | e0
      · subst e0
        rw [if_pos rfl] at et
        refine ⟨_, rfl, false, rfl, iteF ?_⟩
        rw [et]
        exact ⟨_, _, rfl, sm.trans sT⟩
      · have ny : ¬ y = 0 := by omega
        rw [if_neg ny] at et
        refine ⟨_, rfl, true, ?_, iteT ?_⟩
        · show true = ((y : Int) != 0)
          rw [show ((y : Int) != 0) = true from by rw [bne_iff_ne]; omega]
        · refine ⟨_, rfl, _, rfl, _, _, rfl, rfl, ?_⟩
          rw [et]
          have ev : V.int (Builtin.bitXor ((tellF 0 ((shF s0 l ws.length).take i) ((wordsB (bitsF s0) ws).take i) : Nat) : Int) (x : Int)) = vN (tellF 0 ((shF s0 l ws.length).take i) ((wordsB (bitsF s0) ws).take i) ^^^ x) := congrArg V.int (bx _ _)
          rw [← ev]
          exact ⟨_, _, rfl, sm.trans sT⟩
    · rintro σ H4 ⟨z1, z2, rfl, sm⟩
      rw [List.take_of_length_le (by omega), List.take_of_length_le (by omega)]
      have ec : tellF 0 (shF s0 l ws.length) (wordsB (bitsF s0) ws) = numF (bitsF s0) (chF s0 l ws) := tell_chk hwd ws hw
      rw [ec]
      exact ⟨_, rfl, q _ (smA.trans sm)⟩
/-! CUT -/
def sp_nw : Sp := fun vs H Q _ => ∃ (b : Nat) (ws : List Nat), vs = [vN (numF b ws), vN ws.length, vN b] ∧ Wd b ∧ (∀ x ∈ ws, x < span b) ∧ ws.length ≤ 100 ∧ ∀ D H', Same H H' → H D = none → H' D = some (.lst (ws.map vN)) → Q (.ref D) H'
theorem and_last (b n : Nat) : Builtin.bitAnd (n : Int) ((2 ^ b - 1 : Nat) : Int) = ((n % 2 ^ b : Nat) : Int) := by
  have h := PyProof.Rows.bitAnd_pp (x := (n : Int)) (y := ((2 ^ b - 1 : Nat) : Int)) (by omega) (by omega)
  rw [h, Int.toNat_natCast, Int.toNat_natCast]
  show ((n &&& (2 ^ b - 1) : Nat) : Int) = _
  rw [Nat.and_two_pow_sub_one_eq_mod]
theorem ok_number_as_words (T : Txt K mg) : FnOk P w K mg base CX0 1 T.f_number_as_words T.d_number_as_words ["number", "many", "bits"] sp_nw := by
  refine T.F_number_as_words.ok sc_number_as_words (fun vs H Q E h => ?_) (fun cdv A outer s H vs Q E hr h => ?_)
  · obtain ⟨b, ws, rfl, _⟩ := h
    rfl
  · obtain ⟨b, ws, rfl, hb, hw, hl, q⟩ := h
    refine ⟨_, (pss_cons (ps_set (i := 3) sc_number_as_words.nd rfl (.inr rfl) (pe_op op_sub (pe_op op_shl pe_int (pv 2)) pe_int))
      (pss_one (ps_ret (pe_lc (own := [("place", 4)]) rfl sc_number_as_words.nd (pi_range3 (by rfl) T.n_range (pa_cons (pe_op op_sub (pv 1) pe_int) (pa_cons (pe_un un_neg pe_int) (pa_cons (pe_un un_neg pe_int) pa_nil)))) (blkOk_by (N := ["number", "many", "bits", "last", "place"]) (sc := defScope s_number_as_words) (by decide +kernel)) (fun _ _ _ _ _ => by exact (pg_name (i := 4) sc_number_as_words.nd rfl (.inl rfl))) (fun _ _ _ _ _ => by exact pts_nil) (fun _ _ _ _ _ => by exact (pe_op op_and (pe_op op_shr (pv 0) (pe_op op_mul (pv 2) (pv 4))) (pv 3))))))), ?_⟩
    have hs2 := span_two hb
    have b8 : b = 4 ∨ b = 8 := hb
    have el : V.int (1 * 2 ^ ((b : Int)).toNat - 1) = vN (2 ^ b - 1) := by rcases b8 with rfl | rfl <;> rfl
    refine ⟨_, rfl, _, _, rfl, rfl, ⟨by omega, by omega, by decide⟩, _, _, rfl, rfl, ?_⟩
    show gName 3 (V.int (1 * 2 ^ ((b : Int)).toNat - 1)) _ _ _
    rw [el]
    refine ⟨_, rfl, _, _, rfl, rfl, _, rfl, _, rfl, (ws.length : Int) - 1, -1, -1, ws.length, rfl, ?_, fun D hD => ?_⟩
    · have h := RgC.neg (i := (ws.length : Int) - 1) (j := -1) (by omega) (by omega) (by decide) (by decide)
      rw [show ((ws.length : Int) - 1 - -1).toNat = ws.length by omega] at h
      exact h
    refine lc_it (walk_rngC (lo := (ws.length : Int) - 1) (c := -1) (n := ws.length)) (fun i H' => Same H H' ∧ H' D = some (.lst ((ws.take i).map vN))) ⟨same_upd hD, upd_same⟩ (fun i H' _ h => trivial) ?_ ?_
    · rintro i v H1 H2 hi ⟨sm, gD⟩ ⟨rfl, rfl⟩
      have ei : ws[i]? = some (numF b ws / 2 ^ (b * (ws.length - 1 - i)) % 2 ^ b) := numF_at (fun x hx => by rw [← hs2]; exact hw x hx) hi
      have ev : V.int (Builtin.bitAnd ((numF b ws : Nat) / 2 ^ ((b : Int) * ((ws.length : Int) - 1 + (i : Nat) * -1)).toNat) ((2 ^ b - 1 : Nat) : Int)) = vN (numF b ws / 2 ^ (b * (ws.length - 1 - i)) % 2 ^ b) := by
        have et : ((b : Int) * ((ws.length : Int) - 1 + (i : Nat) * -1)).toNat = b * (ws.length - 1 - i) := by
          rw [show (ws.length : Int) - 1 + (i : Nat) * -1 = ((ws.length - 1 - i : Nat) : Int) by omega, ← Int.natCast_mul, Int.toNat_natCast]
        rw [et]
        have e : ((numF b ws : Nat) : Int) / 2 ^ (b * (ws.length - 1 - i)) = ((numF b ws / 2 ^ (b * (ws.length - 1 - i)) : Nat) : Int) := by
          rw [Int.natCast_ediv, Int.natCast_pow]
          rfl
        rw [e, and_last]
        rfl
      refine ⟨rfl, ?_⟩
      refine ⟨_, rfl, _, rfl, _, rfl, _, _, rfl, rfl, .inl ⟨by omega, by omega⟩, _, _, rfl, rfl, ?_, _, rfl, _, _, rfl, rfl, _, gD, ?_, fun c o' hc => ?_, ?_⟩
      · show (0 : Int) ≤ (b : Int) * ((ws.length : Int) - 1 + (i : Nat) * -1)
        exact Int.mul_nonneg (by omega) (by omega)
      · rw [List.length_map, List.length_take]
        exact small1000 (by omega)
      · rw [upd_ne (ne_of_none hc hD)]
        exact sm _ _ hc
      · rw [upd_same, List.take_add_one, ei, Option.toList_some, List.map_append, List.map_cons, ← ev]
        rfl
    · rintro H1 ⟨s1, g1⟩
      rw [List.take_length] at g1
      exact q D H1 s1 hD g1
def partF (ns ds : List Nat) : List (List Nat) := (List.range ns.length).map fun i => (ds.drop (ns.take i).sum).take (ns.getD i 0)
theorem cut_mid (xs : List V) (i n : Nat) (h : i + n ≤ xs.length) : cutV xs (some (i : Int)) (some ((i : Int) + (n : Int))) = (xs.drop i).take n := by
  unfold cutV
  rw [show (i : Int) + (n : Int) = ((i + n : Nat) : Int) by omega, HT.sIx_nat, HT.sIx_nat, Nat.min_eq_left h, Nat.min_eq_left (by omega)]
  rw [show i + n - i = n by omega]
theorem sum_take_le (ns : List Nat) (i : Nat) : (ns.take i).sum ≤ ns.sum := by
  have h := congrArg List.sum (List.take_append_drop i ns)
  rw [List.sum_append] at h
  omega
theorem sum_take_next {ns : List Nat} {i n : Nat} (h : ns[i]? = some n) : (ns.take (i + 1)).sum = (ns.take i).sum + n := by
  rw [List.take_add_one, h, Option.toList_some, List.sum_append]
  simp
def sp_pd (K : PySem.W.Frag) : Sp := fun vs H Q _ => ∃ (s l : Nat) (a : Addr) (k : Bool) (ds : List Nat), vs = [.int ((s : Int) + 1), vN l, .ref a] ∧ s < 5 ∧ l < 4 ∧ SqB k K H a (ds.map vN) ∧ ds.length = dataF s l ∧ ∀ D H', Fr H H' D (gridN (partF (ownsF s l) ds)) → Q (.ref D) H'
theorem ok_parted_data (T : Txt K mg) : FnOk P w K mg base CX0 2 T.f_parted_data T.d_parted_data ["size", "level", "data"] (sp_pd K) := by
  refine T.F_parted_data.ok sc_parted_data (fun vs H Q E h => ?_) (fun cdv A outer s H vs Q E hr h => ?_)
  · obtain ⟨s, l, a, k, ds, rfl, _⟩ := h
    rfl
  · obtain ⟨s0, l, a, k, ds, rfl, hs, hl, hq, hn, q⟩ := h
    refine ⟨_, (pss_cons (ps_set (i := 3) sc_parted_data.nd rfl (.inl rfl) (pe_lst pa_nil))
      (pss_cons (ps_set (i := 4) sc_parted_data.nd rfl (.inl rfl) pe_int)
      (pss_cons (ps_for PassesOwn.never rfl (pi_list (pe_call (ok_own_counts T) (hr.mono (by decide)) (by rfl) T.g_own_counts T.F_own_counts.kp T.b_own_counts .nil pass0 (pa_cons (pv 0) (pa_cons (pv 1) pa_nil)))) (pg_name (i := 5) sc_parted_data.nd rfl (.inl rfl)) (pss_cons (ps_expr (pe_bm PySem.F.plainAttrs_list PySem.F.slot_list_append PySem.F.type_list_append mt_append (pv 3) (pa_cons (pe_callTy call_list_of (by rfl) T.n_list (by decide +kernel) (pa_cons (pe_slice sl_rowB (pv 2) (po_some (pv 4)) (po_some (pe_op op_add (pv 4) (pv 5)))) pa_nil)) pa_nil)))
      (pss_one (ps_aug (i := 4) sc_parted_data.nd rfl (.inl rfl) (pv 5) ip_add))))
      (pss_one (ps_ret (pv 3)))))), ?_⟩
    refine ⟨(by show 0 ≤ sizeLine; decide), fun F hF => ?_⟩
    refine ⟨_, rfl, _, rfl, s0, l, rfl, hs, hl, fun b H1 s1 hb gb => ?_⟩
    have l22 := blk_le3 hs
    have lo : (ownsF s0 l).length = (blkF s0).length := by unfold ownsF; rw [List.length_map]
    have hF1 : H1 F = some (.lst []) := s1 _ _ upd_same
    refine ⟨b, rfl, ⟨_, .inl (.inl gb)⟩, ?_⟩
    refine for_it (walk_list (K := K) (a := b) (xs := (ownsF s0 l).map vN)) (fun i σ H' => ∃ (z : Option V) (M : List Addr), σ = [some (.int ((s0 : Int) + 1)), some (vN l), some (.ref a), some (.ref F), some (vN ((ownsF s0 l).take i).sum), z] ∧ FrI H H' F M (gridN (partF (ownsF s0 l) ds)) i ∧ H' b = some (.lst ((ownsF s0 l).map vN))) ⟨_, [], rfl, (FrI.start hF).ext s1, gb⟩ (fun i σ H' _ ⟨_, _, _, _, g⟩ => .inl (.inl g)) ?_ ?_
    · rintro i x σ H2 H3 hi ⟨z, M, rfl, FI, g2⟩ ⟨rfl, e2⟩
      rw [List.length_map] at hi
      have en : (ownsF s0 l)[i]? = some ((ownsF s0 l)[i]'hi) := List.getElem?_eq_getElem hi
      generalize (ownsF s0 l)[i]'hi = n at en
      rw [List.getElem?_map, en] at e2
      obtain rfl := (Option.some.inj e2).symm
      have es := sum_take_next en
      have le := sum_take_le (ownsF s0 l) (i + 1)
      have et : dataF s0 l = (ownsF s0 l).sum := rfl
      have lc : ((ownsF s0 l).take i).sum + n ≤ (ds.map vN).length := by rw [List.length_map]; omega
      have ec := cut_mid (ds.map vN) _ _ lc
      refine ⟨_, rfl, .inl ⟨rfl, _, .inl (.inl FI.out)⟩, ?_⟩
      refine ⟨_, rfl, _, rfl, _, rfl, _, rfl, _, rfl, _, _, rfl, rfl, _, rfl, a, _, k, rfl, Same.sqb FI.same hq, fun p H4 s4 h4 => ?_⟩
      refine ⟨p, _, rfl, SqB.or h4, fun c hc => ?_⟩
      refine ⟨F, _, _, rfl, rfl, (same_upd hc) _ _ (s4 _ _ FI.out), ?_, ?_⟩
      · rw [List.length_map, FI.len]
        exact small1000 (by omega)
      have sc := s4.trans (same_upd (o := .lst (cutV (ds.map vN) (some (((ownsF s0 l).take i).sum : Nat)) (some ((((ownsF s0 l).take i).sum : Nat) + (n : Int))))) hc)
      have nb : b ≠ F := fun z => by rw [z, upd_same] at hb; cases hb
      have ep : (gridN (partF (ownsF s0 l) ds))[i]? = some (ofN ((ds.drop ((ownsF s0 l).take i).sum).take n)) := by
        unfold gridN partF
        rw [List.map_map, List.getElem?_map, List.getElem?_range hi]
        show some (ofN ((ds.drop ((ownsF s0 l).take i).sum).take ((ownsF s0 l).getD i 0))) = _
        rw [List.getD_eq_getElem?_getD, en]
        rfl
      refine ⟨_, rfl, _, rfl, _, _, rfl, rfl, some (vN n), M ++ [c], ?_, FI.step (c := c) hF ep sc (Same.free s4 hc) ?_, ?_⟩
      · rw [es]
        rfl
      · rw [upd_same, ec, ofN_v, ← List.map_drop, ← List.map_take]
      · rw [upd_ne nb]
        exact sc _ _ g2
    · rintro σ H4 ⟨z, M, rfl, FI, g4⟩
      rw [List.length_map] at FI
      have e : (gridN (partF (ownsF s0 l) ds)).length = (ownsF s0 l).length := by unfold gridN partF; rw [List.length_map, List.length_map, List.length_range]
      exact ⟨_, rfl, q F H4 ⟨hF, M, by rw [e]; exact FI⟩⟩
/-! CUT -/
def rightF (s l : Nat) (ds : List Nat) : List (List Nat) := (partF (ownsF s l) ds).map fun ws => ws ++ chF s l ws
theorem owns_len (s l : Nat) : (ownsF s l).length = (blkF s).length := by
  unfold ownsF
  rw [List.length_map]
theorem prow_at {s l i : Nat} {ds : List Nat} (hs : s < 5) (hl : l < 4) (hn : ds.length = dataF s l) (hi : i < (blkF s).length) : ∃ r n, (partF (ownsF s l) ds)[i]? = some r ∧ (blkF s)[i]? = some n ∧ r.length = n - ckF s l ∧ ckF s l < n ∧ n ≤ 22 ∧ r.length ≤ mostW s l ∧ ∀ x ∈ r, x ∈ ds := by
  have eb : (blkF s)[i]? = some (blkF s)[i] := List.getElem?_eq_getElem hi
  have hb := blk_ge hs hl _ (List.getElem_mem hi)
  have hm := own_most hs hl _ (List.getElem_mem hi)
  generalize (blkF s)[i] = n at eb hb hm
  have en : (ownsF s l)[i]? = some (n - ckF s l) := by
    unfold ownsF
    rw [List.getElem?_map, eb]
    rfl
  have es := sum_take_next en
  have le := sum_take_le (ownsF s l) (i + 1)
  have et : dataF s l = (ownsF s l).sum := rfl
  have lr : ((ds.drop ((ownsF s l).take i).sum).take (n - ckF s l)).length = n - ckF s l := by
    rw [List.length_take, List.length_drop]
    omega
  refine ⟨(ds.drop ((ownsF s l).take i).sum).take (n - ckF s l), n, ?_, eb, lr, hb.1, hb.2, by rw [lr]; exact hm, fun x hx => List.mem_of_mem_drop (List.mem_of_mem_take hx)⟩
  unfold partF
  rw [List.getElem?_map, List.getElem?_range (by rw [owns_len]; exact hi)]
  show some ((ds.drop ((ownsF s l).take i).sum).take ((ownsF s l).getD i 0)) = _
  rw [List.getD_eq_getElem?_getD, en]
  rfl
theorem prow_len (s l : Nat) (ds : List Nat) : (partF (ownsF s l) ds).length = (blkF s).length := by
  unfold partF
  rw [List.length_map, List.length_range, owns_len]
theorem chF_len {s l : Nat} (hs : s < 5) (ws : List Nat) : (chF s l ws).length = ckF s l := chk_len (bits_wd hs)
theorem chF_ws {s l : Nat} (hs : s < 5) {ws : List Nat} (hw : ∀ x ∈ ws, x < span (bitsF s)) : ∀ x ∈ chF s l ws, x < span (bitsF s) := chk_ws (bits_wd hs) hw
def sp_rb (K : PySem.W.Frag) : Sp := fun vs H Q _ => ∃ (s l : Nat) (a : Addr) (k : Bool) (ds : List Nat), vs = [.int ((s : Int) + 1), vN l, .ref a] ∧ s < 5 ∧ l < 4 ∧ SqB k K H a (ds.map vN) ∧ (∀ x ∈ ds, x < span (bitsF s)) ∧ ds.length = dataF s l ∧ ∀ D H', Fr H H' D (gridN (rightF s l ds)) → Q (.ref D) H'
theorem ok_right_blocks (T : Txt K mg) : FnOk P w K mg base CX0 3 T.f_right_blocks T.d_right_blocks ["size", "level", "data"] (sp_rb K) := by
  refine T.F_right_blocks.ok sc_right_blocks (fun vs H Q E h => ?_) (fun cdv A outer s H vs Q E hr h => ?_)
  · obtain ⟨s, l, a, k, ds, rfl, _⟩ := h
    rfl
  · obtain ⟨s0, l, a, k, ds, rfl, hs, hl, hq, hw, hn, q⟩ := h
    refine ⟨_, (pss_cons (ps_set (i := 3) sc_right_blocks.nd rfl (.inr rfl) (pe_ix ix_rowB (pe_ix ix_rowB (pe_glob (v := .ref T.a_CHECKS) (by rfl) T.g_CHECKS rfl) (pe_op op_sub (pv 0) pe_int) (fun _ _ => rfl)) (pv 1) (fun _ _ => rfl)))
      (pss_cons (ps_set (i := 4) sc_right_blocks.nd rfl (.inr rfl) (pe_ix ix_rowB (pe_glob (v := .ref T.a_WORD_BITS) (by rfl) T.g_WORD_BITS rfl) (pe_op op_sub (pv 0) pe_int) (fun _ _ => rfl)))
      (pss_one (ps_ret (pe_lc (own := [("words", 5)]) rfl sc_right_blocks.nd (pi_list (pe_call (ok_parted_data T) (hr.mono (by decide)) (by rfl) T.g_parted_data T.F_parted_data.kp T.b_parted_data .nil pass0 (pa_cons (pv 0) (pa_cons (pv 1) (pa_cons (pv 2) pa_nil))))) (blkOk_by (N := ["size", "level", "data", "checks", "bits", "words"]) (sc := defScope s_right_blocks) (by decide +kernel)) (fun _ _ _ _ _ => by exact (pg_name (i := 5) sc_right_blocks.nd rfl (.inl rfl))) (fun _ _ _ _ _ => by exact pts_nil) (fun _ _ _ _ _ => by exact (pe_op op_cat (pv 5) (pe_call (ok_number_as_words T) (hr.mono (by decide)) (by rfl) T.g_number_as_words T.F_number_as_words.kp T.b_number_as_words .nil pass0 (pa_cons (pe_call (ok_checks_told T) (hr.mono (by decide)) (by rfl) T.g_checks_told T.F_checks_told.kp T.b_checks_told .nil pass0 (pa_cons (pv 0) (pa_cons (pv 1) (pa_cons (pv 5) pa_nil)))) (pa_cons (pv 3) (pa_cons (pv 4) pa_nil))))))))))), ?_⟩
    obtain ⟨c, hc, hC⟩ := chk_at T hs
    obtain ⟨xb, hX, hx⟩ := bit_at T hs
    have hwd := bits_wd hs
    have one : (s0 : Int) + 1 - 1 = (s0 : Int) := by omega
    refine ⟨_, rfl, _, _, rfl, rfl, T.a_CHECKS, _, _, .ref c, false, rfl, rfl, T.l_CHECKS.sq (by show 5 ≤ 1000; decide), (by rw [one]; exact hc), ?_⟩
    refine ⟨_, rfl, c, _, _, vN (ckF s0 l), false, rfl, rfl, hC _, ck_at hs hl, ?_⟩
    refine ⟨_, rfl, _, _, rfl, rfl, T.a_WORD_BITS, _, _, vN (bitsF s0), false, rfl, rfl, hX _, hx, ?_⟩
    refine ⟨_, rfl, _, rfl, _, rfl, s0, l, a, k, ds, rfl, hs, hl, hq, hn, fun P1 H1 F1 => ?_⟩
    have hs1 := F1.same0
    obtain ⟨hP, L, FP⟩ := id F1
    refine ⟨P1, rfl, ⟨_, .inl (.inl FP.out)⟩, fun D hD => ?_⟩
    have lL : L.length = (blkF s0).length := by
      rw [FP.len]
      unfold gridN
      rw [List.length_map, prow_len]
    have l3 := blk_le3 hs
    refine lc_it (walk_list (K := K) (a := P1) (xs := L.map V.ref)) (fun i H' => ∃ M, FrI H1 H' D M (gridN (rightF s0 l ds)) i) ⟨[], FrI.start hD⟩ (fun i H' _ ⟨M, h⟩ => .inl (.inl (h.same _ _ FP.out))) ?_ ?_
    · rintro i v H0 H2 hi ⟨M, FI⟩ ⟨rfl, e2⟩
      rw [List.length_map, lL] at hi
      have eA : L[i]? = some (L[i]'(by omega)) := List.getElem?_eq_getElem _
      generalize L[i]'(by omega) = la at eA
      rw [List.getElem?_map, eA] at e2
      obtain rfl := (Option.some.inj e2).symm
      obtain ⟨r, n, er, eb, lr, b1, b2, hm, hin⟩ := prow_at hs hl hn hi
      have hwr : ∀ x ∈ r, x < span (bitsF s0) := fun x hx => hw x (hin x hx)
      obtain ⟨f1, f2, f3⟩ := FP.row i la (ofN r) eA (by unfold gridN; rw [List.getElem?_map, er]; rfl)
      rw [ofN_v] at f3
      have f4 : SqB true K H2 la (r.map vN) := .inl (.inl (FI.same _ _ f3))
      refine ⟨rfl, ?_⟩
      refine ⟨_, rfl, _, rfl, _, rfl, _, rfl, s0, l, la, true, r, rfl, hs, hl, f4, hwr, hm, fun H3 s3 => ?_⟩
      refine ⟨_, rfl, _, rfl, bitsF s0, chF s0 l r, (by rw [chF_len hs]; rfl), hwd, chF_ws hs hwr, ?_, fun p H4 s4 n4 g4 => ?_⟩
      · rw [chF_len hs]
        omega
      have lc := chF_len (l := l) hs r
      refine ⟨la, p, _, _, rfl, rfl, (s3.trans s4) _ _ (FI.same _ _ f3), g4, ?_, fun c hc => ?_⟩
      · rw [List.length_map, List.length_map, lc]
        exact Nat.le_of_lt (small1000 (by omega))
      have sc := (s3.trans s4).trans (same_upd (o := .lst (r.map vN ++ (chF s0 l r).map vN)) hc)
      have er2 : (gridN (rightF s0 l ds))[i]? = some (ofN (r ++ chF s0 l r)) := by
        unfold gridN rightF
        rw [List.getElem?_map, List.getElem?_map, er]
        rfl
      refine ⟨_, sc _ _ FI.out, ?_, M ++ [c], FI.step (c := c) hD er2 sc (Same.free (s3.trans s4) hc) ?_⟩
      · rw [List.length_map, FI.len]
        exact small1000 (by omega)
      · rw [upd_same, ofN_v, List.map_append]
    · rintro H2 ⟨M, FI⟩
      rw [List.length_map, lL] at FI
      have e : (gridN (rightF s0 l ds)).length = (blkF s0).length := by unfold gridN rightF; rw [List.length_map, List.length_map, prow_len]
      exact q D H2 (Fr.back ⟨hD, M, by rw [e]; exact FI⟩ hs1)
/-! CUT -/
theorem right_ok {s l : Nat} {ds : List Nat} (hs : s < 5) (hl : l < 4) (hn : ds.length = dataF s l) (hw : ∀ x ∈ ds, x < span (bitsF s)) : RowsOk s (rightF s l ds) := by
  refine ⟨List.ext_getElem? fun i => ?_, fun r hr x hx => ?_⟩
  · by_cases hi : i < (blkF s).length
    · obtain ⟨r, n, er, eb, lr, b1, b2, _, _⟩ := prow_at hs hl hn hi
      unfold rightF
      rw [List.map_map, List.getElem?_map, er, eb]
      refine congrArg some ?_
      show (r ++ chF s l r).length = n
      rw [List.length_append, chF_len hs]
      omega
    · rw [List.getElem?_eq_none (by unfold rightF; rw [List.length_map, List.length_map, prow_len]; omega), List.getElem?_eq_none (by omega)]
  · obtain ⟨p, hp, rfl⟩ := List.mem_map.mp hr
    obtain ⟨i, hi, e⟩ := List.getElem_of_mem hp
    rw [prow_len] at hi
    obtain ⟨r, n, er, eb, lr, b1, b2, _, hin⟩ := prow_at hs hl hn hi
    rw [List.getElem?_eq_getElem (by rw [prow_len]; exact hi), e] at er
    obtain rfl := (Option.some.inj er).symm
    have hwr : ∀ x ∈ r, x < span (bitsF s) := fun x hx => hw x (hin x hx)
    rcases List.mem_append.mp hx with h | h
    · exact hwr x h
    · exact chF_ws hs hwr x h
def sp_nd (K : PySem.W.Frag) : Sp := fun vs H Q _ => ∃ (s l : Nat) (a : Addr) (k : Bool) (ds : List Nat), vs = [.int ((s : Int) + 1), vN l, .ref a] ∧ s < 5 ∧ l < 4 ∧ SqB k K H a (ds.map vN) ∧ (∀ x ∈ ds, x < span (bitsF s)) ∧ ds.length = dataF s l ∧ ∀ H', Same H H' → Q .non H'
theorem ok_need_data (T : Txt K mg) : FnOk P w K mg base CX0 5 T.f_need_data T.d_need_data ["size", "level", "data"] (sp_nd K) := by
  refine T.F_need_data.ok sc_need_data (fun vs H Q E h => ?_) (fun cdv A outer s H vs Q E hr h => ?_)
  · obtain ⟨s, l, a, k, ds, rfl, _⟩ := h
    rfl
  · obtain ⟨s0, l, a, k, ds, rfl, hs, hl, hq, hw, hn, q⟩ := h
    refine ⟨_, (pss_cons (ps_if (PW.pt (pw_or (pt_not (pt_val (pe_call (ok_is_row T) (hr.mono (by decide)) (by rfl) T.g_is_row T.F_is_row.kp T.b_is_row .nil pass0 (pa_cons (pv 2) pa_nil)))) (pw_or1 (pt_cmpR op_ne (pe_callB call_len_seq (by rfl) T.n_len (by decide +kernel) (pa_cons (pv 2) pa_nil)) (pe_call (ok_data_count T) (hr.mono (by decide)) (by rfl) T.g_data_count T.F_data_count.kp T.b_data_count .nil pass0 (pa_cons (pv 0) (pa_cons (pv 1) pa_nil))) (nomark _))))) (pss_one ps_never) pss_nil)
      (pss_one (ps_expr (pe_call (ok_need_words T) (hr.mono (by decide)) (by rfl) T.g_need_words T.F_need_words.kp T.b_need_words .nil pass0 (pa_cons (pe_ix ix_rowB (pe_glob (v := .ref T.a_WORD_BITS) (by rfl) T.g_WORD_BITS rfl) (pe_op op_sub (pv 0) pe_int) (fun _ _ => rfl)) (pa_cons pe_str (pa_cons (pv 2) pa_nil))))))), ?_⟩
    obtain ⟨xb, hX, hx⟩ := bit_at T hs
    have hwd := bits_wd hs
    have lq : ((ds.map vN).length : Int) = (dataF s0 l : Nat) := by rw [List.length_map, hn]
    refine ⟨_, rfl, a, k, _, rfl, hq, fun H1 s1 => ⟨true, rfl, iteF ⟨_, rfl, a, _, rfl, (Same.sqb s1 hq).or, ?_⟩⟩⟩
    rw [lq]
    refine ⟨_, rfl, _, rfl, s0, l, rfl, hs, hl, fun H2 s2 => ?_⟩
    refine ⟨rfl, ?_⟩
    rw [show (!decide (V.int ((dataF s0 l : Nat) : Int) = vN (dataF s0 l))) = false from by simp [vN]]
    refine ⟨false, rfl, iteF ?_⟩
    exact ⟨_, rfl, _, _, rfl, rfl, T.a_WORD_BITS, _, _, vN (bitsF s0), false, rfl, rfl, hX _, hx, _, rfl, bitsF s0, _, a, k, ds, rfl, hwd, Same.sqb (s1.trans s2) hq, hw, fun H3 s3 => q H3 ((s1.trans s2).trans s3)⟩
def sp_wd (K : PySem.W.Frag) : Sp := fun vs H Q _ => ∃ (s l : Nat) (a : Addr) (k : Bool) (ds : List Nat), vs = [.int ((s : Int) + 1), vN l, .ref a] ∧ s < 5 ∧ l < 4 ∧ SqB k K H a (ds.map vN) ∧ (∀ x ∈ ds, x < span (bitsF s)) ∧ ds.length = dataF s l ∧ ∀ D H', Same H H' → H D = none → H' D = some (.lst ((dueF s l (rightF s l ds)).map vN)) → Q (.ref D) H'
theorem ok_words_of_data (T : Txt K mg) : FnOk P w K mg base CX0 6 T.f_words_of_data T.d_words_of_data ["size", "level", "data"] (sp_wd K) := by
  refine T.F_words_of_data.ok sc_words_of_data (fun vs H Q E h => ?_) (fun cdv A outer s H vs Q E hr h => ?_)
  · obtain ⟨s, l, a, k, ds, rfl, _⟩ := h
    rfl
  · obtain ⟨s0, l, a, k, ds, rfl, hs, hl, hq, hw, hn, q⟩ := h
    refine ⟨_, (pss_one (ps_ret (pe_call (ok_dealt_words T) (hr.mono (by decide)) (by rfl) T.g_dealt_words T.F_dealt_words.kp T.b_dealt_words .nil pass0 (pa_cons (pv 0) (pa_cons (pv 1) (pa_cons (pe_call (ok_right_blocks T) (hr.mono (by decide)) (by rfl) T.g_right_blocks T.F_right_blocks.kp T.b_right_blocks .nil pass0 (pa_cons (pv 0) (pa_cons (pv 1) (pa_cons (pv 2) pa_nil)))) pa_nil)))))), ?_⟩
    refine ⟨_, rfl, _, rfl, _, rfl, _, rfl, _, rfl, s0, l, a, k, ds, rfl, hs, hl, hq, hw, hn, fun P1 H1 F1 => ?_⟩
    exact ⟨s0, l, P1, true, rightF s0 l ds, rfl, hs, hl, F1.gr, right_ok hs hl hn hw, fun D H2 s2 n2 g2 => q D H2 (F1.same0.trans s2) (Same.free F1.same0 n2) g2⟩
/-- the grid of the symbol with these data words -/
def symF (s l m : Nat) (ds : List Nat) : Grid := drawF s l m (dueF s l (rightF s l ds))
def sp_sy (K : PySem.W.Frag) : Sp := fun vs H Q _ => ∃ (s l m : Nat) (a : Addr) (k : Bool) (ds : List Nat), vs = [.int ((s : Int) + 1), vN l, vN m, .ref a] ∧ s < 5 ∧ l < 4 ∧ m < 8 ∧ SqB k K H a (ds.map vN) ∧ (∀ x ∈ ds, x < span (bitsF s)) ∧ ds.length = dataF s l ∧ ∀ D H', Fr H H' D (symF s l m ds) → Q (.ref D) H'
theorem ok_symbol_of (T : Txt K mg) : FnOk P w K mg base CX0 7 T.f_symbol_of T.d_symbol_of ["size", "level", "mask", "data"] (sp_sy K) := by
  refine T.F_symbol_of.ok sc_symbol_of (fun vs H Q E h => ?_) (fun cdv A outer s H vs Q E hr h => ?_)
  · obtain ⟨s, l, m, a, k, ds, rfl, _⟩ := h
    rfl
  · obtain ⟨s0, l, m, a, k, ds, rfl, hs, hl, hm, hq, hw, hn, q⟩ := h
    refine ⟨_, (pss_cons (ps_expr (pe_call (ok_need_size T) (hr.mono (by decide)) (by rfl) T.g_need_size T.F_need_size.kp T.b_need_size .nil pass0 (pa_cons (pv 0) pa_nil)))
      (pss_cons (ps_expr (pe_call (ok_need_level T) (hr.mono (by decide)) (by rfl) T.g_need_level T.F_need_level.kp T.b_need_level .nil pass0 (pa_cons (pv 1) pa_nil)))
      (pss_cons (ps_expr (pe_call (ok_need_mask T) (hr.mono (by decide)) (by rfl) T.g_need_mask T.F_need_mask.kp T.b_need_mask .nil pass0 (pa_cons (pv 2) pa_nil)))
      (pss_cons (ps_expr (pe_call (ok_need_data T) (hr.mono (by decide)) (by rfl) T.g_need_data T.F_need_data.kp T.b_need_data .nil pass0 (pa_cons (pv 0) (pa_cons (pv 1) (pa_cons (pv 3) pa_nil)))))
      (pss_one (ps_ret (pe_call (ok_drawn_grid T) (hr.mono (by decide)) (by rfl) T.g_drawn_grid T.F_drawn_grid.kp T.b_drawn_grid .nil pass0 (pa_cons (pv 0) (pa_cons (pv 1) (pa_cons (pv 2) (pa_cons (pe_call (ok_words_of_data T) (hr.mono (by decide)) (by rfl) T.g_words_of_data T.F_words_of_data.kp T.b_words_of_data .nil pass0 (pa_cons (pv 0) (pa_cons (pv 1) (pa_cons (pv 3) pa_nil)))) pa_nil))))))))))), ?_⟩
    refine ⟨_, rfl, s0, rfl, hs, _, rfl, l, rfl, hl, _, rfl, m, rfl, hm, ?_⟩
    refine ⟨_, rfl, _, rfl, _, rfl, s0, l, a, k, ds, rfl, hs, hl, hq, hw, hn, fun H1 s1 => ?_⟩
    refine ⟨_, rfl, _, rfl, _, rfl, _, rfl, _, rfl, _, rfl, s0, l, a, k, ds, rfl, hs, hl, Same.sqb s1 hq, hw, hn, fun D H2 s2 n2 g2 => ?_⟩
    exact ⟨s0, l, m, D, true, _, rfl, hs, hl, hm, .inl (.inl g2), fun x hx => due_words hs hl (right_ok hs hl hn hw) hx, due_len _ _ _, fun D2 H3 F => q D2 H3 (F.back (s1.trans s2))⟩
/-! CUT -/
/-! ### the law's defs -/
def sp_mix : Sp := fun vs H Q _ => ∃ a l : Int, vs = [.int a, .int l] ∧ ∀ n : Int, Q (.int n) H
theorem ok__law_mix (T : Txt K mg) : FnOk P w K mg base CX0 1 T.f__law_mix T.d__law_mix ["_law_cell", "_law_lap"] sp_mix := by
  refine T.F__law_mix.ok sc__law_mix (fun vs H Q E h => ?_) (fun cdv A outer s H vs Q E hr h => ?_)
  · obtain ⟨a, l, rfl, _⟩ := h
    rfl
  · obtain ⟨a, l, rfl, q⟩ := h
    refine ⟨_, (pss_cons (ps_set (i := 2) sc__law_mix.nd rfl (.inl rfl) (pe_op op_add (pe_op op_add (pe_op op_add (pe_op op_mod (pe_callTy call_int1 (by rfl) T.n_int (by decide +kernel) (pa_cons (pv 0) pa_nil)) pe_int) (pe_op op_mul pe_int (pv 1))) (pe_op op_mod (pe_callTy call_int1 (by rfl) T.n_int (by decide +kernel) (pa_cons (pe_op op_fdivW (pv 0) pe_int) pa_nil)) pe_int)) pe_int))
      (pss_cons (ps_set (i := 2) sc__law_mix.nd rfl (.inl rfl) (pe_op op_mod (pe_callTy call_int1 (by rfl) T.n_int (by decide +kernel) (pa_cons (pe_op op_mul (pv 2) pe_int) pa_nil)) pe_int))
      (pss_cons (ps_set (i := 2) sc__law_mix.nd rfl (.inl rfl) (pe_op op_mod (pe_callTy call_int1 (by rfl) T.n_int (by decide +kernel) (pa_cons (pe_op op_mul (pv 2) (pe_op op_add (pe_op op_add (pe_op op_fdiv (pv 2) pe_int) pe_int) (pv 1))) pa_nil)) pe_int))
      (pss_one (ps_ret (pe_op op_mod (pe_callTy call_int1 (by rfl) T.n_int (by decide +kernel) (pa_cons (pe_op op_mul (pv 2) (pe_op op_add (pe_op op_fdiv (pv 2) pe_int) pe_int)) pa_nil)) pe_int)))))), ?_⟩
    refine ⟨_, rfl, .inl ⟨_, rfl, _, _, rfl, rfl, (show (0 : Int) < 2147483629 by decide), ?_⟩⟩
    refine ⟨_, rfl, _, _, rfl, rfl, .inl ⟨by decide, by decide⟩, _, _, rfl, rfl, ?_⟩
    refine ⟨_, rfl, _, _, rfl, rfl, ⟨by decide, by decide⟩, .inl ⟨_, rfl, _, _, rfl, rfl, (show (0 : Int) < 1000003 by decide), _, _, rfl, rfl, _, _, rfl, rfl, ?_⟩⟩
    generalize a % 2147483629 + 52391 * l + a / 2147483629 % 1000003 + 1 = x
    refine ⟨_, rfl, _, _, rfl, rfl, .inr ⟨by decide, by decide⟩, .inl ⟨_, rfl, _, _, rfl, rfl, (show (0 : Int) < 2147483629 by decide), ?_⟩⟩
    have y0 := Int.emod_nonneg (x * 48271) (show (2147483629 : Int) ≠ 0 by decide)
    have y1 := Int.emod_lt_of_pos (x * 48271) (show (0 : Int) < 2147483629 by decide)
    generalize x * 48271 % 2147483629 = y at y0 y1
    refine ⟨_, rfl, _, rfl, _, _, rfl, rfl, ⟨by decide, by decide⟩, _, _, rfl, rfl, _, rfl, _, _, rfl, rfl, _, _, rfl, rfl, .inl ⟨by omega, by omega⟩, .inl ⟨_, rfl, _, _, rfl, rfl, (show (0 : Int) < 2147483587 by decide), ?_⟩⟩
    have z0 := Int.emod_nonneg (y * (y / 1021 + 65539 + l)) (show (2147483587 : Int) ≠ 0 by decide)
    have z1 := Int.emod_lt_of_pos (y * (y / 1021 + 65539 + l)) (show (0 : Int) < 2147483587 by decide)
    generalize y * (y / 1021 + 65539 + l) % 2147483587 = z at z0 z1
    exact ⟨_, rfl, _, rfl, _, _, rfl, rfl, ⟨by decide, by decide⟩, _, _, rfl, rfl, _, _, rfl, rfl, .inl ⟨by omega, by omega⟩, .inl ⟨_, rfl, _, _, rfl, rfl, (show (0 : Int) < 2147483563 by decide), q _⟩⟩
def WellL (a b c : Int) : HO := .lst [.int a, .int b, .int c]
def sp_draw : Sp := fun vs H Q _ => ∃ (p : Addr) (a b c m : Int), vs = [.ref p, .int m] ∧ H p = some (WellL a b c) ∧ 0 < m ∧ m < 1073741824 ∧ ∀ n a' c' : Int, 0 ≤ n → n < m → Q (.int n) (upd H p (WellL a' b c'))
theorem ok__law_draw (T : Txt K mg) : FnOk P w K mg base CX0 2 T.f__law_draw T.d__law_draw ["_law_well", "_law_many"] sp_draw := by
  refine T.F__law_draw.ok sc__law_draw (fun vs H Q E h => ?_) (fun cdv A outer s H vs Q E hr h => ?_)
  · obtain ⟨p, a, b, c, m, rfl, _⟩ := h
    rfl
  · obtain ⟨p, a, b, c, m, rfl, hp, m0, m1, q⟩ := h
    refine ⟨_, (pss_cons (ps_if (pt_cmpR op_gt (pe_ix ix_list (pv 0) pe_int (fun _ _ => rfl)) pe_int (nomark _)) (pss_cons (ps_set (i := 2) sc__law_draw.nd rfl (.inl rfl) (pe_op op_mod (pe_callTy call_int1 (by rfl) T.n_int (by decide +kernel) (pa_cons (pe_ix ix_list (pv 0) pe_int (fun _ _ => rfl)) pa_nil)) (pv 1)))
      (pss_cons (ps_asg (pe_op op_fdiv (pe_ix ix_list (pv 0) pe_int (fun _ _ => rfl)) (pv 1)) (pg_sub (pv 0) pe_int set_list))
      (pss_one (ps_ret (pv 2))))) pss_nil)
      (pss_cons (ps_asg (pe_op op_add (pe_ix ix_list (pv 0) pe_int (fun _ _ => rfl)) pe_int) (pg_sub (pv 0) pe_int set_list))
      (pss_one (ps_ret (pe_op op_mod (pe_callTy call_int1 (by rfl) T.n_int (by decide +kernel) (pa_cons (pe_call (ok__law_mix T) (hr.mono (by decide)) (by rfl) T.g__law_mix T.F__law_mix.kp T.b__law_mix .nil pass0 (pa_cons (pe_ix ix_list (pv 0) pe_int (fun _ _ => rfl)) (pa_cons (pe_ix ix_list (pv 0) pe_int (fun _ _ => rfl)) pa_nil))) pa_nil)) (pv 1)))))), ?_⟩
    have hw : ∀ {H' : Hp} {xs : List V}, H' p = some (.lst xs) → SqL K H' p xs := fun h => .inl (.inl h)
    refine ⟨_, rfl, p, _, 0, _, rfl, rfl, hw hp, rfl, _, _, rfl, rfl, _, rfl, ?_⟩
    refine ite2 (fun cc => ?_) (fun cc => ?_)
    · refine ⟨_, rfl, p, _, 0, _, rfl, rfl, hw hp, rfl, .inl ⟨_, rfl, _, rfl, _, _, rfl, rfl, m0, ?_⟩⟩
      refine ⟨_, rfl, p, _, 0, _, rfl, rfl, hw hp, rfl, _, rfl, _, _, rfl, rfl, ⟨m0, m1⟩, ?_⟩
      refine ⟨_, rfl, p, _, 0, 0, rfl, rfl, hp, rfl, ?_⟩
      exact ⟨_, rfl, q _ _ _ (Int.emod_nonneg _ (by omega)) (Int.emod_lt_of_pos _ m0)⟩
    · refine ⟨_, rfl, p, _, 2, _, rfl, rfl, hw hp, rfl, _, _, rfl, rfl, _, rfl, p, _, 2, 2, rfl, rfl, hp, rfl, ?_⟩
      have hs : (upd H p (.lst ([V.int a, V.int b, V.int c].set 2 (.int (c + 1))))) p = some (WellL a b (c + 1)) := upd_same
      refine ⟨_, rfl, p, _, 1, _, rfl, rfl, hw hs, rfl, _, rfl, p, _, 2, _, rfl, rfl, hw hs, rfl, _, _, rfl, fun n => ?_⟩
      exact .inl ⟨_, rfl, _, rfl, _, _, rfl, rfl, m0, q _ _ _ (Int.emod_nonneg _ (by omega)) (Int.emod_lt_of_pos _ m0)⟩
def sp_source (K : PySem.W.Frag) : Sp := fun vs H Q _ => ∃ (a : Addr) (ns : List Int) (k : Nat), vs = [.ref a, vN k] ∧ SqL K H a (ns.map V.int) ∧ ns.length ≤ 63 ∧ ∀ (p : Addr) (x y z : Int) (H' : Hp), Same H H' → H p = none → H' p = some (WellL x y z) → Q (.ref p) H'
theorem ok__law_source (T : Txt K mg) : FnOk P w K mg base CX0 1 T.f__law_source T.d__law_source ["_law_script", "_law_k"] (sp_source K) := by
  refine T.F__law_source.ok sc__law_source (fun vs H Q E h => ?_) (fun cdv A outer s H vs Q E hr h => ?_)
  · obtain ⟨a, ns, k, rfl, _⟩ := h
    rfl
  · obtain ⟨a, ns, k, rfl, ha, hn, q⟩ := h
    refine ⟨_, (pss_cons (ps_set (i := 2) sc__law_source.nd rfl (.inl rfl) (pe_op op_add (pe_ix ix_list (pe_op op_catL (pv 0) (pe_lst (pa_cons pe_int pa_nil))) pe_int (fun _ _ => rfl)) (pe_op op_mul pe_int (pv 1))))
      (pss_cons (ps_if (pt_cmpR op_lt (pv 1) (pe_callB call_len_seq (by rfl) T.n_len (by decide +kernel) (pa_cons (pv 0) pa_nil)) (nomark _)) (pss_one (ps_set (i := 2) sc__law_source.nd rfl (.inl rfl) (pe_ix ix_list (pv 0) (pv 1) (fun _ _ => rfl)))) pss_nil)
      (pss_one (ps_ret (pe_lst (pa_cons (pe_op op_mul (pv 2) (pe_callTy call_int1 (by rfl) T.n_int (by decide +kernel) (pa_cons (pe_cmpR op_ge (pv 2) (pe_op op_pow pe_int pe_int) (nomark _)) pa_nil))) (pa_cons (pv 2) (pa_cons pe_int pa_nil)))))))), ?_⟩
    refine ⟨_, rfl, (by show 1 ≤ sizeLine; decide), fun p3 hp3 => ?_⟩
    have s3 := same_upd (o := .lst [.int 0]) hp3
    refine ⟨a, p3, _, _, rfl, rfl, s3.seq ha, .inl (.inl upd_same), ?_, fun p4 hp4 => ?_⟩
    · rw [List.length_map]
      exact Nat.le_of_lt (small1000 (by show ns.length + 1 ≤ 1000; omega))
    have s4 := s3.trans (same_upd (o := .lst (ns.map V.int ++ [.int 0])) hp4)
    obtain ⟨x, hx⟩ : ∃ x : Int, (ns.map V.int ++ [.int 0])[0]? = some (V.int x) := by
      cases ns with
      | nil => exact ⟨0, rfl⟩
      | cons x r => exact ⟨x, rfl⟩
    refine ⟨p4, _, 0, .int x, rfl, rfl, .inl (.inl upd_same), ?_, ?_⟩
    · exact atI_nat (j := 0) hx
    refine ⟨_, rfl, _, _, rfl, rfl, .inl ⟨by decide, by decide⟩, _, _, rfl, rfl, ?_⟩
    refine ⟨_, rfl, _, rfl, a, _, rfl, .inl (s4.seq ha), _, _, rfl, rfl, _, rfl, ?_⟩
    refine ite2 (fun cc => ?_) (fun cc => ?_)
    · have hk : k < ns.length := by
        have := of_decide_eq_true cc
        rw [List.length_map] at this
        omega
      refine ⟨_, rfl, _, rfl, a, _, (k : Int), .int ns[k], rfl, rfl, s4.seq ha, atI_nat (by rw [List.getElem?_map, List.getElem?_eq_getElem hk]; rfl), ?_⟩
      exact ⟨_, rfl, _, rfl, _, _, rfl, rfl, ⟨by decide, by decide, by decide⟩, _, _, rfl, rfl, .inr ⟨_, rfl, _, _, rfl, rfl, .inr (by split <;> decide), _, rfl, (by show 3 ≤ sizeLine; decide), fun p6 hp6 => q p6 _ _ _ _ (s4.trans (same_upd hp6)) (Same.free s4 hp6) upd_same⟩⟩
    · exact ⟨_, rfl, _, rfl, _, _, rfl, rfl, ⟨by decide, by decide, by decide⟩, _, _, rfl, rfl, .inr ⟨_, rfl, _, _, rfl, rfl, .inr (by split <;> decide), _, rfl, (by show 3 ≤ sizeLine; decide), fun p6 hp6 => q p6 _ _ _ _ (s4.trans (same_upd hp6)) (Same.free s4 hp6) upd_same⟩⟩
/-! CUT -/
def sp_fmt : Sp := fun vs H Q _ => ∃ (p : Addr) (a b0 c : Int), vs = [.ref p] ∧ H p = some (WellL a b0 c) ∧ ∀ (s l m : Nat) (T1 : Addr) (a' c' : Int) (H' : Hp), s < 5 → l < 4 → m < 8 → Kp p H H' → H' p = some (WellL a' b0 c') → H' T1 = some (.tup [.int ((s : Int) + 1), vN l, vN m]) → Q (.ref T1) H'
theorem ok__law_format (T : Txt K mg) : FnOk P w K mg base CX0 3 T.f__law_format T.d__law_format ["_law_well"] sp_fmt := by
  refine T.F__law_format.ok sc__law_format (fun vs H Q E h => ?_) (fun cdv A outer s H vs Q E hr h => ?_)
  · obtain ⟨p, a, b, c, rfl, _⟩ := h
    rfl
  · obtain ⟨p, a, b, c, rfl, hp, q⟩ := h
    refine ⟨_, (pss_one (ps_ret (pe_tup (pa_cons (pe_op op_add pe_int (pe_call (ok__law_draw T) (hr.mono (by decide)) (by rfl) T.g__law_draw T.F__law_draw.kp T.b__law_draw .nil pass0 (pa_cons (pv 0) (pa_cons pe_int pa_nil)))) (pa_cons (pe_call (ok__law_draw T) (hr.mono (by decide)) (by rfl) T.g__law_draw T.F__law_draw.kp T.b__law_draw .nil pass0 (pa_cons (pv 0) (pa_cons pe_int pa_nil))) (pa_cons (pe_call (ok__law_draw T) (hr.mono (by decide)) (by rfl) T.g__law_draw T.F__law_draw.kp T.b__law_draw .nil pass0 (pa_cons (pv 0) (pa_cons pe_int pa_nil))) pa_nil)))))), ?_⟩
    refine ⟨_, rfl, p, a, b, c, 5, rfl, hp, by decide, by decide, fun n1 a1 c1 n1a n1b => ?_⟩
    have g1 : (upd H p (WellL a1 b c1)) p = some (WellL a1 b c1) := upd_same
    refine ⟨_, _, rfl, rfl, _, rfl, p, a1, b, c1, 4, rfl, g1, by decide, by decide, fun n2 a2 c2 n2a n2b => ?_⟩
    have g2 : (upd (upd H p (WellL a1 b c1)) p (WellL a2 b c2)) p = some (WellL a2 b c2) := upd_same
    refine ⟨_, rfl, p, a2, b, c2, 8, rfl, g2, by decide, by decide, fun n3 a3 c3 n3a n3b => ?_⟩
    obtain ⟨s1, rfl⟩ := Int.eq_ofNat_of_zero_le n1a
    obtain ⟨s2, rfl⟩ := Int.eq_ofNat_of_zero_le n2a
    obtain ⟨s3, rfl⟩ := Int.eq_ofNat_of_zero_le n3a
    refine ⟨(by show 3 ≤ sizeLine; decide), fun T1 hT => ?_⟩
    have k3 : Kp p H (upd (upd (upd H p (WellL a1 b c1)) p (WellL a2 b c2)) p (WellL a3 b c3)) := (Kp.upd.trans Kp.upd).trans Kp.upd
    have nT : T1 ≠ p := fun e => by rw [e, upd_same] at hT; cases hT
    refine q s1 s2 s3 T1 a3 c3 _ (by omega) (by omega) (by omega) (k3.trans (Same.kp (same_upd hT))) ?_ ?_
    · rw [upd_ne nT.symm, upd_same]
    · rw [upd_same]
      show some (HO.tup [V.int (1 + (s1 : Int)), V.int (s2 : Int), V.int (s3 : Int)]) = _
      rw [Int.add_comm]
      rfl
def sp_lw : Sp := fun vs H Q _ => ∃ (p : Addr) (a b0 c : Int) (n b : Nat), vs = [.ref p, vN n, vN b] ∧ H p = some (WellL a b0 c) ∧ 0 < n ∧ n ≤ 100 ∧ Wd b ∧ ∀ (ws : List Nat) (D : Addr) (a' c' : Int) (H' : Hp), ws.length = n → (∀ x ∈ ws, x < span b) → Kp p H H' → H D = none → H' D = some (.lst (ws.map vN)) → H' p = some (WellL a' b0 c') → Q (.ref D) H'
def LwI (p : Addr) (H : Hp) (n b : Nat) (b0 : Int) (D : Addr) (ws : List Nat) (H2 : Hp) : Prop := ws.length = n ∧ (∀ x ∈ ws, x < span b) ∧ Kp p H H2 ∧ H D = none ∧ H2 D = some (.lst (ws.map vN)) ∧ ∃ a c, H2 p = some (WellL a b0 c)
theorem LwI.set {p D : Addr} {H H2 : Hp} {n b i x : Nat} {b0 a' c' : Int} {ws : List Nat} (h : LwI p H n b b0 D ws H2) (hp : ∃ o, H p = some o) (hx : x < span b) :
    LwI p H n b b0 D (ws.set i x) (upd (upd H2 p (WellL a' b0 c')) D (.lst ((ws.map vN).set i (vN x)))) := by
  obtain ⟨hl, hw, kp, nD, gD, a2, c2, gp⟩ := h
  obtain ⟨o0, hp⟩ := hp
  have np : p ≠ D := fun e => by rw [e, nD] at hp; cases hp
  refine ⟨by rw [List.length_set]; exact hl, fun y hy => ?_, fun e o hc hne => ?_, nD, by rw [upd_same, List.map_set], a', c', by rw [upd_ne np, upd_same]⟩
  · rcases List.mem_or_eq_of_mem_set hy with h | h
    · exact hw y h
    · rw [h]
      exact hx
  · rw [upd_ne (ne_of_none hc nD), upd_ne hne]
    exact kp _ _ hc hne
theorem ok__law_words (T : Txt K mg) : FnOk P w K mg base CX0 3 T.f__law_words T.d__law_words ["_law_well", "_law_many", "_law_bits"] sp_lw := by
  refine T.F__law_words.ok sc__law_words (fun vs H Q E h => ?_) (fun cdv A outer s H vs Q E hr h => ?_)
  · obtain ⟨p, a, b0, c, n, b, rfl, _⟩ := h
    rfl
  · obtain ⟨p, a, b0, c, n, b, rfl, hp, n0, n1, hb, q⟩ := h
    refine ⟨_, (pss_cons (ps_par (i := 3) (j := 4) (by rfl) sc__law_words.nd rfl rfl (by decide) rfl rfl (pa_cons (pe_call (ok__law_draw T) (hr.mono (by decide)) (by rfl) T.g__law_draw T.F__law_draw.kp T.b__law_draw .nil pass0 (pa_cons (pv 0) (pa_cons pe_int pa_nil))) (pa_cons (pe_op op_rep (pe_lst (pa_cons pe_int pa_nil)) (pv 1)) pa_nil)) (by rfl))
      (Evl.pss_cut (ps_if (pt_cmpR op_lt (pv 3) pe_int (nomark _)) (pss_one (ps_setLc (i := 4) (own := [("_law_k", 5)]) rfl sc__law_words.nd rfl rfl (sw_true rfl rfl rfl (by decide +kernel)) (pi_range1 (by rfl) T.n_range (pa_cons (pv 1) pa_nil)) (blkOk_by (N := ["_law_well", "_law_many", "_law_bits", "_law_way", "_law_found", "_law_k"]) (sc := defScope s__law_words) (by decide +kernel)) (fun _ _ _ _ _ => by exact (pg_name (i := 5) sc__law_words.nd rfl (.inl rfl))) (fun _ _ _ _ _ => by exact pts_nil) (fun _ _ _ _ _ => by exact (pe_call (ok__law_draw T) (hr.mono (by decide)) (by rfl) T.g__law_draw T.F__law_draw.kp T.b__law_draw .nil pass0 (pa_cons (pv 0) (pa_cons (pe_op op_shl pe_int (pv 2)) pa_nil)))))) pss_nil)
      (Evl.pss_cut (ps_if (pt_cmpR op_eq (pv 3) pe_int (nomark _)) (pss_one (ps_asg pe_int (pg_sub (pv 4) (pe_call (ok__law_draw T) (hr.mono (by decide)) (by rfl) T.g__law_draw T.F__law_draw.kp T.b__law_draw .nil pass0 (pa_cons (pv 0) (pa_cons (pv 1) pa_nil))) set_list))) pss_nil)
      (Evl.pss_cut (ps_if (pt_cmpR op_eq (pv 3) pe_int (nomark _)) (pss_one (ps_asg (pe_op op_add pe_int (pe_call (ok__law_draw T) (hr.mono (by decide)) (by rfl) T.g__law_draw T.F__law_draw.kp T.b__law_draw .nil pass0 (pa_cons (pv 0) (pa_cons (pe_op op_sub (pe_op op_shl pe_int (pv 2)) pe_int) pa_nil)))) (pg_sub (pv 4) (pe_call (ok__law_draw T) (hr.mono (by decide)) (by rfl) T.g__law_draw T.F__law_draw.kp T.b__law_draw .nil pass0 (pa_cons (pv 0) (pa_cons (pv 1) pa_nil))) set_list))) pss_nil)
      (pss_one (ps_ret (pv 4))))))), ?_⟩
    have hs2 := span_two hb
    have b8 : b = 4 ∨ b = 8 := hb
    have sb : (span b : Int) = 2 ^ b ∧ span b ≤ 256 := by rcases b8 with rfl | rfl <;> exact ⟨by decide, by decide⟩
    have hsp := span_pos hb
    have ep : (1 : Int) * 2 ^ ((b : Int)).toNat = (span b : Int) := by rcases b8 with rfl | rfl <;> decide
    refine ⟨_, rfl, p, a, b0, c, 4, rfl, hp, by decide, by decide, fun w1 a1 c1 w0 w4 => ?_⟩
    refine ⟨(by show 1 ≤ sizeLine; decide), fun D1 hD1 => ?_⟩
    refine ⟨_, rfl, D1, n, _, rfl, rfl, upd_same, ?_⟩
    refine ⟨by omega, by omega, ?_, fun D hD => ?_⟩
    · show 1 * ((n : Int)).toNat ≤ sizeLine
      rw [Int.toNat_natCast, Nat.one_mul]
      exact Nat.le_of_lt (small1000 (by omega))
    rw [Int.toNat_natCast, flat_one]
    have nD1 : D1 ≠ p := fun e => by rw [e, upd_same] at hD1; cases hD1
    have h0 : LwI p H n b b0 D (List.replicate n 0) (upd (upd (upd H p (WellL a1 b0 c1)) D1 (.lst [V.int 0])) D (.lst (List.replicate n (vN 0)))) := by
      have sA := same_upd (o := .lst [V.int 0]) hD1
      have sB := same_upd (o := .lst (List.replicate n (vN 0))) hD
      have hp3 := sB _ _ (sA _ _ (upd_same (H := H) (a := p) (o := WellL a1 b0 c1)))
      refine ⟨List.length_replicate, fun x hx => by rw [List.eq_of_mem_replicate hx]; omega, (Kp.upd.trans (Same.kp sA)).trans (Same.kp sB), ?_, ?_, a1, c1, hp3⟩
      · have := Same.free sA hD
        by_cases e : D = p
        · rw [e, upd_same] at this
          cases this
        · rw [upd_ne e] at this
          exact this
      · rw [upd_same, List.map_replicate]
    refine ⟨_, _, rfl, ?_⟩
    generalize (upd (upd (upd H p (WellL a1 b0 c1)) D1 (.lst [V.int 0])) D (.lst (List.replicate n (vN 0)))) = H3 at h0
    refine ⟨fun σ' H' => ∃ (D : Addr) (ws : List Nat) (z : Option V), σ' = [some (.ref p), some (vN n), some (vN b), some (.int w1), some (.ref D), z] ∧ LwI p H n b b0 D ws H', ?_, ?_⟩
    · refine ⟨_, rfl, _, _, rfl, rfl, _, rfl, ite2 (fun _ => ?_) (fun _ => ⟨D, _, _, rfl, h0⟩)⟩
      refine ⟨_, rfl, _, rfl, by omega, by omega, fun D2 hD2 => ?_⟩
      obtain ⟨hl, hw, kp, nD, gD, a2, c2, gp⟩ := h0
      have nf : H D2 = none := by
        by_cases e : D2 = p
        · rw [e, gp] at hD2
          cases hD2
        · cases eq : H D2 with
          | none => rfl
          | some o => rw [kp _ _ eq e] at hD2; cases hD2
      have np : p ≠ D2 := fun e => by rw [e] at gp; rw [gp] at hD2; cases hD2
      refine lc_range (lo := 0) (n := n) (fun i H' => Kp p H H' ∧ (∃ x z, H' p = some (WellL x b0 z)) ∧ ∃ vs : List Nat, vs.length = i ∧ (∀ x ∈ vs, x < span b) ∧ H' D2 = some (.lst (vs.map vN))) ⟨kp.trans (Same.kp (same_upd hD2)), ⟨a2, c2, by rw [upd_ne np]; exact gp⟩, [], rfl, (fun x hx => by cases hx), upd_same⟩ ?_ ?_
      · rintro i H4 hi ⟨k4, ⟨a3, c3, g4⟩, vs, lv, wv, gv⟩
        refine ⟨rfl, ?_⟩
        refine ⟨_, rfl, _, rfl, _, _, rfl, rfl, ⟨by omega, by omega, by decide⟩, ?_⟩
        refine ⟨p, a3, b0, c3, (span b : Int), congrArg (fun z => [V.ref p, V.int z]) ep, g4, by omega, by omega, fun m1 a4 c4 q0 q1 => ?_⟩
        obtain ⟨x1, rfl⟩ := Int.eq_ofNat_of_zero_le q0
        refine ⟨_, by rw [upd_ne np.symm]; exact gv, ?_, fun c o hc hne => ?_, ⟨a4, c4, by rw [upd_ne np, upd_same]⟩, vs ++ [x1], by rw [List.length_append, lv]; rfl, fun x hx => ?_, ?_⟩
        · rw [List.length_map, lv]
          exact small1000 (by omega)
        · rw [upd_ne (ne_of_none hc nf), upd_ne hne]
          exact k4 _ _ hc hne
        · rcases List.mem_append.mp hx with h | h
          · exact wv x h
          · rw [List.mem_singleton.mp h]
            omega
        · rw [upd_same, List.map_append]
          rfl
      · rintro H4 ⟨k4, ⟨a3, c3, g4⟩, vs, lv, wv, gv⟩
        exact ⟨D2, vs, _, rfl, lv, wv, k4, nf, gv, a3, c3, g4⟩
    rintro σ H4 ⟨D4, ws4, z4, rfl, h4⟩
    refine ⟨fun σ' H' => ∃ (D : Addr) (ws : List Nat) (z : Option V), σ' = [some (.ref p), some (vN n), some (vN b), some (.int w1), some (.ref D), z] ∧ LwI p H n b b0 D ws H', ?_, ?_⟩
    · refine ⟨_, rfl, rfl, _, rfl, ite2 (fun _ => ?_) (fun _ => ⟨D4, ws4, z4, rfl, h4⟩)⟩
      obtain ⟨hl, hw, kp, nD, gD, a2, c2, gp⟩ := id h4
      have nD4 : D4 ≠ p := fun e => by rw [e, hp] at nD; cases nD
      refine ⟨_, rfl, _, rfl, _, rfl, p, a2, b0, c2, (n : Int), rfl, gp, by omega, by omega, fun m1 a4 c4 q0 q1 => ?_⟩
      obtain ⟨x1, rfl⟩ := Int.eq_ofNat_of_zero_le q0
      refine ⟨D4, _, _, x1, rfl, rfl, by rw [upd_ne nD4]; exact gD, ixN_nat (by rw [List.length_map, hl]; omega), ?_⟩
      exact ⟨D4, ws4.set x1 0, z4, rfl, h4.set ⟨_, hp⟩ (by omega)⟩
    rintro σ H5 ⟨D5, ws5, z5, rfl, h5⟩
    refine ⟨fun σ' H' => ∃ (D : Addr) (ws : List Nat) (z : Option V), σ' = [some (.ref p), some (vN n), some (vN b), some (.int w1), some (.ref D), z] ∧ LwI p H n b b0 D ws H', ?_, ?_⟩
    · refine ⟨_, rfl, rfl, _, rfl, ite2 (fun _ => ?_) (fun _ => ⟨D5, ws5, z5, rfl, h5⟩)⟩
      obtain ⟨hl, hw, kp, nD, gD, a2, c2, gp⟩ := id h5
      have nD5 : D5 ≠ p := fun e => by rw [e, hp] at nD; cases nD
      have ep2 : (1 : Int) * 2 ^ ((b : Int)).toNat - 1 = (span b : Int) - 1 := by rw [ep]
      refine ⟨_, rfl, _, rfl, _, _, rfl, rfl, ⟨by omega, by omega, by decide⟩, _, _, rfl, rfl, p, a2, b0, c2, (span b : Int) - 1, congrArg (fun z => [V.ref p, V.int z]) ep2, gp, by omega, by omega, fun m1 a4 c4 q0 q1 => ?_⟩
      obtain ⟨x1, rfl⟩ := Int.eq_ofNat_of_zero_le q0
      refine ⟨_, _, rfl, rfl, ?_⟩
      refine ⟨_, rfl, _, rfl, _, rfl, p, a4, b0, c4, (n : Int), rfl, upd_same, by omega, by omega, fun m2 a5 c5 r0 r1 => ?_⟩
      obtain ⟨x2, rfl⟩ := Int.eq_ofNat_of_zero_le r0
      refine ⟨D5, _, _, x2, rfl, rfl, by rw [upd_ne nD5, upd_ne nD5]; exact gD, ixN_nat (by rw [List.length_map, hl]; omega), ?_⟩
      have h6 : LwI p H n b b0 D5 ws5 (upd H5 p (WellL a4 b0 c4)) := ⟨hl, hw, kp.trans Kp.upd, nD, by rw [upd_ne nD5]; exact gD, a4, c4, upd_same⟩
      have ev : V.int (1 + (x1 : Int)) = vN (1 + x1) := rfl
      refine ⟨D5, ws5.set x2 (1 + x1), z5, rfl, ?_⟩
      exact h6.set (i := x2) (x := 1 + x1) (a' := a5) (c' := c5) ⟨_, hp⟩ (by omega)
    rintro σ H6 ⟨D6, ws6, z6, rfl, hl, hw, kp, nD, gD, a2, c2, gp⟩
    exact ⟨_, rfl, q ws6 D6 a2 c2 H6 hl hw kp nD gD gp⟩
/-! CUT -/
theorem code20 {s l : Nat} (hs : s < 5) (hl : l < 4) : CodeOk (bitsF s) (ckF s l) (startF s l) ∧ ∀ n ∈ blkF s, n < span (bitsF s) := by
  have z := all20 (P := fun s l => (((decide (bitsF s = 4) || decide (bitsF s = 8)) && decide (1 ≤ ckF s l)) && (decide (ckF s l ≤ mostC (bitsF s)) && decide (startF s l + 2 ≤ span (bitsF s)))) && (blkF s).all fun n => decide (n < span (bitsF s))) (by decide +kernel) hs hl
  rw [Bool.and_eq_true, Bool.and_eq_true, Bool.and_eq_true, Bool.and_eq_true] at z
  exact ⟨⟨bits_wd hs, of_decide_eq_true z.1.1.2, of_decide_eq_true z.1.2.1, of_decide_eq_true z.1.2.2⟩, fun n hn => of_decide_eq_true (List.all_eq_true.mp z.2 n hn)⟩
def sp_lb (K : PySem.W.Frag) : Sp := fun vs H Q _ => ∃ (s l : Nat) (a : Addr) (k : Bool) (ds : List Nat), vs = [.int ((s : Int) + 1), vN l, .ref a] ∧ s < 5 ∧ l < 4 ∧ SqB k K H a (ds.map vN) ∧ k = true ∧ (∀ x ∈ ds, x < span (bitsF s)) ∧ ds.length = dataF s l ∧ ∀ D H', Fr H H' D (gridN (rightF s l ds)) → Q (.ref D) H'
theorem ok__law_blocks (T : Txt K mg) : FnOk P w K mg base CX0 6 T.f__law_blocks T.d__law_blocks ["_law_deep", "_law_rank", "_law_words_so"] (sp_lb K) := by
  refine T.F__law_blocks.ok sc__law_blocks (fun vs H Q E h => ?_) (fun cdv A outer s H vs Q E hr h => ?_)
  · obtain ⟨s, l, a, k, ds, rfl, _⟩ := h
    rfl
  · obtain ⟨s0, l, a, k, ds, rfl, hs, hl, hq, hk, hw, hn, q⟩ := h
    subst hk
    refine ⟨_, (pss_cons (ps_par3 (i := 3) (j := 4) (l := 5) (by rfl) sc__law_blocks.nd rfl rfl rfl (by decide) (by decide) (by decide) rfl rfl rfl (pa_cons (pe_call (ok_check_count T) (hr.mono (by decide)) (by rfl) T.g_check_count T.F_check_count.kp T.b_check_count .nil pass0 (pa_cons (pv 0) (pa_cons (pv 1) pa_nil))) (pa_cons (pe_lst pa_nil) (pa_cons pe_int pa_nil))) (by rfl))
      (pss_cons (ps_set (i := 6) sc__law_blocks.nd rfl (.inl rfl) (pe_tup (pa_cons (pe_call (ok_word_bits T) (hr.mono (by decide)) (by rfl) T.g_word_bits T.F_word_bits.kp T.b_word_bits .nil pass0 (pa_cons (pv 0) pa_nil)) (pa_cons (pv 3) (pa_cons (pe_call (ok_code_start T) (hr.mono (by decide)) (by rfl) T.g_code_start T.F_code_start.kp T.b_code_start .nil pass0 (pa_cons (pv 0) (pa_cons (pv 1) pa_nil))) pa_nil)))))
      (pss_cons (ps_for PassesOwn.never rfl (pi_list (pe_call (ok_block_sizes T) (hr.mono (by decide)) (by rfl) T.g_block_sizes T.F_block_sizes.kp T.b_block_sizes .nil pass0 (pa_cons (pv 0) pa_nil))) (pg_name (i := 7) sc__law_blocks.nd rfl (.inl rfl)) (pss_cons (ps_set (i := 8) sc__law_blocks.nd rfl (.inl rfl) (pe_slice sl_list (pv 2) (po_some (pv 5)) (po_some (pe_op op_sub (pe_op op_add (pv 5) (pv 7)) (pv 3)))))
      (pss_cons (ps_set (i := 5) sc__law_blocks.nd rfl (.inl rfl) (pe_op op_sub (pe_op op_add (pv 5) (pv 7)) (pv 3)))
      (pss_one (ps_expr (pe_bm PySem.F.plainAttrs_list PySem.F.slot_list_append PySem.F.type_list_append mt_append (pv 4) (pa_cons (pe_op op_cat (pv 8) (pe_call (ok_check_words T) (hr.mono (by decide)) (by rfl) T.g_check_words T.F_check_words.kp T.b_check_words .nil pass0 (pa_cons (pv 6) (pa_cons (pv 8) pa_nil)))) pa_nil)))))))
      (pss_one (ps_ret (pv 4)))))), ?_⟩
    refine ⟨_, rfl, _, rfl, s0, l, rfl, hs, hl, ?_⟩
    refine ⟨(by show 0 ≤ sizeLine; decide), fun F hF => ?_⟩
    refine ⟨_, _, _, rfl, ?_⟩
    have sF := same_upd (o := .lst []) hF
    refine ⟨_, rfl, s0, rfl, hs, _, rfl, _, rfl, _, rfl, s0, l, rfl, hs, hl, (by show 3 ≤ sizeLine; decide), fun c hc => ?_⟩
    have sC := same_upd (o := .tup [vN (bitsF s0), vN (ckF s0 l), vN (startF s0 l)]) hc
    have nFc : F ≠ c := fun e => by rw [← e, upd_same] at hc; cases hc
    refine ⟨_, rfl, s0, rfl, hs, fun b hb => ?_⟩
    have sB := same_upd (o := .lst ((blkF s0).map vN)) hb
    have gB := upd_same (H := (upd (upd H F (.lst [])) c (.tup [vN (bitsF s0), vN (ckF s0 l), vN (startF s0 l)]))) (a := b) (o := .lst ((blkF s0).map vN))
    have gC := sB _ _ (upd_same (H := (upd H F (.lst []))) (a := c) (o := .tup [vN (bitsF s0), vN (ckF s0 l), vN (startF s0 l)]))
    have F0 : FrI H (upd H F (.lst [])) F [] (gridN (rightF s0 l ds)) 0 := FrI.start hF
    have F1 := (F0.ext sC).ext sB
    have nFb : b ≠ F := fun e => by
      have := sC _ _ (upd_same (H := H) (a := F) (o := .lst []))
      rw [e, this] at hb
      cases hb
    refine ⟨b, rfl, ⟨_, .inl (.inl gB)⟩, ?_⟩
    generalize (upd (upd (upd H F (.lst [])) c (.tup [vN (bitsF s0), vN (ckF s0 l), vN (startF s0 l)])) b (.lst ((blkF s0).map vN))) = H3 at gB gC F1
    obtain ⟨co, cn⟩ := code20 hs hl
    have l3 := blk_le3 hs
    refine for_it (walk_list (K := K) (a := b) (xs := (blkF s0).map vN)) (fun i σ H' => ∃ (z1 z2 : Option V) (M : List Addr), σ = [some (.int ((s0 : Int) + 1)), some (vN l), some (.ref a), some (vN (ckF s0 l)), some (.ref F), some (vN ((ownsF s0 l).take i).sum), some (.ref c), z1, z2] ∧ FrI H H' F M (gridN (rightF s0 l ds)) i ∧ H' b = some (.lst ((blkF s0).map vN)) ∧ H' c = some (.tup [vN (bitsF s0), vN (ckF s0 l), vN (startF s0 l)])) ⟨_, _, [], rfl, F1, gB, gC⟩ (fun i σ H' _ ⟨_, _, _, _, _, g, _⟩ => .inl (.inl g)) ?_ ?_
    · rintro i x σ H0 H4 hi ⟨z1, z2, M, rfl, FI, g1, g2⟩ ⟨rfl, e2⟩
      rw [List.length_map] at hi
      obtain ⟨r, n, er, eb, lr, b1, b2, hm, hin⟩ := prow_at hs hl hn hi
      rw [List.getElem?_map, eb] at e2
      obtain rfl := (Option.some.inj e2).symm
      have hwr : ∀ x ∈ r, x < span (bitsF s0) := fun x hx => hw x (hin x hx)
      have eo : (ownsF s0 l)[i]? = some (n - ckF s0 l) := by
        unfold ownsF
        rw [List.getElem?_map, eb]
        rfl
      have es := sum_take_next eo
      have le := sum_take_le (ownsF s0 l) (i + 1)
      have et : dataF s0 l = (ownsF s0 l).sum := rfl
      have lc : ((ownsF s0 l).take i).sum + (n - ckF s0 l) ≤ (ds.map vN).length := by rw [List.length_map]; omega
      have ec := cut_mid (ds.map vN) _ _ lc
      have eI : ((((ownsF s0 l).take i).sum : Nat) : Int) + (n : Int) - (ckF s0 l : Int) = ((((ownsF s0 l).take i).sum : Nat) : Int) + ((n - ckF s0 l : Nat) : Int) := by omega
      have rr : r = (ds.drop ((ownsF s0 l).take i).sum).take (n - ckF s0 l) := by
        unfold partF at er
        rw [List.getElem?_map, List.getElem?_range (by rw [owns_len]; exact hi)] at er
        have er' : (ds.drop ((ownsF s0 l).take i).sum).take ((ownsF s0 l).getD i 0) = r := Option.some.inj er
        rw [List.getD_eq_getElem?_getD, eo] at er'
        exact er'.symm
      refine ⟨_, rfl, _, rfl, _, rfl, _, rfl, _, rfl, _, _, rfl, rfl, _, rfl, _, _, rfl, rfl, _, rfl, a, _, rfl, Same.sqb (b := true) FI.same hq, fun p hp => ?_⟩
      have hcut : cutV (ds.map vN) (some ((((ownsF s0 l).take i).sum : Nat) : Int)) (some (((((ownsF s0 l).take i).sum : Nat) : Int) + (n : Int) - (ckF s0 l : Int))) = r.map vN := by
        rw [eI, ec, rr, ← List.map_drop, ← List.map_take]
      rw [hcut]
      have sP := same_upd (o := .lst (r.map vN)) hp
      have gP := upd_same (H := H4) (a := p) (o := .lst (r.map vN))
      generalize (upd H4 p (.lst (r.map vN))) = H5 at sP gP
      refine ⟨_, rfl, _, rfl, _, _, rfl, rfl, _, rfl, _, _, rfl, rfl, ?_⟩
      refine ⟨_, rfl, .inl ⟨rfl, _, .inl (.inl (sP _ _ FI.out))⟩, ?_⟩
      have nspan := cn n (List.mem_of_getElem? eb)
      refine ⟨_, rfl, _, rfl, _, rfl, c, p, true, bitsF s0, ckF s0 l, startF s0 l, r, rfl, .inl (.inl (sP _ _ g2)), co, .inl (.inl gP), hwr, by omega, by omega, fun d H6 s6 n6 g6 => ?_⟩
      have lk := chF_len (l := l) hs r
      have g6' : H6 d = some (.lst ((chF s0 l r).map vN)) := g6
      refine ⟨p, d, _, _, rfl, rfl, s6 _ _ gP, g6', ?_, fun e he => ?_⟩
      · rw [List.length_map, List.length_map, lk]
        exact Nat.le_of_lt (small1000 (by omega))
      have sE := same_upd (o := .lst (r.map vN ++ (chF s0 l r).map vN)) he
      have sc := (sP.trans s6).trans sE
      have er2 : (gridN (rightF s0 l ds))[i]? = some (ofN (r ++ chF s0 l r)) := by
        unfold gridN rightF
        rw [List.getElem?_map, List.getElem?_map, er]
        rfl
      have nb2 : b ≠ F := nFb
      have nc2 : c ≠ F := fun e => nFc e.symm
      refine ⟨F, _, _, rfl, rfl, sc _ _ FI.out, ?_, ?_⟩
      · rw [List.length_map, FI.len]
        exact small1000 (by omega)
      refine ⟨some (vN n), some (.ref p), M ++ [e], ?_, FI.step (c := e) hF er2 sc (Same.free (sP.trans s6) he) ?_, ?_, ?_⟩
      · have ev : V.int (((((ownsF s0 l).take i).sum : Nat) : Int) + (n : Int) - (ckF s0 l : Int)) = vN (((ownsF s0 l).take i).sum + (n - ckF s0 l)) := congrArg V.int (by omega)
        rw [es, ← ev]
        rfl
      · rw [upd_same, ofN_v, List.map_append]
      · rw [upd_ne nb2]
        exact sc _ _ g1
      · rw [upd_ne nc2]
        exact sc _ _ g2
    · rintro σ H4 ⟨z1, z2, M, rfl, FI, _⟩
      rw [List.length_map] at FI
      have e : (gridN (rightF s0 l ds)).length = (blkF s0).length := by unfold gridN rightF; rw [List.length_map, List.length_map, prow_len]
      exact ⟨_, rfl, q F H4 ⟨hF, M, by rw [e]; exact FI⟩⟩
/-! CUT -/
/-! ### four symbols whose data words have the sum 0 -/
theorem wordsB_at {b : Nat} (hb : 0 < b) : ∀ (ws : List Nat) (k : Nat), (wordsB b ws)[k]? = (ws[k / b]?).map fun w => w / 2 ^ (b - 1 - k % b) % 2
  | [], k => by
    show ([] : List Nat)[k]? = _
    simp
  | w :: ws, k => by
    show (bitsW b w ++ wordsB b ws)[k]? = _
    have hl : (bitsW b w).length = b := bitsW_len b w
    by_cases hk : k < b
    · rw [List.getElem?_append_left (by omega), Nat.div_eq_of_lt hk, Nat.mod_eq_of_lt hk]
      unfold bitsW
      rw [List.getElem?_map, List.getElem?_range hk]
      rfl
    · have ih := wordsB_at hb ws (k - b)
      have e1 : k % b = (k - b) % b := Nat.mod_eq_sub_mod (by omega)
      have e2 : k / b = (k - b) / b + 1 := Nat.div_eq_sub_div hb (by omega)
      rw [List.getElem?_append_right (by omega), hl, ih, e1, e2]
      rfl
theorem gd_app_left {xs ys : List Nat} {k : Nat} (h : k < xs.length) : gd (xs ++ ys) k = gd xs k := by
  unfold gd
  rw [List.getD_eq_getElem?_getD, List.getD_eq_getElem?_getD, List.getElem?_append_left h]
theorem gd_app_right {xs ys : List Nat} {k : Nat} (h : xs.length ≤ k) : gd (xs ++ ys) k = gd ys (k - xs.length) := by
  unfold gd
  rw [List.getD_eq_getElem?_getD, List.getD_eq_getElem?_getD, List.getElem?_append_right h]
theorem gd_part (ds : List Nat) (i n k : Nat) : gd ((ds.drop i).take n) k = if k < n then gd ds (i + k) else 0 := by
  unfold gd
  rw [List.getD_eq_getElem?_getD, List.getD_eq_getElem?_getD, List.getElem?_take, List.getElem?_drop]
  split <;> rfl
theorem zx_part {xs ys : List Nat} (h : xs.length = ys.length) (i n : Nat) : ((zx xs ys).drop i).take n = zx ((xs.drop i).take n) ((ys.drop i).take n) := by
  refine List.ext_getElem? fun k => ?_
  have e1 : (((zx xs ys).drop i).take n).length = (zx ((xs.drop i).take n) ((ys.drop i).take n)).length := by
    rw [zx_len, List.length_take, List.length_drop, zx_len, List.length_take, List.length_drop]
  by_cases hk : k < (((zx xs ys).drop i).take n).length
  · rw [gd_in hk, gd_in (by rw [← e1]; exact hk), gd_zx (by rw [List.length_take, List.length_take, List.length_drop, List.length_drop, h]), gd_part, gd_part, gd_part, gd_zx h]
    split
    · rfl
    · rfl
  · rw [List.getElem?_eq_none (by omega), List.getElem?_eq_none (by omega)]
theorem ent_at {s l b c : Nat} {ds : List Nat} : (((rightF s l ds).getD b []).getD c 0) = if b < (blkF s).length then gd ((ds.drop ((ownsF s l).take b).sum).take ((ownsF s l).getD b 0) ++ chF s l ((ds.drop ((ownsF s l).take b).sum).take ((ownsF s l).getD b 0))) c else 0 := by
  rw [List.getD_eq_getElem?_getD (l := rightF s l ds)]
  unfold rightF partF
  rw [List.map_map, List.getElem?_map, owns_len]
  split
  · rename_i h
    rw [List.getElem?_range h]
    rfl
  · rename_i h
    rw [List.getElem?_eq_none (by rw [List.length_range]; omega)]
    rfl
theorem ent_zx {s l b c : Nat} {xs ys : List Nat} (hs : s < 5) (hx : ∀ x ∈ xs, x < span (bitsF s)) (hy : ∀ x ∈ ys, x < span (bitsF s)) (h : xs.length = ys.length) :
    ((rightF s l (zx xs ys)).getD b []).getD c 0 = ((rightF s l xs).getD b []).getD c 0 ^^^ ((rightF s l ys).getD b []).getD c 0 := by
  rw [ent_at, ent_at, ent_at]
  by_cases hb : b < (blkF s).length
  · rw [if_pos hb, if_pos hb, if_pos hb, zx_part h]
    have hl : ((xs.drop ((ownsF s l).take b).sum).take ((ownsF s l).getD b 0)).length = ((ys.drop ((ownsF s l).take b).sum).take ((ownsF s l).getD b 0)).length := by rw [List.length_take, List.length_take, List.length_drop, List.length_drop, h]
    have wx : ∀ x ∈ (xs.drop ((ownsF s l).take b).sum).take ((ownsF s l).getD b 0), x < span (bitsF s) := fun x hh => hx x (List.mem_of_mem_drop (List.mem_of_mem_take hh))
    have wy : ∀ x ∈ (ys.drop ((ownsF s l).take b).sum).take ((ownsF s l).getD b 0), x < span (bitsF s) := fun x hh => hy x (List.mem_of_mem_drop (List.mem_of_mem_take hh))
    generalize (xs.drop ((ownsF s l).take b).sum).take ((ownsF s l).getD b 0) = u at hl wx
    generalize (ys.drop ((ownsF s l).take b).sum).take ((ownsF s l).getD b 0) = v at hl wy
    have ec : chF s l (zx u v) = zx (chF s l u) (chF s l v) := chk_sum (bits_wd hs) wx wy hl.symm
    have lu : (chF s l u).length = (chF s l v).length := by rw [chF_len hs, chF_len hs]
    rw [ec]
    by_cases hc : c < u.length
    · rw [gd_app_left (by rw [zx_len]; exact hc), gd_app_left hc, gd_app_left (by omega), gd_zx hl]
    · rw [gd_app_right (by rw [zx_len]; omega), gd_app_right (by omega), gd_app_right (by omega), gd_zx lu, zx_len, hl]
  · rw [if_neg hb, if_neg hb, if_neg hb]
    rfl
theorem due_zx {s l i : Nat} {xs ys : List Nat} (hs : s < 5) (hx : ∀ x ∈ xs, x < span (bitsF s)) (hy : ∀ x ∈ ys, x < span (bitsF s)) (h : xs.length = ys.length) (hi : i < totF s) :
    gd (dueF s l (rightF s l (zx xs ys))) i = gd (dueF s l (rightF s l xs)) i ^^^ gd (dueF s l (rightF s l ys)) i := by
  have e : ∀ R : List (List Nat), gd (dueF s l R) i = (R.getD (spotF s l i).1 []).getD (spotF s l i).2 0 := fun R => by
    unfold gd
    rw [List.getD_eq_getElem?_getD, due_at hi]
    rfl
  rw [e, e, e, ent_zx hs hx hy h]
theorem bit_even (m a b c d j : Nat) (hd : d = a ^^^ b ^^^ c) : ((m ^^^ a) / 2 ^ j % 2 + (m ^^^ b) / 2 ^ j % 2 + (m ^^^ c) / 2 ^ j % 2 + (m ^^^ d) / 2 ^ j % 2) % 2 = 0 := by
  have e : ∀ x : Nat, x / 2 ^ j % 2 = (x.testBit j).toNat := fun x => (Nat.toNat_testBit x j).symm
  rw [e, e, e, e, hd, Nat.testBit_xor, Nat.testBit_xor, Nat.testBit_xor, Nat.testBit_xor, Nat.testBit_xor, Nat.testBit_xor]
  cases m.testBit j <;> cases a.testBit j <;> cases b.testBit j <;> cases c.testBit j <;> rfl
/-! CUT -/
theorem mask_at_i {s m i : Nat} (hs : s < 5) (hm : m < 8) {ws : List Nat} (hl : ws.length = totF s) (hi : i < totF s) : (maskW s m ws)[i]? = some (gd (mwF s m) i ^^^ gd ws i) := by
  unfold maskW
  have ml := mw_len hs hm
  rw [List.getElem?_zipWith, gd_in (show i < ws.length by omega), gd_in (show i < (mwF s m).length by omega)]
  exact congrArg some (Nat.xor_comm _ _)
theorem shade_at {s m k : Nat} (hs : s < 5) (hm : m < 8) {ws : List Nat} {st : List (Option Nat)} (hl : ws.length = totF s) (hk : k < ptF s) : (shadesF s (maskW s m ws) st).getD k none = some ((gd (mwF s m) (k / bitsF s) ^^^ gd ws (k / bitsF s)) / 2 ^ (bitsF s - 1 - k % bitsF s) % 2) := by
  have hb : 0 < bitsF s := by rcases bits_wd hs with h | h <;> omega
  have ht := tot_pt hs
  have hd : k / bitsF s < totF s := Nat.div_lt_of_lt_mul (by rw [ht]; exact hk)
  unfold shadesF
  have lw : (wordsB (bitsF s) (maskW s m ws)).length = ptF s := by rw [wordsB_len, maskW_len hs hm hl, ht]
  rw [List.getD_eq_getElem?_getD, List.getElem?_append_left (by rw [List.length_map]; omega), List.getElem?_map, wordsB_at hb, mask_at_i hs hm hl hd]
  rfl
theorem shade_st {s m k : Nat} (hs : s < 5) (hm : m < 8) {ws : List Nat} {st : List (Option Nat)} (hl : ws.length = totF s) (hk : ptF s ≤ k) : (shadesF s (maskW s m ws) st).getD k none = (st ++ [some 0, some 1]).getD (k - ptF s) none := by
  have ht := tot_pt hs
  unfold shadesF
  have lw : ((wordsB (bitsF s) (maskW s m ws)).map some).length = ptF s := by rw [List.length_map, wordsB_len, maskW_len hs hm hl, ht]
  rw [List.getD_eq_getElem?_getD, List.getElem?_append_right (by omega), lw, List.getD_eq_getElem?_getD]
def x4F (xs ys zs : List Nat) : List Nat := zx (zx xs ys) zs
theorem x4_ws {s : Nat} (hs : s < 5) {xs ys : List Nat} (hx : ∀ x ∈ xs, x < span (bitsF s)) (hy : ∀ x ∈ ys, x < span (bitsF s)) : ∀ x ∈ zx xs ys, x < span (bitsF s) := zx_ws (bits_wd hs) hx hy
theorem cell_sym {s l m i j : Nat} {ds : List Nat} (hi : i < sdF s) (hj : j < sdF s) : cell (symF s l m ds) i j = (shadesF s (maskW s m (dueF s l (rightF s l ds))) ((stripL l m).map some)).getD (plF s i j) none := by
  unfold cell symF drawF
  have e : (layF s (maskW s m (dueF s l (rightF s l ds))) ((stripL l m).map some)).getD i [] = (List.range (sdF s)).map fun c => (shadesF s (maskW s m (dueF s l (rightF s l ds))) ((stripL l m).map some)).getD (plF s i c) none := by
    rw [List.getD_eq_getElem?_getD, lay_row _ _ hi]
    rfl
  rw [e]
  generalize (shadesF s (maskW s m (dueF s l (rightF s l ds))) ((stripL l m).map some)) = S
  rw [List.getD_eq_getElem?_getD, List.getElem?_map, List.getElem?_range hj]
  rfl
/-- at each dot the four dots have an even sum -/
theorem sym_even {s l m i j : Nat} {xs ys zs : List Nat} (hs : s < 5) (hl : l < 4) (hm : m < 8) (hx : ∀ x ∈ xs, x < span (bitsF s)) (hy : ∀ x ∈ ys, x < span (bitsF s)) (hz : ∀ x ∈ zs, x < span (bitsF s))
    (lx : xs.length = dataF s l) (ly : ys.length = dataF s l) (lz : zs.length = dataF s l) (hi : i < sdF s) (hj : j < sdF s) :
    ∃ v1 v2 v3 v4 : Nat, cell (symF s l m xs) i j = some v1 ∧ cell (symF s l m ys) i j = some v2 ∧ cell (symF s l m zs) i j = some v3 ∧ cell (symF s l m (x4F xs ys zs)) i j = some v4 ∧ (v1 + v2 + v3 + v4) % 2 = 0 := by
  have hp := (way_pl hs hi hj).1
  rw [cell_sym hi hj, cell_sym hi hj, cell_sym hi hj, cell_sym hi hj]
  generalize plF s i j = k at hp
  by_cases hk : k < ptF s
  · rw [shade_at hs hm (due_len _ _ _) hk, shade_at hs hm (due_len _ _ _) hk, shade_at hs hm (due_len _ _ _) hk, shade_at hs hm (due_len _ _ _) hk]
    have hd : k / bitsF s < totF s := Nat.div_lt_of_lt_mul (by rw [tot_pt hs]; exact hk)
    refine ⟨_, _, _, _, rfl, rfl, rfl, rfl, bit_even _ _ _ _ _ _ ?_⟩
    unfold x4F
    rw [due_zx hs (x4_ws hs hx hy) hz (by rw [zx_len]; omega) hd, due_zx hs hx hy (by omega) hd]
  · rw [shade_st hs hm (due_len _ _ _) (by omega), shade_st hs hm (due_len _ _ _) (by omega), shade_st hs hm (due_len _ _ _) (by omega), shade_st hs hm (due_len _ _ _) (by omega)]
    have hc : ∃ v, ((stripL l m).map some ++ [some 0, some 1]).getD (k - ptF s) none = some v := by
      have hl22 : ((stripL l m).map some ++ [some 0, some 1]).length = 22 := by
        rw [List.length_append, List.length_map]
        unfold stripL
        rw [List.length_append, bitsW_len]
        rfl
      have e : ((stripL l m).map some ++ [some 0, some 1]) = (stripL l m ++ [0, 1]).map some := by rw [List.map_append]; rfl
      rw [e] at hl22 ⊢
      rw [List.length_map] at hl22
      rw [List.getD_eq_getElem?_getD, List.getElem?_map, List.getElem?_eq_getElem (by omega)]
      exact ⟨_, rfl⟩
    obtain ⟨v, e⟩ := hc
    exact ⟨v, v, v, v, e, e, e, e, by omega⟩
/-! CUT -/
theorem sym_cell {s l m x y : Nat} {R : List Nat} {L : List Addr} (hL : L.length = (symF s l m R).length) (hx : x < sdF s) (hy : y < sdF s) :
    ∃ la row, L[x]? = some la ∧ (symF s l m R)[x]? = some row ∧ row[y]? = some (cell (symF s l m R) x y) := by
  have hl : (symF s l m R).length = sdF s := lay_len _ _ _
  have er := lay_row (s := s) (maskW s m (dueF s l (rightF s l R))) ((stripL l m).map some) hx
  have er2 : (symF s l m R)[x]? = some ((List.range (sdF s)).map fun c => (shadesF s (maskW s m (dueF s l (rightF s l R))) ((stripL l m).map some)).getD (plF s x c) none) := er
  refine ⟨L[x]'(by omega), _, List.getElem?_eq_getElem _, er2, ?_⟩
  rw [cell_sym hx hy, List.getElem?_map, List.getElem?_range hy]
  rfl
/-- the grids of some data rows, in a list -/
def GsI (s l m : Nat) (Rs : List (List Nat)) (H' : Hp) (G : Addr) (Gs : List Addr) (i : Nat) : Prop :=
  H' G = some (.lst (Gs.map V.ref)) ∧ Gs.length = i ∧ ∀ (j : Nat) (g : Addr), Gs[j]? = some g → ∃ (R : List Nat) (L : List Addr), Rs[j]? = some R ∧ g ≠ G ∧ H' g = some (.lst (L.map V.ref)) ∧ L.length = (symF s l m R).length ∧
    ∀ (k : Nat) (la : Addr) (row : List (Option Nat)), L[k]? = some la → (symF s l m R)[k]? = some row → la ≠ G ∧ H' la = some (.lst (row.map vG))
theorem GsI.step {s l m i : Nat} {Rs : List (List Nat)} {H' H2 : Hp} {G D : Addr} {Gs : List Addr} {R : List Nat} (h : GsI s l m Rs H' G Gs i) (eR : Rs[i]? = some R) (F : Fr H' H2 D (symF s l m R)) :
    GsI s l m Rs (upd H2 G (.lst (Gs.map V.ref ++ [V.ref D]))) G (Gs ++ [D]) (i + 1) := by
  obtain ⟨o1, o2, o3⟩ := h
  obtain ⟨hD, L, FI⟩ := F
  have sm := FI.same
  have nn : ∀ {x : Addr}, H' x = none → x ≠ G := fun hx e => by rw [e, o1] at hx; cases hx
  refine ⟨by rw [upd_same, List.map_append]; rfl, by rw [List.length_append, o2]; rfl, fun j g e => ?_⟩
  by_cases hj : j < Gs.length
  · rw [List.getElem?_append_left hj] at e
    obtain ⟨R2, L2, q1, q2, q3, q4, q5⟩ := o3 j g e
    exact ⟨R2, L2, q1, q2, by rw [upd_ne q2]; exact sm _ _ q3, q4, fun k la row e1 e2 => let ⟨z1, z2⟩ := q5 k la row e1 e2; ⟨z1, by rw [upd_ne z1]; exact sm _ _ z2⟩⟩
  · rw [List.getElem?_append_right (by omega)] at e
    have hj2 : j - Gs.length = 0 := by
      rcases Nat.eq_zero_or_pos (j - Gs.length) with z | z
      · exact z
      · rw [List.getElem?_eq_none (by show 1 ≤ j - Gs.length; omega)] at e
        cases e
    rw [hj2] at e
    obtain rfl : D = g := Option.some.inj e
    have ej : j = i := by omega
    subst ej
    have nD := nn hD
    exact ⟨R, L, eR, nD, by rw [upd_ne nD]; exact FI.out, FI.len, fun k la row e1 e2 => let ⟨z1, z2, z3⟩ := FI.row k la row e1 e2; ⟨nn z1, by rw [upd_ne (nn z1)]; exact z3⟩⟩
theorem data_le {s l : Nat} (hs : s < 5) (hl : l < 4) : 0 < dataF s l ∧ dataF s l ≤ 100 := of_decide_eq_true (all20 (P := fun s l => decide (0 < dataF s l ∧ dataF s l ≤ 100)) (by decide +kernel) hs hl)
theorem x4_is {n : Nat} {xs ys zs : List Nat} (h : xs.length = ys.length) (hn : xs.length = n) : ((List.range n).map fun k => gd xs k ^^^ gd ys k ^^^ gd zs k) = x4F xs ys zs := by
  unfold x4F
  rw [show zx (zx xs ys) zs = (List.range (zx xs ys).length).map fun k => gd (zx xs ys) k ^^^ gd zs k from rfl, zx_len, hn]
  refine List.map_congr_left fun k _ => ?_
  rw [gd_zx h]
def sp_sr : Sp := fun vs H Q _ => ∃ (p r : Addr) (a b0 c : Int) (s l m : Nat) (ds : List Nat), vs = [.ref p, .int ((s : Int) + 1), vN l, vN m, .ref r] ∧ H p = some (WellL a b0 c) ∧ s < 5 ∧ l < 4 ∧ m < 8 ∧ r ≠ p ∧ H r = some (.lst (ds.map vN)) ∧ (∀ x ∈ ds, x < span (bitsF s)) ∧ ds.length = dataF s l ∧ ∀ (a' c' : Int) (H' : Hp), Kp p H H' → H' p = some (WellL a' b0 c') → Q (.bl true) H'
theorem ok__law_sum_right (T : Txt K mg) : FnOk P w K mg base CX0 8 T.f__law_sum_right T.d__law_sum_right ["_law_well", "_law_deep", "_law_rank", "_law_turn", "_law_rows"] (sp_sr) := by
  refine T.F__law_sum_right.ok sc__law_sum_right (fun vs H Q E h => ?_) (fun cdv A outer s H vs Q E hr h => ?_)
  · obtain ⟨p, r, a, b0, c, s, l, m, ds, rfl, _⟩ := h
    rfl
  · obtain ⟨p, r, a, b0, c, s0, l, m, ds, rfl, hp, hs, hl, hm, hrp, hR, hw, hn, q⟩ := h
    refine ⟨_, (pss_cons (ps_par (i := 5) (j := 6) (by rfl) sc__law_sum_right.nd rfl rfl (by decide) rfl rfl (pa_cons (pe_call (ok_data_count T) (hr.mono (by decide)) (by rfl) T.g_data_count T.F_data_count.kp T.b_data_count .nil pass0 (pa_cons (pv 1) (pa_cons (pv 2) pa_nil))) (pa_cons (pe_call (ok_word_bits T) (hr.mono (by decide)) (by rfl) T.g_word_bits T.F_word_bits.kp T.b_word_bits .nil pass0 (pa_cons (pv 1) pa_nil)) pa_nil)) (by rfl))
      (pss_cons (ps_set (i := 7) sc__law_sum_right.nd rfl (.inr rfl) (pe_lst (pa_cons (pv 4) (pa_cons (pe_call (ok__law_words T) (hr.mono (by decide)) (by rfl) T.g__law_words T.F__law_words.kp T.b__law_words .nil pass0 (pa_cons (pv 0) (pa_cons (pv 5) (pa_cons (pv 6) pa_nil)))) (pa_cons (pe_call (ok__law_words T) (hr.mono (by decide)) (by rfl) T.g__law_words T.F__law_words.kp T.b__law_words .nil pass0 (pa_cons (pv 0) (pa_cons (pv 5) (pa_cons (pv 6) pa_nil)))) pa_nil)))))
      (pss_cons (ps_expr (pe_bm PySem.F.plainAttrs_list PySem.F.slot_list_append PySem.F.type_list_append mt_append (pv 7) (pa_cons (pe_lc (own := [("_law_k", 12)]) rfl sc__law_sum_right.nd (pi_range1 (by rfl) T.n_range (pa_cons (pv 5) pa_nil)) (blkOk_by (N := ["_law_well", "_law_deep", "_law_rank", "_law_turn", "_law_rows", "_law_many", "_law_bits", "_law_some", "_law_grids", "_law_at", "_law_to", "_law_row", "_law_k", "_law_grid"]) (sc := defScope s__law_sum_right) (by decide +kernel)) (fun _ _ _ _ _ => by exact (pg_name (i := 12) sc__law_sum_right.nd rfl (.inl rfl))) (fun _ _ _ _ _ => by exact pts_nil) (fun _ _ _ _ _ => by exact (pe_op op_xor (pe_op op_xor (pe_ix (ix_rowBK (K := K) rfl) (pe_ix (ix_rowBK (K := K) rfl) (pv 7) pe_int (fun _ _ => rfl)) (pv 12) (fun _ _ => rfl)) (pe_ix (ix_rowBK (K := K) rfl) (pe_ix (ix_rowBK (K := K) rfl) (pv 7) pe_int (fun _ _ => rfl)) (pv 12) (fun _ _ => rfl))) (pe_ix (ix_rowBK (K := K) rfl) (pe_ix (ix_rowBK (K := K) rfl) (pv 7) pe_int (fun _ _ => rfl)) (pv 12) (fun _ _ => rfl))))) pa_nil)))
      (pss_cons (ps_setLc (i := 8) (own := [("_law_row", 11)]) rfl sc__law_sum_right.nd rfl rfl (sw_true rfl rfl rfl (by decide +kernel)) (pi_list (pv 7)) (blkOk_by (N := ["_law_well", "_law_deep", "_law_rank", "_law_turn", "_law_rows", "_law_many", "_law_bits", "_law_some", "_law_grids", "_law_at", "_law_to", "_law_row", "_law_k", "_law_grid"]) (sc := defScope s__law_sum_right) (by decide +kernel)) (fun _ _ _ _ _ => by exact (pg_name (i := 11) sc__law_sum_right.nd rfl (.inl rfl))) (fun _ _ _ _ _ => by exact pts_nil) (fun _ _ _ _ _ => by exact (pe_call (ok_symbol_of T) (hr.mono (by decide)) (by rfl) T.g_symbol_of T.F_symbol_of.kp T.b_symbol_of .nil pass0 (pa_cons (pv 1) (pa_cons (pv 2) (pa_cons (pv 3) (pa_cons (pv 11) pa_nil)))))))
      (pss_cons (ps_for PassesOwn.never rfl (pi_range1 (by rfl) T.n_range (pa_cons (pe_callB call_len_seq (by rfl) T.n_len (by decide +kernel) (pa_cons (pe_ix ix_list (pv 8) pe_int (fun _ _ => rfl)) pa_nil)) pa_nil)) (by first | exact (pg_name (i := 9) sc__law_sum_right.nd rfl (.inr rfl)) | exact (pg_name (i := 9) sc__law_sum_right.nd rfl (.inl rfl))) (pss_one (ps_for PassesOwn.never rfl (pi_range1 (by rfl) T.n_range (pa_cons (pe_callB call_len_seq (by rfl) T.n_len (by decide +kernel) (pa_cons (pe_ix ix_list (pv 8) pe_int (fun _ _ => rfl)) pa_nil)) pa_nil)) (by first | exact (pg_name (i := 10) sc__law_sum_right.nd rfl (.inr rfl)) | exact (pg_name (i := 10) sc__law_sum_right.nd rfl (.inl rfl))) (pss_one (ps_if (pt_cmpR op_ne (pe_op op_mod (pe_callTy call_int1 (by rfl) T.n_int (by decide +kernel) (pa_cons (pe_callB (cr_sum rfl) (by rfl) T.n_sum (by decide +kernel) (pa_cons (pe_lc (own := [("_law_grid", 13)]) rfl sc__law_sum_right.nd (pi_list (pv 8)) (blkOk_by (N := ["_law_well", "_law_deep", "_law_rank", "_law_turn", "_law_rows", "_law_many", "_law_bits", "_law_some", "_law_grids", "_law_at", "_law_to", "_law_row", "_law_k", "_law_grid"]) (sc := defScope s__law_sum_right) (by decide +kernel)) (fun _ _ _ _ _ => by exact (pg_name (i := 13) sc__law_sum_right.nd rfl (.inl rfl))) (fun _ _ _ _ _ => by exact pts_nil) (fun _ _ _ _ _ => by exact (pe_ix (ix_rowBK (K := K) rfl) (pe_ix (ix_rowBK (K := K) rfl) (pv 13) (pv 9) (fun _ _ => rfl)) (pv 10) (fun _ _ => rfl)))) pa_nil)) pa_nil)) pe_int) pe_int (nomark _)) (pss_one (ps_ret pe_bl)) pss_nil)))))
      (pss_one (ps_ret pe_bl))))))), ?_⟩
    have hwd := bits_wd hs
    refine ⟨_, rfl, _, rfl, s0, l, rfl, hs, hl, fun H1 s1 => ?_⟩
    refine ⟨_, rfl, s0, rfl, hs, ?_⟩
    obtain ⟨d0, d1⟩ := data_le hs hl
    have hp1 := s1 _ _ hp
    have hR1 := s1 _ _ hR
    refine ⟨_, _, rfl, ?_⟩
    refine ⟨_, rfl, _, rfl, _, rfl, _, rfl, p, a, b0, c, dataF s0 l, bitsF s0, rfl, hp1, d0, d1, hwd, fun w2 D2 a2 c2 H2 l2 v2 k2 n2 g2 p2 => ?_⟩
    refine ⟨_, rfl, _, rfl, _, rfl, p, a2, b0, c2, dataF s0 l, bitsF s0, rfl, p2, d0, d1, hwd, fun w3 D3 a3 c3 H3 l3 v3 k3 n3 g3 p3 => ?_⟩
    refine ⟨(by show 3 ≤ sizeLine; decide), fun S hS => ?_⟩
    have nD2 : D2 ≠ p := fun e => by rw [e, hp1] at n2; cases n2
    have nD3 : D3 ≠ p := fun e => by rw [e, p2] at n3; cases n3
    have hR3 : H3 r = some (.lst (ds.map vN)) := k3 _ _ (k2 _ _ hR1 hrp) hrp
    have g23 : H3 D2 = some (.lst (w2.map vN)) := k3 _ _ g2 nD2
    have kA : Kp p H H3 := ((Same.kp s1).trans k2).trans k3
    have sS := same_upd (o := .lst [.ref r, .ref D2, .ref D3]) hS
    have gS := upd_same (H := H3) (a := S) (o := .lst [.ref r, .ref D2, .ref D3])
    have kB := kA.trans (Same.kp sS)
    have p4 := sS _ _ p3
    have hR4 := sS _ _ hR3
    have g24 := sS _ _ g23
    have g34 := sS _ _ g3
    have nS : H S = none ∨ S = p := by
      by_cases e : S = p
      · exact .inr e
      · left
        cases eq : H S with
        | none => rfl
        | some o => rw [kA _ _ eq e] at hS; cases hS
    have nSp : S ≠ p := fun e => by rw [e, p3] at hS; cases hS
    have nSr : r ≠ S := fun e => by rw [← e, hR3] at hS; cases hS
    have nS2 : D2 ≠ S := fun e => by rw [← e, g23] at hS; cases hS
    have nS3 : D3 ≠ S := fun e => by rw [← e, g3] at hS; cases hS
    generalize (upd H3 S (.lst [.ref r, .ref D2, .ref D3])) = H4 at gS kB p4 hR4 g24 g34
    refine ⟨_, rfl, .inl ⟨rfl, _, .inl (.inl gS)⟩, ?_⟩
    refine ⟨_, rfl, _, rfl, by omega, by omega, fun D4 hD4 => ?_⟩
    refine lc_range (lo := 0) (n := dataF s0 l) (fun i H' => Same H4 H' ∧ H' D4 = some (.lst (((List.range i).map fun k => gd ds k ^^^ gd w2 k ^^^ gd w3 k).map vN))) ⟨same_upd hD4, upd_same⟩ ?_ ?_
    · rintro i H5 hi ⟨s5, g5⟩
      refine ⟨rfl, ?_⟩
      have qS : SqB true K H5 S [.ref r, .ref D2, .ref D3] := .inl (.inl (s5 _ _ gS))
      have at1 : ∀ {H' : Hp} {q : Addr} {ws : List Nat}, i < ws.length → atI (ws.map vN) (0 + (i : Int)) = some (vN (gd ws i)) := fun h => by
        rw [Int.zero_add]
        refine atI_nat ?_
        rw [List.getElem?_map, gd_in h]
        rfl
      refine ⟨_, rfl, S, _, 0, .ref r, true, rfl, rfl, qS, rfl, _, rfl, r, _, _, vN (gd ds i), true, rfl, rfl, .inl (.inl (s5 _ _ hR4)), at1 (H' := H) (q := r) (by omega), ?_⟩
      refine ⟨_, rfl, S, _, 1, .ref D2, true, rfl, rfl, qS, rfl, _, rfl, D2, _, _, vN (gd w2 i), true, rfl, rfl, .inl (.inl (s5 _ _ g24)), at1 (H' := H) (q := r) (by omega), _, _, rfl, rfl, ?_⟩
      refine ⟨_, rfl, S, _, 2, .ref D3, true, rfl, rfl, qS, rfl, _, rfl, D3, _, _, vN (gd w3 i), true, rfl, rfl, .inl (.inl (s5 _ _ g34)), at1 (H' := H) (q := r) (by omega), _, _, rfl, rfl, _, g5, ?_, fun c o' hc => ?_, ?_⟩
      · rw [List.length_map, List.length_map, List.length_range]
        exact small1000 (by omega)
      · rw [upd_ne (ne_of_none hc hD4)]
        exact s5 _ _ hc
      · have ev : V.int (Builtin.bitXor (Builtin.bitXor (gd ds i : Int) (gd w2 i : Int)) (gd w3 i : Int)) = vN (gd ds i ^^^ gd w2 i ^^^ gd w3 i) := congrArg V.int (by rw [bx, bx])
        rw [upd_same, List.range_succ, List.map_append, List.map_append, List.map_singleton, List.map_singleton, ← ev]
    rintro H5 ⟨s5, g5⟩
    have e4 : ((List.range (dataF s0 l)).map fun k => gd ds k ^^^ gd w2 k ^^^ gd w3 k) = x4F ds w2 w3 := x4_is (by omega) hn
    rw [e4] at g5
    refine ⟨S, _, _, rfl, rfl, s5 _ _ gS, (by show 3 < sizeLine; decide), ?_⟩
    have nSn : H S = none := nS.resolve_right nSp
    have kC : Kp p H (upd H5 S (.lst ([.ref r, .ref D2, .ref D3] ++ [.ref D4]))) := fun e o hc hne => by
      rw [upd_ne (ne_of_none hc nSn)]
      exact s5 _ _ (kB _ _ hc hne)
    have n4S : D4 ≠ S := fun e => by
      rw [e, gS] at hD4
      cases hD4
    have p6 : (upd H5 S (.lst ([.ref r, .ref D2, .ref D3] ++ [.ref D4]))) p = some (WellL a3 b0 c3) := by
      rw [upd_ne (fun e => nSp e.symm)]
      exact s5 _ _ p4
    have hAs : ∀ (j : Nat) (v : V), ([.ref r, .ref D2, .ref D3] ++ [.ref D4] : List V)[j]? = some v → ∃ q R, v = .ref q ∧ ([ds, w2, w3, x4F ds w2 w3] : List (List Nat))[j]? = some R ∧ (upd H5 S (.lst ([.ref r, .ref D2, .ref D3] ++ [.ref D4]))) q = some (.lst (R.map vN)) ∧ (∀ x ∈ R, x < span (bitsF s0)) ∧ R.length = dataF s0 l := fun j v e => by
      match j, e with
      | 0, e => exact ⟨r, ds, (Option.some.inj e).symm, rfl, by rw [upd_ne nSr]; exact s5 _ _ hR4, hw, hn⟩
      | 1, e => exact ⟨D2, w2, (Option.some.inj e).symm, rfl, by rw [upd_ne nS2]; exact s5 _ _ g24, v2, l2⟩
      | 2, e => exact ⟨D3, w3, (Option.some.inj e).symm, rfl, by rw [upd_ne nS3]; exact s5 _ _ g34, v3, l3⟩
      | 3, e => exact ⟨D4, x4F ds w2 w3, (Option.some.inj e).symm, rfl, by rw [upd_ne n4S]; exact g5, x4_ws hs (x4_ws hs hw v2) v3, by unfold x4F; rw [zx_len, zx_len, hn]⟩
      | k + 4, e => cases e
    have gS6 := upd_same (H := H5) (a := S) (o := .lst ([.ref r, .ref D2, .ref D3] ++ [.ref D4]))
    generalize (upd H5 S (.lst ([.ref r, .ref D2, .ref D3] ++ [.ref D4]))) = H6 at kC p6 hAs gS6
    refine ⟨_, rfl, S, rfl, ⟨_, .inl (.inl gS6)⟩, fun G hG => ?_⟩
    refine lc_it (walk_list (K := K) (a := S) (xs := [.ref r, .ref D2, .ref D3] ++ [.ref D4])) (fun i H' => Same H6 H' ∧ ∃ Gs, GsI s0 l m [ds, w2, w3, x4F ds w2 w3] H' G Gs i) ⟨same_upd hG, [], upd_same, rfl, fun j g e => by cases e⟩ (fun i H' _ h => .inl (.inl (h.1 _ _ gS6))) ?_ ?_
    · rintro i v H0 H7 hi ⟨s7, Gs, GI⟩ ⟨rfl, e2⟩
      obtain ⟨x, R, rfl, eR, gx, wR, lR⟩ := hAs i v e2
      refine ⟨rfl, ?_⟩
      refine ⟨_, rfl, _, rfl, _, rfl, _, rfl, s0, l, m, x, true, R, rfl, hs, hl, hm, .inl (.inl (s7 _ _ gx)), wR, lR, fun D H8 F => ?_⟩
      obtain ⟨o1, o2, o3⟩ := id GI
      refine ⟨_, F.same0 _ _ o1, ?_, fun e o hc => ?_, Gs ++ [D], GI.step eR F⟩
      · rw [List.length_map, o2]
        have : i < 4 := hi
        exact small1000 (by omega)
      · rw [upd_ne (ne_of_none hc hG)]
        exact F.same0 _ _ (s7 _ _ hc)
    rintro H7 ⟨s7, Gs, GI⟩
    have lG : Gs.length = 4 := GI.2.1
    have hget := fun (j : Nat) (g : Addr) (e : Gs[j]? = some g) => GI.2.2 j g e
    have oG := GI.1
    have e0 : Gs[0]? = some (Gs[0]'(by omega)) := List.getElem?_eq_getElem _
    generalize Gs[0]'(by omega) = G0 at e0
    obtain ⟨R0, L0, t1, t2, t3, t4, t5⟩ := hget 0 G0 e0
    have ll : (L0.map V.ref).length = sdF s0 := by
      rw [List.length_map, t4]
      exact lay_len _ _ _
    have sd1 : sdF s0 ≤ 100 := of_decide_eq_true (all5 (P := fun s => decide (sdF s ≤ 100)) (by decide +kernel) hs)
    have lenAt : ∀ H', Same H7 H' → SqB true K H' G (Gs.map V.ref) ∧ SqB true K H' G0 (L0.map V.ref) := fun H' sm => ⟨.inl (.inl (sm _ _ oG)), .inl (.inl (sm _ _ t3))⟩
    have at0 : atI (Gs.map V.ref) 0 = some (.ref G0) := atI_nat (j := 0) (by rw [List.getElem?_map, e0]; rfl)
    refine ⟨_, rfl, G, _, 0, .ref G0, rfl, rfl, (lenAt _ (Same.refl _)).1, at0, G0, _, rfl, .inl (lenAt _ (Same.refl _)).2, ?_⟩
    rw [ll]
    refine ⟨_, rfl, by omega, by omega, ?_⟩
    refine for_range (lo := 0) (n := sdF s0) (fun i σ H' => ∃ z9 z10 z11 z12 z13 : Option V, σ = [some (.ref p), some (.int ((s0 : Int) + 1)), some (vN l), some (vN m), some (.ref r), some (vN (dataF s0 l)), some (vN (bitsF s0)), some (.ref S), some (.ref G), z9, z10, z11, z12, z13] ∧ Same H7 H') ⟨_, _, _, _, _, rfl, Same.refl _⟩ ?_ ?_
    · rintro x σ H8 hx ⟨z9, z10, z11, z12, z13, rfl, s8⟩
      refine ⟨_, rfl, G, _, 0, .ref G0, rfl, rfl, (lenAt _ s8).1, at0, G0, _, rfl, .inl (lenAt _ s8).2, ?_⟩
      rw [ll]
      refine ⟨_, rfl, by omega, by omega, ?_⟩
      refine for_range (lo := 0) (n := sdF s0) (fun i σ H' => ∃ z10 z11 z12 z13 : Option V, σ = [some (.ref p), some (.int ((s0 : Int) + 1)), some (vN l), some (vN m), some (.ref r), some (vN (dataF s0 l)), some (vN (bitsF s0)), some (.ref S), some (.ref G), some (.int (0 + (x : Int))), z10, z11, z12, z13] ∧ Same H7 H') ⟨_, _, _, _, rfl, s8⟩ ?_ ?_
      · rintro y σ H9 hy ⟨z10, z11, z12, z13, rfl, s9⟩
        obtain ⟨v1, v2', v3', v4, c1, c2', c3', c4, ce⟩ := sym_even (l := l) (m := m) hs hl hm hw v2 v3 hn l2 l3 hx hy
        refine ⟨_, rfl, G, rfl, ⟨_, .inl (.inl (s9 _ _ oG))⟩, fun D hD => ?_⟩
        refine lc_it (walk_list (K := K) (a := G) (xs := Gs.map V.ref)) (fun i H' => Same H9 H' ∧ H' D = some (.lst ((([v1, v2', v3', v4] : List Nat).take i).map vN))) ⟨same_upd hD, upd_same⟩ (fun i H' _ h => .inl (.inl (h.1 _ _ (s9 _ _ oG)))) ?_ ?_
        · rintro i v H0 H10 hi ⟨s10, g10⟩ ⟨rfl, e2⟩
          have smA := s9.trans s10
          rw [List.length_map, lG] at hi
          have eg : Gs[i]? = some (Gs[i]'(by omega)) := List.getElem?_eq_getElem _
          generalize Gs[i]'(by omega) = g at eg
          rw [List.getElem?_map, eg] at e2
          obtain rfl := (Option.some.inj e2).symm
          obtain ⟨R, L, q1, q2, q3, q4, q5⟩ := hget i g eg
          have hcv : ∃ v, ([v1, v2', v3', v4] : List Nat)[i]? = some v ∧ cell (symF s0 l m R) x y = some v := by
            match i, q1 with
            | 0, e => exact ⟨v1, rfl, by rw [← Option.some.inj e]; exact c1⟩
            | 1, e => exact ⟨v2', rfl, by rw [← Option.some.inj e]; exact c2'⟩
            | 2, e => exact ⟨v3', rfl, by rw [← Option.some.inj e]; exact c3'⟩
            | 3, e => exact ⟨v4, rfl, by rw [← Option.some.inj e]; exact c4⟩
            | k + 4, e => cases e
          obtain ⟨v, ev, ecv⟩ := hcv
          obtain ⟨la, row, u1, u2, u3⟩ := sym_cell (R := R) (l := l) (m := m) q4 hx hy
          obtain ⟨w1', w2'⟩ := q5 x la row u1 u2
          rw [ecv] at u3
          refine ⟨rfl, ?_⟩
          refine ⟨_, rfl, _, rfl, g, _, _, .ref la, true, rfl, rfl, .inl (.inl (smA _ _ q3)), (by rw [Int.zero_add]; exact atI_nat (by rw [List.getElem?_map, u1]; rfl)), ?_⟩
          refine ⟨_, rfl, la, _, _, vN v, true, rfl, rfl, .inl (.inl (smA _ _ w2')), (by rw [Int.zero_add]; exact atI_nat (by rw [List.getElem?_map, u3]; rfl)), _, g10, ?_, fun c o' hc => ?_, ?_⟩
          · rw [List.length_map, List.length_take]
            have : min i ([v1, v2', v3', v4] : List Nat).length ≤ 4 := Nat.min_le_right _ _
            exact small1000 (by omega)
          · rw [upd_ne (ne_of_none hc hD)]
            exact s10 _ _ hc
          · rw [upd_same, List.take_add_one, ev, Option.toList_some, List.map_append]
            rfl
        rintro H10 ⟨s10, g10⟩
        rw [List.length_map, lG] at g10
        refine ⟨D, ([v1, v2', v3', v4] : List Nat).map fun n : Nat => (n : Int), rfl, .inl (.inl (by rw [g10, vN_ints]; rfl)), ?_⟩
        rw [sum_vN]
        have es : ([v1, v2', v3', v4] : List Nat).sum = v1 + v2' + v3' + v4 := by
          show v1 + (v2' + (v3' + (v4 + 0))) = _
          omega
        rw [es]
        refine .inl ⟨_, rfl, _, _, rfl, rfl, (show (0 : Int) < 2 by decide), rfl, _, rfl, ?_⟩
        have em : (((v1 + v2' + v3' + v4 : Nat) : Int)) % 2 = 0 := by omega
        refine ite2 (fun cc => ?_) (fun _ => ⟨_, _, _, _, rfl, s9.trans s10⟩)
        have cc' : (!decide (V.int (((v1 + v2' + v3' + v4 : Nat) : Int) % 2) = V.int 0)) = true := cc
        rw [em] at cc'
        simp at cc'
      · rintro σ H9 ⟨z10, z11, z12, z13, rfl, s9⟩
        exact ⟨_, _, _, _, _, rfl, s9⟩
    · rintro σ H8 ⟨z9, z10, z11, z12, z13, rfl, s8⟩
      exact q a3 c3 H8 ((kC.trans (Same.kp s7)).trans (Same.kp s8)) (s8 _ _ (s7 _ _ p6))
/-! CUT -/
/-! ### the words of a symbol drawn, its mask taken off -/
theorem strip_ok (l m : Nat) : ∀ o ∈ (stripL l m).map some, DotOk o := fun o ho => by
  obtain ⟨x, hx, rfl⟩ := List.mem_map.mp ho
  have h2 : x < 2 := by
    unfold stripL at hx
    rcases List.mem_append.mp hx with h | h
    · exact bitsW_lt _ _ _ h
    · exact bitsW_lt _ _ _ h
  have : x = 0 ∨ x = 1 := by omega
  rcases this with rfl | rfl
  · exact .inr (.inl rfl)
  · exact .inr (.inr rfl)
theorem draw_sq {s l m : Nat} (hs : s < 5) (hm : m < 8) {ws : List Nat} (hl : ws.length = totF s) : Sq (sdF s) (drawF s l m ws) :=
  lay_sq hs (maskW_len hs hm hl) (by rw [List.length_map]; unfold stripL; rw [List.length_append, bitsW_len]) (strip_ok l m)
theorem cell_draw {s l m i j : Nat} {ws : List Nat} (hi : i < sdF s) (hj : j < sdF s) : cell (drawF s l m ws) i j = (shadesF s (maskW s m ws) ((stripL l m).map some)).getD (plF s i j) none := by
  unfold cell drawF
  have e : (layF s (maskW s m ws) ((stripL l m).map some)).getD i [] = (List.range (sdF s)).map fun c => (shadesF s (maskW s m ws) ((stripL l m).map some)).getD (plF s i c) none := by
    rw [List.getD_eq_getElem?_getD, lay_row _ _ hi]
    rfl
  rw [e]
  generalize (shadesF s (maskW s m ws) ((stripL l m).map some)) = S
  rw [List.getD_eq_getElem?_getD, List.getElem?_map, List.getElem?_range hj]
  rfl
theorem bit_un (x w j : Nat) : (x ^^^ w) / 2 ^ j % 2 = if x / 2 ^ j % 2 = 1 then 1 - w / 2 ^ j % 2 else w / 2 ^ j % 2 := by
  have e : ∀ x : Nat, x / 2 ^ j % 2 = (x.testBit j).toNat := fun x => (Nat.toNat_testBit x j).symm
  rw [e, e, e, Nat.testBit_xor]
  cases x.testBit j <;> cases w.testBit j <;> rfl
theorem dots_un {s l m : Nat} {ws : List Nat} (hs : s < 5) (hm : m < 8) (hl : ws.length = totF s) : dotsF s (maskG s m (drawF s l m ws)) = (wordsB (bitsF s) ws).map some := by
  have hb : 0 < bitsF s := by rcases bits_wd hs with h | h <;> omega
  have ht := tot_pt hs
  have lw : (wordsB (bitsF s) ws).length = ptF s := by rw [wordsB_len, hl, ht]
  refine List.ext_getElem? fun k => ?_
  by_cases hk : k < ptF s
  · obtain ⟨⟨x, y⟩, eq, ep⟩ := pl_way hs hk
    obtain ⟨hx, hy⟩ := way_in hs (List.mem_of_getElem? eq)
    have hx : x < sdF s := hx
    have hy : y < sdF s := hy
    have ep : plF s x y = k := ep
    have hd : k / bitsF s < totF s := Nat.div_lt_of_lt_mul (by rw [ht]; exact hk)
    have ml := mw_len hs hm
    have eh := mbit_at hs hm hx hy
    rw [ep, List.getElem?_append_left (by rw [wordsB_len, ml, ht]; exact hk), wordsB_at hb, gd_in (show k / bitsF s < (mwF s m).length by omega)] at eh
    have eh2 : gd (mwF s m) (k / bitsF s) / 2 ^ (bitsF s - 1 - k % bitsF s) % 2 = if hitF s m x y = true then 1 else 0 := Option.some.inj eh
    unfold dotsF
    rw [List.getElem?_map, eq, List.getElem?_map, wordsB_at hb, gd_in (show k / bitsF s < ws.length by omega)]
    refine congrArg some ?_
    show cell (maskG s m (drawF s l m ws)) x y = some (gd ws (k / bitsF s) / 2 ^ (bitsF s - 1 - k % bitsF s) % 2)
    unfold maskG
    rw [cell_turn (draw_sq hs hm hl) hx hy, cell_draw hx hy, ep, shade_at hs hm hl hk, bit_un, eh2]
    have h2 : gd ws (k / bitsF s) / 2 ^ (bitsF s - 1 - k % bitsF s) % 2 < 2 := Nat.mod_lt _ (by decide)
    generalize gd ws (k / bitsF s) / 2 ^ (bitsF s - 1 - k % bitsF s) % 2 = v at h2
    by_cases hh : hitF s m x y = true
    · rw [if_pos hh, if_pos hh, if_pos rfl]
      show some (1 - (1 - v)) = some v
      exact congrArg some (by omega)
    · rw [if_neg hh, if_neg hh, if_neg (by decide)]
  · rw [List.getElem?_eq_none (by rw [wdots_len hs]; omega), List.getElem?_eq_none (by rw [List.length_map]; omega)]
theorem fold_word {b w : Nat} (hb : Wd b) (hw : w < span b) : foldB (bitsW b w) = w := by
  rcases hb with rfl | rfl
  · have q : ((List.range 16).all fun w => foldB (bitsW 4 w) == w) = true := by decide +kernel
    exact eq_of_beq (List.all_eq_true.mp q w (List.mem_range.mpr hw))
  · have q : ((List.range 256).all fun w => foldB (bitsW 8 w) == w) = true := by decide +kernel
    exact eq_of_beq (List.all_eq_true.mp q w (List.mem_range.mpr hw))
theorem heard_whole {b : Nat} {ws : List Nat} (hb : Wd b) (hw : ∀ x ∈ ws, x < span b) : heardF b ((wordsB b ws).map some) = ws.map some := by
  have h0 : 0 < b := by rcases hb with h | h <;> omega
  have hl : ((wordsB b ws).map some).length = b * ws.length := by rw [List.length_map, wordsB_len]
  refine List.ext_getElem? fun i => ?_
  by_cases hi : i < ws.length
  · rw [heard_at h0 hl hi, List.getElem?_map, List.getElem?_eq_getElem hi]
    refine congrArg some ?_
    have ep : partO ((wordsB b ws).map some) b i = (bitsW b ws[i]).map some := by
      refine List.ext_getElem? fun j => ?_
      by_cases hj : j < b
      · rw [part_at hj, List.getElem?_map, wordsB_at h0, Nat.mul_add_div h0, Nat.div_eq_of_lt hj, Nat.add_zero, List.getElem?_eq_getElem hi, Nat.mul_add_mod, Nat.mod_eq_of_lt hj, List.getElem?_map]
        unfold bitsW
        rw [List.getElem?_map, List.getElem?_range hj]
        rfl
      · rw [List.getElem?_eq_none (by rw [part_len hl hi]; omega), List.getElem?_eq_none (by rw [List.length_map, bitsW_len]; omega)]
    rw [ep]
    unfold wordO
    have ea : ((bitsW b ws[i]).map some).all Option.isSome = true := by
      rw [List.all_map]
      exact List.all_eq_true.mpr fun x _ => rfl
    rw [if_pos ea, List.map_map]
    have em : (bitsW b ws[i]).map ((fun o : Option Nat => o.getD 0) ∘ some) = bitsW b ws[i] := List.map_id' _
    rw [em, fold_word hb (hw _ (List.getElem_mem hi))]
  · rw [List.getElem?_eq_none (by rw [heard_len h0 hl]; omega), List.getElem?_eq_none (by rw [List.length_map]; omega)]
theorem okB_iff {b m s : Nat} {ws : List Nat} : okB b m s ws = true ↔ ∀ j, j < m → evl b (pw b (s + j)) ws = 0 := by
  rw [okB_eq, decide_eq_true_iff, List.eq_replicate_iff]
  unfold synL
  constructor
  · rintro ⟨_, h⟩ j hj
    exact h _ (List.mem_map.mpr ⟨j, List.mem_range.mpr hj, rfl⟩)
  · intro h
    refine ⟨by simp, fun x hx => ?_⟩
    obtain ⟨j, hj, rfl⟩ := List.mem_map.mp hx
    exact h j (List.mem_range.mp hj)
theorem most20 {s l : Nat} (hs : s < 5) (hl : l < 4) : ckF s l ≤ mostN (bitsF s) := of_decide_eq_true (all20 (P := fun s l => decide (ckF s l ≤ mostN (bitsF s))) (by decide +kernel) hs hl)
theorem ok_right {s l : Nat} {r : List Nat} (hs : s < 5) (hl : l < 4) (hw : ∀ x ∈ r, x < span (bitsF s)) : okB (bitsF s) (ckF s l) (startF s l) (r ++ chF s l r) = true :=
  okB_iff.mpr fun j hj => chk_root (bits_wd hs) (most20 hs hl) hw hj
/-! CUT -/
def sp_lr : Sp := fun vs H Q _ => ∃ (p : Addr) (a b0 c : Int), vs = [.ref p] ∧ H p = some (WellL a b0 c) ∧ ∀ (a' c' : Int) (H' : Hp), Kp p H H' → H' p = some (WellL a' b0 c') → Q (.bl true) H'
theorem ok__law_right (T : Txt K mg) : FnOk P w K mg base CX0 9 T.f__law_right T.d__law_right ["_law_well"] (sp_lr) := by
  refine T.F__law_right.ok sc__law_right (fun vs H Q E h => ?_) (fun cdv A outer s H vs Q E hr h => ?_)
  · obtain ⟨p, a, b0, c, rfl, _⟩ := h
    rfl
  · obtain ⟨p, a, b0, c, rfl, hp, q⟩ := h
    refine ⟨_, (pss_cons (ps_asg (pe_call (ok__law_format T) (hr.mono (by decide)) (by rfl) T.g__law_format T.F__law_format.kp T.b__law_format .nil pass0 (pa_cons (pv 0) pa_nil)) (pg_tup rfl (pgs_cons (pg_name (i := 1) sc__law_right.nd rfl (.inl rfl)) (pgs_cons (pg_name (i := 2) sc__law_right.nd rfl (.inl rfl)) (pgs_cons (pg_name (i := 3) sc__law_right.nd rfl (.inl rfl)) pgs_nil)))))
      (pss_cons (ps_set (i := 4) sc__law_right.nd rfl (.inl rfl) (pe_call (ok__law_words T) (hr.mono (by decide)) (by rfl) T.g__law_words T.F__law_words.kp T.b__law_words .nil pass0 (pa_cons (pv 0) (pa_cons (pe_call (ok_data_count T) (hr.mono (by decide)) (by rfl) T.g_data_count T.F_data_count.kp T.b_data_count .nil pass0 (pa_cons (pv 1) (pa_cons (pv 2) pa_nil))) (pa_cons (pe_call (ok_word_bits T) (hr.mono (by decide)) (by rfl) T.g_word_bits T.F_word_bits.kp T.b_word_bits .nil pass0 (pa_cons (pv 1) pa_nil)) pa_nil)))))
      (pss_cons (ps_set (i := 5) sc__law_right.nd rfl (.inl rfl) (pe_call (ok__law_blocks T) (hr.mono (by decide)) (by rfl) T.g__law_blocks T.F__law_blocks.kp T.b__law_blocks .nil pass0 (pa_cons (pv 1) (pa_cons (pv 2) (pa_cons (pv 4) pa_nil)))))
      (pss_cons (ps_set (i := 6) sc__law_right.nd rfl (.inl rfl) (pe_call (ok_drawn T) (hr.mono (by decide)) (by rfl) T.g_drawn T.F_drawn.kp T.b_drawn .nil pass0 (pa_cons (pv 1) (pa_cons (pv 2) (pa_cons (pv 3) (pa_cons (pe_call (ok_dealt T) (hr.mono (by decide)) (by rfl) T.g_dealt T.F_dealt.kp T.b_dealt .nil pass0 (pa_cons (pv 1) (pa_cons (pv 2) (pa_cons (pv 5) pa_nil)))) pa_nil))))))
      (pss_cons (ps_set (i := 7) sc__law_right.nd rfl (.inl rfl) (pe_call (ok_symbol_of T) (hr.mono (by decide)) (by rfl) T.g_symbol_of T.F_symbol_of.kp T.b_symbol_of .nil pass0 (pa_cons (pv 1) (pa_cons (pv 2) (pa_cons (pv 3) (pa_cons (pv 4) pa_nil))))))
      (pss_cons (ps_if (PW.pt (pw_or (pt_cmpR (op_neD hr.units) (pv 7) (pv 6) (nomark _)) (pw_or1 (pt_cmpR (op_neD hr.units) (pe_callZ (ok_symbol_of T) (hr.mono (by decide)) (by rfl) T.g_symbol_of T.F_symbol_of.kp (kb0 (ks := ["data", "mask", "level", "size"]) T.F_symbol_of rev4 rev4_rel (fun _ _ _ _ _ _ ws hl => match ws, hl with | [_, _, _, _], _ => rfl)) pass0 (pk_cons (pe_tupleOf (by rfl) T.n_tuple (pv 4)) (pk_cons (pv 3) (pk_cons (pv 2) (pk_cons (pv 1) pk_nil))))) (pv 6) (nomark _))))) (pss_one (ps_ret pe_bl)) pss_nil)
      (pss_cons (ps_set (i := 8) sc__law_right.nd rfl (.inr rfl) (pe_tup (pa_cons (pe_call (ok_word_bits T) (hr.mono (by decide)) (by rfl) T.g_word_bits T.F_word_bits.kp T.b_word_bits .nil pass0 (pa_cons (pv 1) pa_nil)) (pa_cons (pe_call (ok_check_count T) (hr.mono (by decide)) (by rfl) T.g_check_count T.F_check_count.kp T.b_check_count .nil pass0 (pa_cons (pv 1) (pa_cons (pv 2) pa_nil))) (pa_cons (pe_call (ok_code_start T) (hr.mono (by decide)) (by rfl) T.g_code_start T.F_code_start.kp T.b_code_start .nil pass0 (pa_cons (pv 1) (pa_cons (pv 2) pa_nil))) pa_nil)))))
      (pss_cons (ps_set (i := 9) sc__law_right.nd rfl (.inl rfl) (pe_call (ok_gathered T) (hr.mono (by decide)) (by rfl) T.g_gathered T.F_gathered.kp T.b_gathered .nil pass0 (pa_cons (pv 1) (pa_cons (pv 2) (pa_cons (pe_call (ok_words_in T) (hr.mono (by decide)) (by rfl) T.g_words_in T.F_words_in.kp T.b_words_in .nil pass0 (pa_cons (pv 1) (pa_cons (pe_call (ok_masked T) (hr.mono (by decide)) (by rfl) T.g_masked T.F_masked.kp T.b_masked .nil pass0 (pa_cons (pv 1) (pa_cons (pv 7) (pa_cons (pv 3) pa_nil)))) pa_nil))) pa_nil)))))
      (pss_cons (ps_if (PW.pt (pw_or (pt_cmpR (op_neD hr.units) (pv 9) (pv 5) (nomark _)) (pw_or1 (pt_cmpR (op_neD hr.units) (pe_lc (own := [("_law_row", 11)]) rfl sc__law_right.nd (pi_list (pv 9)) (blkOk_by (N := ["_law_well", "_law_deep", "_law_rank", "_law_turn", "_law_words_so", "_law_blocks_so", "_law_due", "_law_said_so", "_law_code_so", "_law_rows", "_law_spot", "_law_row"]) (sc := defScope s__law_right) (by decide +kernel)) (fun _ _ _ _ _ => by exact (pg_name (i := 11) sc__law_right.nd rfl (.inl rfl))) (fun _ _ _ _ _ => by exact (pts_one (pt_not (pt_val (pe_call (ok_is_right T) (hr.mono (by decide)) (by rfl) T.g_is_right T.F_is_right.kp T.b_is_right .nil pass0 (pa_cons (pv 8) (pa_cons (pv 11) pa_nil))))))) (fun _ _ _ _ _ => by exact (pv 11))) (pe_lst pa_nil) (nomark _))))) (pss_one (ps_ret pe_bl)) pss_nil)
      (pss_cons (ps_expr (pe_bm0 PySem.F.plainAttrs_list PySem.F.slot_list_clear PySem.F.type_list_clear mt_clear (pe_ix ix_list (pv 7) pe_int (fun _ _ => rfl))))
      (pss_cons (ps_expr (pe_bm PySem.F.plainAttrs_list PySem.F.slot_list_append PySem.F.type_list_append mt_append (pv 7) (pa_cons pe_non pa_nil)))
      (pss_cons (ps_if (pt_cmpR (op_neD hr.units) (pe_call (ok_symbol_of T) (hr.mono (by decide)) (by rfl) T.g_symbol_of T.F_symbol_of.kp T.b_symbol_of .nil pass0 (pa_cons (pv 1) (pa_cons (pv 2) (pa_cons (pv 3) (pa_cons (pv 4) pa_nil))))) (pv 6) (nomark _)) (pss_one (ps_ret pe_bl)) pss_nil)
      (pss_cons (ps_set (i := 10) sc__law_right.nd rfl (.inl rfl) (pe_call (ok__law_draw T) (hr.mono (by decide)) (by rfl) T.g__law_draw T.F__law_draw.kp T.b__law_draw .nil pass0 (pa_cons (pv 0) (pa_cons (pe_callB call_len_seq (by rfl) T.n_len (by decide +kernel) (pa_cons (pv 4) pa_nil)) pa_nil))))
      (pss_cons (ps_asg (pe_op op_xor (pe_ix ix_list (pv 4) (pv 10) (fun _ _ => rfl)) pe_int) (pg_sub (pv 4) (pv 10) set_list))
      (pss_cons (ps_set (i := 6) sc__law_right.nd rfl (.inl rfl) (pe_call (ok_drawn T) (hr.mono (by decide)) (by rfl) T.g_drawn T.F_drawn.kp T.b_drawn .nil pass0 (pa_cons (pv 1) (pa_cons (pv 2) (pa_cons (pv 3) (pa_cons (pe_call (ok_dealt T) (hr.mono (by decide)) (by rfl) T.g_dealt T.F_dealt.kp T.b_dealt .nil pass0 (pa_cons (pv 1) (pa_cons (pv 2) (pa_cons (pe_call (ok__law_blocks T) (hr.mono (by decide)) (by rfl) T.g__law_blocks T.F__law_blocks.kp T.b__law_blocks .nil pass0 (pa_cons (pv 1) (pa_cons (pv 2) (pa_cons (pv 4) pa_nil)))) pa_nil)))) pa_nil))))))
      (pss_one (ps_ret (pe_and (pe_cmpR (op_eqD hr.units) (pe_call (ok_symbol_of T) (hr.mono (by decide)) (by rfl) T.g_symbol_of T.F_symbol_of.kp T.b_symbol_of .nil pass0 (pa_cons (pv 1) (pa_cons (pv 2) (pa_cons (pv 3) (pa_cons (pv 4) pa_nil))))) (pv 6) (nomark _)) (pe_one (pe_call (ok__law_sum_right T) (hr.mono (by decide)) (by rfl) T.g__law_sum_right T.F__law_sum_right.kp T.b__law_sum_right .nil pass0 (pa_cons (pv 0) (pa_cons (pv 1) (pa_cons (pv 2) (pa_cons (pv 3) (pa_cons (pv 4) pa_nil))))))))))))))))))))))))), ?_⟩
    refine ⟨_, rfl, p, a, b0, c, rfl, hp, fun s0 l m T1 a1 c1 H1 hs hl hm k1 p1 g1 => ?_⟩
    have hwd := bits_wd hs
    obtain ⟨d0, d1⟩ := data_le hs hl
    refine ⟨T1, [_, _, _], rfl, .inl (.inl g1), rfl, _, [_, _], rfl, _, [_], rfl, _, [], rfl, rfl, ?_⟩
    refine ⟨_, rfl, _, rfl, _, rfl, s0, l, rfl, hs, hl, fun H2 s2 => ?_⟩
    refine ⟨_, rfl, s0, rfl, hs, p, a1, b0, c1, dataF s0 l, bitsF s0, rfl, s2 _ _ p1, d0, d1, hwd, fun ws D a2 c2 H3 l3 v3 k3 n3 g3 p3 => ?_⟩
    refine ⟨_, rfl, _, rfl, _, rfl, s0, l, D, true, ws, rfl, hs, hl, .inl (.inl g3), rfl, v3, l3, fun B H4 FB => ?_⟩
    have ro := right_ok hs hl l3 v3
    refine ⟨_, rfl, _, rfl, _, rfl, _, rfl, _, rfl, _, rfl, s0, l, B, true, rightF s0 l ws, rfl, hs, hl, FB.gr, ro, fun E1 H5 s5 n5 g5 => ?_⟩
    refine ⟨s0, l, m, E1, true, _, rfl, hs, hl, hm, .inl (.inl g5), fun x hx => due_words hs hl ro hx, due_len _ _ _, fun U H6 FU => ?_⟩
    have g36 := FU.same0 _ _ (s5 _ _ (FB.same0 _ _ g3))
    refine ⟨_, rfl, _, rfl, _, rfl, _, rfl, s0, l, m, D, true, ws, rfl, hs, hl, hm, .inl (.inl g36), v3, l3, fun S H7 FS => ?_⟩
    have gU : GrB true K H7 U (symF s0 l m ws) := (FU.ext FS.same0).gr
    refine ⟨_, rfl, _, rfl, dGr (symF s0 l m ws), dGr (symF s0 l m ws), FS.gr.dp, gU.dp, dGr_shaped _, dGr_shaped _, ?_⟩
    rw [dGr_eq]
    refine ⟨false, rfl, iteF ?_⟩
    have g37 := FS.same0 _ _ g36
    refine ⟨_, rfl, .inl ⟨D, _, rfl, .inl (.inl g37), fun V1 hV => ?_⟩⟩
    have sV := same_upd (o := .tup (ws.map vN)) hV
    have gV := upd_same (H := H7) (a := V1) (o := .tup (ws.map vN))
    generalize (upd H7 V1 (.tup (ws.map vN))) = H7' at sV gV
    refine ⟨_, rfl, _, rfl, _, rfl, rfl, s0, l, m, V1, false, ws, rfl, hs, hl, hm, .inl (.inl gV), v3, l3, fun S2 H8 F2 => ?_⟩
    have s78 := sV.trans F2.same0
    refine ⟨_, rfl, dGr (symF s0 l m ws), dGr (symF s0 l m ws), F2.gr.dp, (gU.same s78).dp, dGr_shaped _, dGr_shaped _, ?_⟩
    rw [dGr_eq]
    refine ⟨false, rfl, iteF ?_⟩
    refine ⟨_, rfl, s0, rfl, hs, _, rfl, _, rfl, s0, l, rfl, hs, hl, _, rfl, _, rfl, s0, l, rfl, hs, hl, (by show 3 ≤ sizeLine; decide), fun C hC => ?_⟩
    have sC := same_upd (o := .tup [vN (bitsF s0), vN (ckF s0 l), vN (startF s0 l)]) hC
    have gC := upd_same (H := H8) (a := C) (o := .tup [vN (bitsF s0), vN (ckF s0 l), vN (startF s0 l)])
    have s7C := s78.trans sC
    have hdl : (dueF s0 l (rightF s0 l ws)).length = totF s0 := due_len _ _ _
    have hdw : ∀ x ∈ dueF s0 l (rightF s0 l ws), x < span (bitsF s0) := fun x hx => due_words hs hl ro hx
    have sqS : Sq (sdF s0) (symF s0 l m ws) := draw_sq hs hm hdl
    generalize (upd H8 C (.tup [vN (bitsF s0), vN (ckF s0 l), vN (startF s0 l)])) = H9 at sC gC s7C
    refine ⟨_, rfl, _, rfl, _, rfl, _, rfl, _, rfl, _, rfl, s0, m, S, true, symF s0 l m ws, rfl, hs, hm, FS.gr.same s7C, sqS, fun M H10 FM => ?_⟩
    refine ⟨s0, M, true, _, rfl, hs, FM.gr, turnG_sq sqS, fun W H11 s11 n11 g11 => ?_⟩
    rw [show symF s0 l m ws = drawF s0 l m (dueF s0 l (rightF s0 l ws)) from rfl, dots_un hs hm hdl, heard_whole hwd hdw] at g11
    have g11' : H11 W = some (.lst ((dueF s0 l (rightF s0 l ws)).map vN)) := by
      rw [g11, List.map_map]
      rfl
    refine ⟨s0, l, W, true, dueF s0 l (rightF s0 l ws), rfl, hs, hl, .inl (.inl g11'), hdw, hdl, fun R H12 FR => ?_⟩
    have eB : backF s0 l ((dueF s0 l (rightF s0 l ws)).map some) = gridN (rightF s0 l ws) := back_due hs hl ro
    rw [eB] at FR
    have s9R : Same H9 H12 := ((FM.same0.trans s11).trans FR.same0)
    have sB12 : Same H4 H12 := ((((s5.trans FU.same0).trans FS.same0).trans s7C).trans s9R)
    have gB12 : GrB true K H12 B (gridN (rightF s0 l ws)) := FB.gr.same sB12
    refine ⟨_, rfl, _, rfl, dGr (gridN (rightF s0 l ws)), dGr (gridN (rightF s0 l ws)), FR.gr.dp, gB12.dp, dGr_shaped _, dGr_shaped _, ?_⟩
    rw [dGr_eq]
    refine ⟨false, rfl, iteF ?_⟩
    obtain ⟨co, cn⟩ := code20 hs hl
    obtain ⟨hRn, LR, FIR⟩ := id FR
    refine ⟨_, rfl, R, rfl, ⟨_, .inl (.inl FIR.out)⟩, fun D5 hD5 => ?_⟩
    have gC12 := s9R _ _ gC
    refine lc_it (walk_list (K := K) (a := R) (xs := LR.map V.ref)) (fun i H' => Same H12 H' ∧ H' D5 = some (.lst [])) ⟨same_upd hD5, upd_same⟩ (fun i H' _ h => .inl (.inl (h.1 _ _ FIR.out))) ?_ ?_
    · rintro i v H0 H13 hi ⟨s13, g13⟩ ⟨rfl, e2⟩
      rw [List.length_map, FIR.len] at hi
      have hi2 : i < (blkF s0).length := by
        have := hi
        unfold gridN rightF at this
        rw [List.length_map, List.length_map, prow_len] at this
        exact this
      have eA : LR[i]? = some (LR[i]'(by rw [FIR.len]; exact hi)) := List.getElem?_eq_getElem _
      generalize LR[i]'(by rw [FIR.len]; exact hi) = la at eA
      rw [List.getElem?_map, eA] at e2
      obtain rfl := (Option.some.inj e2).symm
      obtain ⟨r, n, er, eb, lr, b1, b2, hm1, hin⟩ := prow_at hs hl l3 hi2
      have hwr : ∀ x ∈ r, x < span (bitsF s0) := fun x hx => v3 x (hin x hx)
      have lk := chF_len (l := l) hs r
      have nsp := cn n (List.mem_of_getElem? eb)
      obtain ⟨f1, f2, f3⟩ := FIR.row i la (ofN (r ++ chF s0 l r)) eA (by unfold gridN rightF; rw [List.getElem?_map, List.getElem?_map, er]; rfl)
      rw [ofN_v] at f3
      have hwrc : Ws (bitsF s0) (r ++ chF s0 l r) := fun x hx => by
        rcases List.mem_append.mp hx with h | h
        · exact hwr x h
        · exact chF_ws hs hwr x h
      refine ⟨rfl, ?_⟩
      refine ⟨_, rfl, _, rfl, C, la, true, bitsF s0, ckF s0 l, startF s0 l, r ++ chF s0 l r, rfl, .inl (.inl (s13 _ _ gC12)), co, .inl (.inl (s13 _ _ f3)), hwrc, by rw [List.length_append, lk]; omega, by rw [List.length_append, lk]; omega, fun H14 s14 => ?_⟩
      rw [ok_right hs hl hwr]
      exact ⟨true, rfl, iteF ⟨s13.trans s14, s14 _ _ g13⟩⟩
    rintro H13 ⟨s13, g13⟩
    refine ⟨(by show 0 ≤ sizeLine; decide), fun N0 hN0 => ?_⟩
    have sN := same_upd (o := .lst []) hN0
    have gN := upd_same (H := H13) (a := N0) (o := .lst [])
    have gD5 := sN _ _ g13
    have sN13 := s13.trans sN
    generalize (upd H13 N0 (.lst [])) = H14 at gN gD5 sN13
    refine ⟨dRow [], dRow [], dRow_dp (os := []) (.inl (.inl gD5)), dRow_dp (os := []) (.inl (.inl gN)), dRow_shaped _, dRow_shaped _, ?_⟩
    rw [dRow_eq]
    refine ⟨false, rfl, iteF ?_⟩
    have s7E : Same H7 H14 := (s7C.trans s9R).trans sN13
    obtain ⟨hSn, LS, FIS⟩ := id FS
    have lS : LS.length = sdF s0 := FIS.len.trans (lay_len _ _ _)
    have sp1 : 0 < sdF s0 := of_decide_eq_true (all5 (P := fun s => decide (0 < sdF s)) (by decide +kernel) hs)
    have eL0 : LS[0]? = some (LS[0]'(by omega)) := List.getElem?_eq_getElem _
    generalize LS[0]'(by omega) = la0 at eL0
    obtain ⟨f1, f2, f3⟩ := FIS.row 0 la0 _ eL0 (List.getElem?_eq_getElem (by rw [show (symF s0 l m ws).length = sdF s0 from lay_len _ _ _]; exact sp1))
    have gS14 := s7E _ _ FIS.out
    have gl14 := s7E _ _ f3
    have at0 : atI (LS.map V.ref) 0 = some (.ref la0) := atI_nat (j := 0) (by rw [List.getElem?_map, eL0]; rfl)
    refine ⟨_, rfl, S, _, 0, .ref la0, rfl, rfl, .inl (.inl gS14), at0, ?_⟩
    refine ⟨.inl ⟨rfl, _, .inl (.inl gl14)⟩, ?_⟩
    refine ⟨la0, _, rfl, rfl, gl14, ?_⟩
    have gS15 : (upd H14 la0 (.lst [])) S = some (.lst (LS.map V.ref)) := by
      rw [upd_ne (fun e => f2 e.symm)]
      exact gS14
    refine ⟨_, rfl, .inl ⟨rfl, _, .inl (.inl gS15)⟩, ?_⟩
    refine ⟨S, _, _, rfl, rfl, gS15, ?_, ?_⟩
    · rw [List.length_map, lS]
      have sd1 : sdF s0 ≤ 100 := of_decide_eq_true (all5 (P := fun s => decide (sdF s ≤ 100)) (by decide +kernel) hs)
      exact small1000 (by omega)
    have s15 : Same H6 (upd (upd H14 la0 (.lst [])) S (.lst (LS.map V.ref ++ [.non]))) := fun b o hb => by
      rw [upd_ne (ne_of_none hb hSn), upd_ne (ne_of_none hb f1)]
      exact s7E _ _ (FS.same0 _ _ hb)
    generalize (upd (upd H14 la0 (.lst [])) S (.lst (LS.map V.ref ++ [.non]))) = H15 at s15
    have gD15 := s15 _ _ g36
    have gU15 : GrB true K H15 U (symF s0 l m ws) := (FU.ext s15).gr
    have p15 := s15 _ _ (FU.same0 _ _ (s5 _ _ (FB.same0 _ _ p3)))
    refine ⟨_, rfl, _, rfl, _, rfl, _, rfl, s0, l, m, D, true, ws, rfl, hs, hl, hm, .inl (.inl gD15), v3, l3, fun S4 H16 F4 => ?_⟩
    refine ⟨_, rfl, dGr (symF s0 l m ws), dGr (symF s0 l m ws), F4.gr.dp, (gU15.same F4.same0).dp, dGr_shaped _, dGr_shaped _, ?_⟩
    rw [dGr_eq]
    refine ⟨false, rfl, iteF ?_⟩
    have gD16 := F4.same0 _ _ gD15
    have p16 := F4.same0 _ _ p15
    have lD : ((ws.map vN).length : Int) = (dataF s0 l : Nat) := by rw [List.length_map, l3]
    have nDp : D ≠ p := fun e => by rw [e, s2 _ _ p1] at n3; cases n3
    refine ⟨_, rfl, _, rfl, D, _, rfl, .inl (.inl (.inl gD16)), p, a2, b0, c2, ((dataF s0 l : Nat) : Int), congrArg (fun z => [V.ref p, V.int z]) lD, p16, by omega, by omega, fun n1 a4 c4 q0 q1 => ?_⟩
    obtain ⟨x1, rfl⟩ := Int.eq_ofNat_of_zero_le q0
    have hx1 : x1 < ws.length := by omega
    have gD17 : (upd H16 p (WellL a4 b0 c4)) D = some (.lst (ws.map vN)) := by
      rw [upd_ne nDp]
      exact gD16
    refine ⟨_, rfl, _, rfl, D, _, (x1 : Int), vN (gd ws x1), rfl, rfl, .inl (.inl gD17), atI_nat (by rw [List.getElem?_map, gd_in hx1]; rfl), _, _, rfl, rfl, ?_⟩
    refine ⟨_, rfl, _, rfl, D, _, _, x1, rfl, rfl, gD17, ixN_nat (by rw [List.length_map]; exact hx1), ?_⟩
    have ev : V.int (Builtin.bitXor (gd ws x1 : Int) 1) = vN (gd ws x1 ^^^ 1) := congrArg V.int (bx (gd ws x1) 1)
    have es : (ws.map vN).set x1 (V.int (Builtin.bitXor (gd ws x1 : Int) 1)) = (ws.set x1 (gd ws x1 ^^^ 1)).map vN := by rw [ev, List.map_set]
    have g18 : (upd (upd H16 p (WellL a4 b0 c4)) D (.lst ((ws.map vN).set x1 (V.int (Builtin.bitXor (gd ws x1 : Int) 1))))) D = some (.lst ((ws.set x1 (gd ws x1 ^^^ 1)).map vN)) := by rw [upd_same, es]
    have p18 : (upd (upd H16 p (WellL a4 b0 c4)) D (.lst ((ws.map vN).set x1 (V.int (Builtin.bitXor (gd ws x1 : Int) 1))))) p = some (WellL a4 b0 c4) := by rw [upd_ne (fun e => nDp e.symm), upd_same]
    have nDH : H D = none := by
      cases eq : H D with
      | none => rfl
      | some o => rw [s2 _ _ (k1 _ _ eq nDp)] at n3; cases n3
    have k18 : Kp p H (upd (upd H16 p (WellL a4 b0 c4)) D (.lst ((ws.map vN).set x1 (V.int (Builtin.bitXor (gd ws x1 : Int) 1))))) := fun b o hb hne => by
      rw [upd_ne (ne_of_none hb nDH), upd_ne hne]
      exact F4.same0 _ _ (s15 _ _ (FU.same0 _ _ (s5 _ _ (FB.same0 _ _ (k3 _ _ (s2 _ _ (k1 _ _ hb hne)) hne)))))
    have l3' : (ws.set x1 (gd ws x1 ^^^ 1)).length = dataF s0 l := by rw [List.length_set, l3]
    have v3' : ∀ x ∈ ws.set x1 (gd ws x1 ^^^ 1), x < span (bitsF s0) := fun x hx => by
      rcases List.mem_or_eq_of_mem_set hx with h | h
      · exact v3 x h
      · rw [h]
        have h1 := span_pos hwd
        exact xor_lt hwd (gd_lt hwd v3 x1) h1
    generalize ws.set x1 (gd ws x1 ^^^ 1) = us at g18 l3' v3'
    have ro' := right_ok hs hl l3' v3'
    refine ⟨_, rfl, _, rfl, _, rfl, _, rfl, _, rfl, _, rfl, _, rfl, _, rfl, s0, l, D, true, us, rfl, hs, hl, .inl (.inl g18), rfl, v3', l3', fun B2 H19 FB2 => ?_⟩
    have sB2 := FB2.same0
    refine ⟨s0, l, B2, true, rightF s0 l us, rfl, hs, hl, FB2.gr, ro', fun E2 H20 s20 n20 g20 => ?_⟩
    refine ⟨s0, l, m, E2, true, _, rfl, hs, hl, hm, .inl (.inl g20), fun x hx => due_words hs hl ro' hx, due_len _ _ _, fun U2 H21 FU2 => ?_⟩
    have s1821 := (sB2.trans s20).trans FU2.same0
    have g21 := s1821 _ _ g18
    refine ⟨_, rfl, _, rfl, _, rfl, _, rfl, s0, l, m, D, true, us, rfl, hs, hl, hm, .inl (.inl g21), v3', l3', fun S5 H22 F5 => ?_⟩
    refine ⟨_, rfl, dGr (symF s0 l m us), dGr (symF s0 l m us), F5.gr.dp, (FU2.ext F5.same0).gr.dp, dGr_shaped _, dGr_shaped _, ?_⟩
    rw [dGr_eq]
    have p22 := F5.same0 _ _ (s1821 _ _ p18)
    have g22 := F5.same0 _ _ g21
    have k22 := (k18.trans (Same.kp s1821)).trans (Same.kp F5.same0)
    exact ⟨true, rfl, iteT ⟨_, rfl, _, rfl, _, rfl, _, rfl, _, rfl, p, D, a4, b0, c4, s0, l, m, us, rfl, p22, hs, hl, hm, nDp, g22, v3', l3', fun a' c' H' kp gp => q a' c' H' (k22.trans kp) gp⟩⟩
/-! CUT -/
def sp_law (K : PySem.W.Frag) : Sp := fun vs H Q _ => ∃ (a : Addr) (ns : List Int), vs = [.ref a] ∧ SqL K H a (ns.map V.int) ∧ ns.length ≤ 63 ∧ ∀ H', Q (.bl true) H'
theorem ok_law (T : Txt K mg) : FnOk P w K mg base CX0 10 T.f_law T.d_law ["_law_script"] (sp_law K) := by
  refine T.F_law.ok sc_law (fun vs H Q E h => ?_) (fun cdv A outer s H vs Q E hr h => ?_)
  · obtain ⟨a, ns, rfl, _⟩ := h
    rfl
  · obtain ⟨a, ns, rfl, hS, hlen, q⟩ := h
    refine ⟨_, (pss_cons (ps_for PassesOwn.never rfl (pi_range1 (by rfl) T.n_range (pa_cons (pe_callB (call_max2 rfl) (by rfl) T.n_max (by decide +kernel) (pa_cons pe_int (pa_cons (pe_callB (call_min2 rfl) (by rfl) T.n_min (by decide +kernel) (pa_cons pe_int (pa_cons (pe_callB call_len_seq (by rfl) T.n_len (by decide +kernel) (pa_cons (pv 0) pa_nil)) pa_nil))) pa_nil))) pa_nil)) (pg_name (i := 1) sc_law.nd rfl (.inl rfl)) (pss_cons (ps_set (i := 2) sc_law.nd rfl (.inl rfl) (pe_call (ok__law_source T) (hr.mono (by decide)) (by rfl) T.g__law_source T.F__law_source.kp T.b__law_source .nil pass0 (pa_cons (pv 0) (pa_cons (pv 1) pa_nil))))
      (pss_one (ps_for PassesOwn.never rfl (pi_range1 (by rfl) T.n_range (pa_cons pe_int pa_nil)) (pg_name (i := 3) sc_law.nd rfl (.inl rfl)) (pss_one (ps_if (pt_not (pt_val (pe_call (ok__law_right T) (hr.mono (by decide)) (by rfl) T.g__law_right T.F__law_right.kp T.b__law_right .nil pass0 (pa_cons (pv 2) pa_nil)))) (pss_one (ps_ret pe_bl)) pss_nil))))))
      (pss_one (ps_ret pe_bl))), ?_⟩
    refine ⟨_, rfl, a, _, rfl, .inl hS, ?_⟩
    rw [List.length_map]
    refine ⟨_, _, rfl, _, _, rfl, ?_⟩
    obtain ⟨m, hm⟩ : ∃ m : Nat, (if (if ((ns.length : Nat) : Int) < 4 then ((ns.length : Nat) : Int) else 4) > 1 then (if ((ns.length : Nat) : Int) < 4 then ((ns.length : Nat) : Int) else 4) else 1) = (m : Int) ∧ m ≤ 4 := by
      refine ⟨max 1 (min 4 ns.length), ?_, by omega⟩
      split <;> split at * <;> omega
    obtain ⟨hm1, hm2⟩ := hm
    refine ⟨(m : Int), congrArg (fun z => [V.int z]) hm1, by omega, by omega, ?_⟩
    refine for_range (lo := 0) (n := m) (fun i σ H' => ∃ z1 z2 z3 : Option V, σ = [some (.ref a), z1, z2, z3] ∧ Same H H') ⟨_, _, _, rfl, Same.refl _⟩ ?_ ?_
    · rintro i σ H1 hi ⟨z1, z2, z3, rfl, s1⟩
      refine ⟨_, rfl, _, rfl, a, ns, i, congrArg (fun z => [V.ref a, V.int z]) (Int.zero_add _), s1.seq hS, hlen, fun p x y z H2 s2 n2 w2 => ?_⟩
      refine ⟨3, rfl, by omega, by omega, ?_⟩
      refine for_range (lo := 0) (n := 3) (fun j σ H' => ∃ z3 : Option V, σ = [some (.ref a), some (.int (0 + (i : Int))), some (.ref p), z3] ∧ Kp p H2 H' ∧ ∃ x z, H' p = some (WellL x y z)) ⟨_, rfl, fun b o h _ => h, x, z, w2⟩ ?_ ?_
      · rintro j σ H3 hj ⟨z3, rfl, k3, x3, z3', w3⟩
        exact ⟨_, rfl, p, x3, y, z3', rfl, w3, fun x' z' H4 k4 w4 => ⟨true, rfl, iteF ⟨_, rfl, k3.trans k4, x', z', w4⟩⟩⟩
      · rintro σ H3 ⟨z3, rfl, k3, _⟩
        refine ⟨_, _, _, rfl, fun c o hc => ?_⟩
        have hc1 := s1 _ _ hc
        exact k3 _ _ (s2 _ _ hc1) (ne_of_none hc1 n2)
    · rintro σ H1 ⟨z1, z2, z3, rfl, s1⟩
      exact q H1
/-! CUT -/
end
theorem all_mk {P : Program} {w : World} {K : PySem.W.Frag} {h : Heap} {mg : Str → Option Value} {fa : Addr} (X : K.In h) (G : h.Ns mainGlobals mg) (hfa : mg "law" = some (.ref fa))
    {f0 : Addr} {od0 an0 : Option Addr} {sl0 : Array (Option Value)} {oc0 kV0 dc0 pm0 cd0 ct0 : Value}
    (a0 : PySem.W.nsIn K mainGlobals "is_number" = some (some (.ref f0)))
    (l0 : K.lookup f0 = some ⟨oc0, od0, .func (PySem.W.fnOf "is_number" "is_number" (defArgs s_is_number) (defBody s_is_number) (defScope s_is_number) .none kV0 dc0 pm0 an0 cd0 ct0), sl0⟩) (c0 : PySem.W.codeIn K cd0 "is_number" = true) (k0 : PySem.W.keepIn K (.ref f0) = true)
    {f1 : Addr} {od1 an1 : Option Addr} {sl1 : Array (Option Value)} {oc1 kV1 dc1 pm1 cd1 ct1 : Value}
    (a1 : PySem.W.nsIn K mainGlobals "is_number_to" = some (some (.ref f1)))
    (l1 : K.lookup f1 = some ⟨oc1, od1, .func (PySem.W.fnOf "is_number_to" "is_number_to" (defArgs s_is_number_to) (defBody s_is_number_to) (defScope s_is_number_to) .none kV1 dc1 pm1 an1 cd1 ct1), sl1⟩) (c1 : PySem.W.codeIn K cd1 "is_number_to" = true) (k1 : PySem.W.keepIn K (.ref f1) = true)
    {f2 : Addr} {od2 an2 : Option Addr} {sl2 : Array (Option Value)} {oc2 kV2 dc2 pm2 cd2 ct2 : Value}
    (a2 : PySem.W.nsIn K mainGlobals "is_word" = some (some (.ref f2)))
    (l2 : K.lookup f2 = some ⟨oc2, od2, .func (PySem.W.fnOf "is_word" "is_word" (defArgs s_is_word) (defBody s_is_word) (defScope s_is_word) .none kV2 dc2 pm2 an2 cd2 ct2), sl2⟩) (c2 : PySem.W.codeIn K cd2 "is_word" = true) (k2 : PySem.W.keepIn K (.ref f2) = true)
    {f3 : Addr} {od3 an3 : Option Addr} {sl3 : Array (Option Value)} {oc3 kV3 dc3 pm3 cd3 ct3 : Value}
    (a3 : PySem.W.nsIn K mainGlobals "is_row" = some (some (.ref f3)))
    (l3 : K.lookup f3 = some ⟨oc3, od3, .func (PySem.W.fnOf "is_row" "is_row" (defArgs s_is_row) (defBody s_is_row) (defScope s_is_row) .none kV3 dc3 pm3 an3 cd3 ct3), sl3⟩) (c3 : PySem.W.codeIn K cd3 "is_row" = true) (k3 : PySem.W.keepIn K (.ref f3) = true)
    {f4 : Addr} {od4 an4 : Option Addr} {sl4 : Array (Option Value)} {oc4 kV4 dc4 pm4 cd4 ct4 : Value}
    (a4 : PySem.W.nsIn K mainGlobals "are_plain_words" = some (some (.ref f4)))
    (l4 : K.lookup f4 = some ⟨oc4, od4, .func (PySem.W.fnOf "are_plain_words" "are_plain_words" (defArgs s_are_plain_words) (defBody s_are_plain_words) (defScope s_are_plain_words) .none kV4 dc4 pm4 an4 cd4 ct4), sl4⟩) (c4 : PySem.W.codeIn K cd4 "are_plain_words" = true) (k4 : PySem.W.keepIn K (.ref f4) = true)
    {f5 : Addr} {od5 an5 : Option Addr} {sl5 : Array (Option Value)} {oc5 kV5 dc5 pm5 cd5 ct5 : Value}
    (a5 : PySem.W.nsIn K mainGlobals "need_words" = some (some (.ref f5)))
    (l5 : K.lookup f5 = some ⟨oc5, od5, .func (PySem.W.fnOf "need_words" "need_words" (defArgs s_need_words) (defBody s_need_words) (defScope s_need_words) .none kV5 dc5 pm5 an5 cd5 ct5), sl5⟩) (c5 : PySem.W.codeIn K cd5 "need_words" = true) (k5 : PySem.W.keepIn K (.ref f5) = true)
    {f6 : Addr} {od6 an6 : Option Addr} {sl6 : Array (Option Value)} {oc6 kV6 dc6 pm6 cd6 ct6 : Value}
    (l6 : K.lookup f6 = some ⟨oc6, od6, .func (PySem.W.fnOf "__init__" "Field.__init__" (defArgs s_Field___init__) (defBody s_Field___init__) (defScope s_Field___init__) .none kV6 dc6 pm6 an6 cd6 ct6), sl6⟩) (c6 : PySem.W.codeIn K cd6 "Field.__init__" = true) (k6 : PySem.W.keepIn K (.ref f6) = true)
    {f7 : Addr} {od7 an7 : Option Addr} {sl7 : Array (Option Value)} {oc7 kV7 dc7 pm7 cd7 ct7 : Value}
    (l7 : K.lookup f7 = some ⟨oc7, od7, .func (PySem.W.fnOf "multiple" "Field.multiple" (defArgs s_Field_multiple) (defBody s_Field_multiple) (defScope s_Field_multiple) .none kV7 dc7 pm7 an7 cd7 ct7), sl7⟩) (c7 : PySem.W.codeIn K cd7 "Field.multiple" = true) (k7 : PySem.W.keepIn K (.ref f7) = true)
    {f8 : Addr} {od8 an8 : Option Addr} {sl8 : Array (Option Value)} {oc8 kV8 dc8 pm8 cd8 ct8 : Value}
    (l8 : K.lookup f8 = some ⟨oc8, od8, .func (PySem.W.fnOf "two_to" "Field.two_to" (defArgs s_Field_two_to) (defBody s_Field_two_to) (defScope s_Field_two_to) .none kV8 dc8 pm8 an8 cd8 ct8), sl8⟩) (c8 : PySem.W.codeIn K cd8 "Field.two_to" = true) (k8 : PySem.W.keepIn K (.ref f8) = true)
    {f9 : Addr} {od9 an9 : Option Addr} {sl9 : Array (Option Value)} {oc9 kV9 dc9 pm9 cd9 ct9 : Value}
    (l9 : K.lookup f9 = some ⟨oc9, od9, .func (PySem.W.fnOf "times" "Field.times" (defArgs s_Field_times) (defBody s_Field_times) (defScope s_Field_times) .none kV9 dc9 pm9 an9 cd9 ct9), sl9⟩) (c9 : PySem.W.codeIn K cd9 "Field.times" = true) (k9 : PySem.W.keepIn K (.ref f9) = true)
    {f10 : Addr} {od10 an10 : Option Addr} {sl10 : Array (Option Value)} {oc10 kV10 dc10 pm10 cd10 ct10 : Value}
    (a10 : PySem.W.nsIn K mainGlobals "check_factor" = some (some (.ref f10)))
    (l10 : K.lookup f10 = some ⟨oc10, od10, .func (PySem.W.fnOf "check_factor" "check_factor" (defArgs s_check_factor) (defBody s_check_factor) (defScope s_check_factor) .none kV10 dc10 pm10 an10 cd10 ct10), sl10⟩) (c10 : PySem.W.codeIn K cd10 "check_factor" = true) (k10 : PySem.W.keepIn K (.ref f10) = true)
    {f11 : Addr} {od11 an11 : Option Addr} {sl11 : Array (Option Value)} {oc11 kV11 dc11 pm11 cd11 ct11 : Value}
    (a11 : PySem.W.nsIn K mainGlobals "next_rest" = some (some (.ref f11)))
    (l11 : K.lookup f11 = some ⟨oc11, od11, .func (PySem.W.fnOf "next_rest" "next_rest" (defArgs s_next_rest) (defBody s_next_rest) (defScope s_next_rest) .none kV11 dc11 pm11 an11 cd11 ct11), sl11⟩) (c11 : PySem.W.codeIn K cd11 "next_rest" = true) (k11 : PySem.W.keepIn K (.ref f11) = true)
    {f12 : Addr} {od12 an12 : Option Addr} {sl12 : Array (Option Value)} {oc12 kV12 dc12 pm12 cd12 ct12 : Value}
    (a12 : PySem.W.nsIn K mainGlobals "with_checks" = some (some (.ref f12)))
    (l12 : K.lookup f12 = some ⟨oc12, od12, .func (PySem.W.fnOf "with_checks" "with_checks" (defArgs s_with_checks) (defBody s_with_checks) (defScope s_with_checks) .none kV12 dc12 pm12 an12 cd12 ct12), sl12⟩) (c12 : PySem.W.codeIn K cd12 "with_checks" = true) (k12 : PySem.W.keepIn K (.ref f12) = true)
    {f13 : Addr} {od13 an13 : Option Addr} {sl13 : Array (Option Value)} {oc13 kV13 dc13 pm13 cd13 ct13 : Value}
    (a13 : PySem.W.nsIn K mainGlobals "is_code" = some (some (.ref f13)))
    (l13 : K.lookup f13 = some ⟨oc13, od13, .func (PySem.W.fnOf "is_code" "is_code" (defArgs s_is_code) (defBody s_is_code) (defScope s_is_code) .none kV13 dc13 pm13 an13 cd13 ct13), sl13⟩) (c13 : PySem.W.codeIn K cd13 "is_code" = true) (k13 : PySem.W.keepIn K (.ref f13) = true)
    {f14 : Addr} {od14 an14 : Option Addr} {sl14 : Array (Option Value)} {oc14 kV14 dc14 pm14 cd14 ct14 : Value}
    (a14 : PySem.W.nsIn K mainGlobals "need_code" = some (some (.ref f14)))
    (l14 : K.lookup f14 = some ⟨oc14, od14, .func (PySem.W.fnOf "need_code" "need_code" (defArgs s_need_code) (defBody s_need_code) (defScope s_need_code) .none kV14 dc14 pm14 an14 cd14 ct14), sl14⟩) (c14 : PySem.W.codeIn K cd14 "need_code" = true) (k14 : PySem.W.keepIn K (.ref f14) = true)
    {f15 : Addr} {od15 an15 : Option Addr} {sl15 : Array (Option Value)} {oc15 kV15 dc15 pm15 cd15 ct15 : Value}
    (a15 : PySem.W.nsIn K mainGlobals "most_words" = some (some (.ref f15)))
    (l15 : K.lookup f15 = some ⟨oc15, od15, .func (PySem.W.fnOf "most_words" "most_words" (defArgs s_most_words) (defBody s_most_words) (defScope s_most_words) .none kV15 dc15 pm15 an15 cd15 ct15), sl15⟩) (c15 : PySem.W.codeIn K cd15 "most_words" = true) (k15 : PySem.W.keepIn K (.ref f15) = true)
    {f16 : Addr} {od16 an16 : Option Addr} {sl16 : Array (Option Value)} {oc16 kV16 dc16 pm16 cd16 ct16 : Value}
    (a16 : PySem.W.nsIn K mainGlobals "is_length" = some (some (.ref f16)))
    (l16 : K.lookup f16 = some ⟨oc16, od16, .func (PySem.W.fnOf "is_length" "is_length" (defArgs s_is_length) (defBody s_is_length) (defScope s_is_length) .none kV16 dc16 pm16 an16 cd16 ct16), sl16⟩) (c16 : PySem.W.codeIn K cd16 "is_length" = true) (k16 : PySem.W.keepIn K (.ref f16) = true)
    {f17 : Addr} {od17 an17 : Option Addr} {sl17 : Array (Option Value)} {oc17 kV17 dc17 pm17 cd17 ct17 : Value}
    (a17 : PySem.W.nsIn K mainGlobals "check_words" = some (some (.ref f17)))
    (l17 : K.lookup f17 = some ⟨oc17, od17, .func (PySem.W.fnOf "check_words" "check_words" (defArgs s_check_words) (defBody s_check_words) (defScope s_check_words) .none kV17 dc17 pm17 an17 cd17 ct17), sl17⟩) (c17 : PySem.W.codeIn K cd17 "check_words" = true) (k17 : PySem.W.keepIn K (.ref f17) = true)
    {f18 : Addr} {od18 an18 : Option Addr} {sl18 : Array (Option Value)} {oc18 kV18 dc18 pm18 cd18 ct18 : Value}
    (a18 : PySem.W.nsIn K mainGlobals "value_at" = some (some (.ref f18)))
    (l18 : K.lookup f18 = some ⟨oc18, od18, .func (PySem.W.fnOf "value_at" "value_at" (defArgs s_value_at) (defBody s_value_at) (defScope s_value_at) .none kV18 dc18 pm18 an18 cd18 ct18), sl18⟩) (c18 : PySem.W.codeIn K cd18 "value_at" = true) (k18 : PySem.W.keepIn K (.ref f18) = true)
    {f19 : Addr} {od19 an19 : Option Addr} {sl19 : Array (Option Value)} {oc19 kV19 dc19 pm19 cd19 ct19 : Value}
    (a19 : PySem.W.nsIn K mainGlobals "sums_of" = some (some (.ref f19)))
    (l19 : K.lookup f19 = some ⟨oc19, od19, .func (PySem.W.fnOf "sums_of" "sums_of" (defArgs s_sums_of) (defBody s_sums_of) (defScope s_sums_of) .none kV19 dc19 pm19 an19 cd19 ct19), sl19⟩) (c19 : PySem.W.codeIn K cd19 "sums_of" = true) (k19 : PySem.W.keepIn K (.ref f19) = true)
    {f20 : Addr} {od20 an20 : Option Addr} {sl20 : Array (Option Value)} {oc20 kV20 dc20 pm20 cd20 ct20 : Value}
    (a20 : PySem.W.nsIn K mainGlobals "need_row" = some (some (.ref f20)))
    (l20 : K.lookup f20 = some ⟨oc20, od20, .func (PySem.W.fnOf "need_row" "need_row" (defArgs s_need_row) (defBody s_need_row) (defScope s_need_row) .none kV20 dc20 pm20 an20 cd20 ct20), sl20⟩) (c20 : PySem.W.codeIn K cd20 "need_row" = true) (k20 : PySem.W.keepIn K (.ref f20) = true)
    {f21 : Addr} {od21 an21 : Option Addr} {sl21 : Array (Option Value)} {oc21 kV21 dc21 pm21 cd21 ct21 : Value}
    (a21 : PySem.W.nsIn K mainGlobals "syndromes" = some (some (.ref f21)))
    (l21 : K.lookup f21 = some ⟨oc21, od21, .func (PySem.W.fnOf "syndromes" "syndromes" (defArgs s_syndromes) (defBody s_syndromes) (defScope s_syndromes) .none kV21 dc21 pm21 an21 cd21 ct21), sl21⟩) (c21 : PySem.W.codeIn K cd21 "syndromes" = true) (k21 : PySem.W.keepIn K (.ref f21) = true)
    {f22 : Addr} {od22 an22 : Option Addr} {sl22 : Array (Option Value)} {oc22 kV22 dc22 pm22 cd22 ct22 : Value}
    (a22 : PySem.W.nsIn K mainGlobals "is_right" = some (some (.ref f22)))
    (l22 : K.lookup f22 = some ⟨oc22, od22, .func (PySem.W.fnOf "is_right" "is_right" (defArgs s_is_right) (defBody s_is_right) (defScope s_is_right) .none kV22 dc22 pm22 an22 cd22 ct22), sl22⟩) (c22 : PySem.W.codeIn K cd22 "is_right" = true) (k22 : PySem.W.keepIn K (.ref f22) = true)
    {f23 : Addr} {od23 an23 : Option Addr} {sl23 : Array (Option Value)} {oc23 kV23 dc23 pm23 cd23 ct23 : Value}
    (a23 : PySem.W.nsIn K mainGlobals "need_size" = some (some (.ref f23)))
    (l23 : K.lookup f23 = some ⟨oc23, od23, .func (PySem.W.fnOf "need_size" "need_size" (defArgs s_need_size) (defBody s_need_size) (defScope s_need_size) .none kV23 dc23 pm23 an23 cd23 ct23), sl23⟩) (c23 : PySem.W.codeIn K cd23 "need_size" = true) (k23 : PySem.W.keepIn K (.ref f23) = true)
    {f24 : Addr} {od24 an24 : Option Addr} {sl24 : Array (Option Value)} {oc24 kV24 dc24 pm24 cd24 ct24 : Value}
    (a24 : PySem.W.nsIn K mainGlobals "need_level" = some (some (.ref f24)))
    (l24 : K.lookup f24 = some ⟨oc24, od24, .func (PySem.W.fnOf "need_level" "need_level" (defArgs s_need_level) (defBody s_need_level) (defScope s_need_level) .none kV24 dc24 pm24 an24 cd24 ct24), sl24⟩) (c24 : PySem.W.codeIn K cd24 "need_level" = true) (k24 : PySem.W.keepIn K (.ref f24) = true)
    {f25 : Addr} {od25 an25 : Option Addr} {sl25 : Array (Option Value)} {oc25 kV25 dc25 pm25 cd25 ct25 : Value}
    (a25 : PySem.W.nsIn K mainGlobals "need_mask" = some (some (.ref f25)))
    (l25 : K.lookup f25 = some ⟨oc25, od25, .func (PySem.W.fnOf "need_mask" "need_mask" (defArgs s_need_mask) (defBody s_need_mask) (defScope s_need_mask) .none kV25 dc25 pm25 an25 cd25 ct25), sl25⟩) (c25 : PySem.W.codeIn K cd25 "need_mask" = true) (k25 : PySem.W.keepIn K (.ref f25) = true)
    {f26 : Addr} {od26 an26 : Option Addr} {sl26 : Array (Option Value)} {oc26 kV26 dc26 pm26 cd26 ct26 : Value}
    (a26 : PySem.W.nsIn K mainGlobals "block_sizes" = some (some (.ref f26)))
    (l26 : K.lookup f26 = some ⟨oc26, od26, .func (PySem.W.fnOf "block_sizes" "block_sizes" (defArgs s_block_sizes) (defBody s_block_sizes) (defScope s_block_sizes) .none kV26 dc26 pm26 an26 cd26 ct26), sl26⟩) (c26 : PySem.W.codeIn K cd26 "block_sizes" = true) (k26 : PySem.W.keepIn K (.ref f26) = true)
    {f27 : Addr} {od27 an27 : Option Addr} {sl27 : Array (Option Value)} {oc27 kV27 dc27 pm27 cd27 ct27 : Value}
    (a27 : PySem.W.nsIn K mainGlobals "word_count" = some (some (.ref f27)))
    (l27 : K.lookup f27 = some ⟨oc27, od27, .func (PySem.W.fnOf "word_count" "word_count" (defArgs s_word_count) (defBody s_word_count) (defScope s_word_count) .none kV27 dc27 pm27 an27 cd27 ct27), sl27⟩) (c27 : PySem.W.codeIn K cd27 "word_count" = true) (k27 : PySem.W.keepIn K (.ref f27) = true)
    {f28 : Addr} {od28 an28 : Option Addr} {sl28 : Array (Option Value)} {oc28 kV28 dc28 pm28 cd28 ct28 : Value}
    (a28 : PySem.W.nsIn K mainGlobals "word_bits" = some (some (.ref f28)))
    (l28 : K.lookup f28 = some ⟨oc28, od28, .func (PySem.W.fnOf "word_bits" "word_bits" (defArgs s_word_bits) (defBody s_word_bits) (defScope s_word_bits) .none kV28 dc28 pm28 an28 cd28 ct28), sl28⟩) (c28 : PySem.W.codeIn K cd28 "word_bits" = true) (k28 : PySem.W.keepIn K (.ref f28) = true)
    {f29 : Addr} {od29 an29 : Option Addr} {sl29 : Array (Option Value)} {oc29 kV29 dc29 pm29 cd29 ct29 : Value}
    (a29 : PySem.W.nsIn K mainGlobals "check_count" = some (some (.ref f29)))
    (l29 : K.lookup f29 = some ⟨oc29, od29, .func (PySem.W.fnOf "check_count" "check_count" (defArgs s_check_count) (defBody s_check_count) (defScope s_check_count) .none kV29 dc29 pm29 an29 cd29 ct29), sl29⟩) (c29 : PySem.W.codeIn K cd29 "check_count" = true) (k29 : PySem.W.keepIn K (.ref f29) = true)
    {f30 : Addr} {od30 an30 : Option Addr} {sl30 : Array (Option Value)} {oc30 kV30 dc30 pm30 cd30 ct30 : Value}
    (a30 : PySem.W.nsIn K mainGlobals "code_start" = some (some (.ref f30)))
    (l30 : K.lookup f30 = some ⟨oc30, od30, .func (PySem.W.fnOf "code_start" "code_start" (defArgs s_code_start) (defBody s_code_start) (defScope s_code_start) .none kV30 dc30 pm30 an30 cd30 ct30), sl30⟩) (c30 : PySem.W.codeIn K cd30 "code_start" = true) (k30 : PySem.W.keepIn K (.ref f30) = true)
    {f31 : Addr} {od31 an31 : Option Addr} {sl31 : Array (Option Value)} {oc31 kV31 dc31 pm31 cd31 ct31 : Value}
    (a31 : PySem.W.nsIn K mainGlobals "data_count" = some (some (.ref f31)))
    (l31 : K.lookup f31 = some ⟨oc31, od31, .func (PySem.W.fnOf "data_count" "data_count" (defArgs s_data_count) (defBody s_data_count) (defScope s_data_count) .none kV31 dc31 pm31 an31 cd31 ct31), sl31⟩) (c31 : PySem.W.codeIn K cd31 "data_count" = true) (k31 : PySem.W.keepIn K (.ref f31) = true)
    {f32 : Addr} {od32 an32 : Option Addr} {sl32 : Array (Option Value)} {oc32 kV32 dc32 pm32 cd32 ct32 : Value}
    (a32 : PySem.W.nsIn K mainGlobals "is_plain_grid" = some (some (.ref f32)))
    (l32 : K.lookup f32 = some ⟨oc32, od32, .func (PySem.W.fnOf "is_plain_grid" "is_plain_grid" (defArgs s_is_plain_grid) (defBody s_is_plain_grid) (defScope s_is_plain_grid) .none kV32 dc32 pm32 an32 cd32 ct32), sl32⟩) (c32 : PySem.W.codeIn K cd32 "is_plain_grid" = true) (k32 : PySem.W.keepIn K (.ref f32) = true)
    {f33 : Addr} {od33 an33 : Option Addr} {sl33 : Array (Option Value)} {oc33 kV33 dc33 pm33 cd33 ct33 : Value}
    (a33 : PySem.W.nsIn K mainGlobals "need_dot_rows" = some (some (.ref f33)))
    (l33 : K.lookup f33 = some ⟨oc33, od33, .func (PySem.W.fnOf "need_dot_rows" "need_dot_rows" (defArgs s_need_dot_rows) (defBody s_need_dot_rows) (defScope s_need_dot_rows) .none kV33 dc33 pm33 an33 cd33 ct33), sl33⟩) (c33 : PySem.W.codeIn K cd33 "need_dot_rows" = true) (k33 : PySem.W.keepIn K (.ref f33) = true)
    {f34 : Addr} {od34 an34 : Option Addr} {sl34 : Array (Option Value)} {oc34 kV34 dc34 pm34 cd34 ct34 : Value}
    (a34 : PySem.W.nsIn K mainGlobals "need_grid" = some (some (.ref f34)))
    (l34 : K.lookup f34 = some ⟨oc34, od34, .func (PySem.W.fnOf "need_grid" "need_grid" (defArgs s_need_grid) (defBody s_need_grid) (defScope s_need_grid) .none kV34 dc34 pm34 an34 cd34 ct34), sl34⟩) (c34 : PySem.W.codeIn K cd34 "need_grid" = true) (k34 : PySem.W.keepIn K (.ref f34) = true)
    {f35 : Addr} {od35 an35 : Option Addr} {sl35 : Array (Option Value)} {oc35 kV35 dc35 pm35 cd35 ct35 : Value}
    (a35 : PySem.W.nsIn K mainGlobals "need_symbol_words" = some (some (.ref f35)))
    (l35 : K.lookup f35 = some ⟨oc35, od35, .func (PySem.W.fnOf "need_symbol_words" "need_symbol_words" (defArgs s_need_symbol_words) (defBody s_need_symbol_words) (defScope s_need_symbol_words) .none kV35 dc35 pm35 an35 cd35 ct35), sl35⟩) (c35 : PySem.W.codeIn K cd35 "need_symbol_words" = true) (k35 : PySem.W.keepIn K (.ref f35) = true)
    {f36 : Addr} {od36 an36 : Option Addr} {sl36 : Array (Option Value)} {oc36 kV36 dc36 pm36 cd36 ct36 : Value}
    (a36 : PySem.W.nsIn K mainGlobals "block_places" = some (some (.ref f36)))
    (l36 : K.lookup f36 = some ⟨oc36, od36, .func (PySem.W.fnOf "block_places" "block_places" (defArgs s_block_places) (defBody s_block_places) (defScope s_block_places) .none kV36 dc36 pm36 an36 cd36 ct36), sl36⟩) (c36 : PySem.W.codeIn K cd36 "block_places" = true) (k36 : PySem.W.keepIn K (.ref f36) = true)
    {f37 : Addr} {od37 an37 : Option Addr} {sl37 : Array (Option Value)} {oc37 kV37 dc37 pm37 cd37 ct37 : Value}
    (a37 : PySem.W.nsIn K mainGlobals "dealt_words" = some (some (.ref f37)))
    (l37 : K.lookup f37 = some ⟨oc37, od37, .func (PySem.W.fnOf "dealt_words" "dealt_words" (defArgs s_dealt_words) (defBody s_dealt_words) (defScope s_dealt_words) .none kV37 dc37 pm37 an37 cd37 ct37), sl37⟩) (c37 : PySem.W.codeIn K cd37 "dealt_words" = true) (k37 : PySem.W.keepIn K (.ref f37) = true)
    {f38 : Addr} {od38 an38 : Option Addr} {sl38 : Array (Option Value)} {oc38 kV38 dc38 pm38 cd38 ct38 : Value}
    (a38 : PySem.W.nsIn K mainGlobals "gathered_words" = some (some (.ref f38)))
    (l38 : K.lookup f38 = some ⟨oc38, od38, .func (PySem.W.fnOf "gathered_words" "gathered_words" (defArgs s_gathered_words) (defBody s_gathered_words) (defScope s_gathered_words) .none kV38 dc38 pm38 an38 cd38 ct38), sl38⟩) (c38 : PySem.W.codeIn K cd38 "gathered_words" = true) (k38 : PySem.W.keepIn K (.ref f38) = true)
    {f39 : Addr} {od39 an39 : Option Addr} {sl39 : Array (Option Value)} {oc39 kV39 dc39 pm39 cd39 ct39 : Value}
    (a39 : PySem.W.nsIn K mainGlobals "need_block" = some (some (.ref f39)))
    (l39 : K.lookup f39 = some ⟨oc39, od39, .func (PySem.W.fnOf "need_block" "need_block" (defArgs s_need_block) (defBody s_need_block) (defScope s_need_block) .none kV39 dc39 pm39 an39 cd39 ct39), sl39⟩) (c39 : PySem.W.codeIn K cd39 "need_block" = true) (k39 : PySem.W.keepIn K (.ref f39) = true)
    {f40 : Addr} {od40 an40 : Option Addr} {sl40 : Array (Option Value)} {oc40 kV40 dc40 pm40 cd40 ct40 : Value}
    (a40 : PySem.W.nsIn K mainGlobals "dealt" = some (some (.ref f40)))
    (l40 : K.lookup f40 = some ⟨oc40, od40, .func (PySem.W.fnOf "dealt" "dealt" (defArgs s_dealt) (defBody s_dealt) (defScope s_dealt) .none kV40 dc40 pm40 an40 cd40 ct40), sl40⟩) (c40 : PySem.W.codeIn K cd40 "dealt" = true) (k40 : PySem.W.keepIn K (.ref f40) = true)
    {f41 : Addr} {od41 an41 : Option Addr} {sl41 : Array (Option Value)} {oc41 kV41 dc41 pm41 cd41 ct41 : Value}
    (a41 : PySem.W.nsIn K mainGlobals "gathered" = some (some (.ref f41)))
    (l41 : K.lookup f41 = some ⟨oc41, od41, .func (PySem.W.fnOf "gathered" "gathered" (defArgs s_gathered) (defBody s_gathered) (defScope s_gathered) .none kV41 dc41 pm41 an41 cd41 ct41), sl41⟩) (c41 : PySem.W.codeIn K cd41 "gathered" = true) (k41 : PySem.W.keepIn K (.ref f41) = true)
    {f42 : Addr} {od42 an42 : Option Addr} {sl42 : Array (Option Value)} {oc42 kV42 dc42 pm42 cd42 ct42 : Value}
    (a42 : PySem.W.nsIn K mainGlobals "words_as_bits" = some (some (.ref f42)))
    (l42 : K.lookup f42 = some ⟨oc42, od42, .func (PySem.W.fnOf "words_as_bits" "words_as_bits" (defArgs s_words_as_bits) (defBody s_words_as_bits) (defScope s_words_as_bits) .none kV42 dc42 pm42 an42 cd42 ct42), sl42⟩) (c42 : PySem.W.codeIn K cd42 "words_as_bits" = true) (k42 : PySem.W.keepIn K (.ref f42) = true)
    {f43 : Addr} {od43 an43 : Option Addr} {sl43 : Array (Option Value)} {oc43 kV43 dc43 pm43 cd43 ct43 : Value}
    (a43 : PySem.W.nsIn K mainGlobals "masked_grid" = some (some (.ref f43)))
    (l43 : K.lookup f43 = some ⟨oc43, od43, .func (PySem.W.fnOf "masked_grid" "masked_grid" (defArgs s_masked_grid) (defBody s_masked_grid) (defScope s_masked_grid) .none kV43 dc43 pm43 an43 cd43 ct43), sl43⟩) (c43 : PySem.W.codeIn K cd43 "masked_grid" = true) (k43 : PySem.W.keepIn K (.ref f43) = true)
    {f44 : Addr} {od44 an44 : Option Addr} {sl44 : Array (Option Value)} {oc44 kV44 dc44 pm44 cd44 ct44 : Value}
    (a44 : PySem.W.nsIn K mainGlobals "masked" = some (some (.ref f44)))
    (l44 : K.lookup f44 = some ⟨oc44, od44, .func (PySem.W.fnOf "masked" "masked" (defArgs s_masked) (defBody s_masked) (defScope s_masked) .none kV44 dc44 pm44 an44 cd44 ct44), sl44⟩) (c44 : PySem.W.codeIn K cd44 "masked" = true) (k44 : PySem.W.keepIn K (.ref f44) = true)
    {f45 : Addr} {od45 an45 : Option Addr} {sl45 : Array (Option Value)} {oc45 kV45 dc45 pm45 cd45 ct45 : Value}
    (a45 : PySem.W.nsIn K mainGlobals "bits_as_words" = some (some (.ref f45)))
    (l45 : K.lookup f45 = some ⟨oc45, od45, .func (PySem.W.fnOf "bits_as_words" "bits_as_words" (defArgs s_bits_as_words) (defBody s_bits_as_words) (defScope s_bits_as_words) .none kV45 dc45 pm45 an45 cd45 ct45), sl45⟩) (c45 : PySem.W.codeIn K cd45 "bits_as_words" = true) (k45 : PySem.W.keepIn K (.ref f45) = true)
    {f46 : Addr} {od46 an46 : Option Addr} {sl46 : Array (Option Value)} {oc46 kV46 dc46 pm46 cd46 ct46 : Value}
    (a46 : PySem.W.nsIn K mainGlobals "words_on" = some (some (.ref f46)))
    (l46 : K.lookup f46 = some ⟨oc46, od46, .func (PySem.W.fnOf "words_on" "words_on" (defArgs s_words_on) (defBody s_words_on) (defScope s_words_on) .none kV46 dc46 pm46 an46 cd46 ct46), sl46⟩) (c46 : PySem.W.codeIn K cd46 "words_on" = true) (k46 : PySem.W.keepIn K (.ref f46) = true)
    {f47 : Addr} {od47 an47 : Option Addr} {sl47 : Array (Option Value)} {oc47 kV47 dc47 pm47 cd47 ct47 : Value}
    (a47 : PySem.W.nsIn K mainGlobals "words_in" = some (some (.ref f47)))
    (l47 : K.lookup f47 = some ⟨oc47, od47, .func (PySem.W.fnOf "words_in" "words_in" (defArgs s_words_in) (defBody s_words_in) (defScope s_words_in) .none kV47 dc47 pm47 an47 cd47 ct47), sl47⟩) (c47 : PySem.W.codeIn K cd47 "words_in" = true) (k47 : PySem.W.keepIn K (.ref f47) = true)
    {f48 : Addr} {od48 an48 : Option Addr} {sl48 : Array (Option Value)} {oc48 kV48 dc48 pm48 cd48 ct48 : Value}
    (a48 : PySem.W.nsIn K mainGlobals "grid_of_words" = some (some (.ref f48)))
    (l48 : K.lookup f48 = some ⟨oc48, od48, .func (PySem.W.fnOf "grid_of_words" "grid_of_words" (defArgs s_grid_of_words) (defBody s_grid_of_words) (defScope s_grid_of_words) .none kV48 dc48 pm48 an48 cd48 ct48), sl48⟩) (c48 : PySem.W.codeIn K cd48 "grid_of_words" = true) (k48 : PySem.W.keepIn K (.ref f48) = true)
    {f49 : Addr} {od49 an49 : Option Addr} {sl49 : Array (Option Value)} {oc49 kV49 dc49 pm49 cd49 ct49 : Value}
    (a49 : PySem.W.nsIn K mainGlobals "word_of_format" = some (some (.ref f49)))
    (l49 : K.lookup f49 = some ⟨oc49, od49, .func (PySem.W.fnOf "word_of_format" "word_of_format" (defArgs s_word_of_format) (defBody s_word_of_format) (defScope s_word_of_format) .none kV49 dc49 pm49 an49 cd49 ct49), sl49⟩) (c49 : PySem.W.codeIn K cd49 "word_of_format" = true) (k49 : PySem.W.keepIn K (.ref f49) = true)
    {f50 : Addr} {od50 an50 : Option Addr} {sl50 : Array (Option Value)} {oc50 kV50 dc50 pm50 cd50 ct50 : Value}
    (a50 : PySem.W.nsIn K mainGlobals "as_bits" = some (some (.ref f50)))
    (l50 : K.lookup f50 = some ⟨oc50, od50, .func (PySem.W.fnOf "as_bits" "as_bits" (defArgs s_as_bits) (defBody s_as_bits) (defScope s_as_bits) .none kV50 dc50 pm50 an50 cd50 ct50), sl50⟩) (c50 : PySem.W.codeIn K cd50 "as_bits" = true) (k50 : PySem.W.keepIn K (.ref f50) = true)
    {f51 : Addr} {od51 an51 : Option Addr} {sl51 : Array (Option Value)} {oc51 kV51 dc51 pm51 cd51 ct51 : Value}
    (a51 : PySem.W.nsIn K mainGlobals "strip_shades" = some (some (.ref f51)))
    (l51 : K.lookup f51 = some ⟨oc51, od51, .func (PySem.W.fnOf "strip_shades" "strip_shades" (defArgs s_strip_shades) (defBody s_strip_shades) (defScope s_strip_shades) .none kV51 dc51 pm51 an51 cd51 ct51), sl51⟩) (c51 : PySem.W.codeIn K cd51 "strip_shades" = true) (k51 : PySem.W.keepIn K (.ref f51) = true)
    {f52 : Addr} {od52 an52 : Option Addr} {sl52 : Array (Option Value)} {oc52 kV52 dc52 pm52 cd52 ct52 : Value}
    (a52 : PySem.W.nsIn K mainGlobals "masked_words" = some (some (.ref f52)))
    (l52 : K.lookup f52 = some ⟨oc52, od52, .func (PySem.W.fnOf "masked_words" "masked_words" (defArgs s_masked_words) (defBody s_masked_words) (defScope s_masked_words) .none kV52 dc52 pm52 an52 cd52 ct52), sl52⟩) (c52 : PySem.W.codeIn K cd52 "masked_words" = true) (k52 : PySem.W.keepIn K (.ref f52) = true)
    {f53 : Addr} {od53 an53 : Option Addr} {sl53 : Array (Option Value)} {oc53 kV53 dc53 pm53 cd53 ct53 : Value}
    (a53 : PySem.W.nsIn K mainGlobals "drawn_grid" = some (some (.ref f53)))
    (l53 : K.lookup f53 = some ⟨oc53, od53, .func (PySem.W.fnOf "drawn_grid" "drawn_grid" (defArgs s_drawn_grid) (defBody s_drawn_grid) (defScope s_drawn_grid) .none kV53 dc53 pm53 an53 cd53 ct53), sl53⟩) (c53 : PySem.W.codeIn K cd53 "drawn_grid" = true) (k53 : PySem.W.keepIn K (.ref f53) = true)
    {f54 : Addr} {od54 an54 : Option Addr} {sl54 : Array (Option Value)} {oc54 kV54 dc54 pm54 cd54 ct54 : Value}
    (a54 : PySem.W.nsIn K mainGlobals "drawn" = some (some (.ref f54)))
    (l54 : K.lookup f54 = some ⟨oc54, od54, .func (PySem.W.fnOf "drawn" "drawn" (defArgs s_drawn) (defBody s_drawn) (defScope s_drawn) .none kV54 dc54 pm54 an54 cd54 ct54), sl54⟩) (c54 : PySem.W.codeIn K cd54 "drawn" = true) (k54 : PySem.W.keepIn K (.ref f54) = true)
    {f55 : Addr} {od55 an55 : Option Addr} {sl55 : Array (Option Value)} {oc55 kV55 dc55 pm55 cd55 ct55 : Value}
    (a55 : PySem.W.nsIn K mainGlobals "shares_of" = some (some (.ref f55)))
    (l55 : K.lookup f55 = some ⟨oc55, od55, .func (PySem.W.fnOf "shares_of" "shares_of" (defArgs s_shares_of) (defBody s_shares_of) (defScope s_shares_of) .none kV55 dc55 pm55 an55 cd55 ct55), sl55⟩) (c55 : PySem.W.codeIn K cd55 "shares_of" = true) (k55 : PySem.W.keepIn K (.ref f55) = true)
    {f56 : Addr} {od56 an56 : Option Addr} {sl56 : Array (Option Value)} {oc56 kV56 dc56 pm56 cd56 ct56 : Value}
    (a56 : PySem.W.nsIn K mainGlobals "own_counts" = some (some (.ref f56)))
    (l56 : K.lookup f56 = some ⟨oc56, od56, .func (PySem.W.fnOf "own_counts" "own_counts" (defArgs s_own_counts) (defBody s_own_counts) (defScope s_own_counts) .none kV56 dc56 pm56 an56 cd56 ct56), sl56⟩) (c56 : PySem.W.codeIn K cd56 "own_counts" = true) (k56 : PySem.W.keepIn K (.ref f56) = true)
    {f57 : Addr} {od57 an57 : Option Addr} {sl57 : Array (Option Value)} {oc57 kV57 dc57 pm57 cd57 ct57 : Value}
    (a57 : PySem.W.nsIn K mainGlobals "checks_told" = some (some (.ref f57)))
    (l57 : K.lookup f57 = some ⟨oc57, od57, .func (PySem.W.fnOf "checks_told" "checks_told" (defArgs s_checks_told) (defBody s_checks_told) (defScope s_checks_told) .none kV57 dc57 pm57 an57 cd57 ct57), sl57⟩) (c57 : PySem.W.codeIn K cd57 "checks_told" = true) (k57 : PySem.W.keepIn K (.ref f57) = true)
    {f58 : Addr} {od58 an58 : Option Addr} {sl58 : Array (Option Value)} {oc58 kV58 dc58 pm58 cd58 ct58 : Value}
    (a58 : PySem.W.nsIn K mainGlobals "number_as_words" = some (some (.ref f58)))
    (l58 : K.lookup f58 = some ⟨oc58, od58, .func (PySem.W.fnOf "number_as_words" "number_as_words" (defArgs s_number_as_words) (defBody s_number_as_words) (defScope s_number_as_words) .none kV58 dc58 pm58 an58 cd58 ct58), sl58⟩) (c58 : PySem.W.codeIn K cd58 "number_as_words" = true) (k58 : PySem.W.keepIn K (.ref f58) = true)
    {f59 : Addr} {od59 an59 : Option Addr} {sl59 : Array (Option Value)} {oc59 kV59 dc59 pm59 cd59 ct59 : Value}
    (a59 : PySem.W.nsIn K mainGlobals "parted_data" = some (some (.ref f59)))
    (l59 : K.lookup f59 = some ⟨oc59, od59, .func (PySem.W.fnOf "parted_data" "parted_data" (defArgs s_parted_data) (defBody s_parted_data) (defScope s_parted_data) .none kV59 dc59 pm59 an59 cd59 ct59), sl59⟩) (c59 : PySem.W.codeIn K cd59 "parted_data" = true) (k59 : PySem.W.keepIn K (.ref f59) = true)
    {f60 : Addr} {od60 an60 : Option Addr} {sl60 : Array (Option Value)} {oc60 kV60 dc60 pm60 cd60 ct60 : Value}
    (a60 : PySem.W.nsIn K mainGlobals "right_blocks" = some (some (.ref f60)))
    (l60 : K.lookup f60 = some ⟨oc60, od60, .func (PySem.W.fnOf "right_blocks" "right_blocks" (defArgs s_right_blocks) (defBody s_right_blocks) (defScope s_right_blocks) .none kV60 dc60 pm60 an60 cd60 ct60), sl60⟩) (c60 : PySem.W.codeIn K cd60 "right_blocks" = true) (k60 : PySem.W.keepIn K (.ref f60) = true)
    {f61 : Addr} {od61 an61 : Option Addr} {sl61 : Array (Option Value)} {oc61 kV61 dc61 pm61 cd61 ct61 : Value}
    (a61 : PySem.W.nsIn K mainGlobals "need_data" = some (some (.ref f61)))
    (l61 : K.lookup f61 = some ⟨oc61, od61, .func (PySem.W.fnOf "need_data" "need_data" (defArgs s_need_data) (defBody s_need_data) (defScope s_need_data) .none kV61 dc61 pm61 an61 cd61 ct61), sl61⟩) (c61 : PySem.W.codeIn K cd61 "need_data" = true) (k61 : PySem.W.keepIn K (.ref f61) = true)
    {f62 : Addr} {od62 an62 : Option Addr} {sl62 : Array (Option Value)} {oc62 kV62 dc62 pm62 cd62 ct62 : Value}
    (a62 : PySem.W.nsIn K mainGlobals "words_of_data" = some (some (.ref f62)))
    (l62 : K.lookup f62 = some ⟨oc62, od62, .func (PySem.W.fnOf "words_of_data" "words_of_data" (defArgs s_words_of_data) (defBody s_words_of_data) (defScope s_words_of_data) .none kV62 dc62 pm62 an62 cd62 ct62), sl62⟩) (c62 : PySem.W.codeIn K cd62 "words_of_data" = true) (k62 : PySem.W.keepIn K (.ref f62) = true)
    {f63 : Addr} {od63 an63 : Option Addr} {sl63 : Array (Option Value)} {oc63 kV63 dc63 pm63 cd63 ct63 : Value}
    (a63 : PySem.W.nsIn K mainGlobals "symbol_of" = some (some (.ref f63)))
    (l63 : K.lookup f63 = some ⟨oc63, od63, .func (PySem.W.fnOf "symbol_of" "symbol_of" (defArgs s_symbol_of) (defBody s_symbol_of) (defScope s_symbol_of) .none kV63 dc63 pm63 an63 cd63 ct63), sl63⟩) (c63 : PySem.W.codeIn K cd63 "symbol_of" = true) (k63 : PySem.W.keepIn K (.ref f63) = true)
    {f64 : Addr} {od64 an64 : Option Addr} {sl64 : Array (Option Value)} {oc64 kV64 dc64 pm64 cd64 ct64 : Value}
    (a64 : PySem.W.nsIn K mainGlobals "_law_mix" = some (some (.ref f64)))
    (l64 : K.lookup f64 = some ⟨oc64, od64, .func (PySem.W.fnOf "_law_mix" "_law_mix" (defArgs s__law_mix) (defBody s__law_mix) (defScope s__law_mix) .none kV64 dc64 pm64 an64 cd64 ct64), sl64⟩) (c64 : PySem.W.codeIn K cd64 "_law_mix" = true) (k64 : PySem.W.keepIn K (.ref f64) = true)
    {f65 : Addr} {od65 an65 : Option Addr} {sl65 : Array (Option Value)} {oc65 kV65 dc65 pm65 cd65 ct65 : Value}
    (a65 : PySem.W.nsIn K mainGlobals "_law_draw" = some (some (.ref f65)))
    (l65 : K.lookup f65 = some ⟨oc65, od65, .func (PySem.W.fnOf "_law_draw" "_law_draw" (defArgs s__law_draw) (defBody s__law_draw) (defScope s__law_draw) .none kV65 dc65 pm65 an65 cd65 ct65), sl65⟩) (c65 : PySem.W.codeIn K cd65 "_law_draw" = true) (k65 : PySem.W.keepIn K (.ref f65) = true)
    {f66 : Addr} {od66 an66 : Option Addr} {sl66 : Array (Option Value)} {oc66 kV66 dc66 pm66 cd66 ct66 : Value}
    (a66 : PySem.W.nsIn K mainGlobals "_law_source" = some (some (.ref f66)))
    (l66 : K.lookup f66 = some ⟨oc66, od66, .func (PySem.W.fnOf "_law_source" "_law_source" (defArgs s__law_source) (defBody s__law_source) (defScope s__law_source) .none kV66 dc66 pm66 an66 cd66 ct66), sl66⟩) (c66 : PySem.W.codeIn K cd66 "_law_source" = true) (k66 : PySem.W.keepIn K (.ref f66) = true)
    {f67 : Addr} {od67 an67 : Option Addr} {sl67 : Array (Option Value)} {oc67 kV67 dc67 pm67 cd67 ct67 : Value}
    (a67 : PySem.W.nsIn K mainGlobals "_law_format" = some (some (.ref f67)))
    (l67 : K.lookup f67 = some ⟨oc67, od67, .func (PySem.W.fnOf "_law_format" "_law_format" (defArgs s__law_format) (defBody s__law_format) (defScope s__law_format) .none kV67 dc67 pm67 an67 cd67 ct67), sl67⟩) (c67 : PySem.W.codeIn K cd67 "_law_format" = true) (k67 : PySem.W.keepIn K (.ref f67) = true)
    {f68 : Addr} {od68 an68 : Option Addr} {sl68 : Array (Option Value)} {oc68 kV68 dc68 pm68 cd68 ct68 : Value}
    (a68 : PySem.W.nsIn K mainGlobals "_law_words" = some (some (.ref f68)))
    (l68 : K.lookup f68 = some ⟨oc68, od68, .func (PySem.W.fnOf "_law_words" "_law_words" (defArgs s__law_words) (defBody s__law_words) (defScope s__law_words) .none kV68 dc68 pm68 an68 cd68 ct68), sl68⟩) (c68 : PySem.W.codeIn K cd68 "_law_words" = true) (k68 : PySem.W.keepIn K (.ref f68) = true)
    {f69 : Addr} {od69 an69 : Option Addr} {sl69 : Array (Option Value)} {oc69 kV69 dc69 pm69 cd69 ct69 : Value}
    (a69 : PySem.W.nsIn K mainGlobals "_law_blocks" = some (some (.ref f69)))
    (l69 : K.lookup f69 = some ⟨oc69, od69, .func (PySem.W.fnOf "_law_blocks" "_law_blocks" (defArgs s__law_blocks) (defBody s__law_blocks) (defScope s__law_blocks) .none kV69 dc69 pm69 an69 cd69 ct69), sl69⟩) (c69 : PySem.W.codeIn K cd69 "_law_blocks" = true) (k69 : PySem.W.keepIn K (.ref f69) = true)
    {f70 : Addr} {od70 an70 : Option Addr} {sl70 : Array (Option Value)} {oc70 kV70 dc70 pm70 cd70 ct70 : Value}
    (a70 : PySem.W.nsIn K mainGlobals "_law_sum_right" = some (some (.ref f70)))
    (l70 : K.lookup f70 = some ⟨oc70, od70, .func (PySem.W.fnOf "_law_sum_right" "_law_sum_right" (defArgs s__law_sum_right) (defBody s__law_sum_right) (defScope s__law_sum_right) .none kV70 dc70 pm70 an70 cd70 ct70), sl70⟩) (c70 : PySem.W.codeIn K cd70 "_law_sum_right" = true) (k70 : PySem.W.keepIn K (.ref f70) = true)
    {f71 : Addr} {od71 an71 : Option Addr} {sl71 : Array (Option Value)} {oc71 kV71 dc71 pm71 cd71 ct71 : Value}
    (a71 : PySem.W.nsIn K mainGlobals "_law_right" = some (some (.ref f71)))
    (l71 : K.lookup f71 = some ⟨oc71, od71, .func (PySem.W.fnOf "_law_right" "_law_right" (defArgs s__law_right) (defBody s__law_right) (defScope s__law_right) .none kV71 dc71 pm71 an71 cd71 ct71), sl71⟩) (c71 : PySem.W.codeIn K cd71 "_law_right" = true) (k71 : PySem.W.keepIn K (.ref f71) = true)
    {f72 : Addr} {od72 an72 : Option Addr} {sl72 : Array (Option Value)} {oc72 kV72 dc72 pm72 cd72 ct72 : Value}
    (a72 : PySem.W.nsIn K mainGlobals "law" = some (some (.ref f72)))
    (l72 : K.lookup f72 = some ⟨oc72, od72, .func (PySem.W.fnOf "law" "law" (defArgs s_law) (defBody s_law) (defScope s_law) .none kV72 dc72 pm72 an72 cd72 ct72), sl72⟩) (c72 : PySem.W.codeIn K cd72 "law" = true) (k72 : PySem.W.keepIn K (.ref f72) = true)
    {C_Field : Addr} (aC_Field : PySem.W.nsIn K mainGlobals "Field" = some (some (.ref C_Field))) (pg_Field : PySem.W.plainGet K C_Field Str.empty = true) (hd_Field : PySem.W.hasDictIn K C_Field = true) (po_Field : PySem.W.plainOver K C_Field = true)
    (sa_Field : PySem.W.findIn K (.ref C_Field) "__setattr__" = some (some (.builtin "object.__setattr__"))) (mk_Field : PySem.W.makesIn K C_Field = true) (kc_Field : PySem.W.keepIn K (.ref C_Field) = true)
    (a6 : PySem.W.findIn K (.ref C_Field) "__init__" = some (some (.ref f6))) (i6 : PySem.W.isFn K (.ref f6) = true)
    (a7 : PySem.W.findIn K (.ref C_Field) "multiple" = some (some (.ref f7))) (i7 : PySem.W.isFn K (.ref f7) = true)
    (a8 : PySem.W.findIn K (.ref C_Field) "two_to" = some (some (.ref f8))) (i8 : PySem.W.isFn K (.ref f8) = true)
    (a9 : PySem.W.findIn K (.ref C_Field) "times" = some (some (.ref f9))) (i9 : PySem.W.isFn K (.ref f9) = true)
    (na_Field_bits : PySem.W.findIn K (.ref C_Field) "bits" = some none)
    (na_Field_span : PySem.W.findIn K (.ref C_Field) "span" = some none)
    (na_Field_turn : PySem.W.findIn K (.ref C_Field) "turn" = some none)
    (na_Field_powers : PySem.W.findIn K (.ref C_Field) "powers" = some none)
    (na_Field_exponents : PySem.W.findIn K (.ref C_Field) "exponents" = some none)
    (z_any : PySem.W.nsIn K mainGlobals "any" = some none)
    (z_bool : PySem.W.nsIn K mainGlobals "bool" = some none)
    (z_enumerate : PySem.W.nsIn K mainGlobals "enumerate" = some none)
    (z_int : PySem.W.nsIn K mainGlobals "int" = some none)
    (z_isinstance : PySem.W.nsIn K mainGlobals "isinstance" = some none)
    (z_len : PySem.W.nsIn K mainGlobals "len" = some none)
    (z_list : PySem.W.nsIn K mainGlobals "list" = some none)
    (z_max : PySem.W.nsIn K mainGlobals "max" = some none)
    (z_min : PySem.W.nsIn K mainGlobals "min" = some none)
    (z_range : PySem.W.nsIn K mainGlobals "range" = some none)
    (z_sum : PySem.W.nsIn K mainGlobals "sum" = some none)
    (z_tuple : PySem.W.nsIn K mainGlobals "tuple" = some none)
    (z_type : PySem.W.nsIn K mainGlobals "type" = some none)
    (z_zip : PySem.W.nsIn K mainGlobals "zip" = some none)
    {d_BLOCKS : Addr} {n_BLOCKS : Nat} {s_BLOCKS : Array (Option Value)} {c_BLOCKS0 : Addr} {c_BLOCKS1 : Addr} {c_BLOCKS2 : Addr} {c_BLOCKS3 : Addr} {c_BLOCKS4 : Addr}
    (a_BLOCKS : PySem.W.nsIn K mainGlobals "BLOCKS" = some (some (.ref d_BLOCKS)))
    (l_BLOCKS : K.lookup d_BLOCKS = some ⟨.type "tuple", none, .seq #[.ref c_BLOCKS0, .ref c_BLOCKS1, .ref c_BLOCKS2, .ref c_BLOCKS3, .ref c_BLOCKS4] n_BLOCKS, s_BLOCKS⟩)
    (t_BLOCKS0 : tupB K c_BLOCKS0 [4] = true)
    (t_BLOCKS1 : tupB K c_BLOCKS1 [10, 10] = true)
    (t_BLOCKS2 : tupB K c_BLOCKS2 [22] = true)
    (t_BLOCKS3 : tupB K c_BLOCKS3 [19, 19] = true)
    (t_BLOCKS4 : tupB K c_BLOCKS4 [20, 19, 19] = true)
    {d_CHECKS : Addr} {n_CHECKS : Nat} {s_CHECKS : Array (Option Value)} {c_CHECKS0 : Addr} {c_CHECKS1 : Addr} {c_CHECKS2 : Addr} {c_CHECKS3 : Addr} {c_CHECKS4 : Addr}
    (a_CHECKS : PySem.W.nsIn K mainGlobals "CHECKS" = some (some (.ref d_CHECKS)))
    (l_CHECKS : K.lookup d_CHECKS = some ⟨.type "tuple", none, .seq #[.ref c_CHECKS0, .ref c_CHECKS1, .ref c_CHECKS2, .ref c_CHECKS3, .ref c_CHECKS4] n_CHECKS, s_CHECKS⟩)
    (t_CHECKS0 : tupB K c_CHECKS0 [1, 2, 3, 3] = true)
    (t_CHECKS1 : tupB K c_CHECKS1 [2, 4, 6, 8] = true)
    (t_CHECKS2 : tupB K c_CHECKS2 [4, 8, 10, 12] = true)
    (t_CHECKS3 : tupB K c_CHECKS3 [4, 8, 10, 12] = true)
    (t_CHECKS4 : tupB K c_CHECKS4 [4, 8, 10, 12] = true)
    {d_EXPONENTS : Addr} {n_EXPONENTS : Nat} {u_EXPONENTS0 : Tok} {c_EXPONENTS0 : Addr} {u_EXPONENTS1 : Tok} {c_EXPONENTS1 : Addr}
    (a_EXPONENTS : PySem.W.nsIn K mainGlobals "EXPONENTS" = some (some (.ref d_EXPONENTS)))
    (l_EXPONENTS : K.lookup d_EXPONENTS = some ⟨.type "dict", none, .dict #[⟨4, .int 4 u_EXPONENTS0, .ref c_EXPONENTS0⟩, ⟨8, .int 8 u_EXPONENTS1, .ref c_EXPONENTS1⟩] n_EXPONENTS, #[]⟩)
    (w_EXPONENTS : (d_EXPONENTS == sysModules) = false)
    (t_EXPONENTS0 : tupB K c_EXPONENTS0 [0, 0, 1, 12, 2, 9, 13, 7, 3, 4, 10, 5, 14, 11, 8, 6] = true)
    (t_EXPONENTS1 : tupB K c_EXPONENTS1 [0, 0, 1, 231, 2, 207, 232, 59, 3, 35, 208, 154, 233, 20, 60, 183, 4, 159, 36, 66, 209, 118, 155, 251, 234, 245, 21, 11, 61, 130, 184, 146, 5, 122, 160, 79, 37, 113, 67, 106, 210, 224, 119, 221, 156, 242, 252, 32, 235, 213, 246, 135, 22, 42, 12, 140, 62, 227, 131, 75, 185, 191, 147, 94, 6, 70, 123, 195, 161, 53, 80, 167, 38, 109, 114, 203, 68, 51, 107, 49, 211, 40, 225, 189, 120, 111, 222, 240, 157, 116, 243, 128, 253, 205, 33, 18, 236, 163, 214, 98, 247, 55, 136, 102, 23, 82, 43, 177, 13, 169, 141, 89, 63, 8, 228, 151, 132, 72, 76, 218, 186, 125, 192, 200, 148, 197, 95, 174, 7, 150, 71, 217, 124, 199, 196, 173, 162, 97, 54, 101, 81, 176, 168, 88, 39, 188, 110, 239, 115, 127, 204, 17, 69, 194, 52, 166, 108, 202, 50, 48, 212, 134, 41, 139, 226, 74, 190, 93, 121, 78, 112, 105, 223, 220, 241, 31, 158, 65, 117, 250, 244, 10, 129, 145, 254, 230, 206, 58, 34, 153, 19, 182, 237, 15, 164, 46, 215, 171, 99, 86, 248, 143, 56, 180, 137, 91, 103, 29, 24, 25, 83, 26, 44, 84, 178, 27, 14, 45, 170, 85, 142, 179, 90, 28, 64, 249, 9, 144, 229, 57, 152, 181, 133, 138, 73, 92, 77, 104, 219, 30, 187, 238, 126, 16, 193, 165, 201, 47, 149, 216, 198, 172, 96, 100, 175, 87] = true)
    {d_FORMAT_WORDS : Addr} (a_FORMAT_WORDS : PySem.W.nsIn K mainGlobals "FORMAT_WORDS" = some (some (.ref d_FORMAT_WORDS))) (t_FORMAT_WORDS : tupB K d_FORMAT_WORDS [709, 752, 666, 687, 590, 635, 529, 548, 979, 998, 908, 953, 856, 877, 775, 818, 220, 233, 131, 182, 87, 98, 8, 61, 458, 511, 405, 416, 321, 372, 286, 299] = true)
    {t_LEVELS : Tok} (a_LEVELS : PySem.W.nsIn K mainGlobals "LEVELS" = some (some (.int 4 t_LEVELS)))
    {t_MASKS : Tok} (a_MASKS : PySem.W.nsIn K mainGlobals "MASKS" = some (some (.int 8 t_MASKS)))
    {d_MASK_WORDS : Addr} (a_MASK_WORDS : PySem.W.nsIn K mainGlobals "MASK_WORDS" = some (some (.ref d_MASK_WORDS))) (t_MASK_WORDS : tup3B K d_MASK_WORDS [[[9, 9, 9, 9], [9, 2, 5, 8], [0, 12, 0, 12], [5, 5, 6, 11], [9, 6, 9, 10], [14, 11, 11, 5], [7, 6, 8, 9], [0, 7, 14, 14]], [[9, 9, 9, 9, 10, 6, 6, 6, 6, 9, 9, 9, 9, 10, 6, 6, 6, 6, 5, 5], [9, 2, 4, 9, 2, 1, 8, 6, 1, 2, 4, 9, 2, 4, 6, 1, 8, 6, 4, 9], [12, 3, 0, 12, 0, 3, 0, 12, 3, 12, 3, 0, 12, 0, 3, 0, 12, 3, 2, 4], [5, 5, 5, 5, 6, 10, 10, 10, 10, 5, 5, 5, 5, 6, 10, 10, 10, 10, 0, 0], [9, 6, 9, 6, 9, 6, 9, 6, 9, 9, 6, 9, 6, 9, 6, 9, 6, 9, 3, 3], [7, 5, 13, 7, 4, 12, 3, 0, 12, 11, 10, 14, 11, 9, 13, 7, 5, 13, 9, 2], [11, 0, 14, 12, 1, 4, 0, 5, 0, 13, 10, 7, 6, 8, 2, 2, 0, 8, 6, 3], [0, 1, 15, 8, 1, 0, 2, 15, 4, 15, 8, 0, 7, 12, 11, 13, 0, 2, 3, 8]], [[153, 153, 153, 150, 102, 102, 102, 153, 153, 153, 166, 102, 102, 105, 153, 153, 154, 102, 102, 102, 170, 166], [146, 73, 36, 145, 134, 24, 97, 36, 146, 73, 33, 134, 24, 100, 146, 73, 36, 97, 134, 24, 146, 82], [48, 195, 12, 60, 48, 195, 12, 48, 195, 12, 3, 12, 48, 195, 12, 48, 192, 48, 195, 12, 73, 48], [85, 85, 85, 90, 170, 170, 170, 85, 85, 85, 106, 170, 170, 165, 85, 85, 86, 170, 170, 170, 0, 21], [150, 150, 150, 153, 105, 105, 105, 150, 150, 150, 150, 150, 150, 153, 105, 105, 105, 105, 105, 105, 153, 154], [12, 48, 195, 10, 235, 174, 186, 93, 117, 215, 76, 48, 195, 10, 235, 174, 185, 215, 93, 117, 36, 140], [130, 32, 136, 35, 196, 241, 60, 195, 176, 236, 20, 5, 1, 70, 157, 167, 104, 34, 8, 130, 99, 15], [128, 126, 1, 242, 244, 11, 208, 126, 1, 248, 16, 47, 64, 176, 31, 128, 124, 189, 2, 244, 225, 192]], [[153, 153, 153, 153, 150, 102, 102, 102, 102, 153, 153, 153, 153, 150, 102, 102, 102, 102, 153, 153, 153, 153, 166, 102, 102, 102, 105, 153, 153, 153, 154, 102, 102, 102, 102, 170, 166, 102], [146, 73, 36, 146, 72, 97, 134, 24, 97, 36, 146, 73, 36, 145, 134, 24, 97, 134, 73, 36, 146, 73, 33, 134, 24, 97, 137, 36, 146, 73, 36, 97, 134, 24, 97, 73, 36, 146], [12, 48, 195, 12, 60, 48, 195, 12, 48, 12, 48, 195, 12, 60, 48, 195, 12, 48, 12, 48, 195, 12, 3, 12, 48, 195, 0, 195, 12, 48, 192, 48, 195, 12, 48, 36, 140, 48], [85, 85, 85, 85, 90, 170, 170, 170, 170, 85, 85, 85, 85, 90, 170, 170, 170, 170, 85, 85, 85, 85, 106, 170, 170, 170, 165, 85, 85, 85, 86, 170, 170, 170, 170, 0, 21, 85], [150, 150, 150, 150, 153, 105, 105, 105, 105, 150, 150, 150, 150, 153, 105, 105, 105, 105, 150, 150, 150, 150, 150, 150, 150, 150, 153, 105, 105, 105, 105, 105, 105, 105, 105, 153, 154, 90], [235, 174, 186, 235, 165, 215, 93, 117, 215, 195, 12, 48, 195, 10, 235, 174, 186, 235, 215, 93, 117, 215, 76, 48, 195, 12, 62, 186, 235, 174, 185, 215, 93, 117, 215, 146, 67, 12], [80, 20, 5, 1, 70, 157, 167, 105, 218, 8, 130, 32, 136, 35, 196, 241, 60, 79, 14, 195, 176, 236, 20, 5, 1, 64, 90, 118, 157, 167, 104, 34, 8, 130, 32, 198, 60, 79], [224, 31, 128, 126, 4, 11, 208, 47, 64, 31, 128, 126, 1, 242, 244, 11, 208, 47, 128, 126, 1, 248, 16, 47, 64, 189, 7, 224, 31, 128, 124, 189, 2, 244, 11, 14, 31, 128]], [[153, 153, 153, 153, 153, 150, 102, 102, 102, 102, 102, 153, 153, 153, 153, 153, 150, 102, 102, 102, 102, 102, 153, 153, 153, 153, 153, 150, 102, 102, 102, 102, 102, 153, 153, 153, 153, 153, 166, 102, 102, 102, 102, 105, 153, 153, 153, 153, 154, 102, 102, 102, 102, 102, 170, 166, 102, 102], [146, 73, 36, 146, 73, 38, 24, 97, 134, 24, 97, 36, 146, 73, 36, 146, 72, 97, 134, 24, 97, 134, 73, 36, 146, 73, 36, 145, 134, 24, 97, 134, 24, 146, 73, 36, 146, 73, 33, 134, 24, 97, 134, 18, 73, 36, 146, 73, 36, 97, 134, 24, 97, 134, 36, 137, 36, 146], [195, 12, 48, 195, 12, 60, 48, 195, 12, 48, 195, 195, 12, 48, 195, 12, 60, 48, 195, 12, 48, 195, 195, 12, 48, 195, 12, 60, 48, 195, 12, 48, 195, 195, 12, 48, 195, 12, 3, 12, 48, 195, 12, 60, 48, 195, 12, 48, 192, 48, 195, 12, 48, 195, 146, 67, 12, 48], [85, 85, 85, 85, 85, 90, 170, 170, 170, 170, 170, 85, 85, 85, 85, 85, 90, 170, 170, 170, 170, 170, 85, 85, 85, 85, 85, 90, 170, 170, 170, 170, 170, 85, 85, 85, 85, 85, 106, 170, 170, 170, 170, 165, 85, 85, 85, 85, 86, 170, 170, 170, 170, 170, 0, 21, 85, 85], [150, 150, 150, 150, 150, 153, 105, 105, 105, 105, 105, 150, 150, 150, 150, 150, 153, 105, 105, 105, 105, 105, 150, 150, 150, 150, 150, 153, 105, 105, 105, 105, 105, 150, 150, 150, 150, 150, 150, 150, 150, 150, 150, 153, 105, 105, 105, 105, 105, 105, 105, 105, 105, 105, 153, 154, 90, 90], [117, 215, 93, 117, 215, 80, 195, 12, 48, 195, 12, 186, 235, 174, 186, 235, 165, 215, 93, 117, 215, 93, 48, 195, 12, 48, 195, 10, 235, 174, 186, 235, 174, 117, 215, 93, 117, 215, 76, 48, 195, 12, 48, 203, 174, 186, 235, 174, 185, 215, 93, 117, 215, 93, 73, 48, 195, 12], [196, 241, 60, 79, 19, 204, 59, 14, 195, 176, 236, 64, 80, 20, 5, 1, 70, 157, 167, 105, 218, 118, 34, 8, 130, 32, 136, 35, 196, 241, 60, 79, 19, 59, 14, 195, 176, 236, 20, 5, 1, 64, 80, 25, 218, 118, 157, 167, 104, 34, 8, 130, 32, 136, 140, 113, 60, 79], [248, 7, 224, 31, 128, 123, 208, 47, 64, 189, 2, 7, 224, 31, 128, 126, 4, 11, 208, 47, 64, 189, 224, 31, 128, 126, 1, 242, 244, 11, 208, 47, 64, 31, 128, 126, 1, 248, 16, 47, 64, 189, 2, 248, 7, 224, 31, 128, 124, 189, 2, 244, 11, 208, 112, 224, 31, 128]]] = true)
    {d_MOST_CHECKS : Addr} {n_MOST_CHECKS : Nat} {u_MOST_CHECKS0 v_MOST_CHECKS0 : Tok} {u_MOST_CHECKS1 v_MOST_CHECKS1 : Tok}
    (a_MOST_CHECKS : PySem.W.nsIn K mainGlobals "MOST_CHECKS" = some (some (.ref d_MOST_CHECKS)))
    (l_MOST_CHECKS : K.lookup d_MOST_CHECKS = some ⟨.type "dict", none, .dict #[⟨4, .int 4 u_MOST_CHECKS0, .int 14 v_MOST_CHECKS0⟩, ⟨8, .int 8 u_MOST_CHECKS1, .int 40 v_MOST_CHECKS1⟩] n_MOST_CHECKS, #[]⟩)
    (w_MOST_CHECKS : (d_MOST_CHECKS == sysModules) = false)
    {d_PATHS : Addr} {n_PATHS : Nat} {s_PATHS : Array (Option Value)} {c_PATHS0 : Addr} {c_PATHS1 : Addr} {c_PATHS2 : Addr} {c_PATHS3 : Addr} {c_PATHS4 : Addr}
    (a_PATHS : PySem.W.nsIn K mainGlobals "PATHS" = some (some (.ref d_PATHS)))
    (l_PATHS : K.lookup d_PATHS = some ⟨.type "tuple", none, .seq #[.ref c_PATHS0, .ref c_PATHS1, .ref c_PATHS2, .ref c_PATHS3, .ref c_PATHS4] n_PATHS, s_PATHS⟩)
    (t_PATHS0 : tupB K c_PATHS0 [54, 53, 46, 45, 38, 37, 30, 29, 22, 21, 28, 27, 36, 35, 44, 52] = true)
    (t_PATHS1 : tupB K c_PATHS1 [130, 129, 118, 117, 106, 105, 94, 93, 82, 81, 70, 69, 58, 57, 46, 45, 34, 33, 32, 31, 44, 43, 56, 55, 68, 67, 80, 79, 92, 91, 104, 103, 116, 115, 128, 127, 126, 125, 114, 113, 102, 101, 90, 89, 78, 77, 66, 65, 54, 53, 42, 41, 30, 29, 28, 27, 40, 39, 52, 51, 64, 63, 76, 75, 88, 87, 100, 99, 112, 111, 124, 123, 110, 98, 86, 74, 62, 50, 38, 26] = true)
    (t_PATHS2 : tupB K c_PATHS2 [238, 237, 222, 221, 206, 205, 190, 189, 174, 173, 158, 157, 142, 141, 126, 125, 110, 109, 94, 93, 78, 77, 62, 61, 46, 45, 30, 29, 28, 27, 44, 43, 60, 59, 76, 75, 92, 91, 108, 107, 124, 123, 140, 139, 156, 155, 172, 171, 188, 187, 204, 203, 220, 219, 236, 235, 234, 233, 218, 217, 202, 201, 186, 185, 170, 169, 154, 153, 138, 137, 122, 121, 106, 105, 90, 89, 74, 73, 58, 57, 42, 41, 40, 39, 56, 55, 72, 71, 88, 87, 104, 103, 120, 119, 136, 135, 152, 151, 168, 167, 184, 183, 200, 199, 216, 215, 232, 231, 230, 229, 214, 213, 198, 197, 182, 181, 166, 165, 150, 149, 134, 133, 118, 117, 102, 101, 86, 85, 70, 69, 54, 53, 38, 37, 36, 35, 52, 51, 68, 67, 84, 83, 100, 99, 116, 115, 132, 131, 148, 147, 164, 163, 180, 179, 196, 195, 212, 211, 228, 227, 226, 210, 194, 178, 162, 146, 130, 114, 98, 82, 66, 65, 50, 49, 34, 33] = true)
    (t_PATHS3 : tupB K c_PATHS3 [378, 377, 358, 357, 338, 337, 318, 317, 298, 297, 278, 277, 258, 257, 238, 237, 218, 217, 198, 197, 178, 177, 158, 157, 138, 137, 118, 117, 98, 97, 78, 77, 58, 57, 38, 37, 36, 35, 56, 55, 76, 75, 96, 95, 116, 115, 136, 135, 156, 155, 176, 175, 196, 195, 216, 215, 236, 235, 256, 255, 276, 275, 296, 295, 316, 315, 336, 335, 356, 355, 376, 375, 374, 373, 354, 353, 334, 333, 314, 313, 294, 293, 274, 273, 254, 253, 234, 233, 214, 213, 194, 193, 174, 173, 154, 153, 134, 133, 114, 113, 94, 93, 74, 73, 54, 53, 34, 33, 32, 31, 52, 51, 72, 71, 92, 91, 112, 111, 132, 131, 152, 151, 172, 171, 192, 191, 212, 211, 232, 231, 252, 251, 272, 271, 292, 291, 312, 311, 332, 331, 352, 351, 372, 371, 370, 369, 350, 349, 330, 329, 310, 309, 290, 289, 270, 269, 250, 249, 230, 229, 210, 209, 190, 189, 170, 169, 150, 149, 130, 129, 110, 109, 90, 89, 70, 69, 50, 49, 48, 47, 68, 67, 88, 87, 108, 107, 128, 127, 148, 147, 168, 167, 188, 187, 208, 207, 228, 227, 248, 247, 268, 267, 288, 287, 308, 307, 328, 327, 348, 347, 368, 367, 366, 365, 346, 345, 326, 325, 306, 305, 286, 285, 266, 265, 246, 245, 226, 225, 206, 205, 186, 185, 166, 165, 146, 145, 126, 125, 106, 105, 86, 85, 66, 65, 46, 45, 44, 43, 64, 63, 84, 83, 104, 103, 124, 123, 144, 143, 164, 163, 184, 183, 204, 203, 224, 223, 244, 243, 264, 263, 284, 283, 304, 303, 324, 323, 344, 343, 364, 363, 362, 342, 322, 302, 282, 262, 242, 222, 202, 182, 162, 161, 142, 141, 122, 121, 102, 101, 82, 81, 62, 61, 42, 41] = true)
    (t_PATHS4 : tupB K c_PATHS4 [550, 549, 526, 525, 502, 501, 478, 477, 454, 453, 430, 429, 406, 405, 382, 381, 358, 357, 334, 333, 310, 309, 286, 285, 262, 261, 238, 237, 214, 213, 190, 189, 166, 165, 142, 141, 118, 117, 94, 93, 70, 69, 46, 45, 44, 43, 68, 67, 92, 91, 116, 115, 140, 139, 164, 163, 188, 187, 212, 211, 236, 235, 260, 259, 284, 283, 308, 307, 332, 331, 356, 355, 380, 379, 404, 403, 428, 427, 452, 451, 476, 475, 500, 499, 524, 523, 548, 547, 546, 545, 522, 521, 498, 497, 474, 473, 450, 449, 426, 425, 402, 401, 378, 377, 354, 353, 330, 329, 306, 305, 282, 281, 258, 257, 234, 233, 210, 209, 186, 185, 162, 161, 138, 137, 114, 113, 90, 89, 66, 65, 42, 41, 40, 39, 64, 63, 88, 87, 112, 111, 136, 135, 160, 159, 184, 183, 208, 207, 232, 231, 256, 255, 280, 279, 304, 303, 328, 327, 352, 351, 376, 375, 400, 399, 424, 423, 448, 447, 472, 471, 496, 495, 520, 519, 544, 543, 542, 541, 518, 517, 494, 493, 470, 469, 446, 445, 422, 421, 398, 397, 374, 373, 350, 349, 326, 325, 302, 301, 278, 277, 254, 253, 230, 229, 206, 205, 182, 181, 158, 157, 134, 133, 110, 109, 86, 85, 62, 61, 38, 37, 36, 35, 60, 59, 84, 83, 108, 107, 132, 131, 156, 155, 180, 179, 204, 203, 228, 227, 252, 251, 276, 275, 300, 299, 324, 323, 348, 347, 372, 371, 396, 395, 420, 419, 444, 443, 468, 467, 492, 491, 516, 515, 540, 539, 538, 537, 514, 513, 490, 489, 466, 465, 442, 441, 418, 417, 394, 393, 370, 369, 346, 345, 322, 321, 298, 297, 274, 273, 250, 249, 226, 225, 202, 201, 178, 177, 154, 153, 130, 129, 106, 105, 82, 81, 58, 57, 56, 55, 80, 79, 104, 103, 128, 127, 152, 151, 176, 175, 200, 199, 224, 223, 248, 247, 272, 271, 296, 295, 320, 319, 344, 343, 368, 367, 392, 391, 416, 415, 440, 439, 464, 463, 488, 487, 512, 511, 536, 535, 534, 533, 510, 509, 486, 485, 462, 461, 438, 437, 414, 413, 390, 389, 366, 365, 342, 341, 318, 317, 294, 293, 270, 269, 246, 245, 222, 221, 198, 197, 174, 173, 150, 149, 126, 125, 102, 101, 78, 77, 54, 53, 52, 51, 76, 75, 100, 99, 124, 123, 148, 147, 172, 171, 196, 195, 220, 219, 244, 243, 268, 267, 292, 291, 316, 315, 340, 339, 364, 363, 388, 387, 412, 411, 436, 435, 460, 459, 484, 483, 508, 507, 532, 531, 530, 506, 482, 458, 434, 410, 386, 362, 338, 314, 290, 289, 266, 265, 242, 241, 218, 217, 194, 193, 170, 169, 146, 145, 122, 121, 98, 97, 74, 73, 50, 49] = true)
    {d_PLACES : Addr} (a_PLACES : PySem.W.nsIn K mainGlobals "PLACES" = some (some (.ref d_PLACES))) (t_PLACES : tup3B K d_PLACES [[[37, 36, 37, 36, 37, 36, 37, 36], [37, 16, 17, 18, 19, 20, 21, 36], [37, 22, 23, 24, 25, 9, 8, 37], [37, 29, 33, 11, 10, 7, 6, 37], [37, 28, 32, 13, 12, 5, 4, 36], [37, 27, 31, 35, 14, 3, 2, 36], [37, 26, 30, 34, 15, 1, 0, 37], [37, 37, 37, 37, 37, 37, 37, 37]], [[101, 100, 101, 100, 101, 100, 101, 100, 101, 100, 101, 100], [101, 80, 81, 82, 83, 84, 85, 86, 87, 88, 89, 100], [101, 98, 79, 55, 54, 53, 52, 19, 18, 17, 16, 101], [101, 97, 78, 57, 56, 51, 50, 21, 20, 15, 14, 101], [101, 96, 77, 59, 58, 49, 48, 23, 22, 13, 12, 100], [101, 95, 76, 61, 60, 47, 46, 25, 24, 11, 10, 100], [101, 94, 75, 63, 62, 45, 44, 27, 26, 9, 8, 101], [101, 93, 74, 65, 64, 43, 42, 29, 28, 7, 6, 101], [101, 92, 73, 67, 66, 41, 40, 31, 30, 5, 4, 100], [101, 91, 72, 69, 68, 39, 38, 33, 32, 3, 2, 100], [101, 90, 99, 71, 70, 37, 36, 35, 34, 1, 0, 101], [101, 101, 101, 101, 101, 101, 101, 101, 101, 101, 101, 101]], [[197, 196, 197, 196, 197, 196, 197, 196, 197, 196, 197, 196, 197, 196, 197, 196], [197, 176, 177, 178, 179, 180, 181, 182, 183, 184, 185, 29, 28, 27, 26, 196], [197, 175, 174, 135, 134, 133, 132, 83, 82, 81, 80, 31, 30, 25, 24, 197], [197, 173, 172, 137, 136, 131, 130, 85, 84, 79, 78, 33, 32, 23, 22, 197], [197, 171, 170, 139, 138, 129, 128, 87, 86, 77, 76, 35, 34, 21, 20, 196], [197, 195, 169, 141, 140, 127, 126, 89, 88, 75, 74, 37, 36, 19, 18, 196], [197, 194, 168, 143, 142, 125, 124, 91, 90, 73, 72, 39, 38, 17, 16, 197], [197, 193, 167, 145, 144, 123, 122, 93, 92, 71, 70, 41, 40, 15, 14, 197], [197, 192, 166, 147, 146, 121, 120, 95, 94, 69, 68, 43, 42, 13, 12, 196], [197, 191, 165, 149, 148, 119, 118, 97, 96, 67, 66, 45, 44, 11, 10, 196], [197, 190, 164, 151, 150, 117, 116, 99, 98, 65, 64, 47, 46, 9, 8, 197], [197, 189, 163, 153, 152, 115, 114, 101, 100, 63, 62, 49, 48, 7, 6, 197], [197, 188, 162, 155, 154, 113, 112, 103, 102, 61, 60, 51, 50, 5, 4, 196], [197, 187, 161, 157, 156, 111, 110, 105, 104, 59, 58, 53, 52, 3, 2, 196], [197, 186, 160, 159, 158, 109, 108, 107, 106, 57, 56, 55, 54, 1, 0, 197], [197, 197, 197, 197, 197, 197, 197, 197, 197, 197, 197, 197, 197, 197, 197, 197]], [[325, 324, 325, 324, 325, 324, 325, 324, 325, 324, 325, 324, 325, 324, 325, 324, 325, 324, 325, 324], [325, 304, 305, 306, 307, 308, 309, 310, 311, 312, 313, 109, 108, 107, 106, 37, 36, 35, 34, 324], [325, 303, 302, 247, 246, 245, 244, 179, 178, 177, 176, 111, 110, 105, 104, 39, 38, 33, 32, 325], [325, 301, 300, 249, 248, 243, 242, 181, 180, 175, 174, 113, 112, 103, 102, 41, 40, 31, 30, 325], [325, 299, 298, 251, 250, 241, 240, 183, 182, 173, 172, 115, 114, 101, 100, 43, 42, 29, 28, 324], [325, 297, 296, 253, 252, 239, 238, 185, 184, 171, 170, 117, 116, 99, 98, 45, 44, 27, 26, 324], [325, 295, 294, 255, 254, 237, 236, 187, 186, 169, 168, 119, 118, 97, 96, 47, 46, 25, 24, 325], [325, 293, 292, 257, 256, 235, 234, 189, 188, 167, 166, 121, 120, 95, 94, 49, 48, 23, 22, 325], [325, 291, 290, 259, 258, 233, 232, 191, 190, 165, 164, 123, 122, 93, 92, 51, 50, 21, 20, 324], [325, 323, 289, 261, 260, 231, 230, 193, 192, 163, 162, 125, 124, 91, 90, 53, 52, 19, 18, 324], [325, 322, 288, 263, 262, 229, 228, 195, 194, 161, 160, 127, 126, 89, 88, 55, 54, 17, 16, 325], [325, 321, 287, 265, 264, 227, 226, 197, 196, 159, 158, 129, 128, 87, 86, 57, 56, 15, 14, 325], [325, 320, 286, 267, 266, 225, 224, 199, 198, 157, 156, 131, 130, 85, 84, 59, 58, 13, 12, 324], [325, 319, 285, 269, 268, 223, 222, 201, 200, 155, 154, 133, 132, 83, 82, 61, 60, 11, 10, 324], [325, 318, 284, 271, 270, 221, 220, 203, 202, 153, 152, 135, 134, 81, 80, 63, 62, 9, 8, 325], [325, 317, 283, 273, 272, 219, 218, 205, 204, 151, 150, 137, 136, 79, 78, 65, 64, 7, 6, 325], [325, 316, 282, 275, 274, 217, 216, 207, 206, 149, 148, 139, 138, 77, 76, 67, 66, 5, 4, 324], [325, 315, 281, 277, 276, 215, 214, 209, 208, 147, 146, 141, 140, 75, 74, 69, 68, 3, 2, 324], [325, 314, 280, 279, 278, 213, 212, 211, 210, 145, 144, 143, 142, 73, 72, 71, 70, 1, 0, 325], [325, 325, 325, 325, 325, 325, 325, 325, 325, 325, 325, 325, 325, 325, 325, 325, 325, 325, 325, 325]], [[485, 484, 485, 484, 485, 484, 485, 484, 485, 484, 485, 484, 485, 484, 485, 484, 485, 484, 485, 484, 485, 484, 485, 484], [485, 464, 465, 466, 467, 468, 469, 470, 471, 472, 473, 221, 220, 219, 218, 133, 132, 131, 130, 45, 44, 43, 42, 484], [485, 463, 462, 391, 390, 389, 388, 307, 306, 305, 304, 223, 222, 217, 216, 135, 134, 129, 128, 47, 46, 41, 40, 485], [485, 461, 460, 393, 392, 387, 386, 309, 308, 303, 302, 225, 224, 215, 214, 137, 136, 127, 126, 49, 48, 39, 38, 485], [485, 459, 458, 395, 394, 385, 384, 311, 310, 301, 300, 227, 226, 213, 212, 139, 138, 125, 124, 51, 50, 37, 36, 484], [485, 457, 456, 397, 396, 383, 382, 313, 312, 299, 298, 229, 228, 211, 210, 141, 140, 123, 122, 53, 52, 35, 34, 484], [485, 455, 454, 399, 398, 381, 380, 315, 314, 297, 296, 231, 230, 209, 208, 143, 142, 121, 120, 55, 54, 33, 32, 485], [485, 453, 452, 401, 400, 379, 378, 317, 316, 295, 294, 233, 232, 207, 206, 145, 144, 119, 118, 57, 56, 31, 30, 485], [485, 451, 450, 403, 402, 377, 376, 319, 318, 293, 292, 235, 234, 205, 204, 147, 146, 117, 116, 59, 58, 29, 28, 484], [485, 449, 448, 405, 404, 375, 374, 321, 320, 291, 290, 237, 236, 203, 202, 149, 148, 115, 114, 61, 60, 27, 26, 484], [485, 447, 446, 407, 406, 373, 372, 323, 322, 289, 288, 239, 238, 201, 200, 151, 150, 113, 112, 63, 62, 25, 24, 485], [485, 445, 444, 409, 408, 371, 370, 325, 324, 287, 286, 241, 240, 199, 198, 153, 152, 111, 110, 65, 64, 23, 22, 485], [485, 443, 442, 411, 410, 369, 368, 327, 326, 285, 284, 243, 242, 197, 196, 155, 154, 109, 108, 67, 66, 21, 20, 484], [485, 483, 441, 413, 412, 367, 366, 329, 328, 283, 282, 245, 244, 195, 194, 157, 156, 107, 106, 69, 68, 19, 18, 484], [485, 482, 440, 415, 414, 365, 364, 331, 330, 281, 280, 247, 246, 193, 192, 159, 158, 105, 104, 71, 70, 17, 16, 485], [485, 481, 439, 417, 416, 363, 362, 333, 332, 279, 278, 249, 248, 191, 190, 161, 160, 103, 102, 73, 72, 15, 14, 485], [485, 480, 438, 419, 418, 361, 360, 335, 334, 277, 276, 251, 250, 189, 188, 163, 162, 101, 100, 75, 74, 13, 12, 484], [485, 479, 437, 421, 420, 359, 358, 337, 336, 275, 274, 253, 252, 187, 186, 165, 164, 99, 98, 77, 76, 11, 10, 484], [485, 478, 436, 423, 422, 357, 356, 339, 338, 273, 272, 255, 254, 185, 184, 167, 166, 97, 96, 79, 78, 9, 8, 485], [485, 477, 435, 425, 424, 355, 354, 341, 340, 271, 270, 257, 256, 183, 182, 169, 168, 95, 94, 81, 80, 7, 6, 485], [485, 476, 434, 427, 426, 353, 352, 343, 342, 269, 268, 259, 258, 181, 180, 171, 170, 93, 92, 83, 82, 5, 4, 484], [485, 475, 433, 429, 428, 351, 350, 345, 344, 267, 266, 261, 260, 179, 178, 173, 172, 91, 90, 85, 84, 3, 2, 484], [485, 474, 432, 431, 430, 349, 348, 347, 346, 265, 264, 263, 262, 177, 176, 175, 174, 89, 88, 87, 86, 1, 0, 485], [485, 485, 485, 485, 485, 485, 485, 485, 485, 485, 485, 485, 485, 485, 485, 485, 485, 485, 485, 485, 485, 485, 485, 485]]] = true)
    {d_POWERS : Addr} {n_POWERS : Nat} {u_POWERS0 : Tok} {c_POWERS0 : Addr} {u_POWERS1 : Tok} {c_POWERS1 : Addr}
    (a_POWERS : PySem.W.nsIn K mainGlobals "POWERS" = some (some (.ref d_POWERS)))
    (l_POWERS : K.lookup d_POWERS = some ⟨.type "dict", none, .dict #[⟨4, .int 4 u_POWERS0, .ref c_POWERS0⟩, ⟨8, .int 8 u_POWERS1, .ref c_POWERS1⟩] n_POWERS, #[]⟩)
    (w_POWERS : (d_POWERS == sysModules) = false)
    (t_POWERS0 : tupB K c_POWERS0 [1, 2, 4, 8, 9, 11, 15, 7, 14, 5, 10, 13, 3, 6, 12] = true)
    (t_POWERS1 : tupB K c_POWERS1 [1, 2, 4, 8, 16, 32, 64, 128, 113, 226, 181, 27, 54, 108, 216, 193, 243, 151, 95, 190, 13, 26, 52, 104, 208, 209, 211, 215, 223, 207, 239, 175, 47, 94, 188, 9, 18, 36, 72, 144, 81, 162, 53, 106, 212, 217, 195, 247, 159, 79, 158, 77, 154, 69, 138, 101, 202, 229, 187, 7, 14, 28, 56, 112, 224, 177, 19, 38, 76, 152, 65, 130, 117, 234, 165, 59, 118, 236, 169, 35, 70, 140, 105, 210, 213, 219, 199, 255, 143, 111, 222, 205, 235, 167, 63, 126, 252, 137, 99, 198, 253, 139, 103, 206, 237, 171, 39, 78, 156, 73, 146, 85, 170, 37, 74, 148, 89, 178, 21, 42, 84, 168, 33, 66, 132, 121, 242, 149, 91, 182, 29, 58, 116, 232, 161, 51, 102, 204, 233, 163, 55, 110, 220, 201, 227, 183, 31, 62, 124, 248, 129, 115, 230, 189, 11, 22, 44, 88, 176, 17, 34, 68, 136, 97, 194, 245, 155, 71, 142, 109, 218, 197, 251, 135, 127, 254, 141, 107, 214, 221, 203, 231, 191, 15, 30, 60, 120, 240, 145, 83, 166, 61, 122, 244, 153, 67, 134, 125, 250, 133, 123, 246, 157, 75, 150, 93, 186, 5, 10, 20, 40, 80, 160, 49, 98, 196, 249, 131, 119, 238, 173, 43, 86, 172, 41, 82, 164, 57, 114, 228, 185, 3, 6, 12, 24, 48, 96, 192, 241, 147, 87, 174, 45, 90, 180, 25, 50, 100, 200, 225, 179, 23, 46, 92, 184] = true)
    {d_QUADS : Addr} {n_QUADS : Nat} {s_QUADS : Array (Option Value)} {c_QUADS0 : Addr} {c_QUADS1 : Addr} {c_QUADS2 : Addr} {c_QUADS3 : Addr} {c_QUADS4 : Addr} {c_QUADS5 : Addr} {c_QUADS6 : Addr} {c_QUADS7 : Addr} {c_QUADS8 : Addr} {c_QUADS9 : Addr} {c_QUADS10 : Addr} {c_QUADS11 : Addr} {c_QUADS12 : Addr} {c_QUADS13 : Addr} {c_QUADS14 : Addr} {c_QUADS15 : Addr}
    (a_QUADS : PySem.W.nsIn K mainGlobals "QUADS" = some (some (.ref d_QUADS)))
    (l_QUADS : K.lookup d_QUADS = some ⟨.type "tuple", none, .seq #[.ref c_QUADS0, .ref c_QUADS1, .ref c_QUADS2, .ref c_QUADS3, .ref c_QUADS4, .ref c_QUADS5, .ref c_QUADS6, .ref c_QUADS7, .ref c_QUADS8, .ref c_QUADS9, .ref c_QUADS10, .ref c_QUADS11, .ref c_QUADS12, .ref c_QUADS13, .ref c_QUADS14, .ref c_QUADS15] n_QUADS, s_QUADS⟩)
    (t_QUADS0 : tupB K c_QUADS0 [0, 0, 0, 0] = true)
    (t_QUADS1 : tupB K c_QUADS1 [0, 0, 0, 1] = true)
    (t_QUADS2 : tupB K c_QUADS2 [0, 0, 1, 0] = true)
    (t_QUADS3 : tupB K c_QUADS3 [0, 0, 1, 1] = true)
    (t_QUADS4 : tupB K c_QUADS4 [0, 1, 0, 0] = true)
    (t_QUADS5 : tupB K c_QUADS5 [0, 1, 0, 1] = true)
    (t_QUADS6 : tupB K c_QUADS6 [0, 1, 1, 0] = true)
    (t_QUADS7 : tupB K c_QUADS7 [0, 1, 1, 1] = true)
    (t_QUADS8 : tupB K c_QUADS8 [1, 0, 0, 0] = true)
    (t_QUADS9 : tupB K c_QUADS9 [1, 0, 0, 1] = true)
    (t_QUADS10 : tupB K c_QUADS10 [1, 0, 1, 0] = true)
    (t_QUADS11 : tupB K c_QUADS11 [1, 0, 1, 1] = true)
    (t_QUADS12 : tupB K c_QUADS12 [1, 1, 0, 0] = true)
    (t_QUADS13 : tupB K c_QUADS13 [1, 1, 0, 1] = true)
    (t_QUADS14 : tupB K c_QUADS14 [1, 1, 1, 0] = true)
    (t_QUADS15 : tupB K c_QUADS15 [1, 1, 1, 1] = true)
    {d_QUAD_WORDS : Addr} (a_QUAD_WORDS : PySem.W.nsIn K mainGlobals "QUAD_WORDS" = some (some (.ref d_QUAD_WORDS))) (t_QUAD_WORDS : dTupB K d_QUAD_WORDS [([0, 0, 0, 0], 0), ([0, 0, 0, 1], 1), ([0, 0, 1, 0], 2), ([0, 0, 1, 1], 3), ([0, 1, 0, 0], 4), ([0, 1, 0, 1], 5), ([0, 1, 1, 0], 6), ([0, 1, 1, 1], 7), ([1, 0, 0, 0], 8), ([1, 0, 0, 1], 9), ([1, 0, 1, 0], 10), ([1, 0, 1, 1], 11), ([1, 1, 0, 0], 12), ([1, 1, 0, 1], 13), ([1, 1, 1, 0], 14), ([1, 1, 1, 1], 15)] = true)
    {d_SHARES : Addr} (a_SHARES : PySem.W.nsIn K mainGlobals "SHARES" = some (some (.ref d_SHARES))) (t_SHARES : tup3B K d_SHARES [[[8, 4, 2, 1, 8, 4, 2, 1, 8, 4, 2, 1], [57, 216, 164, 82, 47, 27, 201, 104], [1601, 812, 3350, 2755], [741, 382, 3319, 1727]], [[230, 115, 253, 186, 59, 217, 168, 84, 145, 140, 70, 35, 196, 98, 49, 220, 42, 21, 206, 103, 93, 234, 117, 254, 162, 81, 236, 118, 25, 200, 100, 50], [53820, 41430, 23715, 58973, 5074, 52641, 27228, 13798, 19417, 10664, 6228, 50402, 45670, 37171, 36061, 18090, 52378, 26245, 13134, 56615, 54660, 44610, 22305, 61212], [7149884, 3852502, 13984931, 11416157, 15489839, 7792923, 15956169, 12448872, 1728909, 12926026, 7263781, 3646238, 11972949, 9673966, 9274999, 4867071], [3755124567, 2879479791, 1499261819, 3907418617, 507582810, 3341600997, 1863738494, 1002648311]], [[3304254554, 1652127277, 830749614, 2688722263, 1344400019, 682128881, 341082816, 170541408, 3224441698, 1621143857, 810606752, 405303376, 202651688, 101325844, 50662922, 3115976453, 178691248, 89345624, 3130074924, 1576053526, 2524507403, 1262276285, 2636015590, 4128213875, 3863766094, 1931883047, 2165512619, 4172395757, 2095078094, 1047539047, 523808395, 3072088061, 2334746955, 4255943837, 3327543030, 1663771515, 2309859717, 4243516666, 2121758333, 1065565062, 2113027378, 2256119321, 1132745652, 2571276634, 4095864877, 2057861294, 1028930647, 2787778195, 1475599608, 2478927484, 4057478974, 3228345119, 1614211511, 807128291, 414541513, 216151004, 3386238329, 3704801924, 1852400962, 931957281, 2739291560, 3911424596, 3433647402, 1726782997, 708767611, 354406277, 2998394874, 1508104061, 2496254854, 1255985475, 628019353, 2855758068, 2567668886, 4106043979, 2061902237, 1030990070, 2793493627, 1408772741, 2440828410, 4030640765, 4201325362, 2106435865, 2264853684, 1132426842, 2575776557, 4110132654, 2059790935, 1037727123, 1467237862, 2470091379, 4045229441, 3233193720, 1616596860, 815111998, 418576159, 209306551, 536003753, 3078185708, 3817091446, 3376586811, 3693170853, 1856514282, 928257141, 2737441410, 1964910540, 2182064998, 1103097139, 2565328545, 1288398824, 652053364, 332856634, 2976630301, 980604703, 490329015, 3064254947, 1532154057, 2502519004, 4071371886, 2035685943, 2217414051, 930518101, 2738571922, 3919914313, 3437931164, 1718965582, 864195111, 2705410475, 3902315757, 2875835526, 3985400387, 3460706713, 1730388212, 2343129210, 4260112445, 3329627302, 1664813651, 2797532268, 1398766134, 2442607899, 4042499765, 2025935842, 1020825969, 510455936, 255227968], [11631445368222200359, 16757226603236759979, 8430264473103348973, 4215132682286095054, 2127692246514806119, 13185144227365891723, 6612698019052607485, 10798148012564517830, 11286156707044472768, 5643156968611488608, 2821780691498690864, 12327615842502233112, 17080612548063618572, 14845346474573443846, 7474455287152681219, 10042451597182888121, 10639353337785837107, 17389508145544639393, 13876083323396268520, 6985189233553631348, 3492595336183837754, 1746297670633667101, 873148835316833718, 436575001373947483, 14725918171734653040, 7362959087603768376, 3681480057057259036, 11651691798684899086, 16780895730720682759, 8415225909652808123, 4207709540982114533, 2103986162130576586, 12784775150913286762, 16156358658598254901, 8078180051516368034, 4086315699446436433, 2081297710278060432, 1040780828751342664, 540515875210483236, 13492826890641615634, 15693895632876875266, 15338545437432289025, 7698483995361915832, 3849242373501608284, 11713186419122948142, 5908244177151353879, 10412083074042966707, 5226167373665933793, 601442746768626484, 300721682216694042, 150360841108381709, 75180796363829438, 13311810352767907935, 6694045035739225239, 3347022519606054643, 1693839062989604801, 15045864825244261926, 7556569119678353171, 3778399079910252465, 1914013077710043104, 1008657197088228208, 13747022565349710136, 6907147542391804956, 10940667417025866254, 10964401003168060513, 5524843960555694728, 2762422493526439236, 1381211966179156514, 12802896753314517265, 16207896343290089648, 8104150376557856856, 4072349634138874924, 17689354081001786075, 14017069458881996245, 7008534729450949330, 9843056902220301673, 4968675509709216396, 2484338542981107014, 1242169271499464227, 12728871940985999273, 18441550478853928801, 14397522581902771080, 15809644568615180612, 15387578905448076322, 15203567669887592977, 7621909295786440112, 10115994847903261272, 5082776050207445292, 17661694130517478392, 13983043655520025980, 7043172485986436670, 9826626511443288863, 4942446500601498039, 2518370685917920483, 1279311317042364105, 12742939365588156380, 8331638501093071846, 9365180490124875123, 17925285001190953601, 8996374970669427192, 4527521905812671612, 2263840218683098686, 13201567761388806943, 16402824318065224119, 842175138573635872, 13643858282969616400, 16585733578153158664, 8292866790276150276, 9298551368861948418, 17923679016823688449, 9000128354123497144, 4500161172460363612], [15953170217339834914600, 874530834917010197893908, 1077152410060201040269578, 538576252291540552765445, 269288126329940487792826, 774535658523382648550493, 390663723656105412598422, 197831395650040356277579, 411268812698841356545256, 694405642366696607340148, 1141584184732933224082234, 910947134753112213531933, 455486790077105873678006, 229067541009105795577691, 117918748173848054563733, 58965708443746700884466, 462603992718255429742907, 645828005812005161500837, 322914002906004863992042, 163071143359096611479669, 81535609985985134334082, 831777413442883507259457, 415888706722023729530008, 211041679094202757808716, 810187335599123403592467, 1120539672544734968123825, 973488973301854438486240, 486749663398338402482288, 656581950601709510343736, 1198230222737304291188252, 936764315060410342706958, 468382182255848710651655, 1191507474855280717556494, 597967887280414404873479, 302080078496575889342139, 792248250840013244432357, 1113774538730999335454666, 972003574742022022822757, 1050330916246656532530570, 525178727839543512652357, 1049852354028773180849902, 524926177111381984354167, 675670202953843558430595, 1204400267808998430925817, 939860254155178672966084, 1037644247185864810617954, 1007587054570524121001521, 994474030446415501473696, 1063923808221992058118640, 947373357445474288306296, 476776533080658313823292, 238400336187330521866782, 120528907831907866054927, 854645864683686684242111, 427328104663892981143783, 214982994533216728198347, 621580836221128364132323, 1180434517475533231602633, 929190590385403207411164, 466812903678018933541486, 235315689850638405362999, 757543655638707052186275, 378771875133710633354729, 191894120411191046085324, 600202709149728473246168, 640853610415071442209900, 1186981079443966223402550, 931147252859113805652763, 1032703172656144935791029, 516356758571952751111394, 673303347196092097132145, 339741523355853233273728, 1001513588223395066256852, 500767710837707539871338, 250383855567839605062453, 768457563750661051549090, 384239698600828471474769, 682804986665721688784272, 341402493333581987874376, 172910784701880087364388, 783057443745831099492242, 1108887450416103940016969, 554443763462086582132124, 614871085440904370116174, 307435562924974903683879, 718052697463516705099179, 362411326269728584433389, 181213121096292946444238, 264353877831594434844934, 772068565720789124224003, 1102798052256201460566713, 964614733395132976670180, 484511752614377327274610, 245352044817340535035193, 762569950553071752811172, 1096728649663575818193234], [2096219824289145559934226169, 1192914196792046455072319428, 57387520723407546261148568418, 70734760201764109637620923697, 35367380100882055469498025632, 17828160070862627249092780880, 51052584950617469997334890792, 25613372471118572501271182356, 74020786575134952915435671197, 64091198210948580543172126710, 69029395428375847208802298747, 66768798441429432819613822341, 65580395950737416135444451066, 64822385256842535948733605757, 64529329341032928881937058694, 32486919163683255795188563267, 75288055738950484669537928368, 59772696450774227924298834520, 66869809103461906343872303404, 33637401535779044764427464726, 16818702689230817992834504715, 8409353263646357279601536189, 56044284246691135647186884326, 69957360954162454486134229875, 17930252566038664269173710462, 51006128917761246824813834047, 25648097031209380970973147047, 12949963346390333063200042987, 53487423746752892534556774349, 26868839080731394332533907422, 13559957888743404025441277807, 53666957932330188045809275791, 60162378629818582336314453010, 30187685762699377418546796041, 42174496687888708613747780540, 21232128198525201101809036638, 10616067489392369849772600879, 5452916095390228915550451631, 54566065368568087484394275823, 27427836968931517623729256911, 53032205832877072315786177358, 73528205735313311192071138599, 64047329797781355290269896363, 32024307574230982632884037613, 43178530352349434807991110606, 78380102138511867390703435111, 61318229277834494406484936331, 30842269990456636175175934973, 43674236650800276080072294893, 78627955276820597643375147214, 39536682080559190574560869479, 42060328700879004914004082315, 77926785706970390825414172669, 61236040190718271036449798086, 67727166919287008008316511075, 33864375775005222199691364745, 41796317837830395629356911469, 77910496121125578748145417614, 61084295021424485176090551879, 67650730014151238084617270171, 34028348846792195423994085877, 44181344769980992104856418498, 22235479475236500697269697633, 48101764348153796152842010248, 74878651985916392391657059799, 59568221551593558124842042067, 29871264417904119410322727377, 14935632208952226281172994256, 7468153760009307166097097832, 3918095709148524394633634356, 1959388888788961164910989594, 979694449546729947811590157, 78238322470506754468126235636, 39264270260705030897656984954, 19632137925034321675436081725, 51857070421797054786099831206, 73038067525300891568270641235, 63685410318140877971079120017, 68970632967732581131896234736, 34611158539400287051384885624]]] = true)
    {d_SIDES : Addr} (a_SIDES : PySem.W.nsIn K mainGlobals "SIDES" = some (some (.ref d_SIDES))) (t_SIDES : tupB K d_SIDES [8, 12, 16, 20, 24] = true)
    {d_SPANS : Addr} {n_SPANS : Nat} {u_SPANS0 v_SPANS0 : Tok} {u_SPANS1 v_SPANS1 : Tok}
    (a_SPANS : PySem.W.nsIn K mainGlobals "SPANS" = some (some (.ref d_SPANS)))
    (l_SPANS : K.lookup d_SPANS = some ⟨.type "dict", none, .dict #[⟨4, .int 4 u_SPANS0, .int 16 v_SPANS0⟩, ⟨8, .int 8 u_SPANS1, .int 256 v_SPANS1⟩] n_SPANS, #[]⟩)
    (w_SPANS : (d_SPANS == sysModules) = false)
    {d_STARTS : Addr} {n_STARTS : Nat} {s_STARTS : Array (Option Value)} {c_STARTS0 : Addr} {c_STARTS1 : Addr} {c_STARTS2 : Addr} {c_STARTS3 : Addr} {c_STARTS4 : Addr}
    (a_STARTS : PySem.W.nsIn K mainGlobals "STARTS" = some (some (.ref d_STARTS)))
    (l_STARTS : K.lookup d_STARTS = some ⟨.type "tuple", none, .seq #[.ref c_STARTS0, .ref c_STARTS1, .ref c_STARTS2, .ref c_STARTS3, .ref c_STARTS4] n_STARTS, s_STARTS⟩)
    (t_STARTS0 : tupB K c_STARTS0 [0, 1, 3, 6] = true)
    (t_STARTS1 : tupB K c_STARTS1 [0, 2, 6, 3] = true)
    (t_STARTS2 : tupB K c_STARTS2 [0, 60, 120, 180] = true)
    (t_STARTS3 : tupB K c_STARTS3 [0, 60, 120, 180] = true)
    (t_STARTS4 : tupB K c_STARTS4 [0, 60, 120, 180] = true)
    {t_STRIP : Tok} (a_STRIP : PySem.W.nsIn K mainGlobals "STRIP" = some (some (.int 10 t_STRIP)))
    {d_WORD_BITS : Addr} (a_WORD_BITS : PySem.W.nsIn K mainGlobals "WORD_BITS" = some (some (.ref d_WORD_BITS))) (t_WORD_BITS : tupB K d_WORD_BITS [4, 4, 8, 8, 8] = true)
    : ∃ fd : FuncData, (∀ (s : Shared) (v : Value), BindsTo s fd ⟨[v], []⟩ [("_law_script", v)]) ∧ ∀ base : Heap, K.In base → base.Ns mainGlobals mg → FnOk P w K mg base CX0 10 fa fd ["_law_script"] (sp_law K) := by
  have e := hfa.symm.trans (PySem.W.mg_of X G a72)
  cases e
  let T : Txt K mg := {
    f_is_number := _
    d_is_number := _
    F_is_number := fun_mk (st := s_is_number) l0 c0 k0
    g_is_number := PySem.W.mg_of X G a0
    b_is_number := (fun_mk (st := s_is_number) l0 c0 k0).binds (ps := ["thing"]) (fun _ _ _ _ _ _ us hl => match us, hl with | [_], _ => rfl)
    f_is_number_to := _
    d_is_number_to := _
    F_is_number_to := fun_mk (st := s_is_number_to) l1 c1 k1
    g_is_number_to := PySem.W.mg_of X G a1
    b_is_number_to := (fun_mk (st := s_is_number_to) l1 c1 k1).binds (ps := ["thing", "least", "most"]) (fun _ _ _ _ _ _ us hl => match us, hl with | [_, _, _], _ => rfl)
    f_is_word := _
    d_is_word := _
    F_is_word := fun_mk (st := s_is_word) l2 c2 k2
    g_is_word := PySem.W.mg_of X G a2
    b_is_word := (fun_mk (st := s_is_word) l2 c2 k2).binds (ps := ["bits", "thing"]) (fun _ _ _ _ _ _ us hl => match us, hl with | [_, _], _ => rfl)
    f_is_row := _
    d_is_row := _
    F_is_row := fun_mk (st := s_is_row) l3 c3 k3
    g_is_row := PySem.W.mg_of X G a3
    b_is_row := (fun_mk (st := s_is_row) l3 c3 k3).binds (ps := ["thing"]) (fun _ _ _ _ _ _ us hl => match us, hl with | [_], _ => rfl)
    f_are_plain_words := _
    d_are_plain_words := _
    F_are_plain_words := fun_mk (st := s_are_plain_words) l4 c4 k4
    g_are_plain_words := PySem.W.mg_of X G a4
    b_are_plain_words := (fun_mk (st := s_are_plain_words) l4 c4 k4).binds (ps := ["bits", "things"]) (fun _ _ _ _ _ _ us hl => match us, hl with | [_, _], _ => rfl)
    f_need_words := _
    d_need_words := _
    F_need_words := fun_mk (st := s_need_words) l5 c5 k5
    g_need_words := PySem.W.mg_of X G a5
    b_need_words := (fun_mk (st := s_need_words) l5 c5 k5).binds (ps := ["bits", "part", "words"]) (fun _ _ _ _ _ _ us hl => match us, hl with | [_, _, _], _ => rfl)
    f_Field___init__ := _
    d_Field___init__ := _
    F_Field___init__ := fun_mk (st := s_Field___init__) l6 c6 k6
    b_Field___init__ := (fun_mk (st := s_Field___init__) l6 c6 k6).binds (ps := ["self", "bits"]) (fun _ _ _ _ _ _ us hl => match us, hl with | [_, _], _ => rfl)
    f_Field_multiple := _
    d_Field_multiple := _
    F_Field_multiple := fun_mk (st := s_Field_multiple) l7 c7 k7
    b_Field_multiple := (fun_mk (st := s_Field_multiple) l7 c7 k7).binds (ps := ["self", "words", "factor"]) (fun _ _ _ _ _ _ us hl => match us, hl with | [_, _, _], _ => rfl)
    f_Field_two_to := _
    d_Field_two_to := _
    F_Field_two_to := fun_mk (st := s_Field_two_to) l8 c8 k8
    b_Field_two_to := (fun_mk (st := s_Field_two_to) l8 c8 k8).binds (ps := ["self", "times"]) (fun _ _ _ _ _ _ us hl => match us, hl with | [_, _], _ => rfl)
    f_Field_times := _
    d_Field_times := _
    F_Field_times := fun_mk (st := s_Field_times) l9 c9 k9
    b_Field_times := (fun_mk (st := s_Field_times) l9 c9 k9).binds (ps := ["self", "one", "other"]) (fun _ _ _ _ _ _ us hl => match us, hl with | [_, _, _], _ => rfl)
    f_check_factor := _
    d_check_factor := _
    F_check_factor := fun_mk (st := s_check_factor) l10 c10 k10
    g_check_factor := PySem.W.mg_of X G a10
    b_check_factor := (fun_mk (st := s_check_factor) l10 c10 k10).binds (ps := ["field", "many", "start"]) (fun _ _ _ _ _ _ us hl => match us, hl with | [_, _, _], _ => rfl)
    f_next_rest := _
    d_next_rest := _
    F_next_rest := fun_mk (st := s_next_rest) l11 c11 k11
    g_next_rest := PySem.W.mg_of X G a11
    b_next_rest := (fun_mk (st := s_next_rest) l11 c11 k11).binds (ps := ["field", "factor", "rest", "word"]) (fun _ _ _ _ _ _ us hl => match us, hl with | [_, _, _, _], _ => rfl)
    f_with_checks := _
    d_with_checks := _
    F_with_checks := fun_mk (st := s_with_checks) l12 c12 k12
    g_with_checks := PySem.W.mg_of X G a12
    b_with_checks := (fun_mk (st := s_with_checks) l12 c12 k12).binds (ps := ["field", "many", "start", "words"]) (fun _ _ _ _ _ _ us hl => match us, hl with | [_, _, _, _], _ => rfl)
    f_is_code := _
    d_is_code := _
    F_is_code := fun_mk (st := s_is_code) l13 c13 k13
    g_is_code := PySem.W.mg_of X G a13
    b_is_code := (fun_mk (st := s_is_code) l13 c13 k13).binds (ps := ["code"]) (fun _ _ _ _ _ _ us hl => match us, hl with | [_], _ => rfl)
    f_need_code := _
    d_need_code := _
    F_need_code := fun_mk (st := s_need_code) l14 c14 k14
    g_need_code := PySem.W.mg_of X G a14
    b_need_code := (fun_mk (st := s_need_code) l14 c14 k14).binds (ps := ["code"]) (fun _ _ _ _ _ _ us hl => match us, hl with | [_], _ => rfl)
    f_most_words := _
    d_most_words := _
    F_most_words := fun_mk (st := s_most_words) l15 c15 k15
    g_most_words := PySem.W.mg_of X G a15
    b_most_words := (fun_mk (st := s_most_words) l15 c15 k15).binds (ps := ["bits"]) (fun _ _ _ _ _ _ us hl => match us, hl with | [_], _ => rfl)
    f_is_length := _
    d_is_length := _
    F_is_length := fun_mk (st := s_is_length) l16 c16 k16
    g_is_length := PySem.W.mg_of X G a16
    b_is_length := (fun_mk (st := s_is_length) l16 c16 k16).binds (ps := ["code", "length"]) (fun _ _ _ _ _ _ us hl => match us, hl with | [_, _], _ => rfl)
    f_check_words := _
    d_check_words := _
    F_check_words := fun_mk (st := s_check_words) l17 c17 k17
    g_check_words := PySem.W.mg_of X G a17
    b_check_words := (fun_mk (st := s_check_words) l17 c17 k17).binds (ps := ["code", "words"]) (fun _ _ _ _ _ _ us hl => match us, hl with | [_, _], _ => rfl)
    f_value_at := _
    d_value_at := _
    F_value_at := fun_mk (st := s_value_at) l18 c18 k18
    g_value_at := PySem.W.mg_of X G a18
    b_value_at := (fun_mk (st := s_value_at) l18 c18 k18).binds (ps := ["field", "words", "at"]) (fun _ _ _ _ _ _ us hl => match us, hl with | [_, _, _], _ => rfl)
    f_sums_of := _
    d_sums_of := _
    F_sums_of := fun_mk (st := s_sums_of) l19 c19 k19
    g_sums_of := PySem.W.mg_of X G a19
    b_sums_of := (fun_mk (st := s_sums_of) l19 c19 k19).binds (ps := ["field", "many", "start", "row"]) (fun _ _ _ _ _ _ us hl => match us, hl with | [_, _, _, _], _ => rfl)
    f_need_row := _
    d_need_row := _
    F_need_row := fun_mk (st := s_need_row) l20 c20 k20
    g_need_row := PySem.W.mg_of X G a20
    b_need_row := (fun_mk (st := s_need_row) l20 c20 k20).binds (ps := ["code", "row"]) (fun _ _ _ _ _ _ us hl => match us, hl with | [_, _], _ => rfl)
    f_syndromes := _
    d_syndromes := _
    F_syndromes := fun_mk (st := s_syndromes) l21 c21 k21
    g_syndromes := PySem.W.mg_of X G a21
    b_syndromes := (fun_mk (st := s_syndromes) l21 c21 k21).binds (ps := ["code", "row"]) (fun _ _ _ _ _ _ us hl => match us, hl with | [_, _], _ => rfl)
    f_is_right := _
    d_is_right := _
    F_is_right := fun_mk (st := s_is_right) l22 c22 k22
    g_is_right := PySem.W.mg_of X G a22
    b_is_right := (fun_mk (st := s_is_right) l22 c22 k22).binds (ps := ["code", "row"]) (fun _ _ _ _ _ _ us hl => match us, hl with | [_, _], _ => rfl)
    f_need_size := _
    d_need_size := _
    F_need_size := fun_mk (st := s_need_size) l23 c23 k23
    g_need_size := PySem.W.mg_of X G a23
    b_need_size := (fun_mk (st := s_need_size) l23 c23 k23).binds (ps := ["size"]) (fun _ _ _ _ _ _ us hl => match us, hl with | [_], _ => rfl)
    f_need_level := _
    d_need_level := _
    F_need_level := fun_mk (st := s_need_level) l24 c24 k24
    g_need_level := PySem.W.mg_of X G a24
    b_need_level := (fun_mk (st := s_need_level) l24 c24 k24).binds (ps := ["level"]) (fun _ _ _ _ _ _ us hl => match us, hl with | [_], _ => rfl)
    f_need_mask := _
    d_need_mask := _
    F_need_mask := fun_mk (st := s_need_mask) l25 c25 k25
    g_need_mask := PySem.W.mg_of X G a25
    b_need_mask := (fun_mk (st := s_need_mask) l25 c25 k25).binds (ps := ["mask"]) (fun _ _ _ _ _ _ us hl => match us, hl with | [_], _ => rfl)
    f_block_sizes := _
    d_block_sizes := _
    F_block_sizes := fun_mk (st := s_block_sizes) l26 c26 k26
    g_block_sizes := PySem.W.mg_of X G a26
    b_block_sizes := (fun_mk (st := s_block_sizes) l26 c26 k26).binds (ps := ["size"]) (fun _ _ _ _ _ _ us hl => match us, hl with | [_], _ => rfl)
    f_word_count := _
    d_word_count := _
    F_word_count := fun_mk (st := s_word_count) l27 c27 k27
    g_word_count := PySem.W.mg_of X G a27
    b_word_count := (fun_mk (st := s_word_count) l27 c27 k27).binds (ps := ["size"]) (fun _ _ _ _ _ _ us hl => match us, hl with | [_], _ => rfl)
    f_word_bits := _
    d_word_bits := _
    F_word_bits := fun_mk (st := s_word_bits) l28 c28 k28
    g_word_bits := PySem.W.mg_of X G a28
    b_word_bits := (fun_mk (st := s_word_bits) l28 c28 k28).binds (ps := ["size"]) (fun _ _ _ _ _ _ us hl => match us, hl with | [_], _ => rfl)
    f_check_count := _
    d_check_count := _
    F_check_count := fun_mk (st := s_check_count) l29 c29 k29
    g_check_count := PySem.W.mg_of X G a29
    b_check_count := (fun_mk (st := s_check_count) l29 c29 k29).binds (ps := ["size", "level"]) (fun _ _ _ _ _ _ us hl => match us, hl with | [_, _], _ => rfl)
    f_code_start := _
    d_code_start := _
    F_code_start := fun_mk (st := s_code_start) l30 c30 k30
    g_code_start := PySem.W.mg_of X G a30
    b_code_start := (fun_mk (st := s_code_start) l30 c30 k30).binds (ps := ["size", "level"]) (fun _ _ _ _ _ _ us hl => match us, hl with | [_, _], _ => rfl)
    f_data_count := _
    d_data_count := _
    F_data_count := fun_mk (st := s_data_count) l31 c31 k31
    g_data_count := PySem.W.mg_of X G a31
    b_data_count := (fun_mk (st := s_data_count) l31 c31 k31).binds (ps := ["size", "level"]) (fun _ _ _ _ _ _ us hl => match us, hl with | [_, _], _ => rfl)
    f_is_plain_grid := _
    d_is_plain_grid := _
    F_is_plain_grid := fun_mk (st := s_is_plain_grid) l32 c32 k32
    g_is_plain_grid := PySem.W.mg_of X G a32
    b_is_plain_grid := (fun_mk (st := s_is_plain_grid) l32 c32 k32).binds (ps := ["many", "grid"]) (fun _ _ _ _ _ _ us hl => match us, hl with | [_, _], _ => rfl)
    f_need_dot_rows := _
    d_need_dot_rows := _
    F_need_dot_rows := fun_mk (st := s_need_dot_rows) l33 c33 k33
    g_need_dot_rows := PySem.W.mg_of X G a33
    b_need_dot_rows := (fun_mk (st := s_need_dot_rows) l33 c33 k33).binds (ps := ["many", "grid", "gapped"]) (fun _ _ _ _ _ _ us hl => match us, hl with | [_, _, _], _ => rfl)
    f_need_grid := _
    d_need_grid := _
    F_need_grid := fun_mk (st := s_need_grid) l34 c34 k34
    g_need_grid := PySem.W.mg_of X G a34
    b_need_grid := (fun_mk (st := s_need_grid) l34 c34 k34).binds (ps := ["size", "grid"]) (fun _ _ _ _ _ _ us hl => match us, hl with | [_, _], _ => rfl)
    f_need_symbol_words := _
    d_need_symbol_words := _
    F_need_symbol_words := fun_mk (st := s_need_symbol_words) l35 c35 k35
    g_need_symbol_words := PySem.W.mg_of X G a35
    b_need_symbol_words := (fun_mk (st := s_need_symbol_words) l35 c35 k35).binds (ps := ["size", "words", "gapped"]) (fun _ _ _ _ _ _ us hl => match us, hl with | [_, _, _], _ => rfl)
    f_block_places := _
    d_block_places := _
    F_block_places := fun_mk (st := s_block_places) l36 c36 k36
    g_block_places := PySem.W.mg_of X G a36
    b_block_places := (fun_mk (st := s_block_places) l36 c36 k36).binds (ps := ["size", "level"]) (fun _ _ _ _ _ _ us hl => match us, hl with | [_, _], _ => rfl)
    f_dealt_words := _
    d_dealt_words := _
    F_dealt_words := fun_mk (st := s_dealt_words) l37 c37 k37
    g_dealt_words := PySem.W.mg_of X G a37
    b_dealt_words := (fun_mk (st := s_dealt_words) l37 c37 k37).binds (ps := ["size", "level", "blocks"]) (fun _ _ _ _ _ _ us hl => match us, hl with | [_, _, _], _ => rfl)
    f_gathered_words := _
    d_gathered_words := _
    F_gathered_words := fun_mk (st := s_gathered_words) l38 c38 k38
    g_gathered_words := PySem.W.mg_of X G a38
    b_gathered_words := (fun_mk (st := s_gathered_words) l38 c38 k38).binds (ps := ["size", "level", "words"]) (fun _ _ _ _ _ _ us hl => match us, hl with | [_, _, _], _ => rfl)
    f_need_block := _
    d_need_block := _
    F_need_block := fun_mk (st := s_need_block) l39 c39 k39
    g_need_block := PySem.W.mg_of X G a39
    b_need_block := (fun_mk (st := s_need_block) l39 c39 k39).binds (ps := ["size", "block", "words"]) (fun _ _ _ _ _ _ us hl => match us, hl with | [_, _, _], _ => rfl)
    f_dealt := _
    d_dealt := _
    F_dealt := fun_mk (st := s_dealt) l40 c40 k40
    g_dealt := PySem.W.mg_of X G a40
    b_dealt := (fun_mk (st := s_dealt) l40 c40 k40).binds (ps := ["size", "level", "blocks"]) (fun _ _ _ _ _ _ us hl => match us, hl with | [_, _, _], _ => rfl)
    f_gathered := _
    d_gathered := _
    F_gathered := fun_mk (st := s_gathered) l41 c41 k41
    g_gathered := PySem.W.mg_of X G a41
    b_gathered := (fun_mk (st := s_gathered) l41 c41 k41).binds (ps := ["size", "level", "words"]) (fun _ _ _ _ _ _ us hl => match us, hl with | [_, _, _], _ => rfl)
    f_words_as_bits := _
    d_words_as_bits := _
    F_words_as_bits := fun_mk (st := s_words_as_bits) l42 c42 k42
    g_words_as_bits := PySem.W.mg_of X G a42
    b_words_as_bits := (fun_mk (st := s_words_as_bits) l42 c42 k42).binds (ps := ["words", "many"]) (fun _ _ _ _ _ _ us hl => match us, hl with | [_, _], _ => rfl)
    f_masked_grid := _
    d_masked_grid := _
    F_masked_grid := fun_mk (st := s_masked_grid) l43 c43 k43
    g_masked_grid := PySem.W.mg_of X G a43
    b_masked_grid := (fun_mk (st := s_masked_grid) l43 c43 k43).binds (ps := ["size", "grid", "mask"]) (fun _ _ _ _ _ _ us hl => match us, hl with | [_, _, _], _ => rfl)
    f_masked := _
    d_masked := _
    F_masked := fun_mk (st := s_masked) l44 c44 k44
    g_masked := PySem.W.mg_of X G a44
    b_masked := (fun_mk (st := s_masked) l44 c44 k44).binds (ps := ["size", "grid", "mask"]) (fun _ _ _ _ _ _ us hl => match us, hl with | [_, _, _], _ => rfl)
    f_bits_as_words := _
    d_bits_as_words := _
    F_bits_as_words := fun_mk (st := s_bits_as_words) l45 c45 k45
    g_bits_as_words := PySem.W.mg_of X G a45
    b_bits_as_words := (fun_mk (st := s_bits_as_words) l45 c45 k45).binds (ps := ["bits", "many"]) (fun _ _ _ _ _ _ us hl => match us, hl with | [_, _], _ => rfl)
    f_words_on := _
    d_words_on := _
    F_words_on := fun_mk (st := s_words_on) l46 c46 k46
    g_words_on := PySem.W.mg_of X G a46
    b_words_on := (fun_mk (st := s_words_on) l46 c46 k46).binds (ps := ["size", "grid"]) (fun _ _ _ _ _ _ us hl => match us, hl with | [_, _], _ => rfl)
    f_words_in := _
    d_words_in := _
    F_words_in := fun_mk (st := s_words_in) l47 c47 k47
    g_words_in := PySem.W.mg_of X G a47
    b_words_in := (fun_mk (st := s_words_in) l47 c47 k47).binds (ps := ["size", "grid"]) (fun _ _ _ _ _ _ us hl => match us, hl with | [_, _], _ => rfl)
    f_grid_of_words := _
    d_grid_of_words := _
    F_grid_of_words := fun_mk (st := s_grid_of_words) l48 c48 k48
    g_grid_of_words := PySem.W.mg_of X G a48
    b_grid_of_words := (fun_mk (st := s_grid_of_words) l48 c48 k48).binds (ps := ["size", "words", "strip_shades"]) (fun _ _ _ _ _ _ us hl => match us, hl with | [_, _, _], _ => rfl)
    f_word_of_format := _
    d_word_of_format := _
    F_word_of_format := fun_mk (st := s_word_of_format) l49 c49 k49
    g_word_of_format := PySem.W.mg_of X G a49
    b_word_of_format := (fun_mk (st := s_word_of_format) l49 c49 k49).binds (ps := ["level", "mask"]) (fun _ _ _ _ _ _ us hl => match us, hl with | [_, _], _ => rfl)
    f_as_bits := _
    d_as_bits := _
    F_as_bits := fun_mk (st := s_as_bits) l50 c50 k50
    g_as_bits := PySem.W.mg_of X G a50
    b_as_bits := (fun_mk (st := s_as_bits) l50 c50 k50).binds (ps := ["number", "many"]) (fun _ _ _ _ _ _ us hl => match us, hl with | [_, _], _ => rfl)
    f_strip_shades := _
    d_strip_shades := _
    F_strip_shades := fun_mk (st := s_strip_shades) l51 c51 k51
    g_strip_shades := PySem.W.mg_of X G a51
    b_strip_shades := (fun_mk (st := s_strip_shades) l51 c51 k51).binds (ps := ["level", "mask"]) (fun _ _ _ _ _ _ us hl => match us, hl with | [_, _], _ => rfl)
    f_masked_words := _
    d_masked_words := _
    F_masked_words := fun_mk (st := s_masked_words) l52 c52 k52
    g_masked_words := PySem.W.mg_of X G a52
    b_masked_words := (fun_mk (st := s_masked_words) l52 c52 k52).binds (ps := ["size", "mask", "words"]) (fun _ _ _ _ _ _ us hl => match us, hl with | [_, _, _], _ => rfl)
    f_drawn_grid := _
    d_drawn_grid := _
    F_drawn_grid := fun_mk (st := s_drawn_grid) l53 c53 k53
    g_drawn_grid := PySem.W.mg_of X G a53
    b_drawn_grid := (fun_mk (st := s_drawn_grid) l53 c53 k53).binds (ps := ["size", "level", "mask", "words"]) (fun _ _ _ _ _ _ us hl => match us, hl with | [_, _, _, _], _ => rfl)
    f_drawn := _
    d_drawn := _
    F_drawn := fun_mk (st := s_drawn) l54 c54 k54
    g_drawn := PySem.W.mg_of X G a54
    b_drawn := (fun_mk (st := s_drawn) l54 c54 k54).binds (ps := ["size", "level", "mask", "words"]) (fun _ _ _ _ _ _ us hl => match us, hl with | [_, _, _, _], _ => rfl)
    f_shares_of := _
    d_shares_of := _
    F_shares_of := fun_mk (st := s_shares_of) l55 c55 k55
    g_shares_of := PySem.W.mg_of X G a55
    b_shares_of := (fun_mk (st := s_shares_of) l55 c55 k55).binds (ps := ["size", "level", "own"]) (fun _ _ _ _ _ _ us hl => match us, hl with | [_, _, _], _ => rfl)
    f_own_counts := _
    d_own_counts := _
    F_own_counts := fun_mk (st := s_own_counts) l56 c56 k56
    g_own_counts := PySem.W.mg_of X G a56
    b_own_counts := (fun_mk (st := s_own_counts) l56 c56 k56).binds (ps := ["size", "level"]) (fun _ _ _ _ _ _ us hl => match us, hl with | [_, _], _ => rfl)
    f_checks_told := _
    d_checks_told := _
    F_checks_told := fun_mk (st := s_checks_told) l57 c57 k57
    g_checks_told := PySem.W.mg_of X G a57
    b_checks_told := (fun_mk (st := s_checks_told) l57 c57 k57).binds (ps := ["size", "level", "words"]) (fun _ _ _ _ _ _ us hl => match us, hl with | [_, _, _], _ => rfl)
    f_number_as_words := _
    d_number_as_words := _
    F_number_as_words := fun_mk (st := s_number_as_words) l58 c58 k58
    g_number_as_words := PySem.W.mg_of X G a58
    b_number_as_words := (fun_mk (st := s_number_as_words) l58 c58 k58).binds (ps := ["number", "many", "bits"]) (fun _ _ _ _ _ _ us hl => match us, hl with | [_, _, _], _ => rfl)
    f_parted_data := _
    d_parted_data := _
    F_parted_data := fun_mk (st := s_parted_data) l59 c59 k59
    g_parted_data := PySem.W.mg_of X G a59
    b_parted_data := (fun_mk (st := s_parted_data) l59 c59 k59).binds (ps := ["size", "level", "data"]) (fun _ _ _ _ _ _ us hl => match us, hl with | [_, _, _], _ => rfl)
    f_right_blocks := _
    d_right_blocks := _
    F_right_blocks := fun_mk (st := s_right_blocks) l60 c60 k60
    g_right_blocks := PySem.W.mg_of X G a60
    b_right_blocks := (fun_mk (st := s_right_blocks) l60 c60 k60).binds (ps := ["size", "level", "data"]) (fun _ _ _ _ _ _ us hl => match us, hl with | [_, _, _], _ => rfl)
    f_need_data := _
    d_need_data := _
    F_need_data := fun_mk (st := s_need_data) l61 c61 k61
    g_need_data := PySem.W.mg_of X G a61
    b_need_data := (fun_mk (st := s_need_data) l61 c61 k61).binds (ps := ["size", "level", "data"]) (fun _ _ _ _ _ _ us hl => match us, hl with | [_, _, _], _ => rfl)
    f_words_of_data := _
    d_words_of_data := _
    F_words_of_data := fun_mk (st := s_words_of_data) l62 c62 k62
    g_words_of_data := PySem.W.mg_of X G a62
    b_words_of_data := (fun_mk (st := s_words_of_data) l62 c62 k62).binds (ps := ["size", "level", "data"]) (fun _ _ _ _ _ _ us hl => match us, hl with | [_, _, _], _ => rfl)
    f_symbol_of := _
    d_symbol_of := _
    F_symbol_of := fun_mk (st := s_symbol_of) l63 c63 k63
    g_symbol_of := PySem.W.mg_of X G a63
    b_symbol_of := (fun_mk (st := s_symbol_of) l63 c63 k63).binds (ps := ["size", "level", "mask", "data"]) (fun _ _ _ _ _ _ us hl => match us, hl with | [_, _, _, _], _ => rfl)
    f__law_mix := _
    d__law_mix := _
    F__law_mix := fun_mk (st := s__law_mix) l64 c64 k64
    g__law_mix := PySem.W.mg_of X G a64
    b__law_mix := (fun_mk (st := s__law_mix) l64 c64 k64).binds (ps := ["_law_cell", "_law_lap"]) (fun _ _ _ _ _ _ us hl => match us, hl with | [_, _], _ => rfl)
    f__law_draw := _
    d__law_draw := _
    F__law_draw := fun_mk (st := s__law_draw) l65 c65 k65
    g__law_draw := PySem.W.mg_of X G a65
    b__law_draw := (fun_mk (st := s__law_draw) l65 c65 k65).binds (ps := ["_law_well", "_law_many"]) (fun _ _ _ _ _ _ us hl => match us, hl with | [_, _], _ => rfl)
    f__law_source := _
    d__law_source := _
    F__law_source := fun_mk (st := s__law_source) l66 c66 k66
    g__law_source := PySem.W.mg_of X G a66
    b__law_source := (fun_mk (st := s__law_source) l66 c66 k66).binds (ps := ["_law_script", "_law_k"]) (fun _ _ _ _ _ _ us hl => match us, hl with | [_, _], _ => rfl)
    f__law_format := _
    d__law_format := _
    F__law_format := fun_mk (st := s__law_format) l67 c67 k67
    g__law_format := PySem.W.mg_of X G a67
    b__law_format := (fun_mk (st := s__law_format) l67 c67 k67).binds (ps := ["_law_well"]) (fun _ _ _ _ _ _ us hl => match us, hl with | [_], _ => rfl)
    f__law_words := _
    d__law_words := _
    F__law_words := fun_mk (st := s__law_words) l68 c68 k68
    g__law_words := PySem.W.mg_of X G a68
    b__law_words := (fun_mk (st := s__law_words) l68 c68 k68).binds (ps := ["_law_well", "_law_many", "_law_bits"]) (fun _ _ _ _ _ _ us hl => match us, hl with | [_, _, _], _ => rfl)
    f__law_blocks := _
    d__law_blocks := _
    F__law_blocks := fun_mk (st := s__law_blocks) l69 c69 k69
    g__law_blocks := PySem.W.mg_of X G a69
    b__law_blocks := (fun_mk (st := s__law_blocks) l69 c69 k69).binds (ps := ["_law_deep", "_law_rank", "_law_words_so"]) (fun _ _ _ _ _ _ us hl => match us, hl with | [_, _, _], _ => rfl)
    f__law_sum_right := _
    d__law_sum_right := _
    F__law_sum_right := fun_mk (st := s__law_sum_right) l70 c70 k70
    g__law_sum_right := PySem.W.mg_of X G a70
    b__law_sum_right := (fun_mk (st := s__law_sum_right) l70 c70 k70).binds (ps := ["_law_well", "_law_deep", "_law_rank", "_law_turn", "_law_rows"]) (fun _ _ _ _ _ _ us hl => match us, hl with | [_, _, _, _, _], _ => rfl)
    f__law_right := _
    d__law_right := _
    F__law_right := fun_mk (st := s__law_right) l71 c71 k71
    g__law_right := PySem.W.mg_of X G a71
    b__law_right := (fun_mk (st := s__law_right) l71 c71 k71).binds (ps := ["_law_well"]) (fun _ _ _ _ _ _ us hl => match us, hl with | [_], _ => rfl)
    f_law := _
    d_law := _
    F_law := fun_mk (st := s_law) l72 c72 k72
    g_law := PySem.W.mg_of X G a72
    b_law := (fun_mk (st := s_law) l72 c72 k72).binds (ps := ["_law_script"]) (fun _ _ _ _ _ _ us hl => match us, hl with | [_], _ => rfl)
    C_Field := C_Field
    g_Field := PySem.W.mg_of X G aC_Field
    cl_Field := ⟨pg_Field, hd_Field, po_Field, sa_Field⟩
    m_Field___init__ := ⟨a6, i6, k6⟩
    mk_Field := ⟨mk_Field, a6, i6, kc_Field⟩
    m_Field_multiple := ⟨a7, i7, k7⟩
    m_Field_two_to := ⟨a8, i8, k8⟩
    m_Field_times := ⟨a9, i9, k9⟩
    a_Field_bits := na_Field_bits
    a_Field_span := na_Field_span
    a_Field_turn := na_Field_turn
    a_Field_powers := na_Field_powers
    a_Field_exponents := na_Field_exponents
    n_any := PySem.W.mg_none_of X G z_any
    n_bool := PySem.W.mg_none_of X G z_bool
    n_enumerate := PySem.W.mg_none_of X G z_enumerate
    n_int := PySem.W.mg_none_of X G z_int
    n_isinstance := PySem.W.mg_none_of X G z_isinstance
    n_len := PySem.W.mg_none_of X G z_len
    n_list := PySem.W.mg_none_of X G z_list
    n_max := PySem.W.mg_none_of X G z_max
    n_min := PySem.W.mg_none_of X G z_min
    n_range := PySem.W.mg_none_of X G z_range
    n_sum := PySem.W.mg_none_of X G z_sum
    n_tuple := PySem.W.mg_none_of X G z_tuple
    n_type := PySem.W.mg_none_of X G z_type
    n_zip := PySem.W.mg_none_of X G z_zip
    c_BLOCKS0 := c_BLOCKS0
    t_BLOCKS0 := t_BLOCKS0
    c_BLOCKS1 := c_BLOCKS1
    t_BLOCKS1 := t_BLOCKS1
    c_BLOCKS2 := c_BLOCKS2
    t_BLOCKS2 := t_BLOCKS2
    c_BLOCKS3 := c_BLOCKS3
    t_BLOCKS3 := t_BLOCKS3
    c_BLOCKS4 := c_BLOCKS4
    t_BLOCKS4 := t_BLOCKS4
    a_BLOCKS := d_BLOCKS
    g_BLOCKS := PySem.W.mg_of X G a_BLOCKS
    l_BLOCKS := ⟨_, _, l_BLOCKS⟩
    c_CHECKS0 := c_CHECKS0
    t_CHECKS0 := t_CHECKS0
    c_CHECKS1 := c_CHECKS1
    t_CHECKS1 := t_CHECKS1
    c_CHECKS2 := c_CHECKS2
    t_CHECKS2 := t_CHECKS2
    c_CHECKS3 := c_CHECKS3
    t_CHECKS3 := t_CHECKS3
    c_CHECKS4 := c_CHECKS4
    t_CHECKS4 := t_CHECKS4
    a_CHECKS := d_CHECKS
    g_CHECKS := PySem.W.mg_of X G a_CHECKS
    l_CHECKS := ⟨_, _, l_CHECKS⟩
    c_EXPONENTS0 := c_EXPONENTS0
    t_EXPONENTS0 := t_EXPONENTS0
    c_EXPONENTS1 := c_EXPONENTS1
    t_EXPONENTS1 := t_EXPONENTS1
    a_EXPONENTS := d_EXPONENTS
    g_EXPONENTS := PySem.W.mg_of X G a_EXPONENTS
    l_EXPONENTS := ⟨_, _, l_EXPONENTS, (.cons (.cons .nil)), w_EXPONENTS⟩
    a_FORMAT_WORDS := d_FORMAT_WORDS
    g_FORMAT_WORDS := PySem.W.mg_of X G a_FORMAT_WORDS
    l_FORMAT_WORDS := t_FORMAT_WORDS
    g_LEVELS := ⟨_, PySem.W.mg_of X G a_LEVELS⟩
    g_MASKS := ⟨_, PySem.W.mg_of X G a_MASKS⟩
    a_MASK_WORDS := d_MASK_WORDS
    g_MASK_WORDS := PySem.W.mg_of X G a_MASK_WORDS
    l_MASK_WORDS := t_MASK_WORDS
    a_MOST_CHECKS := d_MOST_CHECKS
    g_MOST_CHECKS := PySem.W.mg_of X G a_MOST_CHECKS
    l_MOST_CHECKS := ⟨_, _, l_MOST_CHECKS, (.cons (.cons .nil)), w_MOST_CHECKS⟩
    c_PATHS0 := c_PATHS0
    t_PATHS0 := t_PATHS0
    c_PATHS1 := c_PATHS1
    t_PATHS1 := t_PATHS1
    c_PATHS2 := c_PATHS2
    t_PATHS2 := t_PATHS2
    c_PATHS3 := c_PATHS3
    t_PATHS3 := t_PATHS3
    c_PATHS4 := c_PATHS4
    t_PATHS4 := t_PATHS4
    a_PATHS := d_PATHS
    g_PATHS := PySem.W.mg_of X G a_PATHS
    l_PATHS := ⟨_, _, l_PATHS⟩
    a_PLACES := d_PLACES
    g_PLACES := PySem.W.mg_of X G a_PLACES
    l_PLACES := t_PLACES
    c_POWERS0 := c_POWERS0
    t_POWERS0 := t_POWERS0
    c_POWERS1 := c_POWERS1
    t_POWERS1 := t_POWERS1
    a_POWERS := d_POWERS
    g_POWERS := PySem.W.mg_of X G a_POWERS
    l_POWERS := ⟨_, _, l_POWERS, (.cons (.cons .nil)), w_POWERS⟩
    c_QUADS0 := c_QUADS0
    t_QUADS0 := t_QUADS0
    c_QUADS1 := c_QUADS1
    t_QUADS1 := t_QUADS1
    c_QUADS2 := c_QUADS2
    t_QUADS2 := t_QUADS2
    c_QUADS3 := c_QUADS3
    t_QUADS3 := t_QUADS3
    c_QUADS4 := c_QUADS4
    t_QUADS4 := t_QUADS4
    c_QUADS5 := c_QUADS5
    t_QUADS5 := t_QUADS5
    c_QUADS6 := c_QUADS6
    t_QUADS6 := t_QUADS6
    c_QUADS7 := c_QUADS7
    t_QUADS7 := t_QUADS7
    c_QUADS8 := c_QUADS8
    t_QUADS8 := t_QUADS8
    c_QUADS9 := c_QUADS9
    t_QUADS9 := t_QUADS9
    c_QUADS10 := c_QUADS10
    t_QUADS10 := t_QUADS10
    c_QUADS11 := c_QUADS11
    t_QUADS11 := t_QUADS11
    c_QUADS12 := c_QUADS12
    t_QUADS12 := t_QUADS12
    c_QUADS13 := c_QUADS13
    t_QUADS13 := t_QUADS13
    c_QUADS14 := c_QUADS14
    t_QUADS14 := t_QUADS14
    c_QUADS15 := c_QUADS15
    t_QUADS15 := t_QUADS15
    a_QUADS := d_QUADS
    g_QUADS := PySem.W.mg_of X G a_QUADS
    l_QUADS := ⟨_, _, l_QUADS⟩
    a_QUAD_WORDS := d_QUAD_WORDS
    g_QUAD_WORDS := PySem.W.mg_of X G a_QUAD_WORDS
    l_QUAD_WORDS := t_QUAD_WORDS
    a_SHARES := d_SHARES
    g_SHARES := PySem.W.mg_of X G a_SHARES
    l_SHARES := t_SHARES
    a_SIDES := d_SIDES
    g_SIDES := PySem.W.mg_of X G a_SIDES
    l_SIDES := t_SIDES
    a_SPANS := d_SPANS
    g_SPANS := PySem.W.mg_of X G a_SPANS
    l_SPANS := ⟨_, _, l_SPANS, (.cons (.cons .nil)), w_SPANS⟩
    c_STARTS0 := c_STARTS0
    t_STARTS0 := t_STARTS0
    c_STARTS1 := c_STARTS1
    t_STARTS1 := t_STARTS1
    c_STARTS2 := c_STARTS2
    t_STARTS2 := t_STARTS2
    c_STARTS3 := c_STARTS3
    t_STARTS3 := t_STARTS3
    c_STARTS4 := c_STARTS4
    t_STARTS4 := t_STARTS4
    a_STARTS := d_STARTS
    g_STARTS := PySem.W.mg_of X G a_STARTS
    l_STARTS := ⟨_, _, l_STARTS⟩
    g_STRIP := ⟨_, PySem.W.mg_of X G a_STRIP⟩
    a_WORD_BITS := d_WORD_BITS
    g_WORD_BITS := PySem.W.mg_of X G a_WORD_BITS
    l_WORD_BITS := t_WORD_BITS }
  exact ⟨T.d_law, fun s v => .of_eq rfl, fun base _ _ => ok_law T⟩
end My
open PySem PySem.W PyProof.Rows
set_option maxHeartbeats 0 in
theorem PySem.Challenge.cw_dotquilts_k38_whole_symbols_of_data_word_holds : PySem.Challenge.rw_dotquilts_k38_whole_symbols_of_data_word.Holds := by
  w_on; o_law; k_head; (case hw => w_witness2)
  k_fill
  refine L2.walk_of (l := PySem.Challenge.rw_dotquilts_k38_whole_symbols_of_data_word) (n := 63) (k := 10) (x := "_law_script") (CX := fun _ => L2.CX0) (sp := fun w => My.sp_law _) rfl (by decide) rfl ⟨rfl, by decide, by decide⟩ (fun w h Y => PySem.W.kIn_of Y) ?F (fun _ _ a ns hl _ hS => ⟨a, ns, rfl, hS, hl, fun _ => rfl⟩) (fun _ _ _ _ _ h => h)
  case F =>
    intro w mg fa h KX G hmg
    refine' My.all_mk KX G hmg ?a0 ?l0 ?c0 ?k0 ?a1 ?l1 ?c1 ?k1 ?a2 ?l2 ?c2 ?k2 ?a3 ?l3 ?c3 ?k3 ?a4 ?l4 ?c4 ?k4 ?a5 ?l5 ?c5 ?k5 ?l6 ?c6 ?k6 ?l7 ?c7 ?k7 ?l8 ?c8 ?k8 ?l9 ?c9 ?k9 ?a10 ?l10 ?c10 ?k10 ?a11 ?l11 ?c11 ?k11 ?a12 ?l12 ?c12 ?k12 ?a13 ?l13 ?c13 ?k13 ?a14 ?l14 ?c14 ?k14 ?a15 ?l15 ?c15 ?k15 ?a16 ?l16 ?c16 ?k16 ?a17 ?l17 ?c17 ?k17 ?a18 ?l18 ?c18 ?k18 ?a19 ?l19 ?c19 ?k19 ?a20 ?l20 ?c20 ?k20 ?a21 ?l21 ?c21 ?k21 ?a22 ?l22 ?c22 ?k22 ?a23 ?l23 ?c23 ?k23 ?a24 ?l24 ?c24 ?k24 ?a25 ?l25 ?c25 ?k25 ?a26 ?l26 ?c26 ?k26 ?a27 ?l27 ?c27 ?k27 ?a28 ?l28 ?c28 ?k28 ?a29 ?l29 ?c29 ?k29 ?a30 ?l30 ?c30 ?k30 ?a31 ?l31 ?c31 ?k31 ?a32 ?l32 ?c32 ?k32 ?a33 ?l33 ?c33 ?k33 ?a34 ?l34 ?c34 ?k34 ?a35 ?l35 ?c35 ?k35 ?a36 ?l36 ?c36 ?k36 ?a37 ?l37 ?c37 ?k37 ?a38 ?l38 ?c38 ?k38 ?a39 ?l39 ?c39 ?k39 ?a40 ?l40 ?c40 ?k40 ?a41 ?l41 ?c41 ?k41 ?a42 ?l42 ?c42 ?k42 ?a43 ?l43 ?c43 ?k43 ?a44 ?l44 ?c44 ?k44 ?a45 ?l45 ?c45 ?k45 ?a46 ?l46 ?c46 ?k46 ?a47 ?l47 ?c47 ?k47 ?a48 ?l48 ?c48 ?k48 ?a49 ?l49 ?c49 ?k49 ?a50 ?l50 ?c50 ?k50 ?a51 ?l51 ?c51 ?k51 ?a52 ?l52 ?c52 ?k52 ?a53 ?l53 ?c53 ?k53 ?a54 ?l54 ?c54 ?k54 ?a55 ?l55 ?c55 ?k55 ?a56 ?l56 ?c56 ?k56 ?a57 ?l57 ?c57 ?k57 ?a58 ?l58 ?c58 ?k58 ?a59 ?l59 ?c59 ?k59 ?a60 ?l60 ?c60 ?k60 ?a61 ?l61 ?c61 ?k61 ?a62 ?l62 ?c62 ?k62 ?a63 ?l63 ?c63 ?k63 ?a64 ?l64 ?c64 ?k64 ?a65 ?l65 ?c65 ?k65 ?a66 ?l66 ?c66 ?k66 ?a67 ?l67 ?c67 ?k67 ?a68 ?l68 ?c68 ?k68 ?a69 ?l69 ?c69 ?k69 ?a70 ?l70 ?c70 ?k70 ?a71 ?l71 ?c71 ?k71 ?a72 ?l72 ?c72 ?k72 ?aC_Field ?pg_Field ?hd_Field ?po_Field ?sa_Field ?mk_Field ?kc_Field ?a6 ?i6 ?a7 ?i7 ?a8 ?i8 ?a9 ?i9 ?na_Field_bits ?na_Field_span ?na_Field_turn ?na_Field_powers ?na_Field_exponents ?z_any ?z_bool ?z_enumerate ?z_int ?z_isinstance ?z_len ?z_list ?z_max ?z_min ?z_range ?z_sum ?z_tuple ?z_type ?z_zip ?a_BLOCKS ?l_BLOCKS ?t_BLOCKS0 ?t_BLOCKS1 ?t_BLOCKS2 ?t_BLOCKS3 ?t_BLOCKS4 ?a_CHECKS ?l_CHECKS ?t_CHECKS0 ?t_CHECKS1 ?t_CHECKS2 ?t_CHECKS3 ?t_CHECKS4 ?a_EXPONENTS ?l_EXPONENTS ?w_EXPONENTS ?t_EXPONENTS0 ?t_EXPONENTS1 ?a_FORMAT_WORDS ?t_FORMAT_WORDS ?a_LEVELS ?a_MASKS ?a_MASK_WORDS ?t_MASK_WORDS ?a_MOST_CHECKS ?l_MOST_CHECKS ?w_MOST_CHECKS ?a_PATHS ?l_PATHS ?t_PATHS0 ?t_PATHS1 ?t_PATHS2 ?t_PATHS3 ?t_PATHS4 ?a_PLACES ?t_PLACES ?a_POWERS ?l_POWERS ?w_POWERS ?t_POWERS0 ?t_POWERS1 ?a_QUADS ?l_QUADS ?t_QUADS0 ?t_QUADS1 ?t_QUADS2 ?t_QUADS3 ?t_QUADS4 ?t_QUADS5 ?t_QUADS6 ?t_QUADS7 ?t_QUADS8 ?t_QUADS9 ?t_QUADS10 ?t_QUADS11 ?t_QUADS12 ?t_QUADS13 ?t_QUADS14 ?t_QUADS15 ?a_QUAD_WORDS ?t_QUAD_WORDS ?a_SHARES ?t_SHARES ?a_SIDES ?t_SIDES ?a_SPANS ?l_SPANS ?w_SPANS ?a_STARTS ?l_STARTS ?t_STARTS0 ?t_STARTS1 ?t_STARTS2 ?t_STARTS3 ?t_STARTS4 ?a_STRIP ?a_WORD_BITS ?t_WORD_BITS
    (case a0 => k_is)
    (case l0 => k_is)
    (case c0 => k_is)
    (case k0 => k_is)
    (case a1 => k_is)
    (case l1 => k_is)
    (case c1 => k_is)
    (case k1 => k_is)
    (case a2 => k_is)
    (case l2 => k_is)
    (case c2 => k_is)
    (case k2 => k_is)
    (case a3 => k_is)
    (case l3 => k_is)
    (case c3 => k_is)
    (case k3 => k_is)
    (case a4 => k_is)
    (case l4 => k_is)
    (case c4 => k_is)
    (case k4 => k_is)
    (case a5 => k_is)
    (case l5 => k_is)
    (case c5 => k_is)
    (case k5 => k_is)
    (case a10 => k_is)
    (case l10 => k_is)
    (case c10 => k_is)
    (case k10 => k_is)
    (case a11 => k_is)
    (case l11 => k_is)
    (case c11 => k_is)
    (case k11 => k_is)
    (case a12 => k_is)
    (case l12 => k_is)
    (case c12 => k_is)
    (case k12 => k_is)
    (case a13 => k_is)
    (case l13 => k_is)
    (case c13 => k_is)
    (case k13 => k_is)
    (case a14 => k_is)
    (case l14 => k_is)
    (case c14 => k_is)
    (case k14 => k_is)
    (case a15 => k_is)
    (case l15 => k_is)
    (case c15 => k_is)
    (case k15 => k_is)
    (case a16 => k_is)
    (case l16 => k_is)
    (case c16 => k_is)
    (case k16 => k_is)
    (case a17 => k_is)
    (case l17 => k_is)
    (case c17 => k_is)
    (case k17 => k_is)
    (case a18 => k_is)
    (case l18 => k_is)
    (case c18 => k_is)
    (case k18 => k_is)
    (case a19 => k_is)
    (case l19 => k_is)
    (case c19 => k_is)
    (case k19 => k_is)
    (case a20 => k_is)
    (case l20 => k_is)
    (case c20 => k_is)
    (case k20 => k_is)
    (case a21 => k_is)
    (case l21 => k_is)
    (case c21 => k_is)
    (case k21 => k_is)
    (case a22 => k_is)
    (case l22 => k_is)
    (case c22 => k_is)
    (case k22 => k_is)
    (case a23 => k_is)
    (case l23 => k_is)
    (case c23 => k_is)
    (case k23 => k_is)
    (case a24 => k_is)
    (case l24 => k_is)
    (case c24 => k_is)
    (case k24 => k_is)
    (case a25 => k_is)
    (case l25 => k_is)
    (case c25 => k_is)
    (case k25 => k_is)
    (case a26 => k_is)
    (case l26 => k_is)
    (case c26 => k_is)
    (case k26 => k_is)
    (case a27 => k_is)
    (case l27 => k_is)
    (case c27 => k_is)
    (case k27 => k_is)
    (case a28 => k_is)
    (case l28 => k_is)
    (case c28 => k_is)
    (case k28 => k_is)
    (case a29 => k_is)
    (case l29 => k_is)
    (case c29 => k_is)
    (case k29 => k_is)
    (case a30 => k_is)
    (case l30 => k_is)
    (case c30 => k_is)
    (case k30 => k_is)
    (case a31 => k_is)
    (case l31 => k_is)
    (case c31 => k_is)
    (case k31 => k_is)
    (case a32 => k_is)
    (case l32 => k_is)
    (case c32 => k_is)
    (case k32 => k_is)
    (case a33 => k_is)
    (case l33 => k_is)
    (case c33 => k_is)
    (case k33 => k_is)
    (case a34 => k_is)
    (case l34 => k_is)
    (case c34 => k_is)
    (case k34 => k_is)
    (case a35 => k_is)
    (case l35 => k_is)
    (case c35 => k_is)
    (case k35 => k_is)
    (case a36 => k_is)
    (case l36 => k_is)
    (case c36 => k_is)
    (case k36 => k_is)
    (case a37 => k_is)
    (case l37 => k_is)
    (case c37 => k_is)
    (case k37 => k_is)
    (case a38 => k_is)
    (case l38 => k_is)
    (case c38 => k_is)
    (case k38 => k_is)
    (case a39 => k_is)
    (case l39 => k_is)
    (case c39 => k_is)
    (case k39 => k_is)
    (case a40 => k_is)
    (case l40 => k_is)
    (case c40 => k_is)
    (case k40 => k_is)
    (case a41 => k_is)
    (case l41 => k_is)
    (case c41 => k_is)
    (case k41 => k_is)
    (case a42 => k_is)
    (case l42 => k_is)
    (case c42 => k_is)
    (case k42 => k_is)
    (case a43 => k_is)
    (case l43 => k_is)
    (case c43 => k_is)
    (case k43 => k_is)
    (case a44 => k_is)
    (case l44 => k_is)
    (case c44 => k_is)
    (case k44 => k_is)
    (case a45 => k_is)
    (case l45 => k_is)
    (case c45 => k_is)
    (case k45 => k_is)
    (case a46 => k_is)
    (case l46 => k_is)
    (case c46 => k_is)
    (case k46 => k_is)
    (case a47 => k_is)
    (case l47 => k_is)
    (case c47 => k_is)
    (case k47 => k_is)
    (case a48 => k_is)
    (case l48 => k_is)
    (case c48 => k_is)
    (case k48 => k_is)
    (case a49 => k_is)
    (case l49 => k_is)
    (case c49 => k_is)
    (case k49 => k_is)
    (case a50 => k_is)
    (case l50 => k_is)
    (case c50 => k_is)
    (case k50 => k_is)
    (case a51 => k_is)
    (case l51 => k_is)
    (case c51 => k_is)
    (case k51 => k_is)
    (case a52 => k_is)
    (case l52 => k_is)
    (case c52 => k_is)
    (case k52 => k_is)
    (case a53 => k_is)
    (case l53 => k_is)
    (case c53 => k_is)
    (case k53 => k_is)
    (case a54 => k_is)
    (case l54 => k_is)
    (case c54 => k_is)
    (case k54 => k_is)
    (case a55 => k_is)
    (case l55 => k_is)
    (case c55 => k_is)
    (case k55 => k_is)
    (case a56 => k_is)
    (case l56 => k_is)
    (case c56 => k_is)
    (case k56 => k_is)
    (case a57 => k_is)
    (case l57 => k_is)
    (case c57 => k_is)
    (case k57 => k_is)
    (case a58 => k_is)
    (case l58 => k_is)
    (case c58 => k_is)
    (case k58 => k_is)
    (case a59 => k_is)
    (case l59 => k_is)
    (case c59 => k_is)
    (case k59 => k_is)
    (case a60 => k_is)
    (case l60 => k_is)
    (case c60 => k_is)
    (case k60 => k_is)
    (case a61 => k_is)
    (case l61 => k_is)
    (case c61 => k_is)
    (case k61 => k_is)
    (case a62 => k_is)
    (case l62 => k_is)
    (case c62 => k_is)
    (case k62 => k_is)
    (case a63 => k_is)
    (case l63 => k_is)
    (case c63 => k_is)
    (case k63 => k_is)
    (case a64 => k_is)
    (case l64 => k_is)
    (case c64 => k_is)
    (case k64 => k_is)
    (case a65 => k_is)
    (case l65 => k_is)
    (case c65 => k_is)
    (case k65 => k_is)
    (case a66 => k_is)
    (case l66 => k_is)
    (case c66 => k_is)
    (case k66 => k_is)
    (case a67 => k_is)
    (case l67 => k_is)
    (case c67 => k_is)
    (case k67 => k_is)
    (case a68 => k_is)
    (case l68 => k_is)
    (case c68 => k_is)
    (case k68 => k_is)
    (case a69 => k_is)
    (case l69 => k_is)
    (case c69 => k_is)
    (case k69 => k_is)
    (case a70 => k_is)
    (case l70 => k_is)
    (case c70 => k_is)
    (case k70 => k_is)
    (case a71 => k_is)
    (case l71 => k_is)
    (case c71 => k_is)
    (case k71 => k_is)
    (case a72 => k_is)
    (case l72 => k_is)
    (case c72 => k_is)
    (case k72 => k_is)
    (case aC_Field => k_is)
    (case pg_Field => k_is)
    (case hd_Field => k_is)
    (case po_Field => k_is)
    (case sa_Field => k_is)
    (case mk_Field => k_is)
    (case kc_Field => k_is)
    (case a6 => k_is)
    (case i6 => k_is)
    (case a7 => k_is)
    (case i7 => k_is)
    (case a8 => k_is)
    (case i8 => k_is)
    (case a9 => k_is)
    (case i9 => k_is)
    (case na_Field_bits => k_is)
    (case na_Field_span => k_is)
    (case na_Field_turn => k_is)
    (case na_Field_powers => k_is)
    (case na_Field_exponents => k_is)
    (case z_any => k_is)
    (case z_bool => k_is)
    (case z_enumerate => k_is)
    (case z_int => k_is)
    (case z_isinstance => k_is)
    (case z_len => k_is)
    (case z_list => k_is)
    (case z_max => k_is)
    (case z_min => k_is)
    (case z_range => k_is)
    (case z_sum => k_is)
    (case z_tuple => k_is)
    (case z_type => k_is)
    (case z_zip => k_is)
    (case a_BLOCKS => k_is)
    (case l_BLOCKS => k_is)
    (case t_BLOCKS0 => first | rfl | decide +kernel | k_is)
    (case t_BLOCKS1 => first | rfl | decide +kernel | k_is)
    (case t_BLOCKS2 => first | rfl | decide +kernel | k_is)
    (case t_BLOCKS3 => first | rfl | decide +kernel | k_is)
    (case t_BLOCKS4 => first | rfl | decide +kernel | k_is)
    (case a_CHECKS => k_is)
    (case l_CHECKS => k_is)
    (case t_CHECKS0 => first | rfl | decide +kernel | k_is)
    (case t_CHECKS1 => first | rfl | decide +kernel | k_is)
    (case t_CHECKS2 => first | rfl | decide +kernel | k_is)
    (case t_CHECKS3 => first | rfl | decide +kernel | k_is)
    (case t_CHECKS4 => first | rfl | decide +kernel | k_is)
    (case a_EXPONENTS => k_is)
    (case l_EXPONENTS => k_is)
    (case w_EXPONENTS => first | rfl | decide)
    (case t_EXPONENTS0 => first | rfl | decide +kernel | k_is)
    (case t_EXPONENTS1 => first | rfl | decide +kernel | k_is)
    (case a_FORMAT_WORDS => k_is)
    (case t_FORMAT_WORDS => first | rfl | decide +kernel | k_is)
    (case a_LEVELS => k_is)
    (case a_MASKS => k_is)
    (case a_MASK_WORDS => k_is)
    (case t_MASK_WORDS => first | rfl | decide +kernel | k_is)
    (case a_MOST_CHECKS => k_is)
    (case l_MOST_CHECKS => k_is)
    (case w_MOST_CHECKS => first | rfl | decide)
    (case a_PATHS => k_is)
    (case l_PATHS => k_is)
    (case t_PATHS0 => first | rfl | decide +kernel | k_is)
    (case t_PATHS1 => first | rfl | decide +kernel | k_is)
    (case t_PATHS2 => first | rfl | decide +kernel | k_is)
    (case t_PATHS3 => first | rfl | decide +kernel | k_is)
    (case t_PATHS4 => first | rfl | decide +kernel | k_is)
    (case a_PLACES => k_is)
    (case t_PLACES => first | rfl | decide +kernel | k_is)
    (case a_POWERS => k_is)
    (case l_POWERS => k_is)
    (case w_POWERS => first | rfl | decide)
    (case t_POWERS0 => first | rfl | decide +kernel | k_is)
    (case t_POWERS1 => first | rfl | decide +kernel | k_is)
    (case a_QUADS => k_is)
    (case l_QUADS => k_is)
    (case t_QUADS0 => first | rfl | decide +kernel | k_is)
    (case t_QUADS1 => first | rfl | decide +kernel | k_is)
    (case t_QUADS2 => first | rfl | decide +kernel | k_is)
    (case t_QUADS3 => first | rfl | decide +kernel | k_is)
    (case t_QUADS4 => first | rfl | decide +kernel | k_is)
    (case t_QUADS5 => first | rfl | decide +kernel | k_is)
    (case t_QUADS6 => first | rfl | decide +kernel | k_is)
    (case t_QUADS7 => first | rfl | decide +kernel | k_is)
    (case t_QUADS8 => first | rfl | decide +kernel | k_is)
    (case t_QUADS9 => first | rfl | decide +kernel | k_is)
    (case t_QUADS10 => first | rfl | decide +kernel | k_is)
    (case t_QUADS11 => first | rfl | decide +kernel | k_is)
    (case t_QUADS12 => first | rfl | decide +kernel | k_is)
    (case t_QUADS13 => first | rfl | decide +kernel | k_is)
    (case t_QUADS14 => first | rfl | decide +kernel | k_is)
    (case t_QUADS15 => first | rfl | decide +kernel | k_is)
    (case a_QUAD_WORDS => k_is)
    (case t_QUAD_WORDS => first | rfl | decide +kernel | k_is)
    (case a_SHARES => k_is)
    (case t_SHARES => first | rfl | decide +kernel | k_is)
    (case a_SIDES => k_is)
    (case t_SIDES => first | rfl | decide +kernel | k_is)
    (case a_SPANS => k_is)
    (case l_SPANS => k_is)
    (case w_SPANS => first | rfl | decide)
    (case a_STARTS => k_is)
    (case l_STARTS => k_is)
    (case t_STARTS0 => first | rfl | decide +kernel | k_is)
    (case t_STARTS1 => first | rfl | decide +kernel | k_is)
    (case t_STARTS2 => first | rfl | decide +kernel | k_is)
    (case t_STARTS3 => first | rfl | decide +kernel | k_is)
    (case t_STARTS4 => first | rfl | decide +kernel | k_is)
    (case a_STRIP => k_is)
    (case a_WORD_BITS => k_is)
    (case t_WORD_BITS => first | rfl | decide +kernel | k_is)
    (case l6 => k_is)
    (case c6 => k_is)
    (case k6 => k_is)
    (case l7 => k_is)
    (case c7 => k_is)
    (case k7 => k_is)
    (case l8 => k_is)
    (case c8 => k_is)
    (case k8 => k_is)
    (case l9 => k_is)
    (case c9 => k_is)
    (case k9 => k_is)

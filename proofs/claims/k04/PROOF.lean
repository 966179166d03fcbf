import PyProof.Rows.All
import Wide.All
import OpenK.AllK
import Wide.FinOn
import HandS.ForMost
import HandS.IsInst
import HandS.SortInts
import HandS.Evl
import HandS.Conv
import HandS.Walk
import KE.GoesEnum
import KE.GoesMore
import HandS.Defaults
import HandS.Rev
import HandS.ExcInit
import HandS.ExcField
import HandS.ExcIs
import KE.KExcIs
import HandS.ExcBuiltin
import HandS.ExcValue
import KE.OsRunLaw
import PySem.Challenge.RW_dotquilts_k04_exceptions
set_option Elab.async false
set_option linter.all false
set_option maxRecDepth 100000
set_option maxHeartbeats 4000000
namespace My
open PySem PySem.Spec PyProof.Rows L2
/-! ### a dict of the module with int keys -/
inductive EntI : List DictEntry → List (Int × Int) → Prop where
  | nil : EntI [] []
  | cons {k v : Int} {t u : Tok} {es : List DictEntry} {kvs : List (Int × Int)} (h : EntI es kvs) (hk : hashInt k = k := by decide +kernel) : EntI (⟨k, .int k t, .int v u⟩ :: es) ((k, v) :: kvs)
def KInt (K : PySem.W.Frag) (d : Addr) (kvs : List (Int × Int)) : Prop :=
  ∃ (es : Array DictEntry) (n : Nat), K.lookup d = some ⟨.type "dict", none, .dict es n, #[]⟩ ∧ EntI es.toList kvs ∧ (d == sysModules) = false
theorem EntI.all {es : List DictEntry} {kvs : List (Int × Int)} (h : EntI es kvs) : ∀ e ∈ es, ∃ k t, e.key = .int k t ∧ e.hash = hashInt k := by
  induction h with
  | nil => intro e he; cases he
  | cons h hk ih =>
    intro e he
    cases he with
    | head => exact ⟨_, _, rfl, hk.symm⟩
    | tail _ m => exact ih e m
def getI (k : Int) : List (Int × Int) → Option Int
  | [] => none
  | (k', v) :: r => if k' = k then some v else getI k r
theorem EntI.find {es : List DictEntry} {kvs : List (Int × Int)} (h : EntI es kvs) (k : Int) :
    (getI k kvs = none → findBy Value.isInt es.toArray k = none) ∧ (∀ v, getI k kvs = some v → ∃ u, findBy Value.isInt es.toArray k = some (.int v u)) := by
  unfold findBy
  rw [List.find?_toArray]
  induction h with
  | nil => exact ⟨fun _ => rfl, fun v z => by cases z⟩
  | @cons k' v t u es kvs h hk ih =>
    rw [List.find?_cons]
    by_cases e : k' = k
    · have q : Value.isInt k (Value.int k' t) = true := by show (k' == k) = true; simp [e]
      simp only [q]
      refine ⟨fun z => ?_, fun v' z => ?_⟩
      · unfold getI at z; rw [if_pos e] at z; cases z
      · unfold getI at z; rw [if_pos e] at z; cases z; exact ⟨u, rfl⟩
    · have q : Value.isInt k (Value.int k' t) = false := by show (k' == k) = false; simp [e]
      simp only [q]
      unfold getI
      rw [if_neg e]
      exact ih
section
variable {X : Cx} {d : Addr} {kvs : List (Int × Int)}
theorem mapInt_K {prog : Program} {w : World} {K : PySem.W.Frag} {h : Heap} {es : Array DictEntry} {n : Nat} (X : K.In h) (hl : K.lookup d = some ⟨.type "dict", none, .dict es n, #[]⟩) (hk : EntI es.toList kvs) :
    h.MapOf (intKind prog w) d (fun k => findBy Value.isInt es k) :=
  ⟨_, es, n, X _ _ hl, ⟨rfl, rfl, rfl⟩, rfl, fun e he => by
    obtain ⟨x, t, e1, e2⟩ := hk.all e (Array.mem_toList_iff.mpr he)
    exact ⟨x, by rw [e1]; exact intKind_is prog w x t, e2⟩, fun _ => rfl⟩
/-- d[k] -/
def rKI (d : Addr) (kvs : List (Int × Int)) : R2 := fun x y H Q => ∃ k v, x = .ref d ∧ y = .int k ∧ getI k kvs = some v ∧ Q (.int v) H
theorem ix_kint (D : KInt X.K d kvs) : IxR X (rKI d kvs) := by
  intro value slice pins s σ H x y v u Q I rx ry h hs
  obtain ⟨k, r, rfl, rfl, e, q⟩ := h
  obtain ⟨es, n, hl, hk, hd⟩ := D
  obtain rfl : v = Value.ref d := rx
  obtain ⟨t, rfl⟩ := ry
  have hm := mapInt_K (prog := X.prog) (w := X.w) I.kIn hl hk
  obtain ⟨u0, eu⟩ := (hk.find k).2 r e
  exact tail_any hm.typeIs slot_dict_getitem.lookup (wpAny_getItem_of (intKind_is X.prog X.w k t) hm eu ⟨.int r, H, I.tok _, ⟨_, rfl⟩, q⟩) hs
/-- k in d, k not in d -/
def rInKI (d : Addr) (kvs : List (Int × Int)) (neg : Bool) : R2 := fun x y H Q => ∃ k, x = .int k ∧ y = .ref d ∧ Q (.bl (if neg then !(getI k kvs).isSome else (getI k kvs).isSome)) H
theorem find_is {es : Array DictEntry} (hk : EntI es.toList kvs) (k : Int) : (findBy Value.isInt es k).isSome = (getI k kvs).isSome := by
  have q : findBy Value.isInt es k = findBy Value.isInt es.toList.toArray k := by simp
  cases e : getI k kvs with
  | none => rw [q, (hk.find k).1 e] <;> rfl
  | some v =>
    obtain ⟨u, eu⟩ := (hk.find k).2 v e
    rw [q, eu]
    rfl
theorem op_inKI (D : KInt X.K d kvs) : OpR X (compareOp .In) (rInKI d kvs false) := by
  intro pins s σ H x y v u Q I rx ry h
  obtain ⟨k, rfl, rfl, q⟩ := h
  obtain ⟨es, n, hl, hk, hd⟩ := D
  obtain ⟨t, rfl⟩ := rx
  cases ry
  refine wpAny_in_of (intKind_is X.prog X.w k t) hd (mapInt_K (prog := X.prog) (w := X.w) I.kIn hl hk) ?_
  exact ⟨.bl _, H, I.tok _, rfl, by rw [find_is hk]; exact q⟩
theorem op_notInKI (D : KInt X.K d kvs) : OpR X (compareOp .NotIn) (rInKI d kvs true) := by
  intro pins s σ H x y v u Q I rx ry h
  obtain ⟨k, rfl, rfl, q⟩ := h
  obtain ⟨es, n, hl, hk, hd⟩ := D
  obtain ⟨t, rfl⟩ := rx
  cases ry
  refine wpAny_notIn_of (intKind_is X.prog X.w k t) hd (mapInt_K (prog := X.prog) (w := X.w) I.kIn hl hk) ?_
  exact ⟨.bl _, H, I.tok _, rfl, by rw [find_is hk]; exact q⟩
/-- xs + ys, whatever kind of lists stand there (the script, too) -/
def rCatL (K : PySem.W.Frag) : R2 := fun x y H Q => ∃ l b xs zs, x = .ref l ∧ y = .ref b ∧ SqL K H l xs ∧ SqL K H b zs ∧ xs.length + zs.length ≤ sizeLine ∧ ∀ p, H p = none → Q (.ref p) (upd H p (.lst (xs ++ zs)))
theorem op_catL : OpR X (binaryOp .Add) (rCatL X.K) := by
  intro pins s σ H x y v u Q I rx ry h
  obtain ⟨l, b, xs, zs, rfl, rfl, hl, hb, hz, q⟩ := h
  cases rx
  cases ry
  obtain ⟨its, r, ⟨⟨cls, dd, data, sl⟩, n, ho, hc, hd, hs⟩, z1⟩ := I.list hl
  obtain ⟨its2, r2, ⟨⟨cls2, dd2, data2, sl2⟩, n2, ho2, hc2, hd2, hs2⟩, z2⟩ := I.list hb
  have e1 := r.length
  have e2 := r2.length
  simp only at hc hd hs hc2 hd2 hs2
  subst hc hd hs hc2 hd2 hs2
  have e : its.toArray ++ its2.toArray = (its ++ its2).toArray := by simp
  refine concat_meets ⟨_, ho, rfl⟩ ⟨_, ho2, rfl⟩ noFill_list_add seq_list_add PySem.F.slot_list_add PySem.F.entry_list_add (PySem.F.args_list_add_2 _ _) (list_addW l b its.toArray its2.toArray n n2 none none sl sl2 (by simp; omega)) ⟨ho, ho2, ?_⟩
  rw [e]
  exact ⟨.ref _, _, I.lnew (t' := s.toks) (r.append r2) (by rw [List.length_append]; omega), rfl, q _ I.fresh⟩
/-- name op= e, by the in-place operator's rule -/
theorem pip_of {op : Operator} {r : R2} (h : OpR X (inplaceOp op) r) : PIp X op r := h
end
end My

set_option Elab.async false
set_option linter.all false
set_option maxRecDepth 100000
set_option maxHeartbeats 4000000
/-! ### written tuples of ints, dicts of the module from ints to objects -/
namespace My
open PySem PySem.Spec PyProof.Rows L2
def intsB : List Value → List Int → Bool
  | [], [] => true
  | .int i _ :: vs, j :: xs => (i == j) && intsB vs xs
  | _, _ => false
def tupB (K : PySem.W.Frag) (a : Addr) (xs : List Int) : Bool :=
  match K.lookup a with
  | some ⟨.type s, _, .seq its _, _⟩ => s == "tuple" && Nat.ble its.size 1000 && intsB its.toList xs
  | _ => false
theorem intsB_ok : ∀ {vs : List Value} {xs : List Int}, intsB vs xs = true → Vals (xs.map V.int) vs
  | [], [], _ => .nil
  | .int i t :: vs, j :: xs, h => by
    have h' : ((i == j) && intsB vs xs) = true := h
    rw [Bool.and_eq_true] at h'
    have e : i = j := by simpa using h'.1
    subst e
    exact .cons ⟨t, rfl⟩ (intsB_ok h'.2)
theorem tupB_ok {K : PySem.W.Frag} {a : Addr} {xs : List Int} {H : Hp} (h : tupB K a xs = true) : SqT K H a (xs.map V.int) := by
  unfold tupB at h
  split at h
  · next s _ its n _ e =>
    rw [Bool.and_eq_true, Bool.and_eq_true] at h
    have es : s = "tuple" := by simpa using h.1.1
    subst es
    exact .inr ⟨_, its, n, e, rfl, rfl, Nat.le_trans (Nat.le_of_ble_eq_true h.1.2) (by decide), intsB_ok h.2⟩
  · cases h
inductive EntR : List DictEntry → List (Int × Addr) → Prop where
  | nil : EntR [] []
  | cons {k : Int} {v : Addr} {t : Tok} {es : List DictEntry} {kvs : List (Int × Addr)} (h : EntR es kvs) (hk : hashInt k = k := by decide +kernel) : EntR (⟨k, .int k t, .ref v⟩ :: es) ((k, v) :: kvs)
def KRef (K : PySem.W.Frag) (d : Addr) (kvs : List (Int × Addr)) : Prop :=
  ∃ (es : Array DictEntry) (n : Nat), K.lookup d = some ⟨.type "dict", none, .dict es n, #[]⟩ ∧ EntR es.toList kvs ∧ (d == sysModules) = false
theorem EntR.all {es : List DictEntry} {kvs : List (Int × Addr)} (h : EntR es kvs) : ∀ e ∈ es, ∃ k t, e.key = .int k t ∧ e.hash = hashInt k := by
  induction h with
  | nil => intro e he; cases he
  | cons h hk ih =>
    intro e he
    cases he with
    | head => exact ⟨_, _, rfl, hk.symm⟩
    | tail _ m => exact ih e m
def getA (k : Int) : List (Int × Addr) → Option Addr
  | [] => none
  | (k', v) :: r => if k' = k then some v else getA k r
theorem EntR.find {es : List DictEntry} {kvs : List (Int × Addr)} (h : EntR es kvs) (k : Int) :
    (getA k kvs = none → findBy Value.isInt es.toArray k = none) ∧ (∀ v, getA k kvs = some v → findBy Value.isInt es.toArray k = some (.ref v)) := by
  unfold findBy
  rw [List.find?_toArray]
  induction h with
  | nil => exact ⟨fun _ => rfl, fun v z => by cases z⟩
  | @cons k' v t es kvs h hk ih =>
    rw [List.find?_cons]
    by_cases e : k' = k
    · have q : Value.isInt k (Value.int k' t) = true := by show (k' == k) = true; simp [e]
      simp only [q]
      refine ⟨fun z => ?_, fun v' z => ?_⟩
      · unfold getA at z; rw [if_pos e] at z; cases z
      · unfold getA at z; rw [if_pos e] at z; cases z; rfl
    · have q : Value.isInt k (Value.int k' t) = false := by show (k' == k) = false; simp [e]
      simp only [q]
      unfold getA
      rw [if_neg e]
      exact ih
section
variable {X : Cx} {d : Addr} {kvs : List (Int × Addr)}
theorem mapInt_R {prog : Program} {w : World} {K : PySem.W.Frag} {h : Heap} {es : Array DictEntry} {n : Nat} (X : K.In h) (hl : K.lookup d = some ⟨.type "dict", none, .dict es n, #[]⟩) (hk : EntR es.toList kvs) :
    h.MapOf (intKind prog w) d (fun k => findBy Value.isInt es k) :=
  ⟨_, es, n, X _ _ hl, ⟨rfl, rfl, rfl⟩, rfl, fun e he => by
    obtain ⟨x, t, e1, e2⟩ := hk.all e (Array.mem_toList_iff.mpr he)
    exact ⟨x, by rw [e1]; exact intKind_is prog w x t, e2⟩, fun _ => rfl⟩
/-- d[k] -/
def rKR (d : Addr) (kvs : List (Int × Addr)) : R2 := fun x y H Q => ∃ k v, x = .ref d ∧ y = .int k ∧ getA k kvs = some v ∧ Q (.ref v) H
theorem ix_kref (D : KRef X.K d kvs) : IxR X (rKR d kvs) := by
  intro value slice pins s σ H x y v u Q I rx ry h hs
  obtain ⟨k, r, rfl, rfl, e, q⟩ := h
  obtain ⟨es, n, hl, hk, hd⟩ := D
  obtain rfl : v = Value.ref d := rx
  obtain ⟨t, rfl⟩ := ry
  have hm := mapInt_R (prog := X.prog) (w := X.w) I.kIn hl hk
  have eu := (hk.find k).2 r e
  exact tail_any hm.typeIs slot_dict_getitem.lookup (wpAny_getItem_of (intKind_is X.prog X.w k t) hm eu ⟨.ref r, H, I.tok _, rfl, q⟩) hs
end
end My

set_option Elab.async false
set_option linter.all false
set_option maxRecDepth 100000
set_option maxHeartbeats 4000000
namespace My
open PySem PySem.Spec PyProof.Rows L2
/-! ### bits of ints that are not negative -/
theorem bx (a b : Nat) : Builtin.bitXor (a : Int) (b : Int) = ((a ^^^ b : Nat) : Int) := by
  have h := Bits.bitXor_pp (x := (a : Int)) (y := (b : Int)) (by omega) (by omega)
  simpa using h
theorem band1 (a : Nat) : Builtin.bitAnd (a : Int) 1 = ((a % 2 : Nat) : Int) := by
  have h := Bits.bitAnd_mask (x := (a : Int)) 1 (by omega)
  simpa using h
/-! ### the field: words as natural numbers -/
def span (b : Nat) : Nat := cond (Nat.beq b 4) 16 256
def foldw (b : Nat) : Nat := cond (Nat.beq b 4) 9 113
def turn (b : Nat) : Nat := cond (Nat.beq b 4) 15 255
def dbl (b x : Nat) : Nat := cond (Nat.blt (2 * x) (span b)) (2 * x) ((2 * x - span b) ^^^ foldw b)
def mulF (b : Nat) : Nat → Nat → Nat → Nat
  | 0, _, _ => 0
  | n + 1, x, y => (cond (Nat.beq (y % 2) 1) x 0) ^^^ mulF b n (dbl b x) (y / 2)
def mul (b x y : Nat) : Nat := mulF b b x y
def pw (b : Nat) : Nat → Nat
  | 0 => 1
  | n + 1 => dbl b (pw b n)
def pws (b : Nat) : List Nat := (List.range (turn b)).map (pw b)
def Wd (b : Nat) : Prop := b = 4 ∨ b = 8
def allB (p : Nat → Nat → Bool) (n : Nat) : Bool := (List.range n).all fun x => (List.range n).all fun y => p x y
theorem allB_ok {p : Nat → Nat → Bool} {n : Nat} (h : allB p n = true) {x y : Nat} (hx : x < n) (hy : y < n) : p x y = true :=
  List.all_eq_true.mp (List.all_eq_true.mp h x (List.mem_range.mpr hx)) y (List.mem_range.mpr hy)
def linB (b : Nat) (x y : Nat) : Bool := Nat.beq (dbl b (x ^^^ y)) (dbl b x ^^^ dbl b y)
theorem lin4 : allB (linB 4) 16 = true := by decide +kernel
theorem lin8 : allB (linB 8) 256 = true := by decide +kernel
theorem dbl_lin {b x y : Nat} (hb : Wd b) (hx : x < span b) (hy : y < span b) : dbl b (x ^^^ y) = dbl b x ^^^ dbl b y := by
  rcases hb with rfl | rfl
  · exact Nat.eq_of_beq_eq_true (allB_ok lin4 hx hy)
  · exact Nat.eq_of_beq_eq_true (allB_ok lin8 hx hy)
theorem dbl_lt {b x : Nat} (hb : Wd b) (hx : x < span b) : dbl b x < span b := by
  rcases hb with rfl | rfl
  · exact (by decide +kernel : ∀ x, x < 16 → dbl 4 x < 16) x hx
  · exact (by decide +kernel : ∀ x, x < 256 → dbl 8 x < 256) x hx
theorem dbl_zero {b : Nat} (hb : Wd b) : dbl b 0 = 0 := by rcases hb with rfl | rfl <;> rfl
theorem span_pow {b : Nat} (hb : Wd b) : span b = 2 ^ b := by rcases hb with rfl | rfl <;> rfl
theorem xor_lt {b x y : Nat} (hb : Wd b) (hx : x < span b) (hy : y < span b) : x ^^^ y < span b := by
  rw [span_pow hb] at *
  exact Nat.xor_lt_two_pow hx hy
theorem mulF_lt {b : Nat} (hb : Wd b) : ∀ (n x y : Nat), x < span b → mulF b n x y < span b
  | 0, _, _, _ => by
    show 0 < span b
    rcases hb with rfl | rfl <;> decide
  | n + 1, x, y, hx => by
    refine xor_lt hb ?_ (mulF_lt hb n _ _ (dbl_lt hb hx))
    cases Nat.beq (y % 2) 1
    · show 0 < span b; rcases hb with rfl | rfl <;> decide
    · exact hx
theorem mulF_zero {b : Nat} (x : Nat) : ∀ n x, mulF b n x 0 = 0
  | 0, _ => rfl
  | n + 1, x => by
    show (0 : Nat) ^^^ mulF b n (dbl b x) 0 = 0
    rw [mulF_zero x n _]
    rfl
theorem zero_mulF {b : Nat} (hb : Wd b) : ∀ n y, mulF b n 0 y = 0
  | 0, _ => rfl
  | n + 1, y => by
    show (cond (Nat.beq (y % 2) 1) 0 0) ^^^ mulF b n (dbl b 0) (y / 2) = 0
    rw [dbl_zero hb, zero_mulF hb n]
    cases Nat.beq (y % 2) 1 <;> rfl
theorem mulF_lin {b : Nat} (hb : Wd b) : ∀ (n x z y : Nat), x < span b → z < span b → mulF b n (x ^^^ z) y = mulF b n x y ^^^ mulF b n z y
  | 0, _, _, _, _, _ => by
    show (0 : Nat) = 0 ^^^ 0
    rfl
  | n + 1, x, z, y, hx, hz => by
    show (cond (Nat.beq (y % 2) 1) (x ^^^ z) 0) ^^^ mulF b n (dbl b (x ^^^ z)) (y / 2) = ((cond (Nat.beq (y % 2) 1) x 0) ^^^ mulF b n (dbl b x) (y / 2)) ^^^ ((cond (Nat.beq (y % 2) 1) z 0) ^^^ mulF b n (dbl b z) (y / 2))
    rw [dbl_lin hb hx hz, mulF_lin hb n _ _ _ (dbl_lt hb hx) (dbl_lt hb hz)]
    cases Nat.beq (y % 2) 1
    · simp
    · show (x ^^^ z) ^^^ (_ ^^^ _) = (x ^^^ _) ^^^ (z ^^^ _)
      ac_rfl
theorem mulF_dbl {b : Nat} (hb : Wd b) : ∀ (n x y : Nat), x < span b → mulF b n (dbl b x) y = dbl b (mulF b n x y)
  | 0, _, _, _ => (dbl_zero hb).symm
  | n + 1, x, y, hx => by
    show (cond (Nat.beq (y % 2) 1) (dbl b x) 0) ^^^ mulF b n (dbl b (dbl b x)) (y / 2) = dbl b ((cond (Nat.beq (y % 2) 1) x 0) ^^^ mulF b n (dbl b x) (y / 2))
    rw [mulF_dbl hb n _ _ (dbl_lt hb hx)]
    cases Nat.beq (y % 2) 1
    · simp
    · show dbl b x ^^^ _ = dbl b (x ^^^ _)
      rw [dbl_lin hb hx (mulF_lt hb _ _ _ (dbl_lt hb hx))]
theorem one_mul {b y : Nat} (hb : Wd b) (hy : y < span b) : mul b 1 y = y := by
  rcases hb with rfl | rfl
  · exact (by decide +kernel : ∀ x, x < 16 → mul 4 1 x = x) y hy
  · exact (by decide +kernel : ∀ x, x < 256 → mul 8 1 x = x) y hy
theorem pw_lt {b : Nat} (hb : Wd b) : ∀ n, pw b n < span b
  | 0 => by rcases hb with rfl | rfl <;> decide
  | n + 1 => dbl_lt hb (pw_lt hb n)
theorem mul_lt {b x y : Nat} (hb : Wd b) (hx : x < span b) : mul b x y < span b := mulF_lt hb _ _ _ hx
theorem pw_mul {b : Nat} (hb : Wd b) (j : Nat) : ∀ i, mul b (pw b i) (pw b j) = pw b (i + j)
  | 0 => by rw [Nat.zero_add]; exact one_mul hb (pw_lt hb j)
  | i + 1 => by
    show mulF b b (dbl b (pw b i)) (pw b j) = _
    rw [mulF_dbl hb _ _ _ (pw_lt hb i)]
    have h := pw_mul hb j i
    unfold mul at h
    rw [h, show i + 1 + j = (i + j) + 1 by omega]
    rfl
theorem pw_turn {b : Nat} (hb : Wd b) : pw b (turn b) = 1 := by rcases hb with rfl | rfl <;> decide +kernel
theorem pw_add_turn {b : Nat} (hb : Wd b) (i : Nat) : pw b (i + turn b) = pw b i := by
  rw [← pw_mul hb, pw_turn hb]
  have h := pw_mul hb 0 i
  exact h
theorem pw_add_mul {b : Nat} (hb : Wd b) (i : Nat) : ∀ k, pw b (i + k * turn b) = pw b i
  | 0 => by rw [Nat.zero_mul, Nat.add_zero]
  | k + 1 => by
    rw [Nat.succ_mul, ← Nat.add_assoc, pw_add_turn hb, pw_add_mul hb i k]
theorem pw_mod {b : Nat} (hb : Wd b) (i : Nat) : pw b i = pw b (i % turn b) := by
  have h := pw_add_mul hb (i % turn b) (i / turn b)
  have e : i % turn b + i / turn b * turn b = i := by
    have := Nat.mod_add_div i (turn b)
    rw [Nat.mul_comm] at this
    exact this
  rw [e] at h
  exact h
def lg (b x : Nat) : Nat := (pws b).idxOf x
def memB (b : Nat) (x : Nat) : Bool := Nat.beq x 0 || (pws b).any fun y => Nat.beq x y
theorem mem_pws {b x : Nat} (hb : Wd b) (hx : x < span b) (h0 : x ≠ 0) : x ∈ pws b := by
  have q : memB b x = true := by
    rcases hb with rfl | rfl
    · exact List.all_eq_true.mp (by decide +kernel : ((List.range 16).all fun x => memB 4 x) = true) x (List.mem_range.mpr hx)
    · exact List.all_eq_true.mp (by decide +kernel : ((List.range 256).all fun x => memB 8 x) = true) x (List.mem_range.mpr hx)
  rcases (Bool.or_eq_true _ _).mp q with h | h
  · exact absurd (Nat.eq_of_beq_eq_true h) h0
  · obtain ⟨y, hy, e⟩ := List.any_eq_true.mp h
    rw [Nat.eq_of_beq_eq_true e]
    exact hy
theorem pws_len (b : Nat) : (pws b).length = turn b := by simp [pws]
theorem pws_at {b i : Nat} (h : i < turn b) : (pws b)[i]? = some (pw b i) := by
  simp [pws, h]
theorem lg_lt {b x : Nat} (hb : Wd b) (hx : x < span b) (h0 : x ≠ 0) : lg b x < turn b := by
  rw [← pws_len b]
  exact List.idxOf_lt_length_of_mem (mem_pws hb hx h0)
theorem pw_lg {b x : Nat} (hb : Wd b) (hx : x < span b) (h0 : x ≠ 0) : pw b (lg b x) = x := by
  have h := lg_lt hb hx h0
  have e := pws_at h
  have e2 : (pws b)[lg b x]? = some x := by
    unfold lg
    rw [List.getElem?_eq_getElem (List.idxOf_lt_length_of_mem (mem_pws hb hx h0)), List.getElem_idxOf]
  rw [e] at e2
  exact Option.some.inj e2
theorem pw_ne {b : Nat} (hb : Wd b) (i : Nat) : pw b i ≠ 0 := by
  intro h
  have e := pw_mul hb ((turn b - i % turn b)) (i % turn b)
  rw [← pw_mod hb i, h] at e
  have ht : i % turn b < turn b := Nat.mod_lt _ (by rcases hb with rfl | rfl <;> decide)
  rw [show i % turn b + (turn b - i % turn b) = turn b by omega, pw_turn hb] at e
  unfold mul at e
  rw [zero_mulF hb] at e
  cases e
/-- before its place a word does not stand in the list of powers -/
theorem lg_first {b x m z : Nat} (hm : m < lg b x) (hz : (pws b)[m]? = some z) : z ≠ x := by
  intro e
  subst e
  have := List.not_of_lt_findIdx (xs := pws b) (p := (· == z)) (i := m) hm
  obtain ⟨hl, he⟩ := List.getElem?_eq_some_iff.mp hz
  simp [he] at this
theorem mul_comm {b x y : Nat} (hb : Wd b) (hx : x < span b) (hy : y < span b) : mul b x y = mul b y x := by
  by_cases h1 : x = 0
  · subst h1
    unfold mul
    rw [zero_mulF hb, mulF_zero 0]
  · by_cases h2 : y = 0
    · subst h2
      unfold mul
      rw [zero_mulF hb, mulF_zero 0]
    · rw [← pw_lg hb hx h1, ← pw_lg hb hy h2, pw_mul hb, pw_mul hb, Nat.add_comm]
theorem mulF_more {b : Nat} : ∀ (n x y : Nat), y < 2 ^ n → ∀ m, n ≤ m → mulF b m x y = mulF b n x y
  | 0, x, y, h, m, _ => by
    have : y = 0 := by simpa using h
    subst this
    rw [mulF_zero 0]
    rfl
  | n + 1, x, y, h, m, hm => by
    cases m with
    | zero => omega
    | succ m =>
      show (cond (Nat.beq (y % 2) 1) x 0) ^^^ mulF b m (dbl b x) (y / 2) = (cond (Nat.beq (y % 2) 1) x 0) ^^^ mulF b n (dbl b x) (y / 2)
      rw [mulF_more n _ _ (by rw [Nat.pow_succ] at h; omega) m (by omega)]
end My

set_option Elab.async false
set_option linter.all false
set_option maxRecDepth 100000
set_option maxHeartbeats 4000000
/-! ### enumerate of a tuple -/
namespace EnT
open PySem PySem.Spec PyProof.Rows
theorem meets_enumerate_newT (l : Addr) (items : Array Value) (n : Nat) (dct : Option Addr) (sl : Array (Option Value)) :
    Meets (Builtin.«enumerate.__new__» ⟨[.type "enumerate", .ref l], []⟩) (fun _ R s => s.heap.get? l = some { cls := .type "tuple", dict := dct, data := .seq items n, slots := sl } ∧
      R (.ok (.ret (.ref (s.heap.push { cls := .type "tuple_iterator", data := .fields #[.ref l, .int 0 0] }).objs.size)))
        { s with heap := (s.heap.push { cls := .type "tuple_iterator", data := .fields #[.ref l, .int 0 0] }).push { cls := .type "enumerate", data := .fields #[.none, .bool false, .ref s.heap.objs.size, rawInt 0, .none, .none] } }) :=
  .of_wp fun prog w A R s h => by
    obtain ⟨hp, g, d, tk, os⟩ := s; obtain ⟨hl, h⟩ := h
    have hsub := sub_enumerate
    have hL : Heap.IsTuple (Shared.heap ⟨hp, g, d, tk, os⟩) l items := ⟨_, hl, rfl, n, rfl⟩
    wp_walk using wpAny_loadPart' hl
    refine wpAny_stack_any fun st => wpAny_pure ?_
    split
    · rename_i c _ _ _ _ _
      cases (c == Value.type "enumerate")
      · wp_walk using wpAny_loadPart' hl, wpAny_pyIter_tuple hL
        exact ⟨_, rfl, h⟩
      · wp_walk using wpAny_loadPart' hl, wpAny_pyIter_tuple hL
        exact ⟨_, rfl, h⟩
    · wp_walk using wpAny_loadPart' hl, wpAny_pyIter_tuple hL
      exact ⟨_, rfl, h⟩
theorem call_enumerate_tuple {prog : Program} {w : World} {A : Around} {E : Value → Shared → Prop} {s : Shared} {l : Addr} {items : Array Value} {Q : Value → Shared → Prop} (hL : s.heap.IsTuple l items)
    (h : ∀ h', IsEnum h' (s.heap.objs.size + 1) s.heap.objs.size 0 .none → h'.IsTupleIter s.heap.objs.size l 0 → h'.objs.size = s.heap.objs.size + 2 →
      (∀ b o, s.heap.get? b = some o → h'.get? b = some o) → Q (.ref (s.heap.objs.size + 1)) { s with heap := h' }) :
    wpAny (model prog w) A (call (.type "enumerate") [.ref l]) Q E s := by
  obtain ⟨⟨c, dct, dt, sl⟩, hl, hc, n, hd⟩ := hL
  replace hc : c = .type "tuple" := hc
  replace hd : dt = .seq items n := hd
  subst hc hd
  refine callType_new F.called_enumerate (by decide) (F.typeCall_enumerate_1 _) (F.newCall_enumerate_1 _) (fun obj => F.args_object_init_2 obj _) F.entry_enumerate_new
    (meets_enumerate_newT l items n dct sl) ⟨hl, ?_⟩
  have hz : (s.heap.push { cls := .type "tuple_iterator", data := .fields #[.ref l, .int 0 0] }).objs.size = s.heap.objs.size + 1 := Heap.size_push ..
  show _ ∧ _
  rw [hz]
  have he : IsEnum ((s.heap.push { cls := .type "tuple_iterator", data := .fields #[.ref l, .int 0 0] }).push
      { cls := .type "enumerate", data := .fields #[.none, .bool false, .ref s.heap.objs.size, rawInt 0, .none, .none] }) (s.heap.objs.size + 1) s.heap.objs.size 0 .none := by
    have := Heap.get?_push_size (s.heap.push { cls := .type "tuple_iterator", data := .fields #[.ref l, .int 0 0] })
      (o := { cls := .type "enumerate", data := .fields #[.none, .bool false, .ref s.heap.objs.size, rawInt 0, .none, .none] }) rfl
    rw [hz] at this; exact this
  refine ⟨⟨_, he, rfl⟩, h _ he ⟨_, Heap.get?_push_of_some _ (Heap.get?_push_size _ rfl), rfl, rfl⟩ (by rw [Heap.size_push, hz]) fun b o x => Heap.get?_push_of_some _ (Heap.get?_push_of_some _ x)⟩
open L2
def IteT (K : PySem.W.Frag) (a : Addr) : It :=
  ⟨fun i H => ∃ (xs : List V) (x : V), SqT K H a xs ∧ xs[i]? = some x, fun i H v H' => ∃ T x, v = .ref T ∧ H T = none ∧ H' = upd H T (.tup [.int (i : Nat), x]) ∧ ∀ xs, SqT K H a xs → xs[i]? = some x, fun i H => ∃ xs : List V, SqT K H a xs ∧ xs.length = i⟩
theorem turn_enumT {P : Program} {w : World} {K : PySem.W.Frag} {elts : List Expr} {kk : Nat} {tpos : Pos} (a e it : Addr) :
    Turn P w K (.Tuple elts kk tpos) (IteT K a) [e, it] e (fun i h => (∃ old, IsEnum h e it ((i : Nat) : Int) old) ∧ h.IsTupleIter it a i ∧ e ≠ it ∧ a ≠ it ∧ e ≠ a) where
  mem := by simp
  obj := fun i h st b hb => by
    obtain ⟨⟨old, he⟩, ⟨o, ho, hc, hd⟩, _⟩ := st
    have e' : b = e ∨ b = it := by simpa using hb
    rcases e' with z | z
    · rw [z]; exact ⟨_, he, fun v q => nomatch q⟩
    · rw [z]; exact ⟨o, ho, fun v q => by rw [hd] at q; cases q⟩
  keep := fun i h h' st k => let ⟨⟨old, he⟩, hi, hne⟩ := st; ⟨⟨old, k e (by simp) _ he⟩, hi.at fun o q => k it (by simp) o q, hne⟩
  item := by
    intro X hP hw hK hc i pins s σ H E I hf st hg
    subst hP hw hK
    obtain ⟨⟨old, he⟩, hit, hne, hai, hea⟩ := st
    obtain ⟨xs, x, hq, hx⟩ := hg
    obtain ⟨its, rv, p, hz⟩ := I.tuple hq
    obtain ⟨u, hu, ru⟩ := rv.get hx
    have hel : e < s.heap.objs.size := Heap.lt_size he
    have hil : it < s.heap.objs.size := by obtain ⟨_, q, _⟩ := hit; exact Heap.lt_size q
    have hin : i < its.toArray.size := by
      have := (List.getElem?_eq_some_iff.mp hu).1
      simpa using this
    have hd0 : X.A.in1.handled = none := I.ok.hd hc
    refine wpAny_pyNext_enum_itemC (Draws.tuple hd0 it a hai its.toArray) he ⟨hit, p⟩ hin hne (by simp [hne, hea]) fun y h' tk hy ho hst' hT hsz hk => ?_
    obtain rfl : y = u := by
      have : its.toArray[i]? = some y := hy
      simp at this
      rw [hu] at this
      exact (Option.some.inj this).symm
    have hit' := hst'.1
    refine ⟨_, rfl, wpAny_letOwnedTupleGo_enum (s := { s with heap := h', toks := tk + 1 }) ho fun h'' he' sb => ?_⟩
    have hT2 : h''.get? s.heap.objs.size = some { cls := .type "tuple", data := .seq #[.int i tk, y] } := (sb.2 _ (Nat.ne_of_gt hel)).trans hT
    have new : ObjOk X.prog X.w (upd H s.heap.objs.size (.tup [.int (i : Nat), x])) h'' s.heap.objs.size (.tup [.int (i : Nat), x]) :=
      ⟨by show 2 ≤ sizeLine; decide, [.int i tk, y], .cons ⟨_, rfl⟩ (.cons ru .nil), ⟨_, hT2, rfl, _, rfl⟩⟩
    have I1 : Inv X pins σ (upd H s.heap.objs.size (.tup [.int (i : Nat), x])) { s with heap := h'', toks := tk + 1 } :=
      I.turnedNew (ch := [e, it]) (fun b ob hb q => (sb.2 b (fun z => hb (by simp [z]))).trans (hk b ob (fun z => hb (by simp [z])) (fun z => hb (by simp [z])) q)) hf (Nat.le_refl _) new
    refine ⟨.ref s.heap.objs.size, _, I1, rfl, ⟨_, x, rfl, I.hok.fresh (Nat.le_refl _), rfl, fun ys hy => by rw [I.tuple_inj hy hq]; exact hx⟩, ⟨⟨y, ?_⟩, hit'.at fun o q => (sb.2 it (Ne.symm hne)).trans q, hne, hai, hea⟩, fun b hb => ?_⟩
    · have e1 : ((i + 1 : Nat) : Int) = (i : Int) + 1 := by omega
      rw [e1]; exact he'
    · have hb' : b < s.heap.objs.size := by
        have e' : b = e ∨ b = it := by simpa using hb
        rcases e' with z | z
        · rw [z]; exact hel
        · rw [z]; exact hil
      rw [upd_ne (Nat.ne_of_lt hb')]
      exact (hf b hb).1
  done := by
    intro X hP hw hK hc i pins s σ H E I hf st hg
    subst hP hw hK
    obtain ⟨⟨old, he⟩, hit, hne, hai, hea⟩ := st
    obtain ⟨xs, hq, hx⟩ := hg
    obtain ⟨its, rv, p, hz⟩ := I.tuple hq
    obtain ⟨f0, f1, f2, f3, f4, f5⟩ := hf it (by simp)
    have hl := rv.length
    have hd0 : X.A.in1.handled = none := I.ok.hd hc
    have en : its.toArray.size = i := by simp; omega
    have hst : s.heap.IsTupleIter it a its.toArray.size ∧ s.heap.IsTuple a its.toArray := ⟨by rw [en]; exact hit, p⟩
    exact wpAny_pyNext_enum_endD (Draws.tuple hd0 it a hai its.toArray) he hst fun h' eb => ⟨rfl, I.turned (t' := s.toks) (fun b o hb q => eb b o hb q) f0 f1 f3 f4 f5⟩
  self := fun A i s Q E st h => let ⟨⟨_, he⟩, _⟩ := st; wpAny_pyIter_enum he h
def iEnumT (K : PySem.W.Frag) (ta : TA) : TI := fun σ H R => ta σ H fun vs H1 => ∃ a xs, vs = [.ref a] ∧ SqT K H1 a xs ∧ R (IteT K a) H1
theorem pi_enumT {X : Cx} {e : Expr} {ta : TA} {p pos tpos : Pos} {elts : List Expr} {kk : Nat} (hg : Gl X "enumerate") (hm : X.mg "enumerate" = none) (ha : PA X [e] ta) (hs : starEach [e] X.env = [(false, eval e X.env)] := by rfl) :
    PI X (.Tuple elts kk tpos) (.Call (.Name "enumerate" p) [e] [] pos) (iEnumT X.K ta) := by
  refine ⟨fun pins s σ H R I h => ?_⟩
  refine Call_ (ld_blt I hg hm boot_enumerate (PyProof.Rows.callWith_type1 (thn (ha.run pos pins s σ H _ I h) fun us s1 ⟨vs, H1, I1, r1, q1⟩ => ?_) hs rfl))
  obtain ⟨a, xs, ex, hq, q⟩ := q1
  subst ex
  cases r1 with
  | cons r rr =>
    cases rr
    cases r
    obtain ⟨its, rv, p', hz⟩ := I1.tuple hq
    have hal : a < s1.heap.objs.size := by obtain ⟨_, q, _⟩ := p'; exact Heap.lt_size q
    refine call_enumerate_tuple p' fun h' he hit hsz hk => wpAny_pyIter_enum he ?_
    have I2 : Inv X pins σ H1 { s1 with heap := h' } := I1.kept (t' := s1.toks) hk
    refine ⟨s1.heap.objs.size + 1, [s1.heap.objs.size + 1, s1.heap.objs.size], _, _, H1, rfl, I2, turn_enumT a (s1.heap.objs.size + 1) s1.heap.objs.size, ⟨⟨.none, he⟩, hit, Nat.succ_ne_self _, Nat.ne_of_lt hal, Nat.ne_of_gt (Nat.lt_succ_of_lt hal)⟩, fun b hb => ?_, q⟩
    have e' : b = s1.heap.objs.size + 1 ∨ b = s1.heap.objs.size := by simpa using hb
    have hle : s1.heap.objs.size ≤ b := by
      rcases e' with z | z
      · rw [z]; exact Nat.le_add_right _ _
      · rw [z]; exact Nat.le_refl _
    exact I1.fpOk hle (I1.hok.fresh hle)
theorem walk_enumT {K : PySem.W.Frag} {a : Addr} {xs : List V} : Walk (IteT K a) xs.length (fun H => SqT K H a xs) (YPair (fun i => some (.int (i : Nat))) (fun i => xs[i]?)) where
  goes := fun i H hi h => ⟨xs, xs[i], h, List.getElem?_eq_getElem hi⟩
  stops := fun H h => ⟨xs, h, rfl⟩
  yields := fun i H x H' hi h y => by
    obtain ⟨T, z, e1, e2, e3, e4⟩ := y
    exact ⟨T, _, z, e1, e2, e3, rfl, e4 xs h⟩
end EnT

set_option Elab.async false
set_option linter.all false
set_option maxRecDepth 100000
set_option maxHeartbeats 4000000
/-! ### rows: lists (true) and tuples (false) in one -/
namespace My
open PySem PySem.Spec PyProof.Rows L2
def SqB (b : Bool) (K : PySem.W.Frag) (H : Hp) (a : Addr) (xs : List V) : Prop := if b = true then SqL K H a xs else SqT K H a xs
def ItB (b : Bool) (K : PySem.W.Frag) (a : Addr) : It := if b = true then Itl K a else Itt K a
def IteB (b : Bool) (K : PySem.W.Frag) (a : Addr) : It := if b = true then Ite K a else EnT.IteT K a
section
variable {b : Bool} {K : PySem.W.Frag} {H H' : Hp} {a : Addr} {xs : List V}
theorem SqB.or (h : SqB b K H a xs) : SqL K H a xs ∨ SqT K H a xs := by
  cases b
  · exact .inr h
  · exact .inl h
theorem Same.sqt (e : Same H H') (h : SqT K H a xs) : SqT K H' a xs := by
  rcases h with (h | ⟨o, h⟩) | h
  · exact .inl (.inl (e _ _ h))
  · exact .inl (.inr ⟨o, e _ _ h⟩)
  · exact .inr h
theorem Same.sqb (e : Same H H') (h : SqB b K H a xs) : SqB b K H' a xs := by
  cases b
  · exact Same.sqt e h
  · exact e.seq h
theorem SqB.lst (h : H a = some (.lst xs)) : SqB true K H a xs := .inl (.inl h)
theorem SqB.tup (h : H a = some (.tup xs)) : SqB false K H a xs := .inl (.inl h)
theorem SqB.ty (h : SqB b K H a xs) : TyX K H (.ref a) (.type (if b = true then "list" else "tuple")) := by
  cases b
  · rcases h with (h | ⟨o, h⟩) | ⟨o, its, n, hk, hc, _⟩
    · exact .base (.tup h)
    · exact .fTuple h
    · exact .kTuple hk hc
  · rcases h with (h | ⟨o, h⟩) | ⟨o, its, n, hk, hc, _⟩
    · exact .base (.lst h)
    · exact .base (.frz h)
    · exact .kList hk hc
theorem walk_seq : Walk (ItB b K a) xs.length (fun H => SqB b K H a xs) (YAt xs) := by
  cases b
  · exact walk_tup
  · exact walk_list
theorem walk_enumS : Walk (IteB b K a) xs.length (fun H => SqB b K H a xs) (YPair (fun i => some (.int (i : Nat))) (fun i => xs[i]?)) := by
  cases b
  · exact EnT.walk_enumT
  · exact walk_enum
end
section
variable {X : Cx} {tg : Expr}
def iSeq (K : PySem.W.Frag) (tl : TE) : TI := fun σ H R => tl σ H fun x H1 => ∃ a xs b, x = .ref a ∧ SqB b K H1 a xs ∧ R (ItB b K a) H1
theorem pi_seq {l : Expr} {tl : TE} (hl : PE X l tl) : PI X tg l (iSeq X.K tl) := by
  refine ⟨fun pins s σ H R I h => ?_⟩
  refine thn (hl.run pins s σ H _ I h) fun v s1 ⟨x, H1, I1, r1, q1⟩ => ?_
  obtain ⟨a, xs, b, e, hq, q⟩ := q1
  subst e
  cases r1
  cases b
  · obtain ⟨its, rv, p, hz⟩ := I1.tuple hq
    refine wpAny_pyIter_tuple (show s1.heap.IsTuple a its.toArray from p) ?_
    refine ⟨s1.heap.objs.size, [s1.heap.objs.size], _, _, H1, rfl, I1.kept (t' := s1.toks) fun b o e => Heap.get?_push_of_some _ e, turn_tuple a _, ⟨_, Heap.get?_push_size _ rfl, rfl, rfl⟩, fun b hb => ?_, q⟩
    have e : b = s1.heap.objs.size := by simpa using hb
    subst e
    exact I1.fpOk (Nat.le_refl _) (I1.hok.fresh (Nat.le_refl _))
  · obtain ⟨its, rv, p, hz⟩ := I1.list hq
    refine wpAny_pyIter_list p.isList ?_
    refine ⟨s1.heap.objs.size, [s1.heap.objs.size], _, _, H1, rfl, I1.kept (t' := s1.toks) fun b o e => Heap.get?_push_of_some _ e, turn_list a _, ⟨_, Heap.get?_push_size _ rfl, rfl, rfl⟩, fun b hb => ?_, q⟩
    have e : b = s1.heap.objs.size := by simpa using hb
    subst e
    exact I1.fpOk (Nat.le_refl _) (I1.hok.fresh (Nat.le_refl _))
def iEnumS (K : PySem.W.Frag) (ta : TA) : TI := fun σ H R => ta σ H fun vs H1 => ∃ a xs b, vs = [.ref a] ∧ SqB b K H1 a xs ∧ R (IteB b K a) H1
theorem pi_enumS {e : Expr} {ta : TA} {p pos tpos : Pos} {elts : List Expr} {kk : Nat} (hg : Gl X "enumerate") (hm : X.mg "enumerate" = none) (ha : PA X [e] ta) (hs : starEach [e] X.env = [(false, eval e X.env)] := by rfl) :
    PI X (.Tuple elts kk tpos) (.Call (.Name "enumerate" p) [e] [] pos) (iEnumS X.K ta) := by
  refine ⟨fun pins s σ H R I h => ?_⟩
  refine Call_ (ld_blt I hg hm boot_enumerate (PyProof.Rows.callWith_type1 (thn (ha.run pos pins s σ H _ I h) fun us s1 ⟨vs, H1, I1, r1, q1⟩ => ?_) hs rfl))
  obtain ⟨a, xs, b, ex, hq, q⟩ := q1
  subst ex
  cases r1 with
  | cons r rr =>
    cases rr
    cases r
    cases b
    · obtain ⟨its, rv, p', hz⟩ := I1.tuple hq
      have hal : a < s1.heap.objs.size := by obtain ⟨_, q, _⟩ := p'; exact Heap.lt_size q
      refine EnT.call_enumerate_tuple p' fun h' he hit hsz hk => wpAny_pyIter_enum he ?_
      have I2 : Inv X pins σ H1 { s1 with heap := h' } := I1.kept (t' := s1.toks) hk
      refine ⟨s1.heap.objs.size + 1, [s1.heap.objs.size + 1, s1.heap.objs.size], _, _, H1, rfl, I2, EnT.turn_enumT a (s1.heap.objs.size + 1) s1.heap.objs.size, ⟨⟨.none, he⟩, hit, Nat.succ_ne_self _, Nat.ne_of_lt hal, Nat.ne_of_gt (Nat.lt_succ_of_lt hal)⟩, fun b hb => ?_, q⟩
      have e' : b = s1.heap.objs.size + 1 ∨ b = s1.heap.objs.size := by simpa using hb
      have hle : s1.heap.objs.size ≤ b := by
        rcases e' with z | z
        · rw [z]; exact Nat.le_add_right _ _
        · rw [z]; exact Nat.le_refl _
      exact I1.fpOk hle (I1.hok.fresh hle)
    · obtain ⟨its, rv, p', hz⟩ := I1.list hq
      refine call_enumerate_list p'.isList fun h' he hit hsz hk => wpAny_pyIter_enum he ?_
      have I2 : Inv X pins σ H1 { s1 with heap := h' } := I1.kept (t' := s1.toks) hk
      refine ⟨s1.heap.objs.size + 1, [s1.heap.objs.size + 1, s1.heap.objs.size], _, _, H1, rfl, I2, turn_enum a (s1.heap.objs.size + 1) s1.heap.objs.size, ⟨⟨.none, he⟩, hit, Nat.succ_ne_self _⟩, fun b hb => ?_, q⟩
      have e' : b = s1.heap.objs.size + 1 ∨ b = s1.heap.objs.size := by simpa using hb
      have hle : s1.heap.objs.size ≤ b := by
        rcases e' with z | z
        · rw [z]; exact Nat.le_add_right _ _
        · rw [z]; exact Nat.le_refl _
      exact I1.fpOk hle (I1.hok.fresh hle)
/-- xs[i] of a list or a tuple -/
def rIxB (K : PySem.W.Frag) : R2 := fun x y H Q => ∃ p xs i v b, x = .ref p ∧ y = .int i ∧ SqB b K H p xs ∧ atI xs i = some v ∧ Q v H
theorem ix_rowB : IxR X (rIxB X.K) := by
  intro value slice pins s σ H x y v u Q I rx ry h hs
  obtain ⟨p, xs, i, z, b, rfl, rfl, hq, ha, q⟩ := h
  refine ix_seq value slice pins s σ H _ _ v u Q I rx ry ?_ hs
  cases b
  · exact .inr (.inl ⟨p, xs, i, z, rfl, rfl, hq, ha, q⟩)
  · exact .inl ⟨p, xs, i, z, rfl, rfl, hq, ha, q⟩
end
end My

set_option Elab.async false
set_option linter.all false
set_option maxRecDepth 100000
set_option maxHeartbeats 4000000
namespace My
open PySem PySem.Spec PyProof.Rows L2
section
variable {X : Cx}
/-- xs[i] of a list, by the item's own rule (for xs[i] op= e) -/
def rGetL (K : PySem.W.Frag) : V → V → Hp → VK → Prop := fun x y H Q => ∃ p xs v, ∃ j : Nat, x = .ref p ∧ y = .int (j : Int) ∧ SqL K H p xs ∧ xs[j]? = some v ∧ Q v H
theorem get_list : PGet X (rGetL X.K) := by
  intro pins s σ H x y v u Q I rx ry h
  obtain ⟨p, xs, z, j, rfl, rfl, hq, he, q⟩ := h
  cases rx
  obtain ⟨t, rfl⟩ := ry
  obtain ⟨its, r, pl, hz⟩ := I.list hq
  obtain ⟨w, ew, rw'⟩ := r.get he
  have hl := r.length
  have hn := line63
  have hj : j < xs.length := (List.getElem?_eq_some_iff.mp he).1
  exact wpAny_getItem_list pl.isList (by omega) (by omega) (by simpa using ew) ⟨z, H, I, rw', q⟩
end
end My

set_option Elab.async false
set_option linter.all false
set_option maxRecDepth 100000
set_option maxHeartbeats 4000000
/-! ### polynomials over the field -/
namespace My
theorem span_eq' {b : Nat} (hb : Wd b) : span b = turn b + 1 := by rcases hb with rfl | rfl <;> rfl
theorem turn_pos {b : Nat} (hb : Wd b) : 0 < turn b := by rcases hb with rfl | rfl <;> decide
/-- the quotient: the word whose product with y is x -/
def quo (b x y : Nat) : Nat := mul b x (pw b (lg b y * (turn b - 1)))
theorem quo_mul {b x y : Nat} (hb : Wd b) (hx : x < span b) (hy : y < span b) (h1 : y ≠ 0) : quo b (mul b x y) y = x := by
  unfold quo
  by_cases h0 : x = 0
  · subst h0
    have e : mul b 0 y = 0 := zero_mulF hb _ _
    rw [e]
    exact zero_mulF hb _ _
  · have ex := pw_lg hb hx h0
    have ey := pw_lg hb hy h1
    have e : mul b x y = pw b (lg b x + lg b y) := by rw [← pw_mul hb, ex, ey]
    rw [e, pw_mul hb]
    have h := pw_add_mul hb (lg b x) (lg b y)
    have e2 : lg b x + lg b y + lg b y * (turn b - 1) = lg b x + lg b y * turn b := by
      have ht := turn_pos hb
      have : lg b y * turn b = lg b y * (turn b - 1) + lg b y := by
        rw [← Nat.mul_succ]
        rw [show (turn b - 1).succ = turn b by omega]
      omega
    rw [e2, h, ex]
theorem mul_quo {b x y : Nat} (hb : Wd b) (hx : x < span b) (hy : y < span b) (h1 : y ≠ 0) : mul b (quo b x y) y = x := by
  unfold quo
  by_cases h0 : x = 0
  · subst h0
    have e : mul b 0 (pw b (lg b y * (turn b - 1))) = 0 := zero_mulF hb _ _
    rw [e]
    exact zero_mulF hb _ _
  · have ex := pw_lg hb hx h0
    have ey := pw_lg hb hy h1
    have e : mul b x (pw b (lg b y * (turn b - 1))) = pw b (lg b x + lg b y * (turn b - 1)) := by rw [← pw_mul hb, ex]
    have e3 : mul b (pw b (lg b x + lg b y * (turn b - 1))) y = pw b (lg b x + lg b y * (turn b - 1) + lg b y) := by
      rw [← pw_mul hb _ (lg b x + lg b y * (turn b - 1)), ey]
    rw [e, e3]
    have h := pw_add_mul hb (lg b x) (lg b y)
    have e2 : lg b x + lg b y * (turn b - 1) + lg b y = lg b x + lg b y * turn b := by
      have ht := turn_pos hb
      have : lg b y * turn b = lg b y * (turn b - 1) + lg b y := by
        rw [← Nat.mul_succ]
        rw [show (turn b - 1).succ = turn b by omega]
      omega
    rw [e2, h, ex]
theorem mul_zero {b x : Nat} : mul b x 0 = 0 := mulF_zero 0 _ _
theorem zero_mul {b y : Nat} (hb : Wd b) : mul b 0 y = 0 := zero_mulF hb _ _
theorem span_pos {b : Nat} (hb : Wd b) : 1 < span b := by rcases hb with rfl | rfl <;> decide
theorem mul_one {b x : Nat} (hb : Wd b) (hx : x < span b) : mul b x 1 = x := by
  rw [mul_comm hb hx (span_pos hb)]
  exact one_mul hb hx
theorem mul_xor_l {b x z y : Nat} (hb : Wd b) (hx : x < span b) (hz : z < span b) : mul b (x ^^^ z) y = mul b x y ^^^ mul b z y := mulF_lin hb _ _ _ _ hx hz
theorem mul_xor_r {b x z y : Nat} (hb : Wd b) (hx : x < span b) (hz : z < span b) (hy : y < span b) : mul b y (x ^^^ z) = mul b y x ^^^ mul b y z := by
  rw [mul_comm hb hy (xor_lt hb hx hz), mul_xor_l hb hx hz, mul_comm hb hx hy, mul_comm hb hz hy]
theorem mul_assoc {b x y z : Nat} (hb : Wd b) (hx : x < span b) (hy : y < span b) (hz : z < span b) : mul b (mul b x y) z = mul b x (mul b y z) := by
  by_cases h1 : x = 0
  · subst h1
    rw [zero_mul hb, zero_mul hb, zero_mul hb]
  · by_cases h2 : y = 0
    · subst h2
      rw [mul_zero, zero_mul hb, mul_zero]
    · by_cases h3 : z = 0
      · subst h3
        rw [mul_zero, mul_zero, mul_zero]
      · rw [← pw_lg hb hx h1, ← pw_lg hb hy h2, ← pw_lg hb hz h3, pw_mul hb, pw_mul hb, pw_mul hb, pw_mul hb, Nat.add_assoc]
/-- a row of words of so many bits -/
def Ws (b : Nat) (ws : List Nat) : Prop := ∀ w ∈ ws, w < span b
def evF (b t : Nat) (acc : Nat) (ws : List Nat) : Nat := ws.foldl (fun acc w => mul b acc t ^^^ w) acc
def evl (b t : Nat) (ws : List Nat) : Nat := evF b t 0 ws
def powT (b t : Nat) : Nat → Nat
  | 0 => 1
  | n + 1 => mul b (powT b t n) t
theorem powT_lt {b t : Nat} (hb : Wd b) : ∀ n, powT b t n < span b
  | 0 => span_pos hb
  | n + 1 => mul_lt hb (powT_lt hb n)
theorem evF_lt {b t : Nat} (hb : Wd b) : ∀ (ws : List Nat) (acc : Nat), acc < span b → Ws b ws → evF b t acc ws < span b
  | [], _, h, _ => h
  | w :: r, acc, h, hw => evF_lt hb r _ (xor_lt hb (mul_lt hb h) (hw w (List.mem_cons_self ..))) fun x hx => hw x (List.mem_cons_of_mem _ hx)
theorem evl_lt {b t : Nat} {ws : List Nat} (hb : Wd b) (h : Ws b ws) : evl b t ws < span b := evF_lt hb ws 0 (by have := span_pos hb; omega) h
theorem evF_xor {b t : Nat} (hb : Wd b) (ht : t < span b) : ∀ (ws : List Nat) (acc : Nat), acc < span b → Ws b ws → evF b t acc ws = mul b acc (powT b t ws.length) ^^^ evl b t ws
  | [], acc, h, _ => by
    show acc = mul b acc 1 ^^^ 0
    rw [mul_one hb h, Nat.xor_zero]
  | w :: r, acc, h, hw => by
    have hr : Ws b r := fun x hx => hw x (List.mem_cons_of_mem _ hx)
    have hw0 := hw w (List.mem_cons_self ..)
    have hz : (0 : Nat) < span b := by have := span_pos hb; omega
    show evF b t (mul b acc t ^^^ w) r = mul b acc (mul b (powT b t r.length) t) ^^^ evF b t (mul b 0 t ^^^ w) r
    rw [evF_xor hb ht r _ (xor_lt hb (mul_lt hb h) hw0) hr, evF_xor hb ht r _ (xor_lt hb (mul_lt hb hz) hw0) hr, zero_mul hb, Nat.zero_xor, mul_xor_l hb (mul_lt hb h) hw0,
      mul_assoc hb h ht (powT_lt hb _), mul_comm hb ht (powT_lt hb _), Nat.xor_assoc]
theorem evl_cons {b t w : Nat} {r : List Nat} (hb : Wd b) (ht : t < span b) (hw : w < span b) (hr : Ws b r) : evl b t (w :: r) = mul b w (powT b t r.length) ^^^ evl b t r := by
  show evF b t (mul b 0 t ^^^ w) r = _
  rw [zero_mul hb, Nat.zero_xor]
  exact evF_xor hb ht r w hw hr
theorem evl_snoc {b t w : Nat} {r : List Nat} : evl b t (r ++ [w]) = mul b (evl b t r) t ^^^ w := by
  show (r ++ [w]).foldl _ 0 = _
  rw [List.foldl_append]
  rfl
theorem evl_zeros {b t : Nat} (hb : Wd b) : ∀ n, evl b t (List.replicate n 0) = 0
  | 0 => rfl
  | n + 1 => by
    rw [List.replicate_succ', evl_snoc, evl_zeros hb n, zero_mul hb]
    rfl
theorem evl_pad {b t : Nat} (hb : Wd b) (n : Nat) (ws : List Nat) : evl b t (List.replicate n 0 ++ ws) = evl b t ws := by
  show (List.replicate n 0 ++ ws).foldl _ 0 = _
  rw [List.foldl_append]
  have h := evl_zeros (t := t) hb n
  unfold evl evF at h
  rw [h]
  rfl
/-- sums, word by word, by the places below n -/
def xsum (n : Nat) (f : Nat → Nat) : Nat := (List.range n).foldl (fun acc i => acc ^^^ f i) 0
theorem xsum_succ (n : Nat) (f : Nat → Nat) : xsum (n + 1) f = xsum n f ^^^ f n := by
  unfold xsum
  rw [List.range_succ, List.foldl_append]
  rfl
theorem xsum_congr {n : Nat} {f g : Nat → Nat} (h : ∀ i, i < n → f i = g i) : xsum n f = xsum n g := by
  induction n with
  | zero => rfl
  | succ n ih => rw [xsum_succ, xsum_succ, ih fun i hi => h i (by omega), h n (by omega)]
theorem xsum_lt {b n : Nat} {f : Nat → Nat} (hb : Wd b) (h : ∀ i, i < n → f i < span b) : xsum n f < span b := by
  induction n with
  | zero => have := span_pos hb; show 0 < span b; omega
  | succ n ih =>
    rw [xsum_succ]
    exact xor_lt hb (ih fun i hi => h i (by omega)) (h n (by omega))
/-- the i-th word times the (k - i)-th word of the other -/
def term (b : Nat) (f g : Nat → Nat) (k i : Nat) : Nat := if i ≤ k then mul b (f i) (g (k - i)) else 0
def gd (ws : List Nat) (i : Nat) : Nat := ws.getD i 0
theorem gd_lt {b : Nat} {ws : List Nat} (hb : Wd b) (h : Ws b ws) (i : Nat) : gd ws i < span b := by
  unfold gd
  by_cases hi : i < ws.length
  · rw [List.getD_eq_getElem?_getD, List.getElem?_eq_getElem hi]
    exact h _ (List.getElem_mem hi)
  · rw [List.getD_eq_getElem?_getD, List.getElem?_eq_none (by omega)]
    have := span_pos hb
    show 0 < span b
    omega
theorem gd_out {ws : List Nat} {i : Nat} (h : ws.length ≤ i) : gd ws i = 0 := by
  unfold gd
  rw [List.getD_eq_getElem?_getD, List.getElem?_eq_none h]
  rfl
theorem gd_in {ws : List Nat} {i : Nat} (h : i < ws.length) : ws[i]? = some (gd ws i) := by
  unfold gd
  rw [List.getD_eq_getElem?_getD, List.getElem?_eq_getElem h]
  rfl
theorem gd_list (ws : List Nat) : (List.range ws.length).map (gd ws) = ws := by
  refine List.ext_getElem? fun i => ?_
  by_cases h : i < ws.length
  · rw [gd_in h]
    simp [h]
  · rw [List.getElem?_eq_none (by simp; omega), List.getElem?_eq_none (by omega)]
def cf (b : Nat) (xs ys : List Nat) (k : Nat) : Nat := xsum xs.length (term b (gd xs) (gd ys) k)
/-- the product -/
def conv (b : Nat) (xs ys : List Nat) : List Nat := if xs = [] ∨ ys = [] then [] else (List.range (xs.length + ys.length - 1)).map (cf b xs ys)
theorem term_lt {b : Nat} {f g : Nat → Nat} {k i : Nat} (hb : Wd b) (h : f i < span b) : term b f g k i < span b := by
  unfold term
  split
  · exact mul_lt hb h
  · have := span_pos hb; omega
theorem cf_lt {b k : Nat} {xs ys : List Nat} (hb : Wd b) (hx : Ws b xs) : cf b xs ys k < span b := xsum_lt hb fun i _ => term_lt hb (gd_lt hb hx i)
theorem conv_ws {b : Nat} {xs ys : List Nat} (hb : Wd b) (hx : Ws b xs) : Ws b (conv b xs ys) := by
  intro w hw
  unfold conv at hw
  split at hw
  · cases hw
  · obtain ⟨k, _, rfl⟩ := List.mem_map.mp hw
    exact cf_lt hb hx
/-- sums of two rows of one length -/
def zx (xs ys : List Nat) : List Nat := (List.range xs.length).map fun k => gd xs k ^^^ gd ys k
theorem evl_fn {b t : Nat} (hb : Wd b) (ht : t < span b) (f g : Nat → Nat) (hf : ∀ i, f i < span b) (hg : ∀ i, g i < span b) : ∀ n, evl b t ((List.range n).map fun k => f k ^^^ g k) = evl b t ((List.range n).map f) ^^^ evl b t ((List.range n).map g)
  | 0 => by
    show (0 : Nat) = 0 ^^^ 0
    rfl
  | n + 1 => by
    have w1 : Ws b ((List.range n).map f) := fun w hw => by obtain ⟨k, _, rfl⟩ := List.mem_map.mp hw; exact hf k
    have w2 : Ws b ((List.range n).map g) := fun w hw => by obtain ⟨k, _, rfl⟩ := List.mem_map.mp hw; exact hg k
    rw [List.range_succ, List.map_append, List.map_append, List.map_append]
    show evl b t (_ ++ [f n ^^^ g n]) = evl b t (_ ++ [_]) ^^^ evl b t (_ ++ [_])
    rw [evl_snoc, evl_snoc, evl_snoc, evl_fn hb ht f g hf hg n, mul_xor_l hb (evl_lt hb w1) (evl_lt hb w2)]
    generalize mul b (evl b t (List.map f (List.range n))) t = u
    generalize mul b (evl b t (List.map g (List.range n))) t = v
    generalize f n = c
    generalize g n = d
    ac_rfl
theorem evl_scale {b t x : Nat} (hb : Wd b) (ht : t < span b) (hx : x < span b) (g : Nat → Nat) (hg : ∀ i, g i < span b) : ∀ n, evl b t ((List.range n).map fun k => mul b x (g k)) = mul b x (evl b t ((List.range n).map g))
  | 0 => mul_zero.symm
  | n + 1 => by
    have w2 : Ws b ((List.range n).map g) := fun w hw => by obtain ⟨k, _, rfl⟩ := List.mem_map.mp hw; exact hg k
    rw [List.range_succ, List.map_append, List.map_append]
    show evl b t (_ ++ [_]) = mul b x (evl b t (_ ++ [_]))
    rw [evl_snoc, evl_snoc, evl_scale hb ht hx g hg n, mul_xor_r hb (mul_lt hb (evl_lt hb w2)) (hg n) hx, mul_assoc hb hx (evl_lt hb w2) ht]
/-- the value of a product -/
theorem evl_sum {b t : Nat} (hb : Wd b) (ht : t < span b) (f g : Nat → Nat) (hf : ∀ i, f i < span b) (hg : ∀ i, g i < span b) (m : Nat) (hm : 0 < m) (hout : ∀ i, m ≤ i → g i = 0) :
    ∀ n, evl b t ((List.range (n + m - 1)).map fun k => xsum n (term b f g k)) = mul b (evl b t ((List.range n).map f)) (evl b t ((List.range m).map g))
  | 0 => by
    show evl b t ((List.range (0 + m - 1)).map fun k => 0) = mul b 0 _
    rw [zero_mul hb]
    have e : (List.range (0 + m - 1)).map (fun _ => 0) = List.replicate (0 + m - 1) 0 := by
      rw [List.map_const', List.length_range]
    rw [e, evl_zeros hb]
  | n + 1 => by
    have ih := evl_sum hb ht f g hf hg m hm hout n
    have w1 : Ws b ((List.range n).map f) := fun w hw => by obtain ⟨k, _, rfl⟩ := List.mem_map.mp hw; exact hf k
    have w2 : Ws b ((List.range m).map g) := fun w hw => by obtain ⟨k, _, rfl⟩ := List.mem_map.mp hw; exact hg k
    have e1 : (List.range (n + 1 + m - 1)).map (fun k => xsum (n + 1) (term b f g k)) = (List.range (n + 1 + m - 1)).map fun k => xsum n (term b f g k) ^^^ term b f g k n := by
      refine List.map_congr_left fun k _ => xsum_succ _ _
    have t1 : ∀ k, xsum n (term b f g k) < span b := fun k => xsum_lt hb fun i _ => term_lt hb (hf i)
    rw [e1, evl_fn hb ht _ _ t1 (fun k => term_lt hb (hf n))]
    have e2 : evl b t ((List.range (n + 1 + m - 1)).map fun k => xsum n (term b f g k)) = mul b (mul b (evl b t ((List.range n).map f)) (evl b t ((List.range m).map g))) t := by
      rw [show n + 1 + m - 1 = (n + m - 1) + 1 by omega, List.range_succ, List.map_append]
      show evl b t (_ ++ [_]) = _
      rw [evl_snoc, ih]
      show _ ^^^ xsum n (term b f g (n + m - 1)) = _
      have z : xsum n (term b f g (n + m - 1)) = 0 := by
        have : xsum n (term b f g (n + m - 1)) = xsum n fun _ => 0 := by
          refine xsum_congr fun i hi => ?_
          unfold term
          rw [if_pos (by omega), hout _ (by omega), mul_zero]
        rw [this]
        clear this ih e1 w1 t1
        induction n with
        | zero => rfl
        | succ n ih => rw [xsum_succ, ih]; rfl
      rw [z, Nat.xor_zero]
    have e3 : evl b t ((List.range (n + 1 + m - 1)).map fun k => term b f g k n) = mul b (f n) (evl b t ((List.range m).map g)) := by
      rw [show n + 1 + m - 1 = n + m by omega, List.range_add, List.map_append]
      have z : (List.range n).map (fun k => term b f g k n) = List.replicate n 0 := by
        refine List.ext_getElem? fun i => ?_
        by_cases h : i < n
        · simp [h, term]
          omega
        · rw [List.getElem?_eq_none (by simp; omega), List.getElem?_eq_none (by simp; omega)]
      rw [z, evl_pad hb, List.map_map]
      have z2 : (List.range m).map ((fun k => term b f g k n) ∘ (n + ·)) = (List.range m).map fun k => mul b (f n) (g k) := by
        refine List.map_congr_left fun k _ => ?_
        show term b f g (n + k) n = _
        unfold term
        rw [if_pos (by omega), show n + k - n = k by omega]
      rw [z2, evl_scale hb ht (hf n) g hg]
    rw [e2, e3, List.range_succ, List.map_append]
    show _ = mul b (evl b t (_ ++ [f n])) _
    rw [evl_snoc, mul_xor_l hb (mul_lt hb (evl_lt hb w1)) (hf n)]
    congr 1
    rw [mul_assoc hb (evl_lt hb w1) (evl_lt hb w2) ht, mul_comm hb (evl_lt hb w2) ht, ← mul_assoc hb (evl_lt hb w1) ht (evl_lt hb w2)]
theorem evl_conv {b t : Nat} {xs ys : List Nat} (hb : Wd b) (ht : t < span b) (hx : Ws b xs) (hy : Ws b ys) (h0 : xs ≠ []) (h1 : ys ≠ []) : evl b t (conv b xs ys) = mul b (evl b t xs) (evl b t ys) := by
  have hl : 0 < ys.length := by cases ys with | nil => exact absurd rfl h1 | cons _ _ => simp
  unfold conv
  rw [if_neg (by simp [h0, h1])]
  have h := evl_sum hb ht (gd xs) (gd ys) (gd_lt hb hx) (gd_lt hb hy) ys.length hl (fun i hi => gd_out hi) xs.length
  rw [gd_list, gd_list] at h
  exact h
/-! ### the quotient and the remainder -/
def divStep (b : Nat) (c : Nat → Nat) (m : Nat) (r : Nat → Nat) (s : Nat) : Nat → Nat := fun k => if k = s then quo b (r s) (c 0) else if s < k ∧ k < s + m then r k ^^^ mul b (quo b (r s) (c 0)) (c (k - s)) else r k
def dvN (b : Nat) (c : Nat → Nat) (m : Nat) (w : Nat → Nat) : Nat → Nat → Nat
  | 0 => w
  | s + 1 => divStep b c m (dvN b c m w s) s
theorem quo_lt' {b x y : Nat} (hb : Wd b) (hx : x < span b) : quo b x y < span b := mul_lt hb hx
theorem dvN_lt {b : Nat} {c w : Nat → Nat} {m : Nat} (hb : Wd b) (hw : ∀ k, w k < span b) : ∀ s k, dvN b c m w s k < span b
  | 0, k => hw k
  | s + 1, k => by
    show divStep b c m (dvN b c m w s) s k < span b
    unfold divStep
    have h := dvN_lt (c := c) (m := m) hb hw s
    split
    · exact quo_lt' hb (h s)
    · split
      · exact xor_lt hb (h k) (mul_lt hb (quo_lt' hb (h s)))
      · exact h k
theorem dvN_keep {b : Nat} {c w : Nat → Nat} {m : Nat} {i : Nat} : ∀ s j, i < s → dvN b c m w (s + j) i = dvN b c m w s i
  | s, 0, _ => rfl
  | s, j + 1, h => by
    show divStep b c m (dvN b c m w (s + j)) (s + j) i = _
    unfold divStep
    rw [if_neg (by omega), if_neg (by omega)]
    exact dvN_keep s j h
theorem div_spec {b : Nat} {c w : Nat → Nat} {m : Nat} (hb : Wd b) (hw : ∀ k, w k < span b) (hc : ∀ k, c k < span b) (h0 : c 0 ≠ 0) (hout : ∀ k, m ≤ k → c k = 0) :
    ∀ s k, w k = xsum s (term b (dvN b c m w s) c k) ^^^ (if k < s then 0 else dvN b c m w s k)
  | 0, k => by
    show w k = 0 ^^^ w k
    rw [Nat.zero_xor]
  | s + 1, k => by
    have ih := div_spec hb hw hc h0 hout s k
    have e1 : xsum s (term b (dvN b c m w (s + 1)) c k) = xsum s (term b (dvN b c m w s) c k) := by
      refine xsum_congr fun i hi => ?_
      unfold term
      rw [dvN_keep s 1 hi]
    rw [xsum_succ, e1]
    have hr := dvN_lt (c := c) (m := m) hb hw s
    have eq : dvN b c m w (s + 1) s = quo b (dvN b c m w s s) (c 0) := by
      show divStep b c m (dvN b c m w s) s s = _
      unfold divStep
      rw [if_pos rfl]
    by_cases h1 : k < s
    · rw [if_pos h1, Nat.xor_zero] at ih
      rw [if_pos (by omega), Nat.xor_zero, ← ih]
      unfold term
      rw [if_neg (by omega), Nat.xor_zero]
    · rw [if_neg h1] at ih
      by_cases h2 : k = s
      · subst h2
        rw [if_pos (by omega), Nat.xor_zero, ih]
        unfold term
        rw [if_pos (Nat.le_refl _), eq, Nat.sub_self, mul_quo hb (hr _) (hc 0) h0]
      · rw [if_neg (by omega), ih]
        have et : term b (dvN b c m w (s + 1)) c k s = mul b (quo b (dvN b c m w s s) (c 0)) (c (k - s)) := by
          unfold term
          rw [if_pos (by omega), eq]
        have ed : dvN b c m w (s + 1) k = dvN b c m w s k ^^^ mul b (quo b (dvN b c m w s s) (c 0)) (c (k - s)) := by
          show divStep b c m (dvN b c m w s) s k = _
          unfold divStep
          rw [if_neg h2]
          by_cases h3 : k < s + m
          · rw [if_pos ⟨by omega, h3⟩]
          · rw [if_neg (by omega), hout (k - s) (by omega), mul_zero, Nat.xor_zero]
        rw [et, ed]
        generalize xsum s (term b (dvN b c m w s) c k) = u
        generalize dvN b c m w s k = v
        generalize mul b (quo b (dvN b c m w s s) (c 0)) (c (k - s)) = z
        rw [Nat.xor_assoc, ← Nat.xor_assoc z v z, Nat.xor_comm z v, Nat.xor_assoc v z z, Nat.xor_self, Nat.xor_zero]
/-- quotient and remainder, as lists -/
def steps (ws os : List Nat) : Nat := ws.length + 1 - os.length
def quoL (b : Nat) (ws os : List Nat) : List Nat := (List.range (steps ws os)).map (dvN b (gd os) os.length (gd ws) (steps ws os))
def remL (b : Nat) (ws os : List Nat) : List Nat := (List.range (ws.length - steps ws os)).map fun j => dvN b (gd os) os.length (gd ws) (steps ws os) (steps ws os + j)
/-- what lies behind the law's sum: other * quotient and the remainder, padded -/
def pad (n : Nat) (ws : List Nat) : List Nat := List.replicate n 0 ++ ws
theorem gd_pad {n k : Nat} {ws : List Nat} : gd (pad n ws) k = if k < n then 0 else gd ws (k - n) := by
  unfold gd pad
  rw [List.getD_eq_getElem?_getD, List.getD_eq_getElem?_getD, List.getElem?_append]
  by_cases h : k < n
  · simp [h]
  · simp [h]
theorem gd_map {n k : Nat} {f : Nat → Nat} : gd ((List.range n).map f) k = if k < n then f k else 0 := by
  unfold gd
  rw [List.getD_eq_getElem?_getD]
  by_cases h : k < n
  · simp [h]
  · simp [h]
theorem div_lists {b : Nat} {ws os : List Nat} (hb : Wd b) (hw : Ws b ws) (ho : Ws b os) (h0 : gd os 0 ≠ 0) (hl : os.length ≤ ws.length) (hp : 0 < os.length) :
    (List.range ws.length).map (fun k => gd (conv b (quoL b ws os) os) k ^^^ gd (pad (steps ws os) (remL b ws os)) k) = ws := by
  have hs : 0 < steps ws os := by unfold steps; omega
  have hs2 : steps ws os + os.length - 1 = ws.length := by unfold steps; omega
  have hq : quoL b ws os ≠ [] := by
    intro z
    have := congrArg List.length z
    unfold quoL at this
    simp at this
    omega
  have hon : os ≠ [] := by intro z; rw [z] at hp; simp at hp
  have hql : (quoL b ws os).length = steps ws os := by unfold quoL; simp
  refine Eq.trans (List.map_congr_left fun k hk => ?_) (gd_list ws)
  have hk' : k < ws.length := List.mem_range.mp hk
  have spec := div_spec (c := gd os) (w := gd ws) (m := os.length) hb (gd_lt hb hw) (gd_lt hb ho) h0 (fun i hi => gd_out hi) (steps ws os) k
  refine Eq.trans ?_ spec.symm
  have e1 : gd (conv b (quoL b ws os) os) k = xsum (steps ws os) (term b (dvN b (gd os) os.length (gd ws) (steps ws os)) (gd os) k) := by
    unfold conv
    rw [if_neg (by simp [hq, hon]), gd_map, hql, if_pos (by omega)]
    unfold cf
    rw [hql]
    refine xsum_congr fun i hi => ?_
    unfold term
    have : gd (quoL b ws os) i = dvN b (gd os) os.length (gd ws) (steps ws os) i := by
      unfold quoL
      rw [gd_map, if_pos hi]
    rw [this]
  have e2 : gd (pad (steps ws os) (remL b ws os)) k = if k < steps ws os then 0 else dvN b (gd os) os.length (gd ws) (steps ws os) k := by
    rw [gd_pad]
    by_cases h : k < steps ws os
    · rw [if_pos h, if_pos h]
    · rw [if_neg h, if_neg h]
      unfold remL
      rw [gd_map, if_pos (by omega), show steps ws os + (k - steps ws os) = k by omega]
  rw [e1, e2]
end My

set_option Elab.async false
set_option linter.all false
set_option maxRecDepth 100000
set_option maxHeartbeats 4000000
/-! ### f(k = v, ..) without positional arguments -/
namespace My
open PySem PySem.Spec PyProof.Rows L2
def tCallZ (m : Nat) (sp : Sp) (gV : List V → List V) (E : XK) (tk : TA) : TE := fun σ H Q => tk σ H fun zs H2 => zs.length = m ∧ sp (gV zs) H2 Q E
section
variable {X : Cx} {CX : CXT} {k : Nat} {f : Addr} {fd : FuncData} {ps ks : List Str} {sp : Sp} {E : XK} {x : Str} {p pos : Pos} {kws : List Keyword} {tk : TA} {g : List Value → List Value} {gV : List V → List V}
theorem pe_callZ (F : FnOk X.prog X.w X.K X.mg X.base CX k f fd ps sp) (hr : Room k X.A) (hg : Gl X x) (hm : X.mg x = some (.ref f)) (hk : PySem.W.keepIn X.K (.ref f) = true) (hb : KBn X.K fd ps 0 ks (fun _ ws => g ws) (fun _ zs => gV zs)) (hx : Passes CX X E)
    (hkw : PK X kws tk) (hall : (backToKw pos (keywordEach kws X.env)).all (·.1.isSome) = true := by rfl) (hks : (backToKw pos (keywordEach kws X.env)).filterMap (·.1) = ks := by rfl)
    (hdb : (x == ("__debug__" : Str)) = false := by decide)
    (hpl : ((backTo pos (starEach [] X.env)).any (·.1) || (backToKw pos (keywordEach kws X.env)).any (·.1.isNone)) = false := by rfl) :
    PE X (.Call (.Name x p) [] kws pos) (tCallZ ks.length sp gV E tk) := by
  refine ⟨fun pins s σ H Q I h => ?_⟩
  refine wpAny_Call_Name_kw (ld_glob I hg hm ?_ hdb)
  refine PySem.W.callWith_KW0 (h₀ := X.base) I.ok.mod.kin hk hall (thn (hkw.run pos pins s σ H _ I h) fun ws s2 ⟨zs, H2, I2, rz, l2, q2⟩ => ⟨I2.kIn, ?_⟩) hpl
  rw [hks]
  exact run_fnN (us := []) (vs := []) F hr hb hx I2 .nil rz rfl l2 q2
end
theorem kb0 {K : PySem.W.Frag} {x qual : Str} {st : Stmt} {f : Addr} {fd : FuncData} {ps ks : List Str} (F : Fun K x qual st f fd) (g : {α : Type} → List α → List α)
    (hrel : ∀ {zs : List V} {ws : List Value}, Vals zs ws → Vals (g zs) (g ws))
    (h : ∀ (kV doc pm : Value) (an : Option Addr) (cdv ct : Value) (ws : List Value), ws.length = ks.length → bindArgs (PySem.W.fnOf x qual (defArgs st) (defBody st) (defScope st) .none kV doc pm an cdv ct) ⟨[], ks.zip ws⟩ = pure (ps.zip (g ws))) :
    KBn K fd ps 0 ks (fun _ ws => g ws) (fun _ zs => g zs) := by
  obtain ⟨oc, od, kV, doc, pm, an, cdv, ct, osl, rfl, lk, hcd⟩ := F.ex
  refine ⟨fun s us ws X l1 l2 => ?_, fun _ r2 => hrel r2⟩
  have e : us = [] := List.length_eq_zero_iff.mp l1
  subst e
  exact .of_eq (h kV doc pm an cdv ct ws l2)
/-- three values the other way round -/
def rev3 {α : Type} : List α → List α
  | [a, b, c] => [c, b, a]
  | l => l
theorem rev3_rel {zs : List V} {ws : List Value} (r : Vals zs ws) : Vals (rev3 zs) (rev3 ws) := by
  cases r with
  | nil => exact .nil
  | cons r1 r =>
    cases r with
    | nil => exact .cons r1 .nil
    | cons r2 r =>
      cases r with
      | nil => exact .cons r1 (.cons r2 .nil)
      | cons r3 r =>
        cases r with
        | nil => exact .cons r3 (.cons r2 (.cons r1 .nil))
        | cons r4 r => exact .cons r1 (.cons r2 (.cons r3 (.cons r4 r)))
end My

set_option Elab.async false
set_option linter.all false
set_option maxRecDepth 100000
set_option maxHeartbeats 4000000
/-! ### lists of words, compared -/
namespace My
open PySem PySem.Spec PyProof.Rows L2
theorem same_upd {H : Hp} {p : Addr} {o : HO} (h : H p = none) : Same H (upd H p o) := fun b x e => by
  rw [upd_ne (ne_of_none e h)]
  exact e
/-- a word as a value -/
def vN (n : Nat) : V := .int (n : Int)
def dI (n : Nat) : PyData := .int (n : Int)
def dN (ws : List Nat) : PyData := .list (ws.map dI)
theorem lay_all : ∀ ws : List Nat, PyData.canLayAll0 (ws.map dI) = true
  | [] => rfl
  | w :: r => by
    show (PyData.canLay0 (dI w) && PyData.canLayAll0 (r.map dI)) = true
    rw [lay_all r]
    rfl
theorem depth_all : ∀ ws : List Nat, PyData.depthAll (ws.map dI) = 0
  | [] => rfl
  | w :: r => by
    show max (PyData.depth (dI w)) (PyData.depthAll (r.map dI)) = 0
    rw [depth_all r]
    rfl
theorem dN_lay (ws : List Nat) : (dN ws).canLay0 = true := lay_all ws
theorem dN_depth (ws : List Nat) : (dN ws).depth = 1 := by
  show PyData.depthAll (ws.map dI) + 1 = 1
  rw [depth_all]
theorem dN_shaped (ws : List Nat) : SeqAt.shaped (dN ws) = true := by
  unfold SeqAt.shaped
  rw [dN_lay, dN_depth]
  rfl
theorem eqv_all : ∀ xs ys : List Nat, PyData.eqvAll (xs.map dI) (ys.map dI) = decide (xs = ys)
  | [], [] => rfl
  | [], _ :: _ => by simp [PyData.eqvAll]
  | _ :: _, [] => by simp [PyData.eqvAll]
  | x :: r, y :: t => by
    show (PyData.eqv (dI x) (dI y) && PyData.eqvAll (r.map dI) (t.map dI)) = decide (x :: r = y :: t)
    rw [eqv_all r t]
    have e : PyData.eqv (dI x) (dI y) = decide (x = y) := by
      show ((x : Int) == (y : Int)) = decide (x = y)
      by_cases h : x = y
      · subst h; simp
      · simp [h]
        omega
    rw [e]
    by_cases h : x = y
    · by_cases h2 : r = t
      · simp [h, h2]
      · simp [h, h2]
    · simp [h]
theorem dN_eqv (xs ys : List Nat) : PyData.eqv (dN xs) (dN ys) = decide (xs = ys) := eqv_all xs ys
theorem dp_all {K : PySem.W.Frag} {H : Hp} : ∀ ws : List Nat, DpAll K H (ws.map vN) (ws.map dI)
  | [] => .nil
  | w :: r => .cons (.int _) (dp_all r)
theorem dN_dp {K : PySem.W.Frag} {H : Hp} {a : Addr} {ws : List Nat} (h : SqL K H a (ws.map vN)) : Dp K H (.ref a) (dN ws) := .lst h (dp_all ws)
end My

set_option Elab.async false
set_option linter.all false
set_option maxRecDepth 100000
set_option maxHeartbeats 4000000
/-! ### own exceptions with their own __init__, as plain values -/
namespace My
open PySem PySem.Spec PyProof.Rows L2
/-- C(e, ..): what __init__ makes of a new object is the value -/
def tMkV (C : Addr) (sp : Sp) (ta : TA) : TE := fun σ H Q => ta σ H fun vs H1 => vs.length ≤ 1000 ∧ ∀ a, H1 a = none → sp (.ref a :: vs) (upd H1 a (exo a C none)) (fun v H2 => v = .non ∧ Q (.ref a) H2) (fun _ _ _ => False)
section
variable {X : Cx}
theorem mkV_end {pins : List (Addr × Obj)} {σ : L2.St} {H1 H2 : Hp} {hp hq h2 : Heap} {g1 g2 : Array GenState} {d1 d2 : Drawn} {t1 t2 : Nat} {os1 os2 : OsState} {a C : Addr}
    (I1 : Inv X pins σ H1 ⟨hp, g1, d1, t1, os1⟩) (ha : hp.objs.size ≤ a) (kp : ∀ b o, hp.get? b = some o → hq.get? b = some o)
    (un : Un (frs X.stack) [] (upd H1 a (exo a C none)) H2 hq h2) (ok : HOk X.prog X.w H2 h2) (ho : os2 = os1) (hb : AllBare g2) :
    Inv X pins σ H2 ⟨h2, g2, d2, t2, os2⟩ := by
  have hn : H1 a = none := I1.hok.fresh ha
  have nha : ∀ {b : Addr} {o : Obj}, hp.get? b = some o → b ≠ a :=
    fun z => Nat.ne_of_lt (Nat.lt_of_lt_of_le (Heap.lt_size z) ha)
  have up : ∀ {b : Addr}, b ≠ a → H1 b = none → upd H1 a (exo a C none) b = none := fun hne n => by
    rw [upd_ne hne]
    exact n
  refine I1.call' (ch := []) ho ?_ ok hb (fun b z => absurd z (by simp))
  constructor
  · intro b o z n hf hx
    exact un.keep b o (kp b o z) (up (nha z) n) hf hx
  · intro b o z n hf hx
    exact un.slot b o (kp b o z) (up (nha z) n) hf hx
  · intro b o z n hx
    exact un.free b o (kp b o z) (up (nha z) n) hx
  · intro b o z hx
    exact un.there b o (kp b o z) hx
  · intro b xs z
    exact un.tups b xs (by rw [upd_ne (ne_of_none z hn)]; exact z)
  · intro b o v z
    exact un.frzs b o v (by rw [upd_ne (ne_of_none z hn)]; exact z)
  · intro b ps z
    exact un.tbls b ps (by rw [upd_ne (ne_of_none z hn)]; exact z)
theorem pe_excV {CX : CXT} {x : Str} {C fI : Addr} {k : Nat} {fd : FuncData} {ps : List Str} {sp : Sp} {e : Expr} {es : List Expr} {ta : TA} {p pos : Pos}
    (T : OexC X.K C) (iC : PySem.W.findIn X.K (.ref C) "__init__" = some (some (.ref fI))) (tI : PySem.W.typeIn X.K (.ref fI) = some (.type "function"))
    (F1 : FnOk X.prog X.w X.K X.mg X.base CX k fI fd ps sp) (hr : Room (k + 1) X.A) (hb : Binds X.K fd ps []) (hx : Passes CX X (fun _ _ _ => False)) (hg : Gl X x) (hm : X.mg x = some (.ref C)) (ha : PA X (e :: es) ta)
    (hdb : (x == ("__debug__" : Str)) = false := by decide) (he : starEach (e :: es) X.env = (false, eval e X.env) :: starEach es X.env := by rfl) (hpl : (backTo pos (starEach es X.env)).any (·.1) = false := by rfl) :
    PE X (.Call (.Name x p) (e :: es) [] pos) (tMkV C sp ta) := by
  refine ⟨fun pins s σ H Q I h => ?_⟩
  obtain ⟨n1, n2, n3, n4, bm, n5, n6, n7, n8, n9, m0, m1, m2, m3, m5, hC, hbm⟩ := T.cls
  refine wpAny_Call_Name_kw (ld_glob I hg hm ?_ hdb)
  refine PySem.W.callWith_K (h₀ := X.base) I.ok.mod.kin T.kC (thn (ha.run pos pins s σ H _ I h) fun us s1 hs1 => ?_) he hpl
  obtain ⟨vs, H1, I1, r1, hz, q1⟩ := hs1
  refine ⟨I1.kIn, ?_⟩
  show wpAny _ _ (call (.ref C) us) _ _ _
  obtain ⟨hp, g, dr, tk, os⟩ := s1
  have hn : H1 (hp.objs.size + 1) = none := I1.hok.fresh (Nat.le_succ _)
  have hq := q1 (hp.objs.size + 1) hn
  have kk : ∀ b o, hp.get? b = some o → ((hp.push (PySem.W.kdv_tup us)).push (PySem.HandSPX.excO C hp.objs.size)).get? b = some o :=
    fun b o z => Heap.get?_push_of_some _ (Heap.get?_push_of_some _ z)
  have hget : ((hp.push (PySem.W.kdv_tup us)).push (PySem.HandSPX.excO C hp.objs.size)).get? (hp.objs.size + 1) = some (PySem.HandSPX.excO C hp.objs.size) := by
    heap_get
  have I2 := I1.laid (t' := tk) (a := hp.objs.size + 1) (o := exo (hp.objs.size + 1) C none) (h' := (hp.push (PySem.W.kdv_tup us)).push (PySem.HandSPX.excO C hp.objs.size)) kk (Nat.le_succ _) (exo_ok hget)
  have r2 : Vals (V.ref (hp.objs.size + 1) :: vs) (Value.ref (hp.objs.size + 1) :: us) := .cons rfl r1
  have hl : (Value.ref (hp.objs.size + 1) :: us).length = ps.length := (r2.length).symm.trans (F1.len _ _ _ _ hq)
  have hus : us.length ≤ sizeLine := by
    have := r1.length
    rw [sizeLine_eq]
    omega
  have B := hb ⟨(hp.push (PySem.W.kdv_tup us)).push (PySem.HandSPX.excO C hp.objs.size), g, dr, tk, os⟩ (Value.ref (hp.objs.size + 1) :: us) I2.kIn (by rw [List.append_nil]; exact hl)
  rw [List.append_nil] at B
  have R := F1.run _ X.stack _ _ ⟨Value.ref (hp.objs.size + 1) :: us, []⟩ (Value.ref (hp.objs.size + 1) :: us) _ _ (fun _ _ _ => False) (hr.make C us []) (I2.env0.make C us []) B r2 hq
  refine wpAny_call (PySem.HandSPX.call_own F.excBase_ValueError (fun Y => PySem.HandSPX.refsVE_contains Y bm hbm) (I1.kIn _ _ hC) (PySem.W.looks_findIn I1.kIn iC)
    (fun self => PySem.W.bind_fn I1.kIn self tI) hus (codeAny_mono R fun r s' hq' => ?_))
  cases r with
  | error er => exact hx pins σ _ _ er s' I2 hq'
  | ok fl =>
    cases fl with
    | ret u =>
      obtain ⟨v, H2, os2, bare2, un2, hok2, rv, ev, q2⟩ := hq'
      subst ev
      obtain ⟨h2, g2, d2, t2, os'⟩ := s'
      exact ⟨rv, .ref (hp.objs.size + 1), H2, mkV_end I1 (Nat.le_succ _) kk un2 hok2 os2 bare2, rfl, q2⟩
    | next => exact False.elim hq'
    | brk => exact False.elim hq'
    | cont => exact False.elim hq'
/-- e.f of such a value -/
def tFldV (K : PySem.W.Frag) (f : Str) (te : TE) : TE := fun σ H Q => te σ H fun x H1 => ∃ (a C d : Addr) (fs : List (Str × V)) (v : V), x = .ref a ∧ XfC K C ∧ PySem.W.findIn K (.ref C) f = some none ∧ H1 a = some (exo a C (some d)) ∧ H1 d = some (exd d fs) ∧ fs.lookup f = some v ∧ Q v H1
theorem inst_exo {pins : List (Addr × Obj)} {σ : L2.St} {H : Hp} {s : Shared} {a C d : Addr} {fs : List (Str × V)} (I : Inv X pins σ H s) (ea : H a = some (exo a C (some d))) (ed : H d = some (exd d fs)) :
    ∃ (oe od : Obj), PySem.W.InstAt s.heap a oe C (some od) ∧ ∀ (n : Str) (v : V), fs.lookup n = some v → ∃ u : Value, PySem.W.lookIn n od = some (some u) ∧ L2.RelV v u := by
  obtain ⟨t1, ha⟩ := exo_at I.hok ea
  obtain ⟨mA, hns, hr⟩ := exd_at I.hok ed
  obtain ⟨od, ho, hl⟩ := lookIn_ns hns
  refine ⟨_, od, ⟨ha, rfl, rfl, ho⟩, fun n v l => ?_⟩
  obtain ⟨u, hu, ru⟩ := RelO.some_of (v := v) (o := mA n) (by rw [← l]; exact hr n)
  exact ⟨u, by rw [hl, hu], ru⟩
theorem pe_fldV {e : Expr} {te : TE} {pos : Pos} {n : Str} (he : PE X e te) (hb : attributeBase e n X.env (eval e X.env) = eval e X.env := by rfl) : PE X (.Attribute e n pos) (tFldV X.K n te) := by
  refine ⟨fun pins s σ H Q I h => ?_⟩
  refine attr_of hb (thn (he.run pins s σ H _ I h) fun u s1 hh => ?_)
  obtain ⟨x, H1, I1, rx, a, C, d, fs, v, ex, T, hno, ea, ed, l, q⟩ := hh
  subst ex
  obtain rfl : u = Value.ref a := rx
  obtain ⟨oe, od, J, hl⟩ := inst_exo I1 ea ed
  obtain ⟨u, hu, ru⟩ := hl n v l
  have hf := PySem.W.findObj_own T.hdC hno rfl hu
  exact HandSPX.exc_get I1.kIn J T.ga T.gg T.exC hf (handed_of ru) ⟨v, H1, I1.tok _, ru, q⟩
/-- isinstance(e, c) of such a value -/
def rIsV (K : PySem.W.Frag) : List V → Hp → VK → Prop := fun xs H Q => ∃ (a C d : Addr) (fs : List (Str × V)) (c : V) (u : Value) (b : Bool), xs = [.ref a, c] ∧ ClsV c u ∧ ExcC K C ∧ H a = some (exo a C (some d)) ∧ H d = some (exd d fs) ∧ PySem.W.kitOne K (.ref C) u = some b ∧ Q (.bl b) H
theorem call_isV : CallR X (.builtin "isinstance") (rIsV X.K) := by
  intro pins s σ H xs us Q I r h
  obtain ⟨a, C, d, fs, c, u, b, rfl, hc, T, ea, ed, e, q⟩ := h
  obtain ⟨u1, u2, rfl, r1, r2⟩ := vals2 r
  have e2 := hc.eq r2
  subst e2
  cases (show u1 = Value.ref a from r1)
  obtain ⟨oe, od, J, _⟩ := inst_exo I ea ed
  have hcl : (PySem.W.clsIn X.K C).isSome = true := by
    have z := T.hd
    unfold PySem.W.hasDictIn at z
    cases h : PySem.W.clsIn X.K C with
    | some _ => rfl
    | none =>
      rw [h] at z
      cases z
  exact PySem.W.kia_one (PySem.W.kitx_exc hcl T.hg T.hk T.hs T.ha T.hn T.ht T.hm) I.kIn J e (fun z => nomatch z) fun tk => ⟨.bl b, H, I.tok tk, rfl, q⟩
end
end My

set_option Elab.async false
set_option linter.all false
set_option maxRecDepth 100000
set_option maxHeartbeats 4000000
/-! ### own exceptions made by keywords alone -/
namespace PySem
namespace ExkMy
open PySem.W PySem.Calls PyProof.Rows PySem.HandSPX
open Sem (wp)
section
variable {prog : Program} {w : World} {A : Around} {E : Value → Shared → Prop} {R : Result → Shared → Prop} {h : Heap} {g : Array GenState} {d : Drawn} {t : Nat} {os : OsState}
variable {nm q : Str} {C N : Addr} {bs bm bmB : List Value} {hdct : Bool} {sn : List Str} {sub : List Value} {ab : Bool} {col : Option Bool} {dd : Option Addr} {k0 k1 k2 k3 k5 : Option Value} {B newId initId : String}
variable {kw : List (Str × Value)}
theorem ck_new (F : ExcBaseFacts B newId initId bmB)
    (hT : ∀ X : String, bm.contains (.type X) = bmB.contains (.type X)) {M : Model} {Q : Unit → Shared → Prop}
    (hC : h.get? C = some (excClassObj nm q C N bs bm hdct sn sub ab col dd k0 k1 k2 k3 k5 newId))
    (hq : Q () ⟨h, g, d, t, os⟩) :
    wpAny M A (checkBuiltinCall newId ⟨[.ref C], kw⟩) Q E ⟨h, g, d, t, os⟩ := by
  have hc : (Value.ref C :: bm).contains (.type B) = true := by
    rw [List.contains_cons, hT, F.hasB, Bool.or_true]
  have hs := F.noStar
  simp only [checkBuiltinCall, F.newKind, F.newSplit, F.newRow]
  repeat (first
    | refine wpAny_loadPart_at hC ?_
    | (refine wpAny_isSubtype_exc hC ?_
       rw [hc])
    | refine wpAny_staticBase_exc hC ?_
    | refine wpAny_madeBy_exc hC ?_
    | simp only [bne_self_eq_false, Bool.false_eq_true, if_false]
    | wp_step)
  exact hq
theorem mk_new (F : ExcBaseFacts B newId initId bmB)
    (hT : ∀ X : String, bm.contains (.type X) = bmB.contains (.type X))
    (hC : h.get? C = some (excClassObj nm q C N bs bm hdct sn sub ab col dd k0 k1 k2 k3 k5 newId))
    (hq : R (.ok (.ret (.ref (h.objs.size + 1))))
      ⟨(h.push (W.kdv_tup [])).push (excO C h.objs.size), g, d, t, os⟩) :
    codeAny (model prog w) A (.builtin newId ⟨[.ref C], kw⟩) R ⟨h, g, d, t, os⟩ := by
  have he := F.ends
  have b1 : (Value.ref C :: bm).contains (.type B) = true := by
    rw [List.contains_cons, hT, F.hasB, Bool.or_true]
  have b2 : (Value.ref C :: bm).contains (.type "AttributeError") = false := by
    rw [List.contains_cons, hT, F.noAttr]
    rfl
  have b3 : (Value.ref C :: bm).contains (.type "NameError") = false := by
    rw [List.contains_cons, hT, F.noName]
    rfl
  refine codeAny_builtinAt F.entry ?_
  unfold Builtin.«BaseException.__new__»
  refine wpAt_bind ?_
  show wpAt _ _ _ (stack >>= _) _ _ _
  refine wpAt_bind (wpAt_stack fun p below =>
    wpAt_of_wpAny ?_)
  wp_walk
  refine wpAt_of_wpAny ?_
  rw [F.owner]
  repeat (first
    | with_reducible refine wpAny_madeHere_exc F.canon hC ?_
    | with_reducible refine wpAny_loadPart_at hC ?_
    | (with_reducible refine wpAny_isSubtype_exc hC ?_
       first
       | rw [b1]
       | rw [b2]
       | rw [b3])
    | wp_step)
  show R _ _
  rw [Heap.size_push]
  exact hq
theorem call_t {fI : Addr} {Q : Fin → Shared → Prop} (F : ExcBaseFacts B newId initId bmB)
    (hT : ∀ X : String, bm.contains (.type X) = bmB.contains (.type X))
    (hC : h.get? C = some (excClassObj nm q C N bs bm hdct sn sub ab col dd k0 k1 k2 k3 k5 newId))
    (hi : W.Looks (model prog w) h (typeLookup (.ref C) "__init__") (some (.ref fI)))
    (hb : ∀ v, W.Looks (model prog w) h (bindSpecial (.ref fI) v) (.ref fI, [v]))
    (hq : codeAny (model prog w) A (.call (.ref fI) ⟨[.ref (h.objs.size + 1)], kw⟩)
      (fun r s' => match r with
        | .ok (.ret v) => v = .none ∧ Q (.done (.ret (.ref (h.objs.size + 1)))) s'
        | .ok _ => False
        | .error e => E e s')
      ⟨(h.push (W.kdv_tup [])).push (excO C h.objs.size), g, d, t, os⟩) :
    wpAny (model prog w) A (Builtin.«type.__call__» ⟨[.ref C], kw⟩) Q E ⟨h, g, d, t, os⟩ := by
  repeat (first
    | with_reducible refine wpAny_loadPart_at hC ?_
    | with_reducible refine wpAny_madeBy_exc hC ?_
    | wp_step)
  refine codeAny_call_builtin_code (Code.quiet_builtin _ F.quiet)
    (ck_new F hT hC ?_)
  refine mk_new F hT hC ?_
  show wpAny _ _ _ _ _ _
  have k : ∀ b o, h.get? b = some o →
      ((h.push (W.kdv_tup [])).push (excO C h.objs.size)).get? b = some o :=
    fun b o z => Heap.get?_push_of_some _ (Heap.get?_push_of_some _ z)
  have hC1 := k _ _ hC
  have hg : ((h.push (W.kdv_tup [])).push (excO C h.objs.size)).get? (h.objs.size + 1) =
      some (excO C h.objs.size) := by
    heap_get
  have hcc : (Value.ref C :: bm).contains (.ref C) = true := by
    simp
  have i1 := hi.keeps k
  have b1 := (hb (.ref (h.objs.size + 1))).keeps k
  unfold isInstance
  repeat (first
    | with_reducible refine wpAny_loadPart_at hg ?_
    | (with_reducible refine wpAny_isSubtype_exc hC1 ?_
       rw [hcc])
    | wp_step)
  show wpAny _ _ (typeLookup (.ref C) _) _ _ _
  refine i1.at ?_
  refine wpAny_holding (wpAny_bind (b1.at ?_))
  refine wpAny_bind (wpAny_call
    (codeAny_mono hq fun r s' z => ?_))
  cases r with
  | error e => exact z
  | ok fl =>
    cases fl with
    | ret v =>
      obtain ⟨rfl, z⟩ := z
      wp_walk
      exact z
    | next => exact z.elim
    | brk => exact z.elim
    | cont => exact z.elim
theorem ck_type {M : Model} {Q : Unit → Shared → Prop}
    (hC : h.get? C = some (excClassObj nm q C N bs bm hdct sn sub ab col dd k0 k1 k2 k3 k5 newId))
    (hq : Q () ⟨h, g, d, t, os⟩) :
    wpAny M A (checkBuiltinCall "type.__call__" ⟨[.ref C], kw⟩) Q E ⟨h, g, d, t, os⟩ := by
  have f3 := tc_sub
  have hTy : Shared.TypeIs ⟨h, g, d, t, os⟩ (.ref C) "type" :=
    ⟨_, hC, rfl⟩
  simp only [checkBuiltinCall, tc_kind, tc_split]
  repeat (any_goals (first
    | assumption
    | with_reducible refine wpAny_loadPart_at hC ?_
    | with_reducible refine wpAny_onRaise ?_
    | with_reducible refine wpAny_map ?_
    | wp_step))
theorem call_k {fI : Addr} (F : ExcBaseFacts B newId initId bmB)
    (hT : ∀ X : String, bm.contains (.type X) = bmB.contains (.type X))
    (hC : h.get? C = some (excClassObj nm q C N bs bm hdct sn sub ab col dd k0 k1 k2 k3 k5 newId))
    (hi : W.Looks (model prog w) h (typeLookup (.ref C) "__init__") (some (.ref fI)))
    (hb : ∀ v, W.Looks (model prog w) h (bindSpecial (.ref fI) v) (.ref fI, [v]))
    (hq : codeAny (model prog w) (A.under (.builtin "type.__call__" ⟨[.ref C], kw⟩))
      (.call (.ref fI) ⟨[.ref (h.objs.size + 1)], kw⟩) (W.InitBack (h.objs.size + 1) R)
      ⟨(h.push (W.kdv_tup [])).push (excO C h.objs.size), g, d, t, os⟩) :
    codeAny (model prog w) A (.call (.ref C) ⟨[], kw⟩) R ⟨h, g, d, t, os⟩ := by
  have f1 := tc_lookup
  have f2 := tc_bind (.ref C)
  refine codeAny_of_tree ?_
  show wpAny _ _ (callAny (.ref C) _) _ _ _
  repeat (any_goals (first
    | assumption
    | with_reducible refine wpAny_loadPart_at hC ?_
    | wp_step))
  refine ⟨rfl, ?_⟩
  refine codeAny_call_builtin_at
    (Code.quiet_builtin _ (by decide +kernel)) entry_typeCall
    (ck_type hC (call_t F hT hC hi hb ?_))
  refine codeAny_mono hq fun r s' z => ?_
  cases r with
  | error e => exact z
  | ok fl =>
    cases fl with
    | ret v => exact z
    | next => exact z
    | brk => exact z
    | cont => exact z
end
end ExkMy
end PySem
namespace My
open PySem PySem.Spec PyProof.Rows L2
/-- C(k = e, ..), by keywords alone -/
def tMkK (m : Nat) (C : Addr) (sp : Sp) (gV : List V → List V) (tk : TA) : TE := fun σ H Q => tk σ H fun zs H1 => zs.length = m ∧ ∀ a, H1 a = none → sp (.ref a :: gV zs) (upd H1 a (exo a C none)) (fun v H2 => v = .non ∧ Q (.ref a) H2) (fun _ _ _ => False)
section
variable {X : Cx}
theorem pe_excK {CX : CXT} {x : Str} {C fI : Addr} {k : Nat} {fd : FuncData} {ps ks : List Str} {sp : Sp} {kws : List Keyword} {tk : TA} {p pos : Pos} {g : List Value → List Value} {gV : List V → List V}
    (T : OexC X.K C) (iC : PySem.W.findIn X.K (.ref C) "__init__" = some (some (.ref fI))) (tI : PySem.W.typeIn X.K (.ref fI) = some (.type "function"))
    (F1 : FnOk X.prog X.w X.K X.mg X.base CX k fI fd ps sp) (hr : Room (k + 1) X.A)
    (hb : ∀ (s : Shared) (self : Value) (ws : List Value), X.K.In s.heap → ws.length = ks.length → BindsTo s fd ⟨[self], ks.zip ws⟩ (ps.zip (self :: g ws))) (hgv : ∀ {zs : List V} {ws : List Value}, Vals zs ws → Vals (gV zs) (g ws))
    (hx : Passes CX X (fun _ _ _ => False)) (hg : Gl X x) (hm : X.mg x = some (.ref C)) (hkw : PK X kws tk)
    (hall : (backToKw pos (keywordEach kws X.env)).all (·.1.isSome) = true := by rfl) (hks : (backToKw pos (keywordEach kws X.env)).filterMap (·.1) = ks := by rfl)
    (hdb : (x == ("__debug__" : Str)) = false := by decide)
    (hpl : ((backTo pos (starEach [] X.env)).any (·.1) || (backToKw pos (keywordEach kws X.env)).any (·.1.isNone)) = false := by rfl) :
    PE X (.Call (.Name x p) [] kws pos) (tMkK ks.length C sp gV tk) := by
  refine ⟨fun pins s σ H Q I h => ?_⟩
  obtain ⟨n1, n2, n3, n4, bm, n5, n6, n7, n8, n9, m0, m1, m2, m3, m5, hC, hbm⟩ := T.cls
  refine wpAny_Call_Name_kw (ld_glob I hg hm ?_ hdb)
  refine PySem.W.callWith_KW0 (h₀ := X.base) I.ok.mod.kin T.kC hall (thn (hkw.run pos pins s σ H _ I h) fun ws s1 hs1 => ?_) hpl
  obtain ⟨zs, H1, I1, r1, hz, q1⟩ := hs1
  refine ⟨I1.kIn, ?_⟩
  rw [hks]
  show wpAny _ _ (call (.ref C) [] (ks.zip ws)) _ _ _
  obtain ⟨hp, g', dr, tk', os⟩ := s1
  have hn : H1 (hp.objs.size + 1) = none := I1.hok.fresh (Nat.le_succ _)
  have hq := q1 (hp.objs.size + 1) hn
  have kk : ∀ b o, hp.get? b = some o → ((hp.push (PySem.W.kdv_tup [])).push (PySem.HandSPX.excO C hp.objs.size)).get? b = some o :=
    fun b o z => Heap.get?_push_of_some _ (Heap.get?_push_of_some _ z)
  have hget : ((hp.push (PySem.W.kdv_tup [])).push (PySem.HandSPX.excO C hp.objs.size)).get? (hp.objs.size + 1) = some (PySem.HandSPX.excO C hp.objs.size) := by
    heap_get
  have I2 := I1.laid (t' := tk') (a := hp.objs.size + 1) (o := exo (hp.objs.size + 1) C none) (h' := (hp.push (PySem.W.kdv_tup [])).push (PySem.HandSPX.excO C hp.objs.size)) kk (Nat.le_succ _) (exo_ok hget)
  have r2 : Vals (V.ref (hp.objs.size + 1) :: gV zs) (Value.ref (hp.objs.size + 1) :: g ws) := .cons rfl (hgv r1)
  have B := hb ⟨(hp.push (PySem.W.kdv_tup [])).push (PySem.HandSPX.excO C hp.objs.size), g', dr, tk', os⟩ (Value.ref (hp.objs.size + 1)) ws I2.kIn (r1.length.symm.trans hz)
  have R := F1.run _ X.stack _ _ ⟨[Value.ref (hp.objs.size + 1)], ks.zip ws⟩ (Value.ref (hp.objs.size + 1) :: g ws) _ _ (fun _ _ _ => False) (hr.make C [] (ks.zip ws)) (I2.env0.make C [] (ks.zip ws)) B r2 hq
  refine wpAny_call (PySem.ExkMy.call_k F.excBase_ValueError (fun Y => PySem.HandSPX.refsVE_contains Y bm hbm) (I1.kIn _ _ hC) (PySem.W.looks_findIn I1.kIn iC)
    (fun self => PySem.W.bind_fn I1.kIn self tI) (codeAny_mono R fun r s' hq' => ?_))
  cases r with
  | error er => exact hx pins σ _ _ er s' I2 hq'
  | ok fl =>
    cases fl with
    | ret u =>
      obtain ⟨v, H2, os2, bare2, un2, hok2, rv, ev, q2⟩ := hq'
      subst ev
      obtain ⟨h2, g2, d2, t2, os'⟩ := s'
      exact ⟨rv, .ref (hp.objs.size + 1), H2, mkV_end I1 (Nat.le_succ _) kk un2 hok2 os2 bare2, rfl, q2⟩
    | next => exact False.elim hq'
    | brk => exact False.elim hq'
    | cont => exact False.elim hq'
end
end My

set_option Elab.async false
set_option linter.all false
set_option maxRecDepth 100000
set_option maxHeartbeats 4000000
/-! ### ValueError(e) as a plain value -/
namespace My
open PySem PySem.Spec PyProof.Rows L2
/-- at a: an object of the built-in class T -/
def ExB (T : String) (a : Addr) : HO := .ext fun h => ∃ o : Obj, h.get? a = some o ∧ o.cls = .type T
theorem exB_ok {P : Program} {w : World} {H : Hp} {h : Heap} {a : Addr} {T : String} {o : Obj} (e : h.get? a = some o) (c : o.cls = .type T) : ObjOk P w H h a (ExB T a) :=
  ⟨⟨o, e, c⟩, ⟨o, e⟩, fun _ _ ⟨o, q, r⟩ k => ⟨o, k o q, r⟩⟩
section
variable {X : Cx} {x : Str} {p pos : Pos} {e : Expr} {es : List Expr} {t : TA}
theorem pe_valE (hg : Gl X x) (hm : X.mg x = none) (hv : bootBuiltins x = some (.type "ValueError")) (ha : PA X (e :: es) t) (hn : x ≠ "__name__" := by decide) (hdb : (x == ("__debug__" : Str)) = false := by decide)
    (he : starEach (e :: es) X.env = (false, eval e X.env) :: starEach es X.env := by rfl) (hpl : (backTo pos (starEach es X.env)).any (·.1) = false := by rfl) :
    PE X (.Call (.Name x p) (e :: es) [] pos) (fun σ H Q => t σ H fun vs H1 => vs.length ≤ 1000 ∧ ∀ a, H1 a = none → Q (.ref a) (upd H1 a (ExB "ValueError" a))) := by
  refine ⟨fun pins s σ H Q J h => ?_⟩
  refine wpAny_Call_Name_kw (ld_blt J hg hm hv ?_ hn hdb)
  refine PyProof.Rows.callWith_type1 (thn (ha.run pos pins s σ H _ J h) fun us s1 hh => ?_) he hpl
  obtain ⟨vs, H1, I1, r1, q0, q1⟩ := hh
  obtain ⟨hp1, g1, d1, tk1, os1⟩ := s1
  refine wpAny_call_exc exb_ValueError.call (fun h' a mk => ?_) ?_
  · have hn : H1 a = none := I1.hok.gone mk.new
    obtain ⟨t, ht, _⟩ := mk.there
    exact ⟨.ref a, upd H1 a (ExB "ValueError" a), I1.laidN mk.keeps mk.new hn (exB_ok ht rfl), rfl, q1 a hn⟩
  · have := r1.length
    rw [sizeLine_eq]
    omega
/-- isinstance(e, c) of such a value -/
def rIsB (K : PySem.W.Frag) : List V → Hp → VK → Prop := fun xs H Q => ∃ (a : Addr) (c : V) (u : Value) (b : Bool), xs = [.ref a, c] ∧ ClsV c u ∧ H a = some (ExB "ValueError" a) ∧ PySem.W.kitOne K (.type "ValueError") u = some b ∧ Q (.bl b) H
theorem call_isB : CallR X (.builtin "isinstance") (rIsB X.K) := by
  intro pins s σ H xs us Q I r h
  obtain ⟨a, c, u, b, rfl, hc, ea, e, q⟩ := h
  obtain ⟨u1, u2, rfl, r1, r2⟩ := vals2 r
  have e2 := hc.eq r2
  subst e2
  cases (show u1 = Value.ref a from r1)
  have J : ∃ o : Obj, s.heap.get? a = some o ∧ o.cls = .type "ValueError" := by
    have x : ObjOk X.prog X.w H s.heap a (ExB "ValueError" a) := I.hok a _ ea
    exact x.1
  exact PySem.W.kia_one (PySem.W.kitx_bexc PySem.F.excAttr_ValueError PySem.F.lkClass_ValueError PySem.F.soClass_ValueError (by decide +kernel)) I.kIn J e (fun z => nomatch z) fun tk => ⟨.bl b, H, I.tok tk, rfl, q⟩
end
end My

set_option Elab.async false
set_option linter.all false
set_option maxRecDepth 100000
set_option maxHeartbeats 4000000
/-! ### what the written part says of an own exception class, as one Bool -/
namespace My
open PySem PySem.Spec PyProof.Rows L2
def oexB (K : PySem.W.Frag) (C : Addr) : Bool :=
  match K.lookup C with
  | some ⟨.type s, _, .cls cd, sl⟩ =>
    (match cd.mro, sl.toList with
    | .ref D :: bm, [_, _, _, _, some (.builtin n), _] => s == "type" && D == C && n == "ValueError.__new__" && !cd.hasDel && cd.hasDict && PySem.HandSPX.refsVE bm
    | _, _ => false)
  | _ => false
theorem oexB_ok {K : PySem.W.Frag} {C : Addr} (h : oexB K C = true) : ∃ nm q N bs bm sn sub ab col dd k0 k1 k2 k3 k5, K.lookup C = some (excClassObj nm q C N bs bm true sn sub ab col dd k0 k1 k2 k3 k5 "ValueError.__new__") ∧ PySem.HandSPX.refsVE bm = true := by
  unfold oexB at h
  split at h
  · rename_i s dd cd sl ho
    split at h
    · rename_i D bm k0 k1 k2 k3 n k5 hm hs
      simp only [Bool.and_eq_true, beq_iff_eq, Bool.not_eq_true'] at h
      obtain ⟨⟨⟨⟨⟨rfl, rfl⟩, rfl⟩, hd⟩, hh⟩, hr⟩ := h
      obtain ⟨nm, bs, mro, ns, qn, hdct, sn, sub, ab, col, del⟩ := cd
      dsimp only at hm hd hh
      subst hm hd hh
      refine ⟨nm, qn, ns, bs, bm, sn, sub, ab, col, dd, k0, k1, k2, k3, k5, ?_, hr⟩
      rw [ho]
      have e : sl = #[k0, k1, k2, k3, some (.builtin "ValueError.__new__"), k5] := by
        rw [← hs]
      rw [e]
    · cases h
  · cases h
structure ExcT (K : PySem.W.Frag) (C fI : Addr) : Prop where
  o : OexC K C
  x : XfC K C
  e : ExcC K C
  iC : PySem.W.findIn K (.ref C) "__init__" = some (some (.ref fI))
  tI : PySem.W.typeIn K (.ref fI) = some (.type "function")
def excB (K : PySem.W.Frag) (C fI : Addr) : Bool :=
  oexB K C && decide (PySem.W.findIn K (.ref C) "__setattr__" = some (some (.builtin "object.__setattr__"))) && decide (PySem.W.subIn K (.ref C) (.type "BaseException") = some true) && decide (PySem.W.typeIn K (.ref C) = some (.type "type")) && PySem.W.keepIn K (.ref C) && xfB K C &&
  decide (PySem.W.findIn K (.ref C) "__class__" = some (some (.builtin "object.__class__"))) && decide (PySem.W.specialIn K (.builtin "object.__class__") "__get__" = some (some (.builtin "getset_descriptor.__get__"))) && decide (PySem.W.takesIn K (.builtin "object.__class__") = some true) && decide (PySem.W.mroIn K C (.type "object") = some true) &&
  decide (PySem.W.findIn K (.ref C) "__init__" = some (some (.ref fI))) && decide (PySem.W.typeIn K (.ref fI) = some (.type "function"))
theorem excB_ok {K : PySem.W.Frag} {C fI : Addr} (h : excB K C fI = true) : ExcT K C fI := by
  unfold excB at h
  simp only [Bool.and_eq_true, decide_eq_true_eq] at h
  obtain ⟨⟨⟨⟨⟨⟨⟨⟨⟨⟨⟨h1, h2⟩, h3⟩, h4⟩, h5⟩, h6⟩, h7⟩, h8⟩, h9⟩, h10⟩, h11⟩, h12⟩ := h
  have x := xfB_ok h6
  exact ⟨⟨oexB_ok h1, h2, h3, h4, h5⟩, x, ⟨x.ga, x.gg, h3, x.hdC, h7, h8, h9, h10⟩, h11, h12⟩
/-- which class of some an instance of one is -/
def kitTab (K : PySem.W.Frag) (L : List Addr) (B : Addr) : Bool :=
  ((List.range L.length).all fun i => (List.range L.length).all fun j => decide (PySem.W.kitOne K (.ref (L.getD i 0)) (.ref (L.getD j 0)) = some (Nat.beq j i))) &&
  ((List.range L.length).all fun i => decide (PySem.W.kitOne K (.ref (L.getD i 0)) (.ref B) = some true) && decide (PySem.W.kitOne K (.ref (L.getD i 0)) (.type "ValueError") = some true)) &&
  decide (PySem.W.kitOne K (.type "ValueError") (.ref B) = some false)
theorem kitTab_ok {K : PySem.W.Frag} {L : List Addr} {B : Addr} (h : kitTab K L B = true) :
    (∀ i j, i < L.length → j < L.length → PySem.W.kitOne K (.ref (L.getD i 0)) (.ref (L.getD j 0)) = some (Nat.beq j i)) ∧
    (∀ i, i < L.length → PySem.W.kitOne K (.ref (L.getD i 0)) (.ref B) = some true ∧ PySem.W.kitOne K (.ref (L.getD i 0)) (.type "ValueError") = some true) ∧
    PySem.W.kitOne K (.type "ValueError") (.ref B) = some false := by
  unfold kitTab at h
  simp only [Bool.and_eq_true, decide_eq_true_eq] at h
  obtain ⟨⟨h1, h2⟩, h3⟩ := h
  refine ⟨fun i j hi hj => ?_, fun i hi => ?_, h3⟩
  · exact of_decide_eq_true (List.all_eq_true.mp (List.all_eq_true.mp h1 i (List.mem_range.mpr hi)) j (List.mem_range.mpr hj))
  · have z := List.all_eq_true.mp h2 i (List.mem_range.mpr hi)
    rw [Bool.and_eq_true] at z
    exact ⟨of_decide_eq_true z.1, of_decide_eq_true z.2⟩
/-- an exception of the class at C with its fields -/
def EAt (H : Hp) (a C : Addr) (fs : List (Str × V)) : Prop := ∃ d, H a = some (exo a C (some d)) ∧ H d = some (exd d fs)
theorem EAt.same {H H' : Hp} {a C : Addr} {fs : List (Str × V)} (h : EAt H a C fs) (s : Same H H') : EAt H' a C fs := by
  obtain ⟨d, h1, h2⟩ := h
  exact ⟨d, s _ _ h1, s _ _ h2⟩
theorem made1 {H : Hp} {a d C : Addr} {fs : List (Str × V)} (ha : H a = none) (hd : (upd H a (exo a C none)) d = none) (ne : d ≠ a) :
    Same H (upd (upd (upd H a (exo a C none)) d (exd d fs)) a (exo a C (some d))) ∧ EAt (upd (upd (upd H a (exo a C none)) d (exd d fs)) a (exo a C (some d))) a C fs := by
  have hd' : H d = none := by
    rw [upd_ne ne] at hd
    exact hd
  refine ⟨fun c o hc => ?_, d, upd_same, ?_⟩
  · rw [upd_ne (ne_of_none hc ha), upd_ne (ne_of_none hc hd'), upd_ne (ne_of_none hc ha)]
    exact hc
  · rw [upd_ne ne, upd_same]
theorem made2 {H : Hp} {a d C : Addr} {fs gs : List (Str × V)} (ha : H a = none) (hd : (upd H a (exo a C none)) d = none) (ne : d ≠ a) :
    Same H (upd (upd (upd (upd H a (exo a C none)) d (exd d fs)) a (exo a C (some d))) d (exd d gs)) ∧ EAt (upd (upd (upd (upd H a (exo a C none)) d (exd d fs)) a (exo a C (some d))) d (exd d gs)) a C gs := by
  have hd' : H d = none := by
    rw [upd_ne ne] at hd
    exact hd
  refine ⟨fun c o hc => ?_, d, ?_, upd_same⟩
  · rw [upd_ne (ne_of_none hc hd'), upd_ne (ne_of_none hc ha), upd_ne (ne_of_none hc hd'), upd_ne (ne_of_none hc ha)]
    exact hc
  · rw [upd_ne ne.symm, upd_same]
def sp_e1 (C : Addr) (f : Str) : Sp := fun vs H Q _ => ∃ (a : Addr) (x : V), vs = [.ref a, x] ∧ H a = some (exo a C none) ∧ ∀ d, H d = none → d ≠ a → Q .non (upd (upd H d (exd d [(f, x)])) a (exo a C (some d)))
def sp_e2 (C : Addr) (f g : Str) : Sp := fun vs H Q _ => ∃ (a : Addr) (x y : V), vs = [.ref a, x, y] ∧ H a = some (exo a C none) ∧ ∀ d, H d = none → d ≠ a → Q .non (upd (upd (upd H d (exd d [(f, x)])) a (exo a C (some d))) d (exd d [(g, y), (f, x)]))
end My

set_option Elab.async false
set_option linter.all false
set_option maxRecDepth 100000
set_option maxHeartbeats 4000000
namespace My
open PySem PySem.Spec PyProof.Rows L2
/-- two values the other way round -/
def rev2 {α : Type} : List α → List α
  | [a, b] => [b, a]
  | l => l
theorem rev2_rel {zs : List V} {ws : List Value} (r : Vals zs ws) : Vals (rev2 zs) (rev2 ws) := by
  cases r with
  | nil => exact .nil
  | cons r1 r =>
    cases r with
    | nil => exact .cons r1 .nil
    | cons r2 r =>
      cases r with
      | nil => exact .cons r2 (.cons r1 .nil)
      | cons r3 r => exact .cons r1 (.cons r2 (.cons r3 r))
theorem kbs {K : PySem.W.Frag} {x qual : Str} {st : Stmt} {f : Addr} {fd : FuncData} {ps ks : List Str} (F : Fun K x qual st f fd) (g : List Value → List Value)
    (h : ∀ (kV doc pm : Value) (an : Option Addr) (cdv ct self : Value) (ws : List Value), ws.length = ks.length → bindArgs (PySem.W.fnOf x qual (defArgs st) (defBody st) (defScope st) .none kV doc pm an cdv ct) ⟨[self], ks.zip ws⟩ = pure (ps.zip (self :: g ws))) :
    ∀ (s : Shared) (self : Value) (ws : List Value), K.In s.heap → ws.length = ks.length → BindsTo s fd ⟨[self], ks.zip ws⟩ (ps.zip (self :: g ws)) := by
  obtain ⟨oc, od, kV, doc, pm, an, cdv, ct, osl, rfl, lk, hcd⟩ := F.ex
  exact fun s self ws X l2 => .of_eq (h kV doc pm an cdv ct self ws l2)
/-- at H' stands what __init__ made of the bare exception at a -/
def Mk (a : Addr) (H H' : Hp) (C : Addr) (fs : List (Str × V)) : Prop := EAt H' a C fs ∧ ∀ c o, c ≠ a → H c = some o → H' c = some o
theorem Mk.made {a : Addr} {H H' : Hp} {o : HO} {C : Addr} {fs : List (Str × V)} (m : Mk a (upd H a o) H' C fs) (h : H a = none) : Same H H' ∧ EAt H' a C fs :=
  ⟨fun c x e => m.2 c x (ne_of_none e h) (by rw [upd_ne (ne_of_none e h)]; exact e), m.1⟩
theorem mk1 {a d C : Addr} {H : Hp} {fs : List (Str × V)} (hd : H d = none) (ne : d ≠ a) : Mk a H (upd (upd H d (exd d fs)) a (exo a C (some d))) C fs :=
  ⟨⟨d, upd_same, by rw [upd_ne ne, upd_same]⟩, fun c o hc e => by rw [upd_ne hc, upd_ne (ne_of_none e hd)]; exact e⟩
theorem mk2 {a d C : Addr} {H : Hp} {fs gs : List (Str × V)} (hd : H d = none) (ne : d ≠ a) : Mk a H (upd (upd (upd H d (exd d fs)) a (exo a C (some d))) d (exd d gs)) C gs :=
  ⟨⟨d, by rw [upd_ne ne.symm, upd_same], upd_same⟩, fun c o hc e => by rw [upd_ne (ne_of_none e hd), upd_ne hc, upd_ne (ne_of_none e hd)]; exact e⟩
def sp_x1 (C : Addr) (f : Str) : Sp := fun vs H Q _ => ∃ (a : Addr) (x : V), vs = [.ref a, x] ∧ H a = some (exo a C none) ∧ ∀ H', Mk a H H' C [(f, x)] → Q .non H'
def sp_x2 (C : Addr) (f g : Str) : Sp := fun vs H Q _ => ∃ (a : Addr) (x y : V), vs = [.ref a, x, y] ∧ H a = some (exo a C none) ∧ ∀ H', Mk a H H' C [(g, y), (f, x)] → Q .non H'
/-- so many exceptions, each with its class and fields -/
inductive Mad (H : Hp) : List V → List (Addr × List (Str × V)) → Prop where
  | nil : Mad H [] []
  | cons {a C : Addr} {fs : List (Str × V)} {vs : List V} {t : List (Addr × List (Str × V))} : EAt H a C fs → Mad H vs t → Mad H (.ref a :: vs) ((C, fs) :: t)
theorem Mad.same {H H' : Hp} {vs : List V} {t : List (Addr × List (Str × V))} (m : Mad H vs t) (s : Same H H') : Mad H' vs t := by
  induction m with
  | nil => exact .nil
  | cons e _ ih => exact .cons (e.same s) ih
theorem Mad.app {H : Hp} {vs ws : List V} {t u : List (Addr × List (Str × V))} (m : Mad H vs t) (n : Mad H ws u) : Mad H (vs ++ ws) (t ++ u) := by
  induction m with
  | nil => exact n
  | cons e _ ih => exact .cons e ih
theorem Mad.len {H : Hp} {vs : List V} {t : List (Addr × List (Str × V))} (m : Mad H vs t) : vs.length = t.length := by
  induction m with
  | nil => rfl
  | cons e _ ih => simp [ih]
theorem Mad.at {H : Hp} {vs : List V} {t : List (Addr × List (Str × V))} (m : Mad H vs t) : ∀ {i : Nat} {C : Addr} {fs : List (Str × V)}, t[i]? = some (C, fs) → ∃ a d : Addr, vs[i]? = some (.ref a) ∧ H a = some (exo a C (some d)) ∧ H d = some (exd d fs) := by
  induction m with
  | nil => intro i C fs h; simp at h
  | cons e _ ih =>
    intro i C fs h
    cases i with
    | zero =>
      cases h
      obtain ⟨d, h1, h2⟩ := e
      exact ⟨_, d, rfl, h1, h2⟩
    | succ i => exact ih h
theorem Mad.at' {H : Hp} {vs : List V} {t : List (Addr × List (Str × V))} (m : Mad H vs t) {i : Nat} {v : V} (h : vs[i]? = some v) : ∃ (a d C : Addr) (fs : List (Str × V)), v = .ref a ∧ t[i]? = some (C, fs) ∧ H a = some (exo a C (some d)) ∧ H d = some (exd d fs) := by
  have hi : i < t.length := by
    rw [← m.len]
    exact (List.getElem?_eq_some_iff.mp h).1
  obtain ⟨a, d, h1, h2, h3⟩ := m.at (i := i) (C := t[i].1) (fs := t[i].2) (List.getElem?_eq_getElem hi)
  rw [h] at h1
  exact ⟨a, d, _, _, Option.some.inj h1, List.getElem?_eq_getElem hi, h2, h3⟩
/-- what is told of the i-th of 33 -/
def tak (i : Nat) : List V := (List.range 33).map fun j => .bl (Nat.beq j i)
end My

set_option Elab.async false
set_option linter.all false
set_option maxRecDepth 100000
set_option maxHeartbeats 4000000
namespace My
open PySem PySem.Spec PyProof.Rows L2
def topS (i : Nat) : Stmt := PySem.Challenge.pw_dotquilts_k04_exceptions.main.body.getD i (.Pass ⟨0, 0, 0, 0⟩)
abbrev s_NoField___init__ : Stmt := inClass (topS 2) 0
theorem sc_NoField___init__ : FnScope ["self", "bits"] ["self", "bits"] (defScope s_NoField___init__) := ⟨rfl, rfl, rfl, by decide +kernel, rfl, by decide +kernel, by decide +kernel⟩
abbrev s_NoWord___init__ : Stmt := inClass (topS 3) 0
theorem sc_NoWord___init__ : FnScope ["self", "part", "index"] ["self", "part", "index"] (defScope s_NoWord___init__) := ⟨rfl, rfl, rfl, by decide +kernel, rfl, by decide +kernel, by decide +kernel⟩
abbrev s_NoSize___init__ : Stmt := inClass (topS 4) 0
theorem sc_NoSize___init__ : FnScope ["self", "size"] ["self", "size"] (defScope s_NoSize___init__) := ⟨rfl, rfl, rfl, by decide +kernel, rfl, by decide +kernel, by decide +kernel⟩
abbrev s_NoLevel___init__ : Stmt := inClass (topS 5) 0
theorem sc_NoLevel___init__ : FnScope ["self", "level"] ["self", "level"] (defScope s_NoLevel___init__) := ⟨rfl, rfl, rfl, by decide +kernel, rfl, by decide +kernel, by decide +kernel⟩
abbrev s_NoMask___init__ : Stmt := inClass (topS 6) 0
theorem sc_NoMask___init__ : FnScope ["self", "mask"] ["self", "mask"] (defScope s_NoMask___init__) := ⟨rfl, rfl, rfl, by decide +kernel, rfl, by decide +kernel, by decide +kernel⟩
abbrev s_NoDot___init__ : Stmt := inClass (topS 7) 0
theorem sc_NoDot___init__ : FnScope ["self", "dot"] ["self", "dot"] (defScope s_NoDot___init__) := ⟨rfl, rfl, rfl, by decide +kernel, rfl, by decide +kernel, by decide +kernel⟩
abbrev s_NoIndex___init__ : Stmt := inClass (topS 8) 0
theorem sc_NoIndex___init__ : FnScope ["self", "index"] ["self", "index"] (defScope s_NoIndex___init__) := ⟨rfl, rfl, rfl, by decide +kernel, rfl, by decide +kernel, by decide +kernel⟩
abbrev s_NoWords___init__ : Stmt := inClass (topS 9) 0
theorem sc_NoWords___init__ : FnScope ["self", "index"] ["self", "index"] (defScope s_NoWords___init__) := ⟨rfl, rfl, rfl, by decide +kernel, rfl, by decide +kernel, by decide +kernel⟩
abbrev s_NoBlock___init__ : Stmt := inClass (topS 10) 0
theorem sc_NoBlock___init__ : FnScope ["self", "block", "index"] ["self", "block", "index"] (defScope s_NoBlock___init__) := ⟨rfl, rfl, rfl, by decide +kernel, rfl, by decide +kernel, by decide +kernel⟩
abbrev s_NoGrid___init__ : Stmt := inClass (topS 11) 0
theorem sc_NoGrid___init__ : FnScope ["self", "row", "column"] ["self", "row", "column"] (defScope s_NoGrid___init__) := ⟨rfl, rfl, rfl, by decide +kernel, rfl, by decide +kernel, by decide +kernel⟩
abbrev s_NoCode___init__ : Stmt := inClass (topS 12) 0
theorem sc_NoCode___init__ : FnScope ["self", "code"] ["self", "code"] (defScope s_NoCode___init__) := ⟨rfl, rfl, rfl, by decide +kernel, rfl, by decide +kernel, by decide +kernel⟩
abbrev s_NoNumber___init__ : Stmt := inClass (topS 13) 0
theorem sc_NoNumber___init__ : FnScope ["self", "part"] ["self", "part"] (defScope s_NoNumber___init__) := ⟨rfl, rfl, rfl, by decide +kernel, rfl, by decide +kernel, by decide +kernel⟩
abbrev s_TooLarge___init__ : Stmt := inClass (topS 14) 0
theorem sc_TooLarge___init__ : FnScope ["self", "limit"] ["self", "limit"] (defScope s_TooLarge___init__) := ⟨rfl, rfl, rfl, by decide +kernel, rfl, by decide +kernel, by decide +kernel⟩
abbrev s_NoWish___init__ : Stmt := inClass (topS 15) 0
theorem sc_NoWish___init__ : FnScope ["self", "dot"] ["self", "dot"] (defScope s_NoWish___init__) := ⟨rfl, rfl, rfl, by decide +kernel, rfl, by decide +kernel, by decide +kernel⟩
abbrev s_NoDots___init__ : Stmt := inClass (topS 16) 0
theorem sc_NoDots___init__ : FnScope ["self", "index"] ["self", "index"] (defScope s_NoDots___init__) := ⟨rfl, rfl, rfl, by decide +kernel, rfl, by decide +kernel, by decide +kernel⟩
abbrev s_NoPattern___init__ : Stmt := inClass (topS 17) 0
theorem sc_NoPattern___init__ : FnScope ["self", "index"] ["self", "index"] (defScope s_NoPattern___init__) := ⟨rfl, rfl, rfl, by decide +kernel, rfl, by decide +kernel, by decide +kernel⟩
abbrev s_NoAnswer___init__ : Stmt := inClass (topS 18) 0
theorem sc_NoAnswer___init__ : FnScope ["self", "part", "index"] ["self", "part", "index"] (defScope s_NoAnswer___init__) := ⟨rfl, rfl, rfl, by decide +kernel, rfl, by decide +kernel, by decide +kernel⟩
abbrev s_NoPicture___init__ : Stmt := inClass (topS 19) 0
theorem sc_NoPicture___init__ : FnScope ["self", "line"] ["self", "line"] (defScope s_NoPicture___init__) := ⟨rfl, rfl, rfl, by decide +kernel, rfl, by decide +kernel, by decide +kernel⟩
abbrev s_NoChange___init__ : Stmt := inClass (topS 20) 0
theorem sc_NoChange___init__ : FnScope ["self", "word"] ["self", "word"] (defScope s_NoChange___init__) := ⟨rfl, rfl, rfl, by decide +kernel, rfl, by decide +kernel, by decide +kernel⟩
abbrev s_NoText___init__ : Stmt := inClass (topS 21) 0
theorem sc_NoText___init__ : FnScope ["self", "index"] ["self", "index"] (defScope s_NoText___init__) := ⟨rfl, rfl, rfl, by decide +kernel, rfl, by decide +kernel, by decide +kernel⟩
abbrev s_NoPieces___init__ : Stmt := inClass (topS 22) 0
theorem sc_NoPieces___init__ : FnScope ["self", "index"] ["self", "index"] (defScope s_NoPieces___init__) := ⟨rfl, rfl, rfl, by decide +kernel, rfl, by decide +kernel, by decide +kernel⟩
abbrev s_NoBits___init__ : Stmt := inClass (topS 23) 0
theorem sc_NoBits___init__ : FnScope ["self", "index"] ["self", "index"] (defScope s_NoBits___init__) := ⟨rfl, rfl, rfl, by decide +kernel, rfl, by decide +kernel, by decide +kernel⟩
abbrev s_Unread___init__ : Stmt := inClass (topS 24) 0
theorem sc_Unread___init__ : FnScope ["self", "at", "why"] ["self", "at", "why"] (defScope s_Unread___init__) := ⟨rfl, rfl, rfl, by decide +kernel, rfl, by decide +kernel, by decide +kernel⟩
abbrev s_TooLong___init__ : Stmt := inClass (topS 25) 0
theorem sc_TooLong___init__ : FnScope ["self", "bits"] ["self", "bits"] (defScope s_TooLong___init__) := ⟨rfl, rfl, rfl, by decide +kernel, rfl, by decide +kernel, by decide +kernel⟩
abbrev s_NoSeries___init__ : Stmt := inClass (topS 26) 0
theorem sc_NoSeries___init__ : FnScope ["self", "why", "numbers"] ["self", "why", "numbers"] (defScope s_NoSeries___init__) := ⟨rfl, rfl, rfl, by decide +kernel, rfl, by decide +kernel, by decide +kernel⟩
abbrev s_NoParts___init__ : Stmt := inClass (topS 27) 0
theorem sc_NoParts___init__ : FnScope ["self", "which", "index"] ["self", "which", "index"] (defScope s_NoParts___init__) := ⟨rfl, rfl, rfl, by decide +kernel, rfl, by decide +kernel, by decide +kernel⟩
abbrev s_NoFormat___init__ : Stmt := inClass (topS 28) 0
theorem sc_NoFormat___init__ : FnScope ["self", "part"] ["self", "part"] (defScope s_NoFormat___init__) := ⟨rfl, rfl, rfl, by decide +kernel, rfl, by decide +kernel, by decide +kernel⟩
abbrev s_NoStain___init__ : Stmt := inClass (topS 29) 0
theorem sc_NoStain___init__ : FnScope ["self", "part", "index"] ["self", "part", "index"] (defScope s_NoStain___init__) := ⟨rfl, rfl, rfl, by decide +kernel, rfl, by decide +kernel, by decide +kernel⟩
abbrev s_NoKind___init__ : Stmt := inClass (topS 30) 0
theorem sc_NoKind___init__ : FnScope ["self", "kind"] ["self", "kind"] (defScope s_NoKind___init__) := ⟨rfl, rfl, rfl, by decide +kernel, rfl, by decide +kernel, by decide +kernel⟩
abbrev s_NoPaper___init__ : Stmt := inClass (topS 31) 0
theorem sc_NoPaper___init__ : FnScope ["self", "part"] ["self", "part"] (defScope s_NoPaper___init__) := ⟨rfl, rfl, rfl, by decide +kernel, rfl, by decide +kernel, by decide +kernel⟩
abbrev s_Unmended___init__ : Stmt := inClass (topS 32) 0
theorem sc_Unmended___init__ : FnScope ["self", "part", "index"] ["self", "part", "index"] (defScope s_Unmended___init__) := ⟨rfl, rfl, rfl, by decide +kernel, rfl, by decide +kernel, by decide +kernel⟩
abbrev s_NoPose___init__ : Stmt := inClass (topS 33) 0
theorem sc_NoPose___init__ : FnScope ["self", "pose"] ["self", "pose"] (defScope s_NoPose___init__) := ⟨rfl, rfl, rfl, by decide +kernel, rfl, by decide +kernel, by decide +kernel⟩
abbrev s_NoPlace___init__ : Stmt := inClass (topS 34) 0
theorem sc_NoPlace___init__ : FnScope ["self", "place"] ["self", "place"] (defScope s_NoPlace___init__) := ⟨rfl, rfl, rfl, by decide +kernel, rfl, by decide +kernel, by decide +kernel⟩
abbrev s__law_draw : Stmt := topS 36
theorem sc__law_draw : FnScope ["_law_well", "_law_many", "_law_found", "_law_figure"] ["_law_well", "_law_many"] (defScope s__law_draw) := ⟨rfl, rfl, rfl, by decide +kernel, rfl, by decide +kernel, by decide +kernel⟩
abbrev s__law_one : Stmt := topS 37
theorem sc__law_one : FnScope ["_law_well", "_law_some"] ["_law_well", "_law_some"] (defScope s__law_one) := ⟨rfl, rfl, rfl, by decide +kernel, rfl, by decide +kernel, by decide +kernel⟩
abbrev s__law_taken : Stmt := topS 38
theorem sc__law_taken : FnScope ["_law_e", "_law_found"] ["_law_e"] (defScope s__law_taken) := ⟨rfl, rfl, rfl, by decide +kernel, rfl, by decide +kernel, by decide +kernel⟩
abbrev s__law_by_place : Stmt := topS 39
theorem sc__law_by_place : FnScope ["_law_x", "_law_some"] ["_law_x"] (defScope s__law_by_place) := ⟨rfl, rfl, rfl, by decide +kernel, rfl, by decide +kernel, by decide +kernel⟩
abbrev s__law_by_name : Stmt := topS 40
theorem sc__law_by_name : FnScope ["_law_x", "_law_some"] ["_law_x"] (defScope s__law_by_name) := ⟨rfl, rfl, rfl, by decide +kernel, rfl, by decide +kernel, by decide +kernel⟩
abbrev s__law_fields : Stmt := topS 41
theorem sc__law_fields : FnScope ["_law_some", "_law_found"] ["_law_some"] (defScope s__law_fields) := ⟨rfl, rfl, rfl, by decide +kernel, rfl, by decide +kernel, by decide +kernel⟩
abbrev s__law_right : Stmt := topS 42
theorem sc__law_right : FnScope ["_law_well", "_law_x", "_law_due", "_law_some", "_law_spot", "_law_e", "_law_k"] ["_law_well"] (defScope s__law_right) := ⟨rfl, rfl, rfl, by decide +kernel, rfl, by decide +kernel, by decide +kernel⟩
abbrev s_law : Stmt := topS 43
theorem sc_law : FnScope ["_law_script", "_law_k", "_law_cell", "_law_well"] ["_law_script"] (defScope s_law) := ⟨rfl, rfl, rfl, by decide +kernel, rfl, by decide +kernel, by decide +kernel⟩
structure Txt (K : PySem.W.Frag) (mg : Str → Option Value) where
  f_NoField___init__ : Addr
  d_NoField___init__ : FuncData
  F_NoField___init__ : Fun K "__init__" "NoField.__init__" s_NoField___init__ f_NoField___init__ d_NoField___init__
  b_NoField___init__ : Binds K d_NoField___init__ ["self", "bits"] []
  f_NoWord___init__ : Addr
  d_NoWord___init__ : FuncData
  F_NoWord___init__ : Fun K "__init__" "NoWord.__init__" s_NoWord___init__ f_NoWord___init__ d_NoWord___init__
  b_NoWord___init__ : Binds K d_NoWord___init__ ["self", "part", "index"] []
  f_NoSize___init__ : Addr
  d_NoSize___init__ : FuncData
  F_NoSize___init__ : Fun K "__init__" "NoSize.__init__" s_NoSize___init__ f_NoSize___init__ d_NoSize___init__
  b_NoSize___init__ : Binds K d_NoSize___init__ ["self", "size"] []
  f_NoLevel___init__ : Addr
  d_NoLevel___init__ : FuncData
  F_NoLevel___init__ : Fun K "__init__" "NoLevel.__init__" s_NoLevel___init__ f_NoLevel___init__ d_NoLevel___init__
  b_NoLevel___init__ : Binds K d_NoLevel___init__ ["self", "level"] []
  f_NoMask___init__ : Addr
  d_NoMask___init__ : FuncData
  F_NoMask___init__ : Fun K "__init__" "NoMask.__init__" s_NoMask___init__ f_NoMask___init__ d_NoMask___init__
  b_NoMask___init__ : Binds K d_NoMask___init__ ["self", "mask"] []
  f_NoDot___init__ : Addr
  d_NoDot___init__ : FuncData
  F_NoDot___init__ : Fun K "__init__" "NoDot.__init__" s_NoDot___init__ f_NoDot___init__ d_NoDot___init__
  b_NoDot___init__ : Binds K d_NoDot___init__ ["self", "dot"] []
  f_NoIndex___init__ : Addr
  d_NoIndex___init__ : FuncData
  F_NoIndex___init__ : Fun K "__init__" "NoIndex.__init__" s_NoIndex___init__ f_NoIndex___init__ d_NoIndex___init__
  b_NoIndex___init__ : Binds K d_NoIndex___init__ ["self", "index"] []
  f_NoWords___init__ : Addr
  d_NoWords___init__ : FuncData
  F_NoWords___init__ : Fun K "__init__" "NoWords.__init__" s_NoWords___init__ f_NoWords___init__ d_NoWords___init__
  b_NoWords___init__ : Binds K d_NoWords___init__ ["self", "index"] []
  f_NoBlock___init__ : Addr
  d_NoBlock___init__ : FuncData
  F_NoBlock___init__ : Fun K "__init__" "NoBlock.__init__" s_NoBlock___init__ f_NoBlock___init__ d_NoBlock___init__
  b_NoBlock___init__ : Binds K d_NoBlock___init__ ["self", "block", "index"] []
  f_NoGrid___init__ : Addr
  d_NoGrid___init__ : FuncData
  F_NoGrid___init__ : Fun K "__init__" "NoGrid.__init__" s_NoGrid___init__ f_NoGrid___init__ d_NoGrid___init__
  b_NoGrid___init__ : Binds K d_NoGrid___init__ ["self", "row", "column"] []
  f_NoCode___init__ : Addr
  d_NoCode___init__ : FuncData
  F_NoCode___init__ : Fun K "__init__" "NoCode.__init__" s_NoCode___init__ f_NoCode___init__ d_NoCode___init__
  b_NoCode___init__ : Binds K d_NoCode___init__ ["self", "code"] []
  f_NoNumber___init__ : Addr
  d_NoNumber___init__ : FuncData
  F_NoNumber___init__ : Fun K "__init__" "NoNumber.__init__" s_NoNumber___init__ f_NoNumber___init__ d_NoNumber___init__
  b_NoNumber___init__ : Binds K d_NoNumber___init__ ["self", "part"] []
  f_TooLarge___init__ : Addr
  d_TooLarge___init__ : FuncData
  F_TooLarge___init__ : Fun K "__init__" "TooLarge.__init__" s_TooLarge___init__ f_TooLarge___init__ d_TooLarge___init__
  b_TooLarge___init__ : Binds K d_TooLarge___init__ ["self", "limit"] []
  f_NoWish___init__ : Addr
  d_NoWish___init__ : FuncData
  F_NoWish___init__ : Fun K "__init__" "NoWish.__init__" s_NoWish___init__ f_NoWish___init__ d_NoWish___init__
  b_NoWish___init__ : Binds K d_NoWish___init__ ["self", "dot"] []
  f_NoDots___init__ : Addr
  d_NoDots___init__ : FuncData
  F_NoDots___init__ : Fun K "__init__" "NoDots.__init__" s_NoDots___init__ f_NoDots___init__ d_NoDots___init__
  b_NoDots___init__ : Binds K d_NoDots___init__ ["self", "index"] []
  f_NoPattern___init__ : Addr
  d_NoPattern___init__ : FuncData
  F_NoPattern___init__ : Fun K "__init__" "NoPattern.__init__" s_NoPattern___init__ f_NoPattern___init__ d_NoPattern___init__
  b_NoPattern___init__ : Binds K d_NoPattern___init__ ["self", "index"] []
  f_NoAnswer___init__ : Addr
  d_NoAnswer___init__ : FuncData
  F_NoAnswer___init__ : Fun K "__init__" "NoAnswer.__init__" s_NoAnswer___init__ f_NoAnswer___init__ d_NoAnswer___init__
  b_NoAnswer___init__ : Binds K d_NoAnswer___init__ ["self", "part", "index"] []
  f_NoPicture___init__ : Addr
  d_NoPicture___init__ : FuncData
  F_NoPicture___init__ : Fun K "__init__" "NoPicture.__init__" s_NoPicture___init__ f_NoPicture___init__ d_NoPicture___init__
  b_NoPicture___init__ : Binds K d_NoPicture___init__ ["self", "line"] []
  f_NoChange___init__ : Addr
  d_NoChange___init__ : FuncData
  F_NoChange___init__ : Fun K "__init__" "NoChange.__init__" s_NoChange___init__ f_NoChange___init__ d_NoChange___init__
  b_NoChange___init__ : Binds K d_NoChange___init__ ["self", "word"] []
  f_NoText___init__ : Addr
  d_NoText___init__ : FuncData
  F_NoText___init__ : Fun K "__init__" "NoText.__init__" s_NoText___init__ f_NoText___init__ d_NoText___init__
  b_NoText___init__ : Binds K d_NoText___init__ ["self", "index"] []
  f_NoPieces___init__ : Addr
  d_NoPieces___init__ : FuncData
  F_NoPieces___init__ : Fun K "__init__" "NoPieces.__init__" s_NoPieces___init__ f_NoPieces___init__ d_NoPieces___init__
  b_NoPieces___init__ : Binds K d_NoPieces___init__ ["self", "index"] []
  f_NoBits___init__ : Addr
  d_NoBits___init__ : FuncData
  F_NoBits___init__ : Fun K "__init__" "NoBits.__init__" s_NoBits___init__ f_NoBits___init__ d_NoBits___init__
  b_NoBits___init__ : Binds K d_NoBits___init__ ["self", "index"] []
  f_Unread___init__ : Addr
  d_Unread___init__ : FuncData
  F_Unread___init__ : Fun K "__init__" "Unread.__init__" s_Unread___init__ f_Unread___init__ d_Unread___init__
  b_Unread___init__ : Binds K d_Unread___init__ ["self", "at", "why"] []
  f_TooLong___init__ : Addr
  d_TooLong___init__ : FuncData
  F_TooLong___init__ : Fun K "__init__" "TooLong.__init__" s_TooLong___init__ f_TooLong___init__ d_TooLong___init__
  b_TooLong___init__ : Binds K d_TooLong___init__ ["self", "bits"] []
  f_NoSeries___init__ : Addr
  d_NoSeries___init__ : FuncData
  F_NoSeries___init__ : Fun K "__init__" "NoSeries.__init__" s_NoSeries___init__ f_NoSeries___init__ d_NoSeries___init__
  b_NoSeries___init__ : Binds K d_NoSeries___init__ ["self", "why", "numbers"] []
  f_NoParts___init__ : Addr
  d_NoParts___init__ : FuncData
  F_NoParts___init__ : Fun K "__init__" "NoParts.__init__" s_NoParts___init__ f_NoParts___init__ d_NoParts___init__
  b_NoParts___init__ : Binds K d_NoParts___init__ ["self", "which", "index"] []
  f_NoFormat___init__ : Addr
  d_NoFormat___init__ : FuncData
  F_NoFormat___init__ : Fun K "__init__" "NoFormat.__init__" s_NoFormat___init__ f_NoFormat___init__ d_NoFormat___init__
  b_NoFormat___init__ : Binds K d_NoFormat___init__ ["self", "part"] []
  f_NoStain___init__ : Addr
  d_NoStain___init__ : FuncData
  F_NoStain___init__ : Fun K "__init__" "NoStain.__init__" s_NoStain___init__ f_NoStain___init__ d_NoStain___init__
  b_NoStain___init__ : Binds K d_NoStain___init__ ["self", "part", "index"] []
  f_NoKind___init__ : Addr
  d_NoKind___init__ : FuncData
  F_NoKind___init__ : Fun K "__init__" "NoKind.__init__" s_NoKind___init__ f_NoKind___init__ d_NoKind___init__
  b_NoKind___init__ : Binds K d_NoKind___init__ ["self", "kind"] []
  f_NoPaper___init__ : Addr
  d_NoPaper___init__ : FuncData
  F_NoPaper___init__ : Fun K "__init__" "NoPaper.__init__" s_NoPaper___init__ f_NoPaper___init__ d_NoPaper___init__
  b_NoPaper___init__ : Binds K d_NoPaper___init__ ["self", "part"] []
  f_Unmended___init__ : Addr
  d_Unmended___init__ : FuncData
  F_Unmended___init__ : Fun K "__init__" "Unmended.__init__" s_Unmended___init__ f_Unmended___init__ d_Unmended___init__
  b_Unmended___init__ : Binds K d_Unmended___init__ ["self", "part", "index"] []
  f_NoPose___init__ : Addr
  d_NoPose___init__ : FuncData
  F_NoPose___init__ : Fun K "__init__" "NoPose.__init__" s_NoPose___init__ f_NoPose___init__ d_NoPose___init__
  b_NoPose___init__ : Binds K d_NoPose___init__ ["self", "pose"] []
  f_NoPlace___init__ : Addr
  d_NoPlace___init__ : FuncData
  F_NoPlace___init__ : Fun K "__init__" "NoPlace.__init__" s_NoPlace___init__ f_NoPlace___init__ d_NoPlace___init__
  b_NoPlace___init__ : Binds K d_NoPlace___init__ ["self", "place"] []
  f__law_draw : Addr
  d__law_draw : FuncData
  F__law_draw : Fun K "_law_draw" "_law_draw" s__law_draw f__law_draw d__law_draw
  g__law_draw : mg "_law_draw" = some (.ref f__law_draw)
  b__law_draw : Binds K d__law_draw ["_law_well", "_law_many"] []
  f__law_one : Addr
  d__law_one : FuncData
  F__law_one : Fun K "_law_one" "_law_one" s__law_one f__law_one d__law_one
  g__law_one : mg "_law_one" = some (.ref f__law_one)
  b__law_one : Binds K d__law_one ["_law_well", "_law_some"] []
  f__law_taken : Addr
  d__law_taken : FuncData
  F__law_taken : Fun K "_law_taken" "_law_taken" s__law_taken f__law_taken d__law_taken
  g__law_taken : mg "_law_taken" = some (.ref f__law_taken)
  b__law_taken : Binds K d__law_taken ["_law_e"] []
  f__law_by_place : Addr
  d__law_by_place : FuncData
  F__law_by_place : Fun K "_law_by_place" "_law_by_place" s__law_by_place f__law_by_place d__law_by_place
  g__law_by_place : mg "_law_by_place" = some (.ref f__law_by_place)
  b__law_by_place : Binds K d__law_by_place ["_law_x"] []
  f__law_by_name : Addr
  d__law_by_name : FuncData
  F__law_by_name : Fun K "_law_by_name" "_law_by_name" s__law_by_name f__law_by_name d__law_by_name
  g__law_by_name : mg "_law_by_name" = some (.ref f__law_by_name)
  b__law_by_name : Binds K d__law_by_name ["_law_x"] []
  f__law_fields : Addr
  d__law_fields : FuncData
  F__law_fields : Fun K "_law_fields" "_law_fields" s__law_fields f__law_fields d__law_fields
  g__law_fields : mg "_law_fields" = some (.ref f__law_fields)
  b__law_fields : Binds K d__law_fields ["_law_some"] []
  f__law_right : Addr
  d__law_right : FuncData
  F__law_right : Fun K "_law_right" "_law_right" s__law_right f__law_right d__law_right
  g__law_right : mg "_law_right" = some (.ref f__law_right)
  b__law_right : Binds K d__law_right ["_law_well"] []
  f_law : Addr
  d_law : FuncData
  F_law : Fun K "law" "law" s_law f_law d_law
  g_law : mg "law" = some (.ref f_law)
  b_law : Binds K d_law ["_law_script"] []
  C_QuiltError : Addr
  g_QuiltError : mg "QuiltError" = some (.ref C_QuiltError)
  C_NoField : Addr
  g_NoField : mg "NoField" = some (.ref C_NoField)
  e_NoField : ExcT K C_NoField f_NoField___init__
  nf_NoField_bits : PySem.W.findIn K (.ref C_NoField) "bits" = some none
  k_NoField___init__ : ∀ (s : Shared) (self : Value) (ws : List Value), K.In s.heap → ws.length = 1 → BindsTo s d_NoField___init__ ⟨[self], (["bits"] : List Str).zip ws⟩ ((["self", "bits"] : List Str).zip (self :: (fun l => l) ws))
  C_NoWord : Addr
  g_NoWord : mg "NoWord" = some (.ref C_NoWord)
  e_NoWord : ExcT K C_NoWord f_NoWord___init__
  nf_NoWord_part : PySem.W.findIn K (.ref C_NoWord) "part" = some none
  nf_NoWord_index : PySem.W.findIn K (.ref C_NoWord) "index" = some none
  k_NoWord___init__ : ∀ (s : Shared) (self : Value) (ws : List Value), K.In s.heap → ws.length = 2 → BindsTo s d_NoWord___init__ ⟨[self], (["index", "part"] : List Str).zip ws⟩ ((["self", "part", "index"] : List Str).zip (self :: rev2 ws))
  C_NoSize : Addr
  g_NoSize : mg "NoSize" = some (.ref C_NoSize)
  e_NoSize : ExcT K C_NoSize f_NoSize___init__
  nf_NoSize_size : PySem.W.findIn K (.ref C_NoSize) "size" = some none
  k_NoSize___init__ : ∀ (s : Shared) (self : Value) (ws : List Value), K.In s.heap → ws.length = 1 → BindsTo s d_NoSize___init__ ⟨[self], (["size"] : List Str).zip ws⟩ ((["self", "size"] : List Str).zip (self :: (fun l => l) ws))
  C_NoLevel : Addr
  g_NoLevel : mg "NoLevel" = some (.ref C_NoLevel)
  e_NoLevel : ExcT K C_NoLevel f_NoLevel___init__
  nf_NoLevel_level : PySem.W.findIn K (.ref C_NoLevel) "level" = some none
  k_NoLevel___init__ : ∀ (s : Shared) (self : Value) (ws : List Value), K.In s.heap → ws.length = 1 → BindsTo s d_NoLevel___init__ ⟨[self], (["level"] : List Str).zip ws⟩ ((["self", "level"] : List Str).zip (self :: (fun l => l) ws))
  C_NoMask : Addr
  g_NoMask : mg "NoMask" = some (.ref C_NoMask)
  e_NoMask : ExcT K C_NoMask f_NoMask___init__
  nf_NoMask_mask : PySem.W.findIn K (.ref C_NoMask) "mask" = some none
  k_NoMask___init__ : ∀ (s : Shared) (self : Value) (ws : List Value), K.In s.heap → ws.length = 1 → BindsTo s d_NoMask___init__ ⟨[self], (["mask"] : List Str).zip ws⟩ ((["self", "mask"] : List Str).zip (self :: (fun l => l) ws))
  C_NoDot : Addr
  g_NoDot : mg "NoDot" = some (.ref C_NoDot)
  e_NoDot : ExcT K C_NoDot f_NoDot___init__
  nf_NoDot_dot : PySem.W.findIn K (.ref C_NoDot) "dot" = some none
  k_NoDot___init__ : ∀ (s : Shared) (self : Value) (ws : List Value), K.In s.heap → ws.length = 1 → BindsTo s d_NoDot___init__ ⟨[self], (["dot"] : List Str).zip ws⟩ ((["self", "dot"] : List Str).zip (self :: (fun l => l) ws))
  C_NoIndex : Addr
  g_NoIndex : mg "NoIndex" = some (.ref C_NoIndex)
  e_NoIndex : ExcT K C_NoIndex f_NoIndex___init__
  nf_NoIndex_index : PySem.W.findIn K (.ref C_NoIndex) "index" = some none
  k_NoIndex___init__ : ∀ (s : Shared) (self : Value) (ws : List Value), K.In s.heap → ws.length = 1 → BindsTo s d_NoIndex___init__ ⟨[self], (["index"] : List Str).zip ws⟩ ((["self", "index"] : List Str).zip (self :: (fun l => l) ws))
  C_NoWords : Addr
  g_NoWords : mg "NoWords" = some (.ref C_NoWords)
  e_NoWords : ExcT K C_NoWords f_NoWords___init__
  nf_NoWords_index : PySem.W.findIn K (.ref C_NoWords) "index" = some none
  k_NoWords___init__ : ∀ (s : Shared) (self : Value) (ws : List Value), K.In s.heap → ws.length = 1 → BindsTo s d_NoWords___init__ ⟨[self], (["index"] : List Str).zip ws⟩ ((["self", "index"] : List Str).zip (self :: (fun l => l) ws))
  C_NoBlock : Addr
  g_NoBlock : mg "NoBlock" = some (.ref C_NoBlock)
  e_NoBlock : ExcT K C_NoBlock f_NoBlock___init__
  nf_NoBlock_block : PySem.W.findIn K (.ref C_NoBlock) "block" = some none
  nf_NoBlock_index : PySem.W.findIn K (.ref C_NoBlock) "index" = some none
  k_NoBlock___init__ : ∀ (s : Shared) (self : Value) (ws : List Value), K.In s.heap → ws.length = 2 → BindsTo s d_NoBlock___init__ ⟨[self], (["index", "block"] : List Str).zip ws⟩ ((["self", "block", "index"] : List Str).zip (self :: rev2 ws))
  C_NoGrid : Addr
  g_NoGrid : mg "NoGrid" = some (.ref C_NoGrid)
  e_NoGrid : ExcT K C_NoGrid f_NoGrid___init__
  nf_NoGrid_row : PySem.W.findIn K (.ref C_NoGrid) "row" = some none
  nf_NoGrid_column : PySem.W.findIn K (.ref C_NoGrid) "column" = some none
  k_NoGrid___init__ : ∀ (s : Shared) (self : Value) (ws : List Value), K.In s.heap → ws.length = 2 → BindsTo s d_NoGrid___init__ ⟨[self], (["column", "row"] : List Str).zip ws⟩ ((["self", "row", "column"] : List Str).zip (self :: rev2 ws))
  C_NoCode : Addr
  g_NoCode : mg "NoCode" = some (.ref C_NoCode)
  e_NoCode : ExcT K C_NoCode f_NoCode___init__
  nf_NoCode_code : PySem.W.findIn K (.ref C_NoCode) "code" = some none
  k_NoCode___init__ : ∀ (s : Shared) (self : Value) (ws : List Value), K.In s.heap → ws.length = 1 → BindsTo s d_NoCode___init__ ⟨[self], (["code"] : List Str).zip ws⟩ ((["self", "code"] : List Str).zip (self :: (fun l => l) ws))
  C_NoNumber : Addr
  g_NoNumber : mg "NoNumber" = some (.ref C_NoNumber)
  e_NoNumber : ExcT K C_NoNumber f_NoNumber___init__
  nf_NoNumber_part : PySem.W.findIn K (.ref C_NoNumber) "part" = some none
  k_NoNumber___init__ : ∀ (s : Shared) (self : Value) (ws : List Value), K.In s.heap → ws.length = 1 → BindsTo s d_NoNumber___init__ ⟨[self], (["part"] : List Str).zip ws⟩ ((["self", "part"] : List Str).zip (self :: (fun l => l) ws))
  C_TooLarge : Addr
  g_TooLarge : mg "TooLarge" = some (.ref C_TooLarge)
  e_TooLarge : ExcT K C_TooLarge f_TooLarge___init__
  nf_TooLarge_limit : PySem.W.findIn K (.ref C_TooLarge) "limit" = some none
  k_TooLarge___init__ : ∀ (s : Shared) (self : Value) (ws : List Value), K.In s.heap → ws.length = 1 → BindsTo s d_TooLarge___init__ ⟨[self], (["limit"] : List Str).zip ws⟩ ((["self", "limit"] : List Str).zip (self :: (fun l => l) ws))
  C_NoWish : Addr
  g_NoWish : mg "NoWish" = some (.ref C_NoWish)
  e_NoWish : ExcT K C_NoWish f_NoWish___init__
  nf_NoWish_dot : PySem.W.findIn K (.ref C_NoWish) "dot" = some none
  k_NoWish___init__ : ∀ (s : Shared) (self : Value) (ws : List Value), K.In s.heap → ws.length = 1 → BindsTo s d_NoWish___init__ ⟨[self], (["dot"] : List Str).zip ws⟩ ((["self", "dot"] : List Str).zip (self :: (fun l => l) ws))
  C_NoDots : Addr
  g_NoDots : mg "NoDots" = some (.ref C_NoDots)
  e_NoDots : ExcT K C_NoDots f_NoDots___init__
  nf_NoDots_index : PySem.W.findIn K (.ref C_NoDots) "index" = some none
  k_NoDots___init__ : ∀ (s : Shared) (self : Value) (ws : List Value), K.In s.heap → ws.length = 1 → BindsTo s d_NoDots___init__ ⟨[self], (["index"] : List Str).zip ws⟩ ((["self", "index"] : List Str).zip (self :: (fun l => l) ws))
  C_NoPattern : Addr
  g_NoPattern : mg "NoPattern" = some (.ref C_NoPattern)
  e_NoPattern : ExcT K C_NoPattern f_NoPattern___init__
  nf_NoPattern_index : PySem.W.findIn K (.ref C_NoPattern) "index" = some none
  k_NoPattern___init__ : ∀ (s : Shared) (self : Value) (ws : List Value), K.In s.heap → ws.length = 1 → BindsTo s d_NoPattern___init__ ⟨[self], (["index"] : List Str).zip ws⟩ ((["self", "index"] : List Str).zip (self :: (fun l => l) ws))
  C_NoAnswer : Addr
  g_NoAnswer : mg "NoAnswer" = some (.ref C_NoAnswer)
  e_NoAnswer : ExcT K C_NoAnswer f_NoAnswer___init__
  nf_NoAnswer_part : PySem.W.findIn K (.ref C_NoAnswer) "part" = some none
  nf_NoAnswer_index : PySem.W.findIn K (.ref C_NoAnswer) "index" = some none
  k_NoAnswer___init__ : ∀ (s : Shared) (self : Value) (ws : List Value), K.In s.heap → ws.length = 2 → BindsTo s d_NoAnswer___init__ ⟨[self], (["index", "part"] : List Str).zip ws⟩ ((["self", "part", "index"] : List Str).zip (self :: rev2 ws))
  C_NoPicture : Addr
  g_NoPicture : mg "NoPicture" = some (.ref C_NoPicture)
  e_NoPicture : ExcT K C_NoPicture f_NoPicture___init__
  nf_NoPicture_line : PySem.W.findIn K (.ref C_NoPicture) "line" = some none
  k_NoPicture___init__ : ∀ (s : Shared) (self : Value) (ws : List Value), K.In s.heap → ws.length = 1 → BindsTo s d_NoPicture___init__ ⟨[self], (["line"] : List Str).zip ws⟩ ((["self", "line"] : List Str).zip (self :: (fun l => l) ws))
  C_NoChange : Addr
  g_NoChange : mg "NoChange" = some (.ref C_NoChange)
  e_NoChange : ExcT K C_NoChange f_NoChange___init__
  nf_NoChange_word : PySem.W.findIn K (.ref C_NoChange) "word" = some none
  k_NoChange___init__ : ∀ (s : Shared) (self : Value) (ws : List Value), K.In s.heap → ws.length = 1 → BindsTo s d_NoChange___init__ ⟨[self], (["word"] : List Str).zip ws⟩ ((["self", "word"] : List Str).zip (self :: (fun l => l) ws))
  C_NoText : Addr
  g_NoText : mg "NoText" = some (.ref C_NoText)
  e_NoText : ExcT K C_NoText f_NoText___init__
  nf_NoText_index : PySem.W.findIn K (.ref C_NoText) "index" = some none
  k_NoText___init__ : ∀ (s : Shared) (self : Value) (ws : List Value), K.In s.heap → ws.length = 1 → BindsTo s d_NoText___init__ ⟨[self], (["index"] : List Str).zip ws⟩ ((["self", "index"] : List Str).zip (self :: (fun l => l) ws))
  C_NoPieces : Addr
  g_NoPieces : mg "NoPieces" = some (.ref C_NoPieces)
  e_NoPieces : ExcT K C_NoPieces f_NoPieces___init__
  nf_NoPieces_index : PySem.W.findIn K (.ref C_NoPieces) "index" = some none
  k_NoPieces___init__ : ∀ (s : Shared) (self : Value) (ws : List Value), K.In s.heap → ws.length = 1 → BindsTo s d_NoPieces___init__ ⟨[self], (["index"] : List Str).zip ws⟩ ((["self", "index"] : List Str).zip (self :: (fun l => l) ws))
  C_NoBits : Addr
  g_NoBits : mg "NoBits" = some (.ref C_NoBits)
  e_NoBits : ExcT K C_NoBits f_NoBits___init__
  nf_NoBits_index : PySem.W.findIn K (.ref C_NoBits) "index" = some none
  k_NoBits___init__ : ∀ (s : Shared) (self : Value) (ws : List Value), K.In s.heap → ws.length = 1 → BindsTo s d_NoBits___init__ ⟨[self], (["index"] : List Str).zip ws⟩ ((["self", "index"] : List Str).zip (self :: (fun l => l) ws))
  C_Unread : Addr
  g_Unread : mg "Unread" = some (.ref C_Unread)
  e_Unread : ExcT K C_Unread f_Unread___init__
  nf_Unread_at : PySem.W.findIn K (.ref C_Unread) "at" = some none
  nf_Unread_why : PySem.W.findIn K (.ref C_Unread) "why" = some none
  k_Unread___init__ : ∀ (s : Shared) (self : Value) (ws : List Value), K.In s.heap → ws.length = 2 → BindsTo s d_Unread___init__ ⟨[self], (["why", "at"] : List Str).zip ws⟩ ((["self", "at", "why"] : List Str).zip (self :: rev2 ws))
  C_TooLong : Addr
  g_TooLong : mg "TooLong" = some (.ref C_TooLong)
  e_TooLong : ExcT K C_TooLong f_TooLong___init__
  nf_TooLong_bits : PySem.W.findIn K (.ref C_TooLong) "bits" = some none
  k_TooLong___init__ : ∀ (s : Shared) (self : Value) (ws : List Value), K.In s.heap → ws.length = 1 → BindsTo s d_TooLong___init__ ⟨[self], (["bits"] : List Str).zip ws⟩ ((["self", "bits"] : List Str).zip (self :: (fun l => l) ws))
  C_NoSeries : Addr
  g_NoSeries : mg "NoSeries" = some (.ref C_NoSeries)
  e_NoSeries : ExcT K C_NoSeries f_NoSeries___init__
  nf_NoSeries_why : PySem.W.findIn K (.ref C_NoSeries) "why" = some none
  nf_NoSeries_numbers : PySem.W.findIn K (.ref C_NoSeries) "numbers" = some none
  k_NoSeries___init__ : ∀ (s : Shared) (self : Value) (ws : List Value), K.In s.heap → ws.length = 2 → BindsTo s d_NoSeries___init__ ⟨[self], (["numbers", "why"] : List Str).zip ws⟩ ((["self", "why", "numbers"] : List Str).zip (self :: rev2 ws))
  C_NoParts : Addr
  g_NoParts : mg "NoParts" = some (.ref C_NoParts)
  e_NoParts : ExcT K C_NoParts f_NoParts___init__
  nf_NoParts_which : PySem.W.findIn K (.ref C_NoParts) "which" = some none
  nf_NoParts_index : PySem.W.findIn K (.ref C_NoParts) "index" = some none
  k_NoParts___init__ : ∀ (s : Shared) (self : Value) (ws : List Value), K.In s.heap → ws.length = 2 → BindsTo s d_NoParts___init__ ⟨[self], (["index", "which"] : List Str).zip ws⟩ ((["self", "which", "index"] : List Str).zip (self :: rev2 ws))
  C_NoFormat : Addr
  g_NoFormat : mg "NoFormat" = some (.ref C_NoFormat)
  e_NoFormat : ExcT K C_NoFormat f_NoFormat___init__
  nf_NoFormat_part : PySem.W.findIn K (.ref C_NoFormat) "part" = some none
  k_NoFormat___init__ : ∀ (s : Shared) (self : Value) (ws : List Value), K.In s.heap → ws.length = 1 → BindsTo s d_NoFormat___init__ ⟨[self], (["part"] : List Str).zip ws⟩ ((["self", "part"] : List Str).zip (self :: (fun l => l) ws))
  C_NoStain : Addr
  g_NoStain : mg "NoStain" = some (.ref C_NoStain)
  e_NoStain : ExcT K C_NoStain f_NoStain___init__
  nf_NoStain_part : PySem.W.findIn K (.ref C_NoStain) "part" = some none
  nf_NoStain_index : PySem.W.findIn K (.ref C_NoStain) "index" = some none
  k_NoStain___init__ : ∀ (s : Shared) (self : Value) (ws : List Value), K.In s.heap → ws.length = 2 → BindsTo s d_NoStain___init__ ⟨[self], (["index", "part"] : List Str).zip ws⟩ ((["self", "part", "index"] : List Str).zip (self :: rev2 ws))
  C_NoKind : Addr
  g_NoKind : mg "NoKind" = some (.ref C_NoKind)
  e_NoKind : ExcT K C_NoKind f_NoKind___init__
  nf_NoKind_kind : PySem.W.findIn K (.ref C_NoKind) "kind" = some none
  k_NoKind___init__ : ∀ (s : Shared) (self : Value) (ws : List Value), K.In s.heap → ws.length = 1 → BindsTo s d_NoKind___init__ ⟨[self], (["kind"] : List Str).zip ws⟩ ((["self", "kind"] : List Str).zip (self :: (fun l => l) ws))
  C_NoPaper : Addr
  g_NoPaper : mg "NoPaper" = some (.ref C_NoPaper)
  e_NoPaper : ExcT K C_NoPaper f_NoPaper___init__
  nf_NoPaper_part : PySem.W.findIn K (.ref C_NoPaper) "part" = some none
  k_NoPaper___init__ : ∀ (s : Shared) (self : Value) (ws : List Value), K.In s.heap → ws.length = 1 → BindsTo s d_NoPaper___init__ ⟨[self], (["part"] : List Str).zip ws⟩ ((["self", "part"] : List Str).zip (self :: (fun l => l) ws))
  C_Unmended : Addr
  g_Unmended : mg "Unmended" = some (.ref C_Unmended)
  e_Unmended : ExcT K C_Unmended f_Unmended___init__
  nf_Unmended_part : PySem.W.findIn K (.ref C_Unmended) "part" = some none
  nf_Unmended_index : PySem.W.findIn K (.ref C_Unmended) "index" = some none
  k_Unmended___init__ : ∀ (s : Shared) (self : Value) (ws : List Value), K.In s.heap → ws.length = 2 → BindsTo s d_Unmended___init__ ⟨[self], (["index", "part"] : List Str).zip ws⟩ ((["self", "part", "index"] : List Str).zip (self :: rev2 ws))
  C_NoPose : Addr
  g_NoPose : mg "NoPose" = some (.ref C_NoPose)
  e_NoPose : ExcT K C_NoPose f_NoPose___init__
  nf_NoPose_pose : PySem.W.findIn K (.ref C_NoPose) "pose" = some none
  k_NoPose___init__ : ∀ (s : Shared) (self : Value) (ws : List Value), K.In s.heap → ws.length = 1 → BindsTo s d_NoPose___init__ ⟨[self], (["pose"] : List Str).zip ws⟩ ((["self", "pose"] : List Str).zip (self :: (fun l => l) ws))
  C_NoPlace : Addr
  g_NoPlace : mg "NoPlace" = some (.ref C_NoPlace)
  e_NoPlace : ExcT K C_NoPlace f_NoPlace___init__
  nf_NoPlace_place : PySem.W.findIn K (.ref C_NoPlace) "place" = some none
  k_NoPlace___init__ : ∀ (s : Shared) (self : Value) (ws : List Value), K.In s.heap → ws.length = 1 → BindsTo s d_NoPlace___init__ ⟨[self], (["place"] : List Str).zip ws⟩ ((["self", "place"] : List Str).zip (self :: (fun l => l) ws))
  kt : kitTab K [C_NoField, C_NoWord, C_NoSize, C_NoLevel, C_NoMask, C_NoDot, C_NoIndex, C_NoWords, C_NoBlock, C_NoGrid, C_NoCode, C_NoNumber, C_TooLarge, C_NoWish, C_NoDots, C_NoPattern, C_NoAnswer, C_NoPicture, C_NoChange, C_NoText, C_NoPieces, C_NoBits, C_Unread, C_TooLong, C_NoSeries, C_NoParts, C_NoFormat, C_NoStain, C_NoKind, C_NoPaper, C_Unmended, C_NoPose, C_NoPlace] C_QuiltError = true
  n_ValueError : mg "ValueError" = none
  n_enumerate : mg "enumerate" = none
  n_int : mg "int" = none
  n_isinstance : mg "isinstance" = none
  n_len : mg "len" = none
  n_range : mg "range" = none
section
variable {P : Program} {w : World} {K : PySem.W.Frag} {mg : Str → Option Value} {base : Heap}
/-! ### the program's defs -/
theorem ok_NoField___init__ (T : Txt K mg) : FnOk P w K mg base CX0 1 T.f_NoField___init__ T.d_NoField___init__ ["self", "bits"] (sp_x1 T.C_NoField "bits") := by
  refine T.F_NoField___init__.ok sc_NoField___init__ (fun vs H Q E h => ?_) (fun cdv A outer s H vs Q E hr h => ?_)
  · obtain ⟨a, x, rfl, _⟩ := h
    rfl
  · obtain ⟨a, x, rfl, ha, q⟩ := h
    refine ⟨_, (pss_one (ps_ost (pv 0) (pv 1))), ?_⟩
    exact ⟨_, rfl, _, rfl, a, T.C_NoField, rfl, T.e_NoField.o, T.nf_NoField_bits, .inl ⟨ha, fun d hd ne => q _ (mk1 hd ne)⟩⟩
theorem ok_NoWord___init__ (T : Txt K mg) : FnOk P w K mg base CX0 1 T.f_NoWord___init__ T.d_NoWord___init__ ["self", "part", "index"] (sp_x2 T.C_NoWord "part" "index") := by
  refine T.F_NoWord___init__.ok sc_NoWord___init__ (fun vs H Q E h => ?_) (fun cdv A outer s H vs Q E hr h => ?_)
  · obtain ⟨a, x, y, rfl, _⟩ := h
    rfl
  · obtain ⟨a, x, y, rfl, ha, q⟩ := h
    refine ⟨_, (pss_cons (ps_ost (pv 0) (pv 1))
      (pss_one (ps_ost (pv 0) (pv 2)))), ?_⟩
    refine ⟨_, rfl, _, rfl, a, T.C_NoWord, rfl, T.e_NoWord.o, T.nf_NoWord_part, .inl ⟨ha, fun d hd ne => ?_⟩⟩
    exact ⟨_, rfl, _, rfl, a, T.C_NoWord, rfl, T.e_NoWord.o, T.nf_NoWord_index, .inr ⟨d, _, upd_same, by rw [upd_ne ne, upd_same], Nat.le_of_ble_eq_true rfl, q _ (mk2 hd ne)⟩⟩
theorem ok_NoSize___init__ (T : Txt K mg) : FnOk P w K mg base CX0 1 T.f_NoSize___init__ T.d_NoSize___init__ ["self", "size"] (sp_x1 T.C_NoSize "size") := by
  refine T.F_NoSize___init__.ok sc_NoSize___init__ (fun vs H Q E h => ?_) (fun cdv A outer s H vs Q E hr h => ?_)
  · obtain ⟨a, x, rfl, _⟩ := h
    rfl
  · obtain ⟨a, x, rfl, ha, q⟩ := h
    refine ⟨_, (pss_one (ps_ost (pv 0) (pv 1))), ?_⟩
    exact ⟨_, rfl, _, rfl, a, T.C_NoSize, rfl, T.e_NoSize.o, T.nf_NoSize_size, .inl ⟨ha, fun d hd ne => q _ (mk1 hd ne)⟩⟩
theorem ok_NoLevel___init__ (T : Txt K mg) : FnOk P w K mg base CX0 1 T.f_NoLevel___init__ T.d_NoLevel___init__ ["self", "level"] (sp_x1 T.C_NoLevel "level") := by
  refine T.F_NoLevel___init__.ok sc_NoLevel___init__ (fun vs H Q E h => ?_) (fun cdv A outer s H vs Q E hr h => ?_)
  · obtain ⟨a, x, rfl, _⟩ := h
    rfl
  · obtain ⟨a, x, rfl, ha, q⟩ := h
    refine ⟨_, (pss_one (ps_ost (pv 0) (pv 1))), ?_⟩
    exact ⟨_, rfl, _, rfl, a, T.C_NoLevel, rfl, T.e_NoLevel.o, T.nf_NoLevel_level, .inl ⟨ha, fun d hd ne => q _ (mk1 hd ne)⟩⟩
theorem ok_NoMask___init__ (T : Txt K mg) : FnOk P w K mg base CX0 1 T.f_NoMask___init__ T.d_NoMask___init__ ["self", "mask"] (sp_x1 T.C_NoMask "mask") := by
  refine T.F_NoMask___init__.ok sc_NoMask___init__ (fun vs H Q E h => ?_) (fun cdv A outer s H vs Q E hr h => ?_)
  · obtain ⟨a, x, rfl, _⟩ := h
    rfl
  · obtain ⟨a, x, rfl, ha, q⟩ := h
    refine ⟨_, (pss_one (ps_ost (pv 0) (pv 1))), ?_⟩
    exact ⟨_, rfl, _, rfl, a, T.C_NoMask, rfl, T.e_NoMask.o, T.nf_NoMask_mask, .inl ⟨ha, fun d hd ne => q _ (mk1 hd ne)⟩⟩
theorem ok_NoDot___init__ (T : Txt K mg) : FnOk P w K mg base CX0 1 T.f_NoDot___init__ T.d_NoDot___init__ ["self", "dot"] (sp_x1 T.C_NoDot "dot") := by
  refine T.F_NoDot___init__.ok sc_NoDot___init__ (fun vs H Q E h => ?_) (fun cdv A outer s H vs Q E hr h => ?_)
  · obtain ⟨a, x, rfl, _⟩ := h
    rfl
  · obtain ⟨a, x, rfl, ha, q⟩ := h
    refine ⟨_, (pss_one (ps_ost (pv 0) (pv 1))), ?_⟩
    exact ⟨_, rfl, _, rfl, a, T.C_NoDot, rfl, T.e_NoDot.o, T.nf_NoDot_dot, .inl ⟨ha, fun d hd ne => q _ (mk1 hd ne)⟩⟩
theorem ok_NoIndex___init__ (T : Txt K mg) : FnOk P w K mg base CX0 1 T.f_NoIndex___init__ T.d_NoIndex___init__ ["self", "index"] (sp_x1 T.C_NoIndex "index") := by
  refine T.F_NoIndex___init__.ok sc_NoIndex___init__ (fun vs H Q E h => ?_) (fun cdv A outer s H vs Q E hr h => ?_)
  · obtain ⟨a, x, rfl, _⟩ := h
    rfl
  · obtain ⟨a, x, rfl, ha, q⟩ := h
    refine ⟨_, (pss_one (ps_ost (pv 0) (pv 1))), ?_⟩
    exact ⟨_, rfl, _, rfl, a, T.C_NoIndex, rfl, T.e_NoIndex.o, T.nf_NoIndex_index, .inl ⟨ha, fun d hd ne => q _ (mk1 hd ne)⟩⟩
theorem ok_NoWords___init__ (T : Txt K mg) : FnOk P w K mg base CX0 1 T.f_NoWords___init__ T.d_NoWords___init__ ["self", "index"] (sp_x1 T.C_NoWords "index") := by
  refine T.F_NoWords___init__.ok sc_NoWords___init__ (fun vs H Q E h => ?_) (fun cdv A outer s H vs Q E hr h => ?_)
  · obtain ⟨a, x, rfl, _⟩ := h
    rfl
  · obtain ⟨a, x, rfl, ha, q⟩ := h
    refine ⟨_, (pss_one (ps_ost (pv 0) (pv 1))), ?_⟩
    exact ⟨_, rfl, _, rfl, a, T.C_NoWords, rfl, T.e_NoWords.o, T.nf_NoWords_index, .inl ⟨ha, fun d hd ne => q _ (mk1 hd ne)⟩⟩
theorem ok_NoBlock___init__ (T : Txt K mg) : FnOk P w K mg base CX0 1 T.f_NoBlock___init__ T.d_NoBlock___init__ ["self", "block", "index"] (sp_x2 T.C_NoBlock "block" "index") := by
  refine T.F_NoBlock___init__.ok sc_NoBlock___init__ (fun vs H Q E h => ?_) (fun cdv A outer s H vs Q E hr h => ?_)
  · obtain ⟨a, x, y, rfl, _⟩ := h
    rfl
  · obtain ⟨a, x, y, rfl, ha, q⟩ := h
    refine ⟨_, (pss_cons (ps_ost (pv 0) (pv 1))
      (pss_one (ps_ost (pv 0) (pv 2)))), ?_⟩
    refine ⟨_, rfl, _, rfl, a, T.C_NoBlock, rfl, T.e_NoBlock.o, T.nf_NoBlock_block, .inl ⟨ha, fun d hd ne => ?_⟩⟩
    exact ⟨_, rfl, _, rfl, a, T.C_NoBlock, rfl, T.e_NoBlock.o, T.nf_NoBlock_index, .inr ⟨d, _, upd_same, by rw [upd_ne ne, upd_same], Nat.le_of_ble_eq_true rfl, q _ (mk2 hd ne)⟩⟩
theorem ok_NoGrid___init__ (T : Txt K mg) : FnOk P w K mg base CX0 1 T.f_NoGrid___init__ T.d_NoGrid___init__ ["self", "row", "column"] (sp_x2 T.C_NoGrid "row" "column") := by
  refine T.F_NoGrid___init__.ok sc_NoGrid___init__ (fun vs H Q E h => ?_) (fun cdv A outer s H vs Q E hr h => ?_)
  · obtain ⟨a, x, y, rfl, _⟩ := h
    rfl
  · obtain ⟨a, x, y, rfl, ha, q⟩ := h
    refine ⟨_, (pss_cons (ps_ost (pv 0) (pv 1))
      (pss_one (ps_ost (pv 0) (pv 2)))), ?_⟩
    refine ⟨_, rfl, _, rfl, a, T.C_NoGrid, rfl, T.e_NoGrid.o, T.nf_NoGrid_row, .inl ⟨ha, fun d hd ne => ?_⟩⟩
    exact ⟨_, rfl, _, rfl, a, T.C_NoGrid, rfl, T.e_NoGrid.o, T.nf_NoGrid_column, .inr ⟨d, _, upd_same, by rw [upd_ne ne, upd_same], Nat.le_of_ble_eq_true rfl, q _ (mk2 hd ne)⟩⟩
theorem ok_NoCode___init__ (T : Txt K mg) : FnOk P w K mg base CX0 1 T.f_NoCode___init__ T.d_NoCode___init__ ["self", "code"] (sp_x1 T.C_NoCode "code") := by
  refine T.F_NoCode___init__.ok sc_NoCode___init__ (fun vs H Q E h => ?_) (fun cdv A outer s H vs Q E hr h => ?_)
  · obtain ⟨a, x, rfl, _⟩ := h
    rfl
  · obtain ⟨a, x, rfl, ha, q⟩ := h
    refine ⟨_, (pss_one (ps_ost (pv 0) (pv 1))), ?_⟩
    exact ⟨_, rfl, _, rfl, a, T.C_NoCode, rfl, T.e_NoCode.o, T.nf_NoCode_code, .inl ⟨ha, fun d hd ne => q _ (mk1 hd ne)⟩⟩
theorem ok_NoNumber___init__ (T : Txt K mg) : FnOk P w K mg base CX0 1 T.f_NoNumber___init__ T.d_NoNumber___init__ ["self", "part"] (sp_x1 T.C_NoNumber "part") := by
  refine T.F_NoNumber___init__.ok sc_NoNumber___init__ (fun vs H Q E h => ?_) (fun cdv A outer s H vs Q E hr h => ?_)
  · obtain ⟨a, x, rfl, _⟩ := h
    rfl
  · obtain ⟨a, x, rfl, ha, q⟩ := h
    refine ⟨_, (pss_one (ps_ost (pv 0) (pv 1))), ?_⟩
    exact ⟨_, rfl, _, rfl, a, T.C_NoNumber, rfl, T.e_NoNumber.o, T.nf_NoNumber_part, .inl ⟨ha, fun d hd ne => q _ (mk1 hd ne)⟩⟩
theorem ok_TooLarge___init__ (T : Txt K mg) : FnOk P w K mg base CX0 1 T.f_TooLarge___init__ T.d_TooLarge___init__ ["self", "limit"] (sp_x1 T.C_TooLarge "limit") := by
  refine T.F_TooLarge___init__.ok sc_TooLarge___init__ (fun vs H Q E h => ?_) (fun cdv A outer s H vs Q E hr h => ?_)
  · obtain ⟨a, x, rfl, _⟩ := h
    rfl
  · obtain ⟨a, x, rfl, ha, q⟩ := h
    refine ⟨_, (pss_one (ps_ost (pv 0) (pv 1))), ?_⟩
    exact ⟨_, rfl, _, rfl, a, T.C_TooLarge, rfl, T.e_TooLarge.o, T.nf_TooLarge_limit, .inl ⟨ha, fun d hd ne => q _ (mk1 hd ne)⟩⟩
theorem ok_NoWish___init__ (T : Txt K mg) : FnOk P w K mg base CX0 1 T.f_NoWish___init__ T.d_NoWish___init__ ["self", "dot"] (sp_x1 T.C_NoWish "dot") := by
  refine T.F_NoWish___init__.ok sc_NoWish___init__ (fun vs H Q E h => ?_) (fun cdv A outer s H vs Q E hr h => ?_)
  · obtain ⟨a, x, rfl, _⟩ := h
    rfl
  · obtain ⟨a, x, rfl, ha, q⟩ := h
    refine ⟨_, (pss_one (ps_ost (pv 0) (pv 1))), ?_⟩
    exact ⟨_, rfl, _, rfl, a, T.C_NoWish, rfl, T.e_NoWish.o, T.nf_NoWish_dot, .inl ⟨ha, fun d hd ne => q _ (mk1 hd ne)⟩⟩
theorem ok_NoDots___init__ (T : Txt K mg) : FnOk P w K mg base CX0 1 T.f_NoDots___init__ T.d_NoDots___init__ ["self", "index"] (sp_x1 T.C_NoDots "index") := by
  refine T.F_NoDots___init__.ok sc_NoDots___init__ (fun vs H Q E h => ?_) (fun cdv A outer s H vs Q E hr h => ?_)
  · obtain ⟨a, x, rfl, _⟩ := h
    rfl
  · obtain ⟨a, x, rfl, ha, q⟩ := h
    refine ⟨_, (pss_one (ps_ost (pv 0) (pv 1))), ?_⟩
    exact ⟨_, rfl, _, rfl, a, T.C_NoDots, rfl, T.e_NoDots.o, T.nf_NoDots_index, .inl ⟨ha, fun d hd ne => q _ (mk1 hd ne)⟩⟩
theorem ok_NoPattern___init__ (T : Txt K mg) : FnOk P w K mg base CX0 1 T.f_NoPattern___init__ T.d_NoPattern___init__ ["self", "index"] (sp_x1 T.C_NoPattern "index") := by
  refine T.F_NoPattern___init__.ok sc_NoPattern___init__ (fun vs H Q E h => ?_) (fun cdv A outer s H vs Q E hr h => ?_)
  · obtain ⟨a, x, rfl, _⟩ := h
    rfl
  · obtain ⟨a, x, rfl, ha, q⟩ := h
    refine ⟨_, (pss_one (ps_ost (pv 0) (pv 1))), ?_⟩
    exact ⟨_, rfl, _, rfl, a, T.C_NoPattern, rfl, T.e_NoPattern.o, T.nf_NoPattern_index, .inl ⟨ha, fun d hd ne => q _ (mk1 hd ne)⟩⟩
theorem ok_NoAnswer___init__ (T : Txt K mg) : FnOk P w K mg base CX0 1 T.f_NoAnswer___init__ T.d_NoAnswer___init__ ["self", "part", "index"] (sp_x2 T.C_NoAnswer "part" "index") := by
  refine T.F_NoAnswer___init__.ok sc_NoAnswer___init__ (fun vs H Q E h => ?_) (fun cdv A outer s H vs Q E hr h => ?_)
  · obtain ⟨a, x, y, rfl, _⟩ := h
    rfl
  · obtain ⟨a, x, y, rfl, ha, q⟩ := h
    refine ⟨_, (pss_cons (ps_ost (pv 0) (pv 1))
      (pss_one (ps_ost (pv 0) (pv 2)))), ?_⟩
    refine ⟨_, rfl, _, rfl, a, T.C_NoAnswer, rfl, T.e_NoAnswer.o, T.nf_NoAnswer_part, .inl ⟨ha, fun d hd ne => ?_⟩⟩
    exact ⟨_, rfl, _, rfl, a, T.C_NoAnswer, rfl, T.e_NoAnswer.o, T.nf_NoAnswer_index, .inr ⟨d, _, upd_same, by rw [upd_ne ne, upd_same], Nat.le_of_ble_eq_true rfl, q _ (mk2 hd ne)⟩⟩
theorem ok_NoPicture___init__ (T : Txt K mg) : FnOk P w K mg base CX0 1 T.f_NoPicture___init__ T.d_NoPicture___init__ ["self", "line"] (sp_x1 T.C_NoPicture "line") := by
  refine T.F_NoPicture___init__.ok sc_NoPicture___init__ (fun vs H Q E h => ?_) (fun cdv A outer s H vs Q E hr h => ?_)
  · obtain ⟨a, x, rfl, _⟩ := h
    rfl
  · obtain ⟨a, x, rfl, ha, q⟩ := h
    refine ⟨_, (pss_one (ps_ost (pv 0) (pv 1))), ?_⟩
    exact ⟨_, rfl, _, rfl, a, T.C_NoPicture, rfl, T.e_NoPicture.o, T.nf_NoPicture_line, .inl ⟨ha, fun d hd ne => q _ (mk1 hd ne)⟩⟩
theorem ok_NoChange___init__ (T : Txt K mg) : FnOk P w K mg base CX0 1 T.f_NoChange___init__ T.d_NoChange___init__ ["self", "word"] (sp_x1 T.C_NoChange "word") := by
  refine T.F_NoChange___init__.ok sc_NoChange___init__ (fun vs H Q E h => ?_) (fun cdv A outer s H vs Q E hr h => ?_)
  · obtain ⟨a, x, rfl, _⟩ := h
    rfl
  · obtain ⟨a, x, rfl, ha, q⟩ := h
    refine ⟨_, (pss_one (ps_ost (pv 0) (pv 1))), ?_⟩
    exact ⟨_, rfl, _, rfl, a, T.C_NoChange, rfl, T.e_NoChange.o, T.nf_NoChange_word, .inl ⟨ha, fun d hd ne => q _ (mk1 hd ne)⟩⟩
theorem ok_NoText___init__ (T : Txt K mg) : FnOk P w K mg base CX0 1 T.f_NoText___init__ T.d_NoText___init__ ["self", "index"] (sp_x1 T.C_NoText "index") := by
  refine T.F_NoText___init__.ok sc_NoText___init__ (fun vs H Q E h => ?_) (fun cdv A outer s H vs Q E hr h => ?_)
  · obtain ⟨a, x, rfl, _⟩ := h
    rfl
  · obtain ⟨a, x, rfl, ha, q⟩ := h
    refine ⟨_, (pss_one (ps_ost (pv 0) (pv 1))), ?_⟩
    exact ⟨_, rfl, _, rfl, a, T.C_NoText, rfl, T.e_NoText.o, T.nf_NoText_index, .inl ⟨ha, fun d hd ne => q _ (mk1 hd ne)⟩⟩
theorem ok_NoPieces___init__ (T : Txt K mg) : FnOk P w K mg base CX0 1 T.f_NoPieces___init__ T.d_NoPieces___init__ ["self", "index"] (sp_x1 T.C_NoPieces "index") := by
  refine T.F_NoPieces___init__.ok sc_NoPieces___init__ (fun vs H Q E h => ?_) (fun cdv A outer s H vs Q E hr h => ?_)
  · obtain ⟨a, x, rfl, _⟩ := h
    rfl
  · obtain ⟨a, x, rfl, ha, q⟩ := h
    refine ⟨_, (pss_one (ps_ost (pv 0) (pv 1))), ?_⟩
    exact ⟨_, rfl, _, rfl, a, T.C_NoPieces, rfl, T.e_NoPieces.o, T.nf_NoPieces_index, .inl ⟨ha, fun d hd ne => q _ (mk1 hd ne)⟩⟩
theorem ok_NoBits___init__ (T : Txt K mg) : FnOk P w K mg base CX0 1 T.f_NoBits___init__ T.d_NoBits___init__ ["self", "index"] (sp_x1 T.C_NoBits "index") := by
  refine T.F_NoBits___init__.ok sc_NoBits___init__ (fun vs H Q E h => ?_) (fun cdv A outer s H vs Q E hr h => ?_)
  · obtain ⟨a, x, rfl, _⟩ := h
    rfl
  · obtain ⟨a, x, rfl, ha, q⟩ := h
    refine ⟨_, (pss_one (ps_ost (pv 0) (pv 1))), ?_⟩
    exact ⟨_, rfl, _, rfl, a, T.C_NoBits, rfl, T.e_NoBits.o, T.nf_NoBits_index, .inl ⟨ha, fun d hd ne => q _ (mk1 hd ne)⟩⟩
theorem ok_Unread___init__ (T : Txt K mg) : FnOk P w K mg base CX0 1 T.f_Unread___init__ T.d_Unread___init__ ["self", "at", "why"] (sp_x2 T.C_Unread "at" "why") := by
  refine T.F_Unread___init__.ok sc_Unread___init__ (fun vs H Q E h => ?_) (fun cdv A outer s H vs Q E hr h => ?_)
  · obtain ⟨a, x, y, rfl, _⟩ := h
    rfl
  · obtain ⟨a, x, y, rfl, ha, q⟩ := h
    refine ⟨_, (pss_cons (ps_ost (pv 0) (pv 1))
      (pss_one (ps_ost (pv 0) (pv 2)))), ?_⟩
    refine ⟨_, rfl, _, rfl, a, T.C_Unread, rfl, T.e_Unread.o, T.nf_Unread_at, .inl ⟨ha, fun d hd ne => ?_⟩⟩
    exact ⟨_, rfl, _, rfl, a, T.C_Unread, rfl, T.e_Unread.o, T.nf_Unread_why, .inr ⟨d, _, upd_same, by rw [upd_ne ne, upd_same], Nat.le_of_ble_eq_true rfl, q _ (mk2 hd ne)⟩⟩
theorem ok_TooLong___init__ (T : Txt K mg) : FnOk P w K mg base CX0 1 T.f_TooLong___init__ T.d_TooLong___init__ ["self", "bits"] (sp_x1 T.C_TooLong "bits") := by
  refine T.F_TooLong___init__.ok sc_TooLong___init__ (fun vs H Q E h => ?_) (fun cdv A outer s H vs Q E hr h => ?_)
  · obtain ⟨a, x, rfl, _⟩ := h
    rfl
  · obtain ⟨a, x, rfl, ha, q⟩ := h
    refine ⟨_, (pss_one (ps_ost (pv 0) (pv 1))), ?_⟩
    exact ⟨_, rfl, _, rfl, a, T.C_TooLong, rfl, T.e_TooLong.o, T.nf_TooLong_bits, .inl ⟨ha, fun d hd ne => q _ (mk1 hd ne)⟩⟩
theorem ok_NoSeries___init__ (T : Txt K mg) : FnOk P w K mg base CX0 1 T.f_NoSeries___init__ T.d_NoSeries___init__ ["self", "why", "numbers"] (sp_x2 T.C_NoSeries "why" "numbers") := by
  refine T.F_NoSeries___init__.ok sc_NoSeries___init__ (fun vs H Q E h => ?_) (fun cdv A outer s H vs Q E hr h => ?_)
  · obtain ⟨a, x, y, rfl, _⟩ := h
    rfl
  · obtain ⟨a, x, y, rfl, ha, q⟩ := h
    refine ⟨_, (pss_cons (ps_ost (pv 0) (pv 1))
      (pss_one (ps_ost (pv 0) (pv 2)))), ?_⟩
    refine ⟨_, rfl, _, rfl, a, T.C_NoSeries, rfl, T.e_NoSeries.o, T.nf_NoSeries_why, .inl ⟨ha, fun d hd ne => ?_⟩⟩
    exact ⟨_, rfl, _, rfl, a, T.C_NoSeries, rfl, T.e_NoSeries.o, T.nf_NoSeries_numbers, .inr ⟨d, _, upd_same, by rw [upd_ne ne, upd_same], Nat.le_of_ble_eq_true rfl, q _ (mk2 hd ne)⟩⟩
theorem ok_NoParts___init__ (T : Txt K mg) : FnOk P w K mg base CX0 1 T.f_NoParts___init__ T.d_NoParts___init__ ["self", "which", "index"] (sp_x2 T.C_NoParts "which" "index") := by
  refine T.F_NoParts___init__.ok sc_NoParts___init__ (fun vs H Q E h => ?_) (fun cdv A outer s H vs Q E hr h => ?_)
  · obtain ⟨a, x, y, rfl, _⟩ := h
    rfl
  · obtain ⟨a, x, y, rfl, ha, q⟩ := h
    refine ⟨_, (pss_cons (ps_ost (pv 0) (pv 1))
      (pss_one (ps_ost (pv 0) (pv 2)))), ?_⟩
    refine ⟨_, rfl, _, rfl, a, T.C_NoParts, rfl, T.e_NoParts.o, T.nf_NoParts_which, .inl ⟨ha, fun d hd ne => ?_⟩⟩
    exact ⟨_, rfl, _, rfl, a, T.C_NoParts, rfl, T.e_NoParts.o, T.nf_NoParts_index, .inr ⟨d, _, upd_same, by rw [upd_ne ne, upd_same], Nat.le_of_ble_eq_true rfl, q _ (mk2 hd ne)⟩⟩
theorem ok_NoFormat___init__ (T : Txt K mg) : FnOk P w K mg base CX0 1 T.f_NoFormat___init__ T.d_NoFormat___init__ ["self", "part"] (sp_x1 T.C_NoFormat "part") := by
  refine T.F_NoFormat___init__.ok sc_NoFormat___init__ (fun vs H Q E h => ?_) (fun cdv A outer s H vs Q E hr h => ?_)
  · obtain ⟨a, x, rfl, _⟩ := h
    rfl
  · obtain ⟨a, x, rfl, ha, q⟩ := h
    refine ⟨_, (pss_one (ps_ost (pv 0) (pv 1))), ?_⟩
    exact ⟨_, rfl, _, rfl, a, T.C_NoFormat, rfl, T.e_NoFormat.o, T.nf_NoFormat_part, .inl ⟨ha, fun d hd ne => q _ (mk1 hd ne)⟩⟩
theorem ok_NoStain___init__ (T : Txt K mg) : FnOk P w K mg base CX0 1 T.f_NoStain___init__ T.d_NoStain___init__ ["self", "part", "index"] (sp_x2 T.C_NoStain "part" "index") := by
  refine T.F_NoStain___init__.ok sc_NoStain___init__ (fun vs H Q E h => ?_) (fun cdv A outer s H vs Q E hr h => ?_)
  · obtain ⟨a, x, y, rfl, _⟩ := h
    rfl
  · obtain ⟨a, x, y, rfl, ha, q⟩ := h
    refine ⟨_, (pss_cons (ps_ost (pv 0) (pv 1))
      (pss_one (ps_ost (pv 0) (pv 2)))), ?_⟩
    refine ⟨_, rfl, _, rfl, a, T.C_NoStain, rfl, T.e_NoStain.o, T.nf_NoStain_part, .inl ⟨ha, fun d hd ne => ?_⟩⟩
    exact ⟨_, rfl, _, rfl, a, T.C_NoStain, rfl, T.e_NoStain.o, T.nf_NoStain_index, .inr ⟨d, _, upd_same, by rw [upd_ne ne, upd_same], Nat.le_of_ble_eq_true rfl, q _ (mk2 hd ne)⟩⟩
theorem ok_NoKind___init__ (T : Txt K mg) : FnOk P w K mg base CX0 1 T.f_NoKind___init__ T.d_NoKind___init__ ["self", "kind"] (sp_x1 T.C_NoKind "kind") := by
  refine T.F_NoKind___init__.ok sc_NoKind___init__ (fun vs H Q E h => ?_) (fun cdv A outer s H vs Q E hr h => ?_)
  · obtain ⟨a, x, rfl, _⟩ := h
    rfl
  · obtain ⟨a, x, rfl, ha, q⟩ := h
    refine ⟨_, (pss_one (ps_ost (pv 0) (pv 1))), ?_⟩
    exact ⟨_, rfl, _, rfl, a, T.C_NoKind, rfl, T.e_NoKind.o, T.nf_NoKind_kind, .inl ⟨ha, fun d hd ne => q _ (mk1 hd ne)⟩⟩
theorem ok_NoPaper___init__ (T : Txt K mg) : FnOk P w K mg base CX0 1 T.f_NoPaper___init__ T.d_NoPaper___init__ ["self", "part"] (sp_x1 T.C_NoPaper "part") := by
  refine T.F_NoPaper___init__.ok sc_NoPaper___init__ (fun vs H Q E h => ?_) (fun cdv A outer s H vs Q E hr h => ?_)
  · obtain ⟨a, x, rfl, _⟩ := h
    rfl
  · obtain ⟨a, x, rfl, ha, q⟩ := h
    refine ⟨_, (pss_one (ps_ost (pv 0) (pv 1))), ?_⟩
    exact ⟨_, rfl, _, rfl, a, T.C_NoPaper, rfl, T.e_NoPaper.o, T.nf_NoPaper_part, .inl ⟨ha, fun d hd ne => q _ (mk1 hd ne)⟩⟩
theorem ok_Unmended___init__ (T : Txt K mg) : FnOk P w K mg base CX0 1 T.f_Unmended___init__ T.d_Unmended___init__ ["self", "part", "index"] (sp_x2 T.C_Unmended "part" "index") := by
  refine T.F_Unmended___init__.ok sc_Unmended___init__ (fun vs H Q E h => ?_) (fun cdv A outer s H vs Q E hr h => ?_)
  · obtain ⟨a, x, y, rfl, _⟩ := h
    rfl
  · obtain ⟨a, x, y, rfl, ha, q⟩ := h
    refine ⟨_, (pss_cons (ps_ost (pv 0) (pv 1))
      (pss_one (ps_ost (pv 0) (pv 2)))), ?_⟩
    refine ⟨_, rfl, _, rfl, a, T.C_Unmended, rfl, T.e_Unmended.o, T.nf_Unmended_part, .inl ⟨ha, fun d hd ne => ?_⟩⟩
    exact ⟨_, rfl, _, rfl, a, T.C_Unmended, rfl, T.e_Unmended.o, T.nf_Unmended_index, .inr ⟨d, _, upd_same, by rw [upd_ne ne, upd_same], Nat.le_of_ble_eq_true rfl, q _ (mk2 hd ne)⟩⟩
theorem ok_NoPose___init__ (T : Txt K mg) : FnOk P w K mg base CX0 1 T.f_NoPose___init__ T.d_NoPose___init__ ["self", "pose"] (sp_x1 T.C_NoPose "pose") := by
  refine T.F_NoPose___init__.ok sc_NoPose___init__ (fun vs H Q E h => ?_) (fun cdv A outer s H vs Q E hr h => ?_)
  · obtain ⟨a, x, rfl, _⟩ := h
    rfl
  · obtain ⟨a, x, rfl, ha, q⟩ := h
    refine ⟨_, (pss_one (ps_ost (pv 0) (pv 1))), ?_⟩
    exact ⟨_, rfl, _, rfl, a, T.C_NoPose, rfl, T.e_NoPose.o, T.nf_NoPose_pose, .inl ⟨ha, fun d hd ne => q _ (mk1 hd ne)⟩⟩
theorem ok_NoPlace___init__ (T : Txt K mg) : FnOk P w K mg base CX0 1 T.f_NoPlace___init__ T.d_NoPlace___init__ ["self", "place"] (sp_x1 T.C_NoPlace "place") := by
  refine T.F_NoPlace___init__.ok sc_NoPlace___init__ (fun vs H Q E h => ?_) (fun cdv A outer s H vs Q E hr h => ?_)
  · obtain ⟨a, x, rfl, _⟩ := h
    rfl
  · obtain ⟨a, x, rfl, ha, q⟩ := h
    refine ⟨_, (pss_one (ps_ost (pv 0) (pv 1))), ?_⟩
    exact ⟨_, rfl, _, rfl, a, T.C_NoPlace, rfl, T.e_NoPlace.o, T.nf_NoPlace_place, .inl ⟨ha, fun d hd ne => q _ (mk1 hd ne)⟩⟩
/-! CUT -/
/-! ### the law's own defs -/
def WellL (a b c : Int) : HO := .lst [.int a, .int b, .int c]
def sp_draw : Sp := fun vs H Q _ => ∃ (p : Addr) (a b c m : Int), vs = [.ref p, .int m] ∧ H p = some (WellL a b c) ∧ 0 < m ∧ m < 1073741824 ∧ ∀ n a' c' : Int, 0 ≤ n → n < m → Q (.int n) (upd H p (WellL a' b c'))
theorem ok__law_draw (T : Txt K mg) : FnOk P w K mg base CX0 1 T.f__law_draw T.d__law_draw ["_law_well", "_law_many"] sp_draw := by
  refine T.F__law_draw.ok sc__law_draw (fun vs H Q E h => ?_) (fun cdv A outer s H vs Q E hr h => ?_)
  · obtain ⟨p, a, b, c, m, rfl, _⟩ := h
    rfl
  · obtain ⟨p, a, b, c, m, rfl, hp, m0, m1, q⟩ := h
    refine ⟨_, (pss_cons (ps_if (pt_cmpR op_gt (pe_ix ix_list (pv 0) pe_int (fun _ _ => rfl)) pe_int (nomark _)) (pss_cons (ps_set (i := 2) sc__law_draw.nd rfl (.inl rfl) (pe_op op_mod (pe_callTy call_int1 (by rfl) T.n_int (by decide +kernel) (pa_cons (pe_ix ix_list (pv 0) pe_int (fun _ _ => rfl)) pa_nil)) (pv 1)))
      (pss_cons (ps_asg (pe_op op_fdiv (pe_ix ix_list (pv 0) pe_int (fun _ _ => rfl)) (pv 1)) (pg_sub (pv 0) pe_int set_list))
      (pss_one (ps_ret (pv 2))))) pss_nil)
      (pss_cons (ps_asg (pe_op op_add (pe_ix ix_list (pv 0) pe_int (fun _ _ => rfl)) pe_int) (pg_sub (pv 0) pe_int set_list))
      (pss_cons (ps_set (i := 3) sc__law_draw.nd rfl (.inl rfl) (pe_op op_mod (pe_callTy call_int1 (by rfl) T.n_int (by decide +kernel) (pa_cons (pe_op op_mul (pe_op op_add (pe_op op_add (pe_ix ix_list (pv 0) pe_int (fun _ _ => rfl)) (pe_op op_mul pe_int (pe_ix ix_list (pv 0) pe_int (fun _ _ => rfl)))) pe_int) pe_int) pa_nil)) pe_int))
      (pss_cons (ps_set (i := 3) sc__law_draw.nd rfl (.inl rfl) (pe_op op_mod (pe_callTy call_int1 (by rfl) T.n_int (by decide +kernel) (pa_cons (pe_op op_mul (pv 3) (pe_op op_add (pe_op op_fdiv (pv 3) pe_int) pe_int)) pa_nil)) pe_int))
      (pss_one (ps_ret (pe_op op_mod (pe_callTy call_int1 (by rfl) T.n_int (by decide +kernel) (pa_cons (pe_op op_mod (pe_callTy call_int1 (by rfl) T.n_int (by decide +kernel) (pa_cons (pe_op op_mul (pv 3) (pe_op op_add (pe_op op_fdiv (pv 3) pe_int) pe_int)) pa_nil)) pe_int) pa_nil)) (pv 1)))))))), ?_⟩
    have hw : ∀ {H' : Hp} {xs : List V}, H' p = some (.lst xs) → SqL K H' p xs := fun h => .inl (.inl h)
    refine ⟨_, rfl, p, _, 0, _, rfl, rfl, hw hp, rfl, _, _, rfl, rfl, _, rfl, ?_⟩
    refine ite2 (fun cc => ?_) (fun cc => ?_)
    · refine ⟨_, rfl, p, _, 0, _, rfl, rfl, hw hp, rfl, .inl ⟨_, rfl, _, rfl, _, _, rfl, rfl, m0, ?_⟩⟩
      refine ⟨_, rfl, p, _, 0, _, rfl, rfl, hw hp, rfl, _, rfl, _, _, rfl, rfl, ⟨m0, m1⟩, ?_⟩
      refine ⟨_, rfl, p, _, 0, 0, rfl, rfl, hp, rfl, ?_⟩
      exact ⟨_, rfl, q _ _ _ (Int.emod_nonneg _ (by omega)) (Int.emod_lt_of_pos _ m0)⟩
    · refine ⟨_, rfl, p, _, 2, _, rfl, rfl, hw hp, rfl, _, _, rfl, rfl, _, rfl, p, _, 2, 2, rfl, rfl, hp, rfl, ?_⟩
      have hs : (upd H p (.lst ([V.int a, V.int b, V.int c].set 2 (.int (c + 1))))) p = some (WellL a b (c + 1)) := upd_same
      refine ⟨_, rfl, p, _, 1, _, rfl, rfl, hw hs, rfl, _, rfl, p, _, 2, _, rfl, rfl, hw hs, rfl, _, _, rfl, rfl, .inl (by decide), _, _, rfl, rfl, _, _, rfl, rfl, _, _, rfl, rfl, .inr (by decide), .inl ⟨_, rfl, _, _, rfl, rfl, (show (0 : Int) < 2147483647 by decide), ?_⟩⟩
      generalize hz : ((b + 104729 * (c + 1) + 1) * 48271) % 2147483647 = z
      have z0 : 0 ≤ z := by rw [← hz]; exact Int.emod_nonneg _ (by decide)
      have z1 : z < 2147483647 := by rw [← hz]; exact Int.emod_lt_of_pos _ (by decide)
      refine ⟨_, rfl, _, rfl, _, _, rfl, rfl, ⟨by decide, by decide⟩, _, _, rfl, rfl, _, _, rfl, rfl, .inl ⟨by omega, by omega⟩, .inl ⟨_, rfl, _, _, rfl, rfl, (show (0 : Int) < 2147483647 by decide), ?_⟩⟩
      generalize hy : (z * (z / 1009 + 69621)) % 2147483647 = y
      have y0 : 0 ≤ y := by rw [← hy]; exact Int.emod_nonneg _ (by decide)
      have y1 : y < 2147483647 := by rw [← hy]; exact Int.emod_lt_of_pos _ (by decide)
      refine ⟨_, rfl, _, rfl, _, _, rfl, rfl, ⟨by decide, by decide⟩, _, _, rfl, rfl, _, _, rfl, rfl, .inl ⟨by omega, by omega⟩, .inl ⟨_, rfl, _, _, rfl, rfl, (show (0 : Int) < 2147483399 by decide), .inl ⟨_, rfl, _, rfl, _, _, rfl, rfl, m0, ?_⟩⟩⟩
      exact q _ _ _ (Int.emod_nonneg _ (by omega)) (Int.emod_lt_of_pos _ m0)
def sp_one : Sp := fun vs H Q _ => ∃ (p l : Addr) (a b c : Int) (xs : List V), vs = [.ref p, .ref l] ∧ p ≠ l ∧ H p = some (WellL a b c) ∧ H l = some (.lst xs) ∧ 0 < xs.length ∧ xs.length ≤ 1000 ∧ ∀ (i : Nat) (v : V) (a' c' : Int), xs[i]? = some v → Q v (upd H p (WellL a' b c'))
theorem ok__law_one (T : Txt K mg) : FnOk P w K mg base CX0 2 T.f__law_one T.d__law_one ["_law_well", "_law_some"] sp_one := by
  refine T.F__law_one.ok sc__law_one (fun vs H Q E h => ?_) (fun cdv A outer s H vs Q E hr h => ?_)
  · obtain ⟨p, l, a, b, c, xs, rfl, _⟩ := h
    rfl
  · obtain ⟨p, l, a, b, c, xs, rfl, hpl, hp, hl, l0, l1, q⟩ := h
    refine ⟨_, (pss_one (ps_ret (pe_ix ix_list (pv 1) (pe_call (ok__law_draw T) (hr.mono (by decide)) (by rfl) T.g__law_draw T.F__law_draw.kp T.b__law_draw .nil pass0 (pa_cons (pv 0) (pa_cons (pe_callB call_len_seq (by rfl) T.n_len (by decide +kernel) (pa_cons (pv 1) pa_nil)) pa_nil))) (fun _ _ => rfl)))), ?_⟩
    refine ⟨_, rfl, _, rfl, _, rfl, l, xs, rfl, .inl (.inl (.inl hl)), p, a, b, c, _, rfl, hp, by omega, by omega, fun n a' c' n0 n1 => ?_⟩
    obtain ⟨k, rfl⟩ := Int.eq_ofNat_of_zero_le n0
    have hk : k < xs.length := by omega
    exact ⟨l, xs, (k : Int), xs[k], rfl, rfl, .inl (.inl (by rw [upd_ne hpl.symm]; exact hl)), atI_nat (List.getElem?_eq_getElem hk), q k _ a' c' (List.getElem?_eq_getElem hk)⟩
abbrev clL (T : Txt K mg) : List Addr := [T.C_NoField, T.C_NoWord, T.C_NoSize, T.C_NoLevel, T.C_NoMask, T.C_NoDot, T.C_NoIndex, T.C_NoWords, T.C_NoBlock, T.C_NoGrid, T.C_NoCode, T.C_NoNumber, T.C_TooLarge, T.C_NoWish, T.C_NoDots, T.C_NoPattern, T.C_NoAnswer, T.C_NoPicture, T.C_NoChange, T.C_NoText, T.C_NoPieces, T.C_NoBits, T.C_Unread, T.C_TooLong, T.C_NoSeries, T.C_NoParts, T.C_NoFormat, T.C_NoStain, T.C_NoKind, T.C_NoPaper, T.C_Unmended, T.C_NoPose, T.C_NoPlace]
theorem kit1 (T : Txt K mg) (i j : Nat) (hi : i < 33) (hj : j < 33) : PySem.W.kitOne K (.ref ((clL T).getD i 0)) (.ref ((clL T).getD j 0)) = some (Nat.beq j i) := (kitTab_ok (K := K) (L := clL T) (B := T.C_QuiltError) T.kt).1 i j hi hj
theorem excC (T : Txt K mg) : ∀ i, i < 33 → ExcC K ((clL T).getD i 0)
  | 0, _ => T.e_NoField.e
  | 1, _ => T.e_NoWord.e
  | 2, _ => T.e_NoSize.e
  | 3, _ => T.e_NoLevel.e
  | 4, _ => T.e_NoMask.e
  | 5, _ => T.e_NoDot.e
  | 6, _ => T.e_NoIndex.e
  | 7, _ => T.e_NoWords.e
  | 8, _ => T.e_NoBlock.e
  | 9, _ => T.e_NoGrid.e
  | 10, _ => T.e_NoCode.e
  | 11, _ => T.e_NoNumber.e
  | 12, _ => T.e_TooLarge.e
  | 13, _ => T.e_NoWish.e
  | 14, _ => T.e_NoDots.e
  | 15, _ => T.e_NoPattern.e
  | 16, _ => T.e_NoAnswer.e
  | 17, _ => T.e_NoPicture.e
  | 18, _ => T.e_NoChange.e
  | 19, _ => T.e_NoText.e
  | 20, _ => T.e_NoPieces.e
  | 21, _ => T.e_NoBits.e
  | 22, _ => T.e_Unread.e
  | 23, _ => T.e_TooLong.e
  | 24, _ => T.e_NoSeries.e
  | 25, _ => T.e_NoParts.e
  | 26, _ => T.e_NoFormat.e
  | 27, _ => T.e_NoStain.e
  | 28, _ => T.e_NoKind.e
  | 29, _ => T.e_NoPaper.e
  | 30, _ => T.e_Unmended.e
  | 31, _ => T.e_NoPose.e
  | 32, _ => T.e_NoPlace.e
  | n + 33, h => absurd h (by omega)
def sp_taken (T : Txt K mg) : Sp := fun vs H Q _ => ∃ (a d : Addr) (fs : List (Str × V)) (i : Nat), vs = [.ref a] ∧ i < 33 ∧ H a = some (exo a ((clL T).getD i 0) (some d)) ∧ H d = some (exd d fs) ∧ ∀ l H', Same H H' → H' l = some (.lst (tak i)) → Q (.ref l) H'
theorem ok__law_taken (T : Txt K mg) : FnOk P w K mg base CX0 1 T.f__law_taken T.d__law_taken ["_law_e"] (sp_taken T) := by
  refine T.F__law_taken.ok sc__law_taken (fun vs H Q E h => ?_) (fun cdv A outer s H vs Q E hr h => ?_)
  · obtain ⟨a, d, fs, i, rfl, _⟩ := h
    rfl
  · obtain ⟨a, d, fs, i, rfl, hi, ha, hd, q⟩ := h
    refine ⟨_, (Evl.pss_cut (ps_set (i := 1) sc__law_taken.nd rfl (.inl rfl) (pe_lst (pa_cons (pe_callB call_isV (by rfl) T.n_isinstance (by decide +kernel) (pa_cons (pv 0) (pa_cons (pe_glob (v := .ref T.C_NoField) (by rfl) T.g_NoField rfl) pa_nil))) (pa_cons (pe_callB call_isV (by rfl) T.n_isinstance (by decide +kernel) (pa_cons (pv 0) (pa_cons (pe_glob (v := .ref T.C_NoWord) (by rfl) T.g_NoWord rfl) pa_nil))) (pa_cons (pe_callB call_isV (by rfl) T.n_isinstance (by decide +kernel) (pa_cons (pv 0) (pa_cons (pe_glob (v := .ref T.C_NoSize) (by rfl) T.g_NoSize rfl) pa_nil))) pa_nil)))))
      (Evl.pss_cut (ps_set (i := 1) sc__law_taken.nd rfl (.inl rfl) (pe_op op_catL (pv 1) (pe_lst (pa_cons (pe_callB call_isV (by rfl) T.n_isinstance (by decide +kernel) (pa_cons (pv 0) (pa_cons (pe_glob (v := .ref T.C_NoLevel) (by rfl) T.g_NoLevel rfl) pa_nil))) (pa_cons (pe_callB call_isV (by rfl) T.n_isinstance (by decide +kernel) (pa_cons (pv 0) (pa_cons (pe_glob (v := .ref T.C_NoMask) (by rfl) T.g_NoMask rfl) pa_nil))) (pa_cons (pe_callB call_isV (by rfl) T.n_isinstance (by decide +kernel) (pa_cons (pv 0) (pa_cons (pe_glob (v := .ref T.C_NoDot) (by rfl) T.g_NoDot rfl) pa_nil))) pa_nil))))))
      (Evl.pss_cut (ps_set (i := 1) sc__law_taken.nd rfl (.inl rfl) (pe_op op_catL (pv 1) (pe_lst (pa_cons (pe_callB call_isV (by rfl) T.n_isinstance (by decide +kernel) (pa_cons (pv 0) (pa_cons (pe_glob (v := .ref T.C_NoIndex) (by rfl) T.g_NoIndex rfl) pa_nil))) (pa_cons (pe_callB call_isV (by rfl) T.n_isinstance (by decide +kernel) (pa_cons (pv 0) (pa_cons (pe_glob (v := .ref T.C_NoWords) (by rfl) T.g_NoWords rfl) pa_nil))) (pa_cons (pe_callB call_isV (by rfl) T.n_isinstance (by decide +kernel) (pa_cons (pv 0) (pa_cons (pe_glob (v := .ref T.C_NoBlock) (by rfl) T.g_NoBlock rfl) pa_nil))) pa_nil))))))
      (Evl.pss_cut (ps_set (i := 1) sc__law_taken.nd rfl (.inl rfl) (pe_op op_catL (pv 1) (pe_lst (pa_cons (pe_callB call_isV (by rfl) T.n_isinstance (by decide +kernel) (pa_cons (pv 0) (pa_cons (pe_glob (v := .ref T.C_NoGrid) (by rfl) T.g_NoGrid rfl) pa_nil))) (pa_cons (pe_callB call_isV (by rfl) T.n_isinstance (by decide +kernel) (pa_cons (pv 0) (pa_cons (pe_glob (v := .ref T.C_NoCode) (by rfl) T.g_NoCode rfl) pa_nil))) (pa_cons (pe_callB call_isV (by rfl) T.n_isinstance (by decide +kernel) (pa_cons (pv 0) (pa_cons (pe_glob (v := .ref T.C_NoNumber) (by rfl) T.g_NoNumber rfl) pa_nil))) pa_nil))))))
      (Evl.pss_cut (ps_set (i := 1) sc__law_taken.nd rfl (.inl rfl) (pe_op op_catL (pv 1) (pe_lst (pa_cons (pe_callB call_isV (by rfl) T.n_isinstance (by decide +kernel) (pa_cons (pv 0) (pa_cons (pe_glob (v := .ref T.C_TooLarge) (by rfl) T.g_TooLarge rfl) pa_nil))) (pa_cons (pe_callB call_isV (by rfl) T.n_isinstance (by decide +kernel) (pa_cons (pv 0) (pa_cons (pe_glob (v := .ref T.C_NoWish) (by rfl) T.g_NoWish rfl) pa_nil))) (pa_cons (pe_callB call_isV (by rfl) T.n_isinstance (by decide +kernel) (pa_cons (pv 0) (pa_cons (pe_glob (v := .ref T.C_NoDots) (by rfl) T.g_NoDots rfl) pa_nil))) pa_nil))))))
      (Evl.pss_cut (ps_set (i := 1) sc__law_taken.nd rfl (.inl rfl) (pe_op op_catL (pv 1) (pe_lst (pa_cons (pe_callB call_isV (by rfl) T.n_isinstance (by decide +kernel) (pa_cons (pv 0) (pa_cons (pe_glob (v := .ref T.C_NoPattern) (by rfl) T.g_NoPattern rfl) pa_nil))) (pa_cons (pe_callB call_isV (by rfl) T.n_isinstance (by decide +kernel) (pa_cons (pv 0) (pa_cons (pe_glob (v := .ref T.C_NoAnswer) (by rfl) T.g_NoAnswer rfl) pa_nil))) (pa_cons (pe_callB call_isV (by rfl) T.n_isinstance (by decide +kernel) (pa_cons (pv 0) (pa_cons (pe_glob (v := .ref T.C_NoPicture) (by rfl) T.g_NoPicture rfl) pa_nil))) pa_nil))))))
      (Evl.pss_cut (ps_set (i := 1) sc__law_taken.nd rfl (.inl rfl) (pe_op op_catL (pv 1) (pe_lst (pa_cons (pe_callB call_isV (by rfl) T.n_isinstance (by decide +kernel) (pa_cons (pv 0) (pa_cons (pe_glob (v := .ref T.C_NoChange) (by rfl) T.g_NoChange rfl) pa_nil))) (pa_cons (pe_callB call_isV (by rfl) T.n_isinstance (by decide +kernel) (pa_cons (pv 0) (pa_cons (pe_glob (v := .ref T.C_NoText) (by rfl) T.g_NoText rfl) pa_nil))) (pa_cons (pe_callB call_isV (by rfl) T.n_isinstance (by decide +kernel) (pa_cons (pv 0) (pa_cons (pe_glob (v := .ref T.C_NoPieces) (by rfl) T.g_NoPieces rfl) pa_nil))) pa_nil))))))
      (Evl.pss_cut (ps_set (i := 1) sc__law_taken.nd rfl (.inl rfl) (pe_op op_catL (pv 1) (pe_lst (pa_cons (pe_callB call_isV (by rfl) T.n_isinstance (by decide +kernel) (pa_cons (pv 0) (pa_cons (pe_glob (v := .ref T.C_NoBits) (by rfl) T.g_NoBits rfl) pa_nil))) (pa_cons (pe_callB call_isV (by rfl) T.n_isinstance (by decide +kernel) (pa_cons (pv 0) (pa_cons (pe_glob (v := .ref T.C_Unread) (by rfl) T.g_Unread rfl) pa_nil))) (pa_cons (pe_callB call_isV (by rfl) T.n_isinstance (by decide +kernel) (pa_cons (pv 0) (pa_cons (pe_glob (v := .ref T.C_TooLong) (by rfl) T.g_TooLong rfl) pa_nil))) pa_nil))))))
      (Evl.pss_cut (ps_set (i := 1) sc__law_taken.nd rfl (.inl rfl) (pe_op op_catL (pv 1) (pe_lst (pa_cons (pe_callB call_isV (by rfl) T.n_isinstance (by decide +kernel) (pa_cons (pv 0) (pa_cons (pe_glob (v := .ref T.C_NoSeries) (by rfl) T.g_NoSeries rfl) pa_nil))) (pa_cons (pe_callB call_isV (by rfl) T.n_isinstance (by decide +kernel) (pa_cons (pv 0) (pa_cons (pe_glob (v := .ref T.C_NoParts) (by rfl) T.g_NoParts rfl) pa_nil))) (pa_cons (pe_callB call_isV (by rfl) T.n_isinstance (by decide +kernel) (pa_cons (pv 0) (pa_cons (pe_glob (v := .ref T.C_NoFormat) (by rfl) T.g_NoFormat rfl) pa_nil))) pa_nil))))))
      (Evl.pss_cut (ps_set (i := 1) sc__law_taken.nd rfl (.inl rfl) (pe_op op_catL (pv 1) (pe_lst (pa_cons (pe_callB call_isV (by rfl) T.n_isinstance (by decide +kernel) (pa_cons (pv 0) (pa_cons (pe_glob (v := .ref T.C_NoStain) (by rfl) T.g_NoStain rfl) pa_nil))) (pa_cons (pe_callB call_isV (by rfl) T.n_isinstance (by decide +kernel) (pa_cons (pv 0) (pa_cons (pe_glob (v := .ref T.C_NoKind) (by rfl) T.g_NoKind rfl) pa_nil))) (pa_cons (pe_callB call_isV (by rfl) T.n_isinstance (by decide +kernel) (pa_cons (pv 0) (pa_cons (pe_glob (v := .ref T.C_NoPaper) (by rfl) T.g_NoPaper rfl) pa_nil))) pa_nil))))))
      (Evl.pss_cut (ps_set (i := 1) sc__law_taken.nd rfl (.inl rfl) (pe_op op_catL (pv 1) (pe_lst (pa_cons (pe_callB call_isV (by rfl) T.n_isinstance (by decide +kernel) (pa_cons (pv 0) (pa_cons (pe_glob (v := .ref T.C_Unmended) (by rfl) T.g_Unmended rfl) pa_nil))) (pa_cons (pe_callB call_isV (by rfl) T.n_isinstance (by decide +kernel) (pa_cons (pv 0) (pa_cons (pe_glob (v := .ref T.C_NoPose) (by rfl) T.g_NoPose rfl) pa_nil))) (pa_cons (pe_callB call_isV (by rfl) T.n_isinstance (by decide +kernel) (pa_cons (pv 0) (pa_cons (pe_glob (v := .ref T.C_NoPlace) (by rfl) T.g_NoPlace rfl) pa_nil))) pa_nil))))))
      (pss_one (ps_ret (pv 1)))))))))))))), ?_⟩
    have hk : ∀ (j : Nat), j < 33 → PySem.W.kitOne K (.ref ((clL T).getD i 0)) (.ref ((clL T).getD j 0)) = some (Nat.beq j i) := fun j hj => kit1 T i j hi hj
    have hx := excC T i hi
    generalize (clL T).getD i 0 = C at ha hk hx
    refine ⟨fun σ' H' => ∃ l, σ' = [some (.ref a), some (.ref l)] ∧ Same H H' ∧ H' l = some (.lst [.bl (Nat.beq 0 i), .bl (Nat.beq 1 i), .bl (Nat.beq 2 i)]), ?_, ?_⟩
    · exact ⟨_, rfl, a, C, d, fs, _, _, _, rfl, .own _, hx, ha, hd, hk 0 (by decide), _, rfl, a, C, d, fs, _, _, _, rfl, .own _, hx, ha, hd, hk 1 (by decide), _, rfl, a, C, d, fs, _, _, _, rfl, .own _, hx, ha, hd, hk 2 (by decide), (by show 3 ≤ sizeLine; decide), fun p hp => ⟨p, rfl, same_upd hp, upd_same⟩⟩
    rintro σ' H1 ⟨l, rfl, sm, hl⟩
    refine ⟨fun σ' H' => ∃ l, σ' = [some (.ref a), some (.ref l)] ∧ Same H H' ∧ H' l = some (.lst [.bl (Nat.beq 0 i), .bl (Nat.beq 1 i), .bl (Nat.beq 2 i), .bl (Nat.beq 3 i), .bl (Nat.beq 4 i), .bl (Nat.beq 5 i)]), ?_, ?_⟩
    · refine ⟨_, rfl, _, rfl, a, C, d, fs, _, _, _, rfl, .own _, hx, sm _ _ ha, sm _ _ hd, hk 3 (by decide), _, rfl, a, C, d, fs, _, _, _, rfl, .own _, hx, sm _ _ ha, sm _ _ hd, hk 4 (by decide), _, rfl, a, C, d, fs, _, _, _, rfl, .own _, hx, sm _ _ ha, sm _ _ hd, hk 5 (by decide), (by show 3 ≤ sizeLine; decide), fun p hp => ?_⟩
      exact ⟨l, p, _, _, rfl, rfl, .inl (.inl (same_upd hp _ _ hl)), .inl (.inl upd_same), (by show 3 + 3 ≤ sizeLine; decide), fun p2 hp2 => ⟨p2, rfl, sm.trans ((same_upd hp).trans (same_upd hp2)), upd_same⟩⟩
    rintro σ' H2 ⟨l, rfl, sm, hl⟩
    refine ⟨fun σ' H' => ∃ l, σ' = [some (.ref a), some (.ref l)] ∧ Same H H' ∧ H' l = some (.lst [.bl (Nat.beq 0 i), .bl (Nat.beq 1 i), .bl (Nat.beq 2 i), .bl (Nat.beq 3 i), .bl (Nat.beq 4 i), .bl (Nat.beq 5 i), .bl (Nat.beq 6 i), .bl (Nat.beq 7 i), .bl (Nat.beq 8 i)]), ?_, ?_⟩
    · refine ⟨_, rfl, _, rfl, a, C, d, fs, _, _, _, rfl, .own _, hx, sm _ _ ha, sm _ _ hd, hk 6 (by decide), _, rfl, a, C, d, fs, _, _, _, rfl, .own _, hx, sm _ _ ha, sm _ _ hd, hk 7 (by decide), _, rfl, a, C, d, fs, _, _, _, rfl, .own _, hx, sm _ _ ha, sm _ _ hd, hk 8 (by decide), (by show 3 ≤ sizeLine; decide), fun p hp => ?_⟩
      exact ⟨l, p, _, _, rfl, rfl, .inl (.inl (same_upd hp _ _ hl)), .inl (.inl upd_same), (by show 6 + 3 ≤ sizeLine; decide), fun p2 hp2 => ⟨p2, rfl, sm.trans ((same_upd hp).trans (same_upd hp2)), upd_same⟩⟩
    rintro σ' H3 ⟨l, rfl, sm, hl⟩
    refine ⟨fun σ' H' => ∃ l, σ' = [some (.ref a), some (.ref l)] ∧ Same H H' ∧ H' l = some (.lst [.bl (Nat.beq 0 i), .bl (Nat.beq 1 i), .bl (Nat.beq 2 i), .bl (Nat.beq 3 i), .bl (Nat.beq 4 i), .bl (Nat.beq 5 i), .bl (Nat.beq 6 i), .bl (Nat.beq 7 i), .bl (Nat.beq 8 i), .bl (Nat.beq 9 i), .bl (Nat.beq 10 i), .bl (Nat.beq 11 i)]), ?_, ?_⟩
    · refine ⟨_, rfl, _, rfl, a, C, d, fs, _, _, _, rfl, .own _, hx, sm _ _ ha, sm _ _ hd, hk 9 (by decide), _, rfl, a, C, d, fs, _, _, _, rfl, .own _, hx, sm _ _ ha, sm _ _ hd, hk 10 (by decide), _, rfl, a, C, d, fs, _, _, _, rfl, .own _, hx, sm _ _ ha, sm _ _ hd, hk 11 (by decide), (by show 3 ≤ sizeLine; decide), fun p hp => ?_⟩
      exact ⟨l, p, _, _, rfl, rfl, .inl (.inl (same_upd hp _ _ hl)), .inl (.inl upd_same), (by show 9 + 3 ≤ sizeLine; decide), fun p2 hp2 => ⟨p2, rfl, sm.trans ((same_upd hp).trans (same_upd hp2)), upd_same⟩⟩
    rintro σ' H4 ⟨l, rfl, sm, hl⟩
    refine ⟨fun σ' H' => ∃ l, σ' = [some (.ref a), some (.ref l)] ∧ Same H H' ∧ H' l = some (.lst [.bl (Nat.beq 0 i), .bl (Nat.beq 1 i), .bl (Nat.beq 2 i), .bl (Nat.beq 3 i), .bl (Nat.beq 4 i), .bl (Nat.beq 5 i), .bl (Nat.beq 6 i), .bl (Nat.beq 7 i), .bl (Nat.beq 8 i), .bl (Nat.beq 9 i), .bl (Nat.beq 10 i), .bl (Nat.beq 11 i), .bl (Nat.beq 12 i), .bl (Nat.beq 13 i), .bl (Nat.beq 14 i)]), ?_, ?_⟩
    · refine ⟨_, rfl, _, rfl, a, C, d, fs, _, _, _, rfl, .own _, hx, sm _ _ ha, sm _ _ hd, hk 12 (by decide), _, rfl, a, C, d, fs, _, _, _, rfl, .own _, hx, sm _ _ ha, sm _ _ hd, hk 13 (by decide), _, rfl, a, C, d, fs, _, _, _, rfl, .own _, hx, sm _ _ ha, sm _ _ hd, hk 14 (by decide), (by show 3 ≤ sizeLine; decide), fun p hp => ?_⟩
      exact ⟨l, p, _, _, rfl, rfl, .inl (.inl (same_upd hp _ _ hl)), .inl (.inl upd_same), (by show 12 + 3 ≤ sizeLine; decide), fun p2 hp2 => ⟨p2, rfl, sm.trans ((same_upd hp).trans (same_upd hp2)), upd_same⟩⟩
    rintro σ' H5 ⟨l, rfl, sm, hl⟩
    refine ⟨fun σ' H' => ∃ l, σ' = [some (.ref a), some (.ref l)] ∧ Same H H' ∧ H' l = some (.lst [.bl (Nat.beq 0 i), .bl (Nat.beq 1 i), .bl (Nat.beq 2 i), .bl (Nat.beq 3 i), .bl (Nat.beq 4 i), .bl (Nat.beq 5 i), .bl (Nat.beq 6 i), .bl (Nat.beq 7 i), .bl (Nat.beq 8 i), .bl (Nat.beq 9 i), .bl (Nat.beq 10 i), .bl (Nat.beq 11 i), .bl (Nat.beq 12 i), .bl (Nat.beq 13 i), .bl (Nat.beq 14 i), .bl (Nat.beq 15 i), .bl (Nat.beq 16 i), .bl (Nat.beq 17 i)]), ?_, ?_⟩
    · refine ⟨_, rfl, _, rfl, a, C, d, fs, _, _, _, rfl, .own _, hx, sm _ _ ha, sm _ _ hd, hk 15 (by decide), _, rfl, a, C, d, fs, _, _, _, rfl, .own _, hx, sm _ _ ha, sm _ _ hd, hk 16 (by decide), _, rfl, a, C, d, fs, _, _, _, rfl, .own _, hx, sm _ _ ha, sm _ _ hd, hk 17 (by decide), (by show 3 ≤ sizeLine; decide), fun p hp => ?_⟩
      exact ⟨l, p, _, _, rfl, rfl, .inl (.inl (same_upd hp _ _ hl)), .inl (.inl upd_same), (by show 15 + 3 ≤ sizeLine; decide), fun p2 hp2 => ⟨p2, rfl, sm.trans ((same_upd hp).trans (same_upd hp2)), upd_same⟩⟩
    rintro σ' H6 ⟨l, rfl, sm, hl⟩
    refine ⟨fun σ' H' => ∃ l, σ' = [some (.ref a), some (.ref l)] ∧ Same H H' ∧ H' l = some (.lst [.bl (Nat.beq 0 i), .bl (Nat.beq 1 i), .bl (Nat.beq 2 i), .bl (Nat.beq 3 i), .bl (Nat.beq 4 i), .bl (Nat.beq 5 i), .bl (Nat.beq 6 i), .bl (Nat.beq 7 i), .bl (Nat.beq 8 i), .bl (Nat.beq 9 i), .bl (Nat.beq 10 i), .bl (Nat.beq 11 i), .bl (Nat.beq 12 i), .bl (Nat.beq 13 i), .bl (Nat.beq 14 i), .bl (Nat.beq 15 i), .bl (Nat.beq 16 i), .bl (Nat.beq 17 i), .bl (Nat.beq 18 i), .bl (Nat.beq 19 i), .bl (Nat.beq 20 i)]), ?_, ?_⟩
    · refine ⟨_, rfl, _, rfl, a, C, d, fs, _, _, _, rfl, .own _, hx, sm _ _ ha, sm _ _ hd, hk 18 (by decide), _, rfl, a, C, d, fs, _, _, _, rfl, .own _, hx, sm _ _ ha, sm _ _ hd, hk 19 (by decide), _, rfl, a, C, d, fs, _, _, _, rfl, .own _, hx, sm _ _ ha, sm _ _ hd, hk 20 (by decide), (by show 3 ≤ sizeLine; decide), fun p hp => ?_⟩
      exact ⟨l, p, _, _, rfl, rfl, .inl (.inl (same_upd hp _ _ hl)), .inl (.inl upd_same), (by show 18 + 3 ≤ sizeLine; decide), fun p2 hp2 => ⟨p2, rfl, sm.trans ((same_upd hp).trans (same_upd hp2)), upd_same⟩⟩
    rintro σ' H7 ⟨l, rfl, sm, hl⟩
    refine ⟨fun σ' H' => ∃ l, σ' = [some (.ref a), some (.ref l)] ∧ Same H H' ∧ H' l = some (.lst [.bl (Nat.beq 0 i), .bl (Nat.beq 1 i), .bl (Nat.beq 2 i), .bl (Nat.beq 3 i), .bl (Nat.beq 4 i), .bl (Nat.beq 5 i), .bl (Nat.beq 6 i), .bl (Nat.beq 7 i), .bl (Nat.beq 8 i), .bl (Nat.beq 9 i), .bl (Nat.beq 10 i), .bl (Nat.beq 11 i), .bl (Nat.beq 12 i), .bl (Nat.beq 13 i), .bl (Nat.beq 14 i), .bl (Nat.beq 15 i), .bl (Nat.beq 16 i), .bl (Nat.beq 17 i), .bl (Nat.beq 18 i), .bl (Nat.beq 19 i), .bl (Nat.beq 20 i), .bl (Nat.beq 21 i), .bl (Nat.beq 22 i), .bl (Nat.beq 23 i)]), ?_, ?_⟩
    · refine ⟨_, rfl, _, rfl, a, C, d, fs, _, _, _, rfl, .own _, hx, sm _ _ ha, sm _ _ hd, hk 21 (by decide), _, rfl, a, C, d, fs, _, _, _, rfl, .own _, hx, sm _ _ ha, sm _ _ hd, hk 22 (by decide), _, rfl, a, C, d, fs, _, _, _, rfl, .own _, hx, sm _ _ ha, sm _ _ hd, hk 23 (by decide), (by show 3 ≤ sizeLine; decide), fun p hp => ?_⟩
      exact ⟨l, p, _, _, rfl, rfl, .inl (.inl (same_upd hp _ _ hl)), .inl (.inl upd_same), (by show 21 + 3 ≤ sizeLine; decide), fun p2 hp2 => ⟨p2, rfl, sm.trans ((same_upd hp).trans (same_upd hp2)), upd_same⟩⟩
    rintro σ' H8 ⟨l, rfl, sm, hl⟩
    refine ⟨fun σ' H' => ∃ l, σ' = [some (.ref a), some (.ref l)] ∧ Same H H' ∧ H' l = some (.lst [.bl (Nat.beq 0 i), .bl (Nat.beq 1 i), .bl (Nat.beq 2 i), .bl (Nat.beq 3 i), .bl (Nat.beq 4 i), .bl (Nat.beq 5 i), .bl (Nat.beq 6 i), .bl (Nat.beq 7 i), .bl (Nat.beq 8 i), .bl (Nat.beq 9 i), .bl (Nat.beq 10 i), .bl (Nat.beq 11 i), .bl (Nat.beq 12 i), .bl (Nat.beq 13 i), .bl (Nat.beq 14 i), .bl (Nat.beq 15 i), .bl (Nat.beq 16 i), .bl (Nat.beq 17 i), .bl (Nat.beq 18 i), .bl (Nat.beq 19 i), .bl (Nat.beq 20 i), .bl (Nat.beq 21 i), .bl (Nat.beq 22 i), .bl (Nat.beq 23 i), .bl (Nat.beq 24 i), .bl (Nat.beq 25 i), .bl (Nat.beq 26 i)]), ?_, ?_⟩
    · refine ⟨_, rfl, _, rfl, a, C, d, fs, _, _, _, rfl, .own _, hx, sm _ _ ha, sm _ _ hd, hk 24 (by decide), _, rfl, a, C, d, fs, _, _, _, rfl, .own _, hx, sm _ _ ha, sm _ _ hd, hk 25 (by decide), _, rfl, a, C, d, fs, _, _, _, rfl, .own _, hx, sm _ _ ha, sm _ _ hd, hk 26 (by decide), (by show 3 ≤ sizeLine; decide), fun p hp => ?_⟩
      exact ⟨l, p, _, _, rfl, rfl, .inl (.inl (same_upd hp _ _ hl)), .inl (.inl upd_same), (by show 24 + 3 ≤ sizeLine; decide), fun p2 hp2 => ⟨p2, rfl, sm.trans ((same_upd hp).trans (same_upd hp2)), upd_same⟩⟩
    rintro σ' H9 ⟨l, rfl, sm, hl⟩
    refine ⟨fun σ' H' => ∃ l, σ' = [some (.ref a), some (.ref l)] ∧ Same H H' ∧ H' l = some (.lst [.bl (Nat.beq 0 i), .bl (Nat.beq 1 i), .bl (Nat.beq 2 i), .bl (Nat.beq 3 i), .bl (Nat.beq 4 i), .bl (Nat.beq 5 i), .bl (Nat.beq 6 i), .bl (Nat.beq 7 i), .bl (Nat.beq 8 i), .bl (Nat.beq 9 i), .bl (Nat.beq 10 i), .bl (Nat.beq 11 i), .bl (Nat.beq 12 i), .bl (Nat.beq 13 i), .bl (Nat.beq 14 i), .bl (Nat.beq 15 i), .bl (Nat.beq 16 i), .bl (Nat.beq 17 i), .bl (Nat.beq 18 i), .bl (Nat.beq 19 i), .bl (Nat.beq 20 i), .bl (Nat.beq 21 i), .bl (Nat.beq 22 i), .bl (Nat.beq 23 i), .bl (Nat.beq 24 i), .bl (Nat.beq 25 i), .bl (Nat.beq 26 i), .bl (Nat.beq 27 i), .bl (Nat.beq 28 i), .bl (Nat.beq 29 i)]), ?_, ?_⟩
    · refine ⟨_, rfl, _, rfl, a, C, d, fs, _, _, _, rfl, .own _, hx, sm _ _ ha, sm _ _ hd, hk 27 (by decide), _, rfl, a, C, d, fs, _, _, _, rfl, .own _, hx, sm _ _ ha, sm _ _ hd, hk 28 (by decide), _, rfl, a, C, d, fs, _, _, _, rfl, .own _, hx, sm _ _ ha, sm _ _ hd, hk 29 (by decide), (by show 3 ≤ sizeLine; decide), fun p hp => ?_⟩
      exact ⟨l, p, _, _, rfl, rfl, .inl (.inl (same_upd hp _ _ hl)), .inl (.inl upd_same), (by show 27 + 3 ≤ sizeLine; decide), fun p2 hp2 => ⟨p2, rfl, sm.trans ((same_upd hp).trans (same_upd hp2)), upd_same⟩⟩
    rintro σ' H10 ⟨l, rfl, sm, hl⟩
    refine ⟨fun σ' H' => ∃ l, σ' = [some (.ref a), some (.ref l)] ∧ Same H H' ∧ H' l = some (.lst [.bl (Nat.beq 0 i), .bl (Nat.beq 1 i), .bl (Nat.beq 2 i), .bl (Nat.beq 3 i), .bl (Nat.beq 4 i), .bl (Nat.beq 5 i), .bl (Nat.beq 6 i), .bl (Nat.beq 7 i), .bl (Nat.beq 8 i), .bl (Nat.beq 9 i), .bl (Nat.beq 10 i), .bl (Nat.beq 11 i), .bl (Nat.beq 12 i), .bl (Nat.beq 13 i), .bl (Nat.beq 14 i), .bl (Nat.beq 15 i), .bl (Nat.beq 16 i), .bl (Nat.beq 17 i), .bl (Nat.beq 18 i), .bl (Nat.beq 19 i), .bl (Nat.beq 20 i), .bl (Nat.beq 21 i), .bl (Nat.beq 22 i), .bl (Nat.beq 23 i), .bl (Nat.beq 24 i), .bl (Nat.beq 25 i), .bl (Nat.beq 26 i), .bl (Nat.beq 27 i), .bl (Nat.beq 28 i), .bl (Nat.beq 29 i), .bl (Nat.beq 30 i), .bl (Nat.beq 31 i), .bl (Nat.beq 32 i)]), ?_, ?_⟩
    · refine ⟨_, rfl, _, rfl, a, C, d, fs, _, _, _, rfl, .own _, hx, sm _ _ ha, sm _ _ hd, hk 30 (by decide), _, rfl, a, C, d, fs, _, _, _, rfl, .own _, hx, sm _ _ ha, sm _ _ hd, hk 31 (by decide), _, rfl, a, C, d, fs, _, _, _, rfl, .own _, hx, sm _ _ ha, sm _ _ hd, hk 32 (by decide), (by show 3 ≤ sizeLine; decide), fun p hp => ?_⟩
      exact ⟨l, p, _, _, rfl, rfl, .inl (.inl (same_upd hp _ _ hl)), .inl (.inl upd_same), (by show 30 + 3 ≤ sizeLine; decide), fun p2 hp2 => ⟨p2, rfl, sm.trans ((same_upd hp).trans (same_upd hp2)), upd_same⟩⟩
    rintro σ' H11 ⟨l, rfl, sm, hl⟩
    exact ⟨_, rfl, q l _ sm hl⟩
/-! CUT -/
def tabX (T : Txt K mg) (x : V) : List (Addr × List (Str × V)) :=
  (T.C_NoField, [("bits", x)]) :: (T.C_NoWord, [("index", .int 7), ("part", x)]) :: (T.C_NoSize, [("size", x)]) :: (T.C_NoLevel, [("level", x)]) :: (T.C_NoMask, [("mask", x)]) :: (T.C_NoDot, [("dot", x)]) :: (T.C_NoIndex, [("index", x)]) :: (T.C_NoWords, [("index", x)]) :: (T.C_NoBlock, [("index", .int 7), ("block", x)]) :: (T.C_NoGrid, [("column", .int 7), ("row", x)]) :: (T.C_NoCode, [("code", x)]) :: (T.C_NoNumber, [("part", x)]) :: (T.C_TooLarge, [("limit", x)]) :: (T.C_NoWish, [("dot", x)]) :: (T.C_NoDots, [("index", x)]) :: (T.C_NoPattern, [("index", x)]) :: (T.C_NoAnswer, [("index", .int 7), ("part", x)]) :: (T.C_NoPicture, [("line", x)]) :: (T.C_NoChange, [("word", x)]) :: (T.C_NoText, [("index", x)]) :: (T.C_NoPieces, [("index", x)]) :: (T.C_NoBits, [("index", x)]) :: (T.C_Unread, [("why", .int 7), ("at", x)]) :: (T.C_TooLong, [("bits", x)]) :: (T.C_NoSeries, [("numbers", .int 7), ("why", x)]) :: (T.C_NoParts, [("index", .int 7), ("which", x)]) :: (T.C_NoFormat, [("part", x)]) :: (T.C_NoStain, [("index", .int 7), ("part", x)]) :: (T.C_NoKind, [("kind", x)]) :: (T.C_NoPaper, [("part", x)]) :: (T.C_Unmended, [("index", .int 7), ("part", x)]) :: (T.C_NoPose, [("pose", x)]) :: (T.C_NoPlace, [("place", x)]) :: []
def sp_by (t : V → List (Addr × List (Str × V))) : Sp := fun vs H Q _ => ∃ x : V, vs = [x] ∧ ∀ (l : Addr) (xs : List V) (H' : Hp), Same H H' → H' l = some (.lst xs) → Mad H' xs (t x) → Q (.ref l) H'
theorem ok__law_by_place (T : Txt K mg) : FnOk P w K mg base CX0 3 T.f__law_by_place T.d__law_by_place ["_law_x"] (sp_by (tabX T)) := by
  refine T.F__law_by_place.ok sc__law_by_place (fun vs H Q E h => ?_) (fun cdv A outer s H vs Q E hr h => ?_)
  · obtain ⟨x, rfl, _⟩ := h
    rfl
  · obtain ⟨x, rfl, q⟩ := h
    refine ⟨_, (Evl.pss_cut (ps_set (i := 1) sc__law_by_place.nd rfl (.inl rfl) (pe_lst (pa_cons (pe_excV T.e_NoField.o T.e_NoField.iC T.e_NoField.tI (ok_NoField___init__ T) (hr.mono (by decide)) T.b_NoField___init__ pass0 (by rfl) T.g_NoField (pa_cons (pv 0) pa_nil)) (pa_cons (pe_excV T.e_NoWord.o T.e_NoWord.iC T.e_NoWord.tI (ok_NoWord___init__ T) (hr.mono (by decide)) T.b_NoWord___init__ pass0 (by rfl) T.g_NoWord (pa_cons (pv 0) (pa_cons pe_int pa_nil))) (pa_cons (pe_excV T.e_NoSize.o T.e_NoSize.iC T.e_NoSize.tI (ok_NoSize___init__ T) (hr.mono (by decide)) T.b_NoSize___init__ pass0 (by rfl) T.g_NoSize (pa_cons (pv 0) pa_nil)) (pa_cons (pe_excV T.e_NoLevel.o T.e_NoLevel.iC T.e_NoLevel.tI (ok_NoLevel___init__ T) (hr.mono (by decide)) T.b_NoLevel___init__ pass0 (by rfl) T.g_NoLevel (pa_cons (pv 0) pa_nil)) pa_nil))))))
      (Evl.pss_cut (ps_set (i := 1) sc__law_by_place.nd rfl (.inl rfl) (pe_op op_catL (pv 1) (pe_lst (pa_cons (pe_excV T.e_NoMask.o T.e_NoMask.iC T.e_NoMask.tI (ok_NoMask___init__ T) (hr.mono (by decide)) T.b_NoMask___init__ pass0 (by rfl) T.g_NoMask (pa_cons (pv 0) pa_nil)) (pa_cons (pe_excV T.e_NoDot.o T.e_NoDot.iC T.e_NoDot.tI (ok_NoDot___init__ T) (hr.mono (by decide)) T.b_NoDot___init__ pass0 (by rfl) T.g_NoDot (pa_cons (pv 0) pa_nil)) (pa_cons (pe_excV T.e_NoIndex.o T.e_NoIndex.iC T.e_NoIndex.tI (ok_NoIndex___init__ T) (hr.mono (by decide)) T.b_NoIndex___init__ pass0 (by rfl) T.g_NoIndex (pa_cons (pv 0) pa_nil)) (pa_cons (pe_excV T.e_NoWords.o T.e_NoWords.iC T.e_NoWords.tI (ok_NoWords___init__ T) (hr.mono (by decide)) T.b_NoWords___init__ pass0 (by rfl) T.g_NoWords (pa_cons (pv 0) pa_nil)) pa_nil)))))))
      (Evl.pss_cut (ps_set (i := 1) sc__law_by_place.nd rfl (.inl rfl) (pe_op op_catL (pv 1) (pe_lst (pa_cons (pe_excV T.e_NoBlock.o T.e_NoBlock.iC T.e_NoBlock.tI (ok_NoBlock___init__ T) (hr.mono (by decide)) T.b_NoBlock___init__ pass0 (by rfl) T.g_NoBlock (pa_cons (pv 0) (pa_cons pe_int pa_nil))) (pa_cons (pe_excV T.e_NoGrid.o T.e_NoGrid.iC T.e_NoGrid.tI (ok_NoGrid___init__ T) (hr.mono (by decide)) T.b_NoGrid___init__ pass0 (by rfl) T.g_NoGrid (pa_cons (pv 0) (pa_cons pe_int pa_nil))) (pa_cons (pe_excV T.e_NoCode.o T.e_NoCode.iC T.e_NoCode.tI (ok_NoCode___init__ T) (hr.mono (by decide)) T.b_NoCode___init__ pass0 (by rfl) T.g_NoCode (pa_cons (pv 0) pa_nil)) (pa_cons (pe_excV T.e_NoNumber.o T.e_NoNumber.iC T.e_NoNumber.tI (ok_NoNumber___init__ T) (hr.mono (by decide)) T.b_NoNumber___init__ pass0 (by rfl) T.g_NoNumber (pa_cons (pv 0) pa_nil)) pa_nil)))))))
      (Evl.pss_cut (ps_set (i := 1) sc__law_by_place.nd rfl (.inl rfl) (pe_op op_catL (pv 1) (pe_lst (pa_cons (pe_excV T.e_TooLarge.o T.e_TooLarge.iC T.e_TooLarge.tI (ok_TooLarge___init__ T) (hr.mono (by decide)) T.b_TooLarge___init__ pass0 (by rfl) T.g_TooLarge (pa_cons (pv 0) pa_nil)) (pa_cons (pe_excV T.e_NoWish.o T.e_NoWish.iC T.e_NoWish.tI (ok_NoWish___init__ T) (hr.mono (by decide)) T.b_NoWish___init__ pass0 (by rfl) T.g_NoWish (pa_cons (pv 0) pa_nil)) (pa_cons (pe_excV T.e_NoDots.o T.e_NoDots.iC T.e_NoDots.tI (ok_NoDots___init__ T) (hr.mono (by decide)) T.b_NoDots___init__ pass0 (by rfl) T.g_NoDots (pa_cons (pv 0) pa_nil)) (pa_cons (pe_excV T.e_NoPattern.o T.e_NoPattern.iC T.e_NoPattern.tI (ok_NoPattern___init__ T) (hr.mono (by decide)) T.b_NoPattern___init__ pass0 (by rfl) T.g_NoPattern (pa_cons (pv 0) pa_nil)) pa_nil)))))))
      (Evl.pss_cut (ps_set (i := 1) sc__law_by_place.nd rfl (.inl rfl) (pe_op op_catL (pv 1) (pe_lst (pa_cons (pe_excV T.e_NoAnswer.o T.e_NoAnswer.iC T.e_NoAnswer.tI (ok_NoAnswer___init__ T) (hr.mono (by decide)) T.b_NoAnswer___init__ pass0 (by rfl) T.g_NoAnswer (pa_cons (pv 0) (pa_cons pe_int pa_nil))) (pa_cons (pe_excV T.e_NoPicture.o T.e_NoPicture.iC T.e_NoPicture.tI (ok_NoPicture___init__ T) (hr.mono (by decide)) T.b_NoPicture___init__ pass0 (by rfl) T.g_NoPicture (pa_cons (pv 0) pa_nil)) (pa_cons (pe_excV T.e_NoChange.o T.e_NoChange.iC T.e_NoChange.tI (ok_NoChange___init__ T) (hr.mono (by decide)) T.b_NoChange___init__ pass0 (by rfl) T.g_NoChange (pa_cons (pv 0) pa_nil)) (pa_cons (pe_excV T.e_NoText.o T.e_NoText.iC T.e_NoText.tI (ok_NoText___init__ T) (hr.mono (by decide)) T.b_NoText___init__ pass0 (by rfl) T.g_NoText (pa_cons (pv 0) pa_nil)) pa_nil)))))))
      (Evl.pss_cut (ps_set (i := 1) sc__law_by_place.nd rfl (.inl rfl) (pe_op op_catL (pv 1) (pe_lst (pa_cons (pe_excV T.e_NoPieces.o T.e_NoPieces.iC T.e_NoPieces.tI (ok_NoPieces___init__ T) (hr.mono (by decide)) T.b_NoPieces___init__ pass0 (by rfl) T.g_NoPieces (pa_cons (pv 0) pa_nil)) (pa_cons (pe_excV T.e_NoBits.o T.e_NoBits.iC T.e_NoBits.tI (ok_NoBits___init__ T) (hr.mono (by decide)) T.b_NoBits___init__ pass0 (by rfl) T.g_NoBits (pa_cons (pv 0) pa_nil)) (pa_cons (pe_excV T.e_Unread.o T.e_Unread.iC T.e_Unread.tI (ok_Unread___init__ T) (hr.mono (by decide)) T.b_Unread___init__ pass0 (by rfl) T.g_Unread (pa_cons (pv 0) (pa_cons pe_int pa_nil))) (pa_cons (pe_excV T.e_TooLong.o T.e_TooLong.iC T.e_TooLong.tI (ok_TooLong___init__ T) (hr.mono (by decide)) T.b_TooLong___init__ pass0 (by rfl) T.g_TooLong (pa_cons (pv 0) pa_nil)) pa_nil)))))))
      (Evl.pss_cut (ps_set (i := 1) sc__law_by_place.nd rfl (.inl rfl) (pe_op op_catL (pv 1) (pe_lst (pa_cons (pe_excV T.e_NoSeries.o T.e_NoSeries.iC T.e_NoSeries.tI (ok_NoSeries___init__ T) (hr.mono (by decide)) T.b_NoSeries___init__ pass0 (by rfl) T.g_NoSeries (pa_cons (pv 0) (pa_cons pe_int pa_nil))) (pa_cons (pe_excV T.e_NoParts.o T.e_NoParts.iC T.e_NoParts.tI (ok_NoParts___init__ T) (hr.mono (by decide)) T.b_NoParts___init__ pass0 (by rfl) T.g_NoParts (pa_cons (pv 0) (pa_cons pe_int pa_nil))) (pa_cons (pe_excV T.e_NoFormat.o T.e_NoFormat.iC T.e_NoFormat.tI (ok_NoFormat___init__ T) (hr.mono (by decide)) T.b_NoFormat___init__ pass0 (by rfl) T.g_NoFormat (pa_cons (pv 0) pa_nil)) (pa_cons (pe_excV T.e_NoStain.o T.e_NoStain.iC T.e_NoStain.tI (ok_NoStain___init__ T) (hr.mono (by decide)) T.b_NoStain___init__ pass0 (by rfl) T.g_NoStain (pa_cons (pv 0) (pa_cons pe_int pa_nil))) pa_nil)))))))
      (Evl.pss_cut (ps_set (i := 1) sc__law_by_place.nd rfl (.inl rfl) (pe_op op_catL (pv 1) (pe_lst (pa_cons (pe_excV T.e_NoKind.o T.e_NoKind.iC T.e_NoKind.tI (ok_NoKind___init__ T) (hr.mono (by decide)) T.b_NoKind___init__ pass0 (by rfl) T.g_NoKind (pa_cons (pv 0) pa_nil)) (pa_cons (pe_excV T.e_NoPaper.o T.e_NoPaper.iC T.e_NoPaper.tI (ok_NoPaper___init__ T) (hr.mono (by decide)) T.b_NoPaper___init__ pass0 (by rfl) T.g_NoPaper (pa_cons (pv 0) pa_nil)) (pa_cons (pe_excV T.e_Unmended.o T.e_Unmended.iC T.e_Unmended.tI (ok_Unmended___init__ T) (hr.mono (by decide)) T.b_Unmended___init__ pass0 (by rfl) T.g_Unmended (pa_cons (pv 0) (pa_cons pe_int pa_nil))) (pa_cons (pe_excV T.e_NoPose.o T.e_NoPose.iC T.e_NoPose.tI (ok_NoPose___init__ T) (hr.mono (by decide)) T.b_NoPose___init__ pass0 (by rfl) T.g_NoPose (pa_cons (pv 0) pa_nil)) pa_nil)))))))
      (Evl.pss_cut (ps_set (i := 1) sc__law_by_place.nd rfl (.inl rfl) (pe_op op_catL (pv 1) (pe_lst (pa_cons (pe_excV T.e_NoPlace.o T.e_NoPlace.iC T.e_NoPlace.tI (ok_NoPlace___init__ T) (hr.mono (by decide)) T.b_NoPlace___init__ pass0 (by rfl) T.g_NoPlace (pa_cons (pv 0) pa_nil)) pa_nil))))
      (pss_one (ps_ret (pv 1)))))))))))), ?_⟩
    refine ⟨fun σ' H' => ∃ l xs, σ' = [some x, some (.ref l)] ∧ Same H H' ∧ H' l = some (.lst xs) ∧ Mad H' xs ((tabX T x).take 4), ?_, ?_⟩
    · refine ⟨_, rfl, Nat.le_of_ble_eq_true rfl, fun a1 h1 => ⟨a1, x, rfl, upd_same, fun G1 m1 => ⟨rfl, _, rfl, Nat.le_of_ble_eq_true rfl, fun a2 h2 => ⟨a2, x, .int 7, rfl, upd_same, fun G2 m2 => ⟨rfl, _, rfl, Nat.le_of_ble_eq_true rfl, fun a3 h3 => ⟨a3, x, rfl, upd_same, fun G3 m3 => ⟨rfl, _, rfl, Nat.le_of_ble_eq_true rfl, fun a4 h4 => ⟨a4, x, rfl, upd_same, fun G4 m4 => ⟨rfl, (by show 4 ≤ sizeLine; decide), fun p hp => ?_⟩⟩⟩⟩⟩⟩⟩⟩⟩
      obtain ⟨s1, e1⟩ := m1.made h1
      obtain ⟨s2, e2⟩ := m2.made h2
      obtain ⟨s3, e3⟩ := m3.made h3
      obtain ⟨s4, e4⟩ := m4.made h4
      exact ⟨p, _, rfl, Same.trans s1 <| Same.trans s2 <| Same.trans s3 <| Same.trans s4 <| same_upd hp, upd_same, .cons (e1.same (Same.trans s2 <| Same.trans s3 <| Same.trans s4 <| same_upd hp)) (.cons (e2.same (Same.trans s3 <| Same.trans s4 <| same_upd hp)) (.cons (e3.same (Same.trans s4 <| same_upd hp)) (.cons (e4.same (same_upd hp)) (.nil))))⟩
    rintro σ' H1 ⟨l, xs, rfl, sm, hl, m⟩
    refine ⟨fun σ' H' => ∃ l xs, σ' = [some x, some (.ref l)] ∧ Same H H' ∧ H' l = some (.lst xs) ∧ Mad H' xs ((tabX T x).take 8), ?_, ?_⟩
    · refine ⟨_, rfl, _, rfl, Nat.le_of_ble_eq_true rfl, fun a1 h1 => ⟨a1, x, rfl, upd_same, fun G1 m1 => ⟨rfl, _, rfl, Nat.le_of_ble_eq_true rfl, fun a2 h2 => ⟨a2, x, rfl, upd_same, fun G2 m2 => ⟨rfl, _, rfl, Nat.le_of_ble_eq_true rfl, fun a3 h3 => ⟨a3, x, rfl, upd_same, fun G3 m3 => ⟨rfl, _, rfl, Nat.le_of_ble_eq_true rfl, fun a4 h4 => ⟨a4, x, rfl, upd_same, fun G4 m4 => ⟨rfl, (by show 4 ≤ sizeLine; decide), fun p hp => ?_⟩⟩⟩⟩⟩⟩⟩⟩⟩
      obtain ⟨s1, e1⟩ := m1.made h1
      obtain ⟨s2, e2⟩ := m2.made h2
      obtain ⟨s3, e3⟩ := m3.made h3
      obtain ⟨s4, e4⟩ := m4.made h4
      refine ⟨l, p, _, _, rfl, rfl, .inl (.inl ((Same.trans s1 <| Same.trans s2 <| Same.trans s3 <| Same.trans s4 <| same_upd hp) _ _ hl)), .inl (.inl upd_same), ?_, fun p2 hp2 => ?_⟩
      · show xs.length + 4 ≤ sizeLine
        rw [show xs.length = 4 from m.len]
        decide
      exact ⟨p2, _, rfl, sm.trans <| Same.trans s1 <| Same.trans s2 <| Same.trans s3 <| Same.trans s4 <| (same_upd hp).trans (same_upd hp2), upd_same, (m.same (Same.trans s1 <| Same.trans s2 <| Same.trans s3 <| Same.trans s4 <| (same_upd hp).trans (same_upd hp2))).app (.cons (e1.same (Same.trans s2 <| Same.trans s3 <| Same.trans s4 <| (same_upd hp).trans (same_upd hp2))) (.cons (e2.same (Same.trans s3 <| Same.trans s4 <| (same_upd hp).trans (same_upd hp2))) (.cons (e3.same (Same.trans s4 <| (same_upd hp).trans (same_upd hp2))) (.cons (e4.same ((same_upd hp).trans (same_upd hp2))) (.nil)))))⟩
    clear sm hl m l xs
    rintro σ' H2 ⟨l, xs, rfl, sm, hl, m⟩
    refine ⟨fun σ' H' => ∃ l xs, σ' = [some x, some (.ref l)] ∧ Same H H' ∧ H' l = some (.lst xs) ∧ Mad H' xs ((tabX T x).take 12), ?_, ?_⟩
    · refine ⟨_, rfl, _, rfl, Nat.le_of_ble_eq_true rfl, fun a1 h1 => ⟨a1, x, .int 7, rfl, upd_same, fun G1 m1 => ⟨rfl, _, rfl, Nat.le_of_ble_eq_true rfl, fun a2 h2 => ⟨a2, x, .int 7, rfl, upd_same, fun G2 m2 => ⟨rfl, _, rfl, Nat.le_of_ble_eq_true rfl, fun a3 h3 => ⟨a3, x, rfl, upd_same, fun G3 m3 => ⟨rfl, _, rfl, Nat.le_of_ble_eq_true rfl, fun a4 h4 => ⟨a4, x, rfl, upd_same, fun G4 m4 => ⟨rfl, (by show 4 ≤ sizeLine; decide), fun p hp => ?_⟩⟩⟩⟩⟩⟩⟩⟩⟩
      obtain ⟨s1, e1⟩ := m1.made h1
      obtain ⟨s2, e2⟩ := m2.made h2
      obtain ⟨s3, e3⟩ := m3.made h3
      obtain ⟨s4, e4⟩ := m4.made h4
      refine ⟨l, p, _, _, rfl, rfl, .inl (.inl ((Same.trans s1 <| Same.trans s2 <| Same.trans s3 <| Same.trans s4 <| same_upd hp) _ _ hl)), .inl (.inl upd_same), ?_, fun p2 hp2 => ?_⟩
      · show xs.length + 4 ≤ sizeLine
        rw [show xs.length = 8 from m.len]
        decide
      exact ⟨p2, _, rfl, sm.trans <| Same.trans s1 <| Same.trans s2 <| Same.trans s3 <| Same.trans s4 <| (same_upd hp).trans (same_upd hp2), upd_same, (m.same (Same.trans s1 <| Same.trans s2 <| Same.trans s3 <| Same.trans s4 <| (same_upd hp).trans (same_upd hp2))).app (.cons (e1.same (Same.trans s2 <| Same.trans s3 <| Same.trans s4 <| (same_upd hp).trans (same_upd hp2))) (.cons (e2.same (Same.trans s3 <| Same.trans s4 <| (same_upd hp).trans (same_upd hp2))) (.cons (e3.same (Same.trans s4 <| (same_upd hp).trans (same_upd hp2))) (.cons (e4.same ((same_upd hp).trans (same_upd hp2))) (.nil)))))⟩
    clear sm hl m l xs
    rintro σ' H3 ⟨l, xs, rfl, sm, hl, m⟩
    refine ⟨fun σ' H' => ∃ l xs, σ' = [some x, some (.ref l)] ∧ Same H H' ∧ H' l = some (.lst xs) ∧ Mad H' xs ((tabX T x).take 16), ?_, ?_⟩
    · refine ⟨_, rfl, _, rfl, Nat.le_of_ble_eq_true rfl, fun a1 h1 => ⟨a1, x, rfl, upd_same, fun G1 m1 => ⟨rfl, _, rfl, Nat.le_of_ble_eq_true rfl, fun a2 h2 => ⟨a2, x, rfl, upd_same, fun G2 m2 => ⟨rfl, _, rfl, Nat.le_of_ble_eq_true rfl, fun a3 h3 => ⟨a3, x, rfl, upd_same, fun G3 m3 => ⟨rfl, _, rfl, Nat.le_of_ble_eq_true rfl, fun a4 h4 => ⟨a4, x, rfl, upd_same, fun G4 m4 => ⟨rfl, (by show 4 ≤ sizeLine; decide), fun p hp => ?_⟩⟩⟩⟩⟩⟩⟩⟩⟩
      obtain ⟨s1, e1⟩ := m1.made h1
      obtain ⟨s2, e2⟩ := m2.made h2
      obtain ⟨s3, e3⟩ := m3.made h3
      obtain ⟨s4, e4⟩ := m4.made h4
      refine ⟨l, p, _, _, rfl, rfl, .inl (.inl ((Same.trans s1 <| Same.trans s2 <| Same.trans s3 <| Same.trans s4 <| same_upd hp) _ _ hl)), .inl (.inl upd_same), ?_, fun p2 hp2 => ?_⟩
      · show xs.length + 4 ≤ sizeLine
        rw [show xs.length = 12 from m.len]
        decide
      exact ⟨p2, _, rfl, sm.trans <| Same.trans s1 <| Same.trans s2 <| Same.trans s3 <| Same.trans s4 <| (same_upd hp).trans (same_upd hp2), upd_same, (m.same (Same.trans s1 <| Same.trans s2 <| Same.trans s3 <| Same.trans s4 <| (same_upd hp).trans (same_upd hp2))).app (.cons (e1.same (Same.trans s2 <| Same.trans s3 <| Same.trans s4 <| (same_upd hp).trans (same_upd hp2))) (.cons (e2.same (Same.trans s3 <| Same.trans s4 <| (same_upd hp).trans (same_upd hp2))) (.cons (e3.same (Same.trans s4 <| (same_upd hp).trans (same_upd hp2))) (.cons (e4.same ((same_upd hp).trans (same_upd hp2))) (.nil)))))⟩
    clear sm hl m l xs
    rintro σ' H4 ⟨l, xs, rfl, sm, hl, m⟩
    refine ⟨fun σ' H' => ∃ l xs, σ' = [some x, some (.ref l)] ∧ Same H H' ∧ H' l = some (.lst xs) ∧ Mad H' xs ((tabX T x).take 20), ?_, ?_⟩
    · refine ⟨_, rfl, _, rfl, Nat.le_of_ble_eq_true rfl, fun a1 h1 => ⟨a1, x, .int 7, rfl, upd_same, fun G1 m1 => ⟨rfl, _, rfl, Nat.le_of_ble_eq_true rfl, fun a2 h2 => ⟨a2, x, rfl, upd_same, fun G2 m2 => ⟨rfl, _, rfl, Nat.le_of_ble_eq_true rfl, fun a3 h3 => ⟨a3, x, rfl, upd_same, fun G3 m3 => ⟨rfl, _, rfl, Nat.le_of_ble_eq_true rfl, fun a4 h4 => ⟨a4, x, rfl, upd_same, fun G4 m4 => ⟨rfl, (by show 4 ≤ sizeLine; decide), fun p hp => ?_⟩⟩⟩⟩⟩⟩⟩⟩⟩
      obtain ⟨s1, e1⟩ := m1.made h1
      obtain ⟨s2, e2⟩ := m2.made h2
      obtain ⟨s3, e3⟩ := m3.made h3
      obtain ⟨s4, e4⟩ := m4.made h4
      refine ⟨l, p, _, _, rfl, rfl, .inl (.inl ((Same.trans s1 <| Same.trans s2 <| Same.trans s3 <| Same.trans s4 <| same_upd hp) _ _ hl)), .inl (.inl upd_same), ?_, fun p2 hp2 => ?_⟩
      · show xs.length + 4 ≤ sizeLine
        rw [show xs.length = 16 from m.len]
        decide
      exact ⟨p2, _, rfl, sm.trans <| Same.trans s1 <| Same.trans s2 <| Same.trans s3 <| Same.trans s4 <| (same_upd hp).trans (same_upd hp2), upd_same, (m.same (Same.trans s1 <| Same.trans s2 <| Same.trans s3 <| Same.trans s4 <| (same_upd hp).trans (same_upd hp2))).app (.cons (e1.same (Same.trans s2 <| Same.trans s3 <| Same.trans s4 <| (same_upd hp).trans (same_upd hp2))) (.cons (e2.same (Same.trans s3 <| Same.trans s4 <| (same_upd hp).trans (same_upd hp2))) (.cons (e3.same (Same.trans s4 <| (same_upd hp).trans (same_upd hp2))) (.cons (e4.same ((same_upd hp).trans (same_upd hp2))) (.nil)))))⟩
    clear sm hl m l xs
    rintro σ' H5 ⟨l, xs, rfl, sm, hl, m⟩
    refine ⟨fun σ' H' => ∃ l xs, σ' = [some x, some (.ref l)] ∧ Same H H' ∧ H' l = some (.lst xs) ∧ Mad H' xs ((tabX T x).take 24), ?_, ?_⟩
    · refine ⟨_, rfl, _, rfl, Nat.le_of_ble_eq_true rfl, fun a1 h1 => ⟨a1, x, rfl, upd_same, fun G1 m1 => ⟨rfl, _, rfl, Nat.le_of_ble_eq_true rfl, fun a2 h2 => ⟨a2, x, rfl, upd_same, fun G2 m2 => ⟨rfl, _, rfl, Nat.le_of_ble_eq_true rfl, fun a3 h3 => ⟨a3, x, .int 7, rfl, upd_same, fun G3 m3 => ⟨rfl, _, rfl, Nat.le_of_ble_eq_true rfl, fun a4 h4 => ⟨a4, x, rfl, upd_same, fun G4 m4 => ⟨rfl, (by show 4 ≤ sizeLine; decide), fun p hp => ?_⟩⟩⟩⟩⟩⟩⟩⟩⟩
      obtain ⟨s1, e1⟩ := m1.made h1
      obtain ⟨s2, e2⟩ := m2.made h2
      obtain ⟨s3, e3⟩ := m3.made h3
      obtain ⟨s4, e4⟩ := m4.made h4
      refine ⟨l, p, _, _, rfl, rfl, .inl (.inl ((Same.trans s1 <| Same.trans s2 <| Same.trans s3 <| Same.trans s4 <| same_upd hp) _ _ hl)), .inl (.inl upd_same), ?_, fun p2 hp2 => ?_⟩
      · show xs.length + 4 ≤ sizeLine
        rw [show xs.length = 20 from m.len]
        decide
      exact ⟨p2, _, rfl, sm.trans <| Same.trans s1 <| Same.trans s2 <| Same.trans s3 <| Same.trans s4 <| (same_upd hp).trans (same_upd hp2), upd_same, (m.same (Same.trans s1 <| Same.trans s2 <| Same.trans s3 <| Same.trans s4 <| (same_upd hp).trans (same_upd hp2))).app (.cons (e1.same (Same.trans s2 <| Same.trans s3 <| Same.trans s4 <| (same_upd hp).trans (same_upd hp2))) (.cons (e2.same (Same.trans s3 <| Same.trans s4 <| (same_upd hp).trans (same_upd hp2))) (.cons (e3.same (Same.trans s4 <| (same_upd hp).trans (same_upd hp2))) (.cons (e4.same ((same_upd hp).trans (same_upd hp2))) (.nil)))))⟩
    clear sm hl m l xs
    rintro σ' H6 ⟨l, xs, rfl, sm, hl, m⟩
    refine ⟨fun σ' H' => ∃ l xs, σ' = [some x, some (.ref l)] ∧ Same H H' ∧ H' l = some (.lst xs) ∧ Mad H' xs ((tabX T x).take 28), ?_, ?_⟩
    · refine ⟨_, rfl, _, rfl, Nat.le_of_ble_eq_true rfl, fun a1 h1 => ⟨a1, x, .int 7, rfl, upd_same, fun G1 m1 => ⟨rfl, _, rfl, Nat.le_of_ble_eq_true rfl, fun a2 h2 => ⟨a2, x, .int 7, rfl, upd_same, fun G2 m2 => ⟨rfl, _, rfl, Nat.le_of_ble_eq_true rfl, fun a3 h3 => ⟨a3, x, rfl, upd_same, fun G3 m3 => ⟨rfl, _, rfl, Nat.le_of_ble_eq_true rfl, fun a4 h4 => ⟨a4, x, .int 7, rfl, upd_same, fun G4 m4 => ⟨rfl, (by show 4 ≤ sizeLine; decide), fun p hp => ?_⟩⟩⟩⟩⟩⟩⟩⟩⟩
      obtain ⟨s1, e1⟩ := m1.made h1
      obtain ⟨s2, e2⟩ := m2.made h2
      obtain ⟨s3, e3⟩ := m3.made h3
      obtain ⟨s4, e4⟩ := m4.made h4
      refine ⟨l, p, _, _, rfl, rfl, .inl (.inl ((Same.trans s1 <| Same.trans s2 <| Same.trans s3 <| Same.trans s4 <| same_upd hp) _ _ hl)), .inl (.inl upd_same), ?_, fun p2 hp2 => ?_⟩
      · show xs.length + 4 ≤ sizeLine
        rw [show xs.length = 24 from m.len]
        decide
      exact ⟨p2, _, rfl, sm.trans <| Same.trans s1 <| Same.trans s2 <| Same.trans s3 <| Same.trans s4 <| (same_upd hp).trans (same_upd hp2), upd_same, (m.same (Same.trans s1 <| Same.trans s2 <| Same.trans s3 <| Same.trans s4 <| (same_upd hp).trans (same_upd hp2))).app (.cons (e1.same (Same.trans s2 <| Same.trans s3 <| Same.trans s4 <| (same_upd hp).trans (same_upd hp2))) (.cons (e2.same (Same.trans s3 <| Same.trans s4 <| (same_upd hp).trans (same_upd hp2))) (.cons (e3.same (Same.trans s4 <| (same_upd hp).trans (same_upd hp2))) (.cons (e4.same ((same_upd hp).trans (same_upd hp2))) (.nil)))))⟩
    clear sm hl m l xs
    rintro σ' H7 ⟨l, xs, rfl, sm, hl, m⟩
    refine ⟨fun σ' H' => ∃ l xs, σ' = [some x, some (.ref l)] ∧ Same H H' ∧ H' l = some (.lst xs) ∧ Mad H' xs ((tabX T x).take 32), ?_, ?_⟩
    · refine ⟨_, rfl, _, rfl, Nat.le_of_ble_eq_true rfl, fun a1 h1 => ⟨a1, x, rfl, upd_same, fun G1 m1 => ⟨rfl, _, rfl, Nat.le_of_ble_eq_true rfl, fun a2 h2 => ⟨a2, x, rfl, upd_same, fun G2 m2 => ⟨rfl, _, rfl, Nat.le_of_ble_eq_true rfl, fun a3 h3 => ⟨a3, x, .int 7, rfl, upd_same, fun G3 m3 => ⟨rfl, _, rfl, Nat.le_of_ble_eq_true rfl, fun a4 h4 => ⟨a4, x, rfl, upd_same, fun G4 m4 => ⟨rfl, (by show 4 ≤ sizeLine; decide), fun p hp => ?_⟩⟩⟩⟩⟩⟩⟩⟩⟩
      obtain ⟨s1, e1⟩ := m1.made h1
      obtain ⟨s2, e2⟩ := m2.made h2
      obtain ⟨s3, e3⟩ := m3.made h3
      obtain ⟨s4, e4⟩ := m4.made h4
      refine ⟨l, p, _, _, rfl, rfl, .inl (.inl ((Same.trans s1 <| Same.trans s2 <| Same.trans s3 <| Same.trans s4 <| same_upd hp) _ _ hl)), .inl (.inl upd_same), ?_, fun p2 hp2 => ?_⟩
      · show xs.length + 4 ≤ sizeLine
        rw [show xs.length = 28 from m.len]
        decide
      exact ⟨p2, _, rfl, sm.trans <| Same.trans s1 <| Same.trans s2 <| Same.trans s3 <| Same.trans s4 <| (same_upd hp).trans (same_upd hp2), upd_same, (m.same (Same.trans s1 <| Same.trans s2 <| Same.trans s3 <| Same.trans s4 <| (same_upd hp).trans (same_upd hp2))).app (.cons (e1.same (Same.trans s2 <| Same.trans s3 <| Same.trans s4 <| (same_upd hp).trans (same_upd hp2))) (.cons (e2.same (Same.trans s3 <| Same.trans s4 <| (same_upd hp).trans (same_upd hp2))) (.cons (e3.same (Same.trans s4 <| (same_upd hp).trans (same_upd hp2))) (.cons (e4.same ((same_upd hp).trans (same_upd hp2))) (.nil)))))⟩
    clear sm hl m l xs
    rintro σ' H8 ⟨l, xs, rfl, sm, hl, m⟩
    refine ⟨fun σ' H' => ∃ l xs, σ' = [some x, some (.ref l)] ∧ Same H H' ∧ H' l = some (.lst xs) ∧ Mad H' xs ((tabX T x).take 33), ?_, ?_⟩
    · refine ⟨_, rfl, _, rfl, Nat.le_of_ble_eq_true rfl, fun a1 h1 => ⟨a1, x, rfl, upd_same, fun G1 m1 => ⟨rfl, (by show 1 ≤ sizeLine; decide), fun p hp => ?_⟩⟩⟩
      obtain ⟨s1, e1⟩ := m1.made h1
      refine ⟨l, p, _, _, rfl, rfl, .inl (.inl ((Same.trans s1 <| same_upd hp) _ _ hl)), .inl (.inl upd_same), ?_, fun p2 hp2 => ?_⟩
      · show xs.length + 1 ≤ sizeLine
        rw [show xs.length = 32 from m.len]
        decide
      exact ⟨p2, _, rfl, sm.trans <| Same.trans s1 <| (same_upd hp).trans (same_upd hp2), upd_same, (m.same (Same.trans s1 <| (same_upd hp).trans (same_upd hp2))).app (.cons (e1.same ((same_upd hp).trans (same_upd hp2))) (.nil))⟩
    clear sm hl m l xs
    rintro σ' H9 ⟨l, xs, rfl, sm, hl, m⟩
    exact ⟨_, rfl, q l xs _ sm hl m⟩
theorem ok__law_by_name (T : Txt K mg) : FnOk P w K mg base CX0 3 T.f__law_by_name T.d__law_by_name ["_law_x"] (sp_by (tabX T)) := by
  refine T.F__law_by_name.ok sc__law_by_name (fun vs H Q E h => ?_) (fun cdv A outer s H vs Q E hr h => ?_)
  · obtain ⟨x, rfl, _⟩ := h
    rfl
  · obtain ⟨x, rfl, q⟩ := h
    refine ⟨_, (Evl.pss_cut (ps_set (i := 1) sc__law_by_name.nd rfl (.inl rfl) (pe_lst (pa_cons (pe_excK (ks := ["bits"]) (g := (fun l => l)) (gV := (fun l => l)) T.e_NoField.o T.e_NoField.iC T.e_NoField.tI (ok_NoField___init__ T) (hr.mono (by decide)) T.k_NoField___init__ (fun r => r) pass0 (by rfl) T.g_NoField (pk_cons (pv 0) pk_nil)) (pa_cons (pe_excK (ks := ["index", "part"]) (g := rev2) (gV := rev2) T.e_NoWord.o T.e_NoWord.iC T.e_NoWord.tI (ok_NoWord___init__ T) (hr.mono (by decide)) T.k_NoWord___init__ rev2_rel pass0 (by rfl) T.g_NoWord (pk_cons pe_int (pk_cons (pv 0) pk_nil))) (pa_cons (pe_excK (ks := ["size"]) (g := (fun l => l)) (gV := (fun l => l)) T.e_NoSize.o T.e_NoSize.iC T.e_NoSize.tI (ok_NoSize___init__ T) (hr.mono (by decide)) T.k_NoSize___init__ (fun r => r) pass0 (by rfl) T.g_NoSize (pk_cons (pv 0) pk_nil)) pa_nil)))))
      (Evl.pss_cut (ps_set (i := 1) sc__law_by_name.nd rfl (.inl rfl) (pe_op op_catL (pv 1) (pe_lst (pa_cons (pe_excK (ks := ["level"]) (g := (fun l => l)) (gV := (fun l => l)) T.e_NoLevel.o T.e_NoLevel.iC T.e_NoLevel.tI (ok_NoLevel___init__ T) (hr.mono (by decide)) T.k_NoLevel___init__ (fun r => r) pass0 (by rfl) T.g_NoLevel (pk_cons (pv 0) pk_nil)) (pa_cons (pe_excK (ks := ["mask"]) (g := (fun l => l)) (gV := (fun l => l)) T.e_NoMask.o T.e_NoMask.iC T.e_NoMask.tI (ok_NoMask___init__ T) (hr.mono (by decide)) T.k_NoMask___init__ (fun r => r) pass0 (by rfl) T.g_NoMask (pk_cons (pv 0) pk_nil)) (pa_cons (pe_excK (ks := ["dot"]) (g := (fun l => l)) (gV := (fun l => l)) T.e_NoDot.o T.e_NoDot.iC T.e_NoDot.tI (ok_NoDot___init__ T) (hr.mono (by decide)) T.k_NoDot___init__ (fun r => r) pass0 (by rfl) T.g_NoDot (pk_cons (pv 0) pk_nil)) pa_nil))))))
      (Evl.pss_cut (ps_set (i := 1) sc__law_by_name.nd rfl (.inl rfl) (pe_op op_catL (pv 1) (pe_lst (pa_cons (pe_excK (ks := ["index"]) (g := (fun l => l)) (gV := (fun l => l)) T.e_NoIndex.o T.e_NoIndex.iC T.e_NoIndex.tI (ok_NoIndex___init__ T) (hr.mono (by decide)) T.k_NoIndex___init__ (fun r => r) pass0 (by rfl) T.g_NoIndex (pk_cons (pv 0) pk_nil)) (pa_cons (pe_excK (ks := ["index"]) (g := (fun l => l)) (gV := (fun l => l)) T.e_NoWords.o T.e_NoWords.iC T.e_NoWords.tI (ok_NoWords___init__ T) (hr.mono (by decide)) T.k_NoWords___init__ (fun r => r) pass0 (by rfl) T.g_NoWords (pk_cons (pv 0) pk_nil)) (pa_cons (pe_excK (ks := ["index", "block"]) (g := rev2) (gV := rev2) T.e_NoBlock.o T.e_NoBlock.iC T.e_NoBlock.tI (ok_NoBlock___init__ T) (hr.mono (by decide)) T.k_NoBlock___init__ rev2_rel pass0 (by rfl) T.g_NoBlock (pk_cons pe_int (pk_cons (pv 0) pk_nil))) pa_nil))))))
      (Evl.pss_cut (ps_set (i := 1) sc__law_by_name.nd rfl (.inl rfl) (pe_op op_catL (pv 1) (pe_lst (pa_cons (pe_excK (ks := ["column", "row"]) (g := rev2) (gV := rev2) T.e_NoGrid.o T.e_NoGrid.iC T.e_NoGrid.tI (ok_NoGrid___init__ T) (hr.mono (by decide)) T.k_NoGrid___init__ rev2_rel pass0 (by rfl) T.g_NoGrid (pk_cons pe_int (pk_cons (pv 0) pk_nil))) (pa_cons (pe_excK (ks := ["code"]) (g := (fun l => l)) (gV := (fun l => l)) T.e_NoCode.o T.e_NoCode.iC T.e_NoCode.tI (ok_NoCode___init__ T) (hr.mono (by decide)) T.k_NoCode___init__ (fun r => r) pass0 (by rfl) T.g_NoCode (pk_cons (pv 0) pk_nil)) (pa_cons (pe_excK (ks := ["part"]) (g := (fun l => l)) (gV := (fun l => l)) T.e_NoNumber.o T.e_NoNumber.iC T.e_NoNumber.tI (ok_NoNumber___init__ T) (hr.mono (by decide)) T.k_NoNumber___init__ (fun r => r) pass0 (by rfl) T.g_NoNumber (pk_cons (pv 0) pk_nil)) pa_nil))))))
      (Evl.pss_cut (ps_set (i := 1) sc__law_by_name.nd rfl (.inl rfl) (pe_op op_catL (pv 1) (pe_lst (pa_cons (pe_excK (ks := ["limit"]) (g := (fun l => l)) (gV := (fun l => l)) T.e_TooLarge.o T.e_TooLarge.iC T.e_TooLarge.tI (ok_TooLarge___init__ T) (hr.mono (by decide)) T.k_TooLarge___init__ (fun r => r) pass0 (by rfl) T.g_TooLarge (pk_cons (pv 0) pk_nil)) (pa_cons (pe_excK (ks := ["dot"]) (g := (fun l => l)) (gV := (fun l => l)) T.e_NoWish.o T.e_NoWish.iC T.e_NoWish.tI (ok_NoWish___init__ T) (hr.mono (by decide)) T.k_NoWish___init__ (fun r => r) pass0 (by rfl) T.g_NoWish (pk_cons (pv 0) pk_nil)) (pa_cons (pe_excK (ks := ["index"]) (g := (fun l => l)) (gV := (fun l => l)) T.e_NoDots.o T.e_NoDots.iC T.e_NoDots.tI (ok_NoDots___init__ T) (hr.mono (by decide)) T.k_NoDots___init__ (fun r => r) pass0 (by rfl) T.g_NoDots (pk_cons (pv 0) pk_nil)) pa_nil))))))
      (Evl.pss_cut (ps_set (i := 1) sc__law_by_name.nd rfl (.inl rfl) (pe_op op_catL (pv 1) (pe_lst (pa_cons (pe_excK (ks := ["index"]) (g := (fun l => l)) (gV := (fun l => l)) T.e_NoPattern.o T.e_NoPattern.iC T.e_NoPattern.tI (ok_NoPattern___init__ T) (hr.mono (by decide)) T.k_NoPattern___init__ (fun r => r) pass0 (by rfl) T.g_NoPattern (pk_cons (pv 0) pk_nil)) (pa_cons (pe_excK (ks := ["index", "part"]) (g := rev2) (gV := rev2) T.e_NoAnswer.o T.e_NoAnswer.iC T.e_NoAnswer.tI (ok_NoAnswer___init__ T) (hr.mono (by decide)) T.k_NoAnswer___init__ rev2_rel pass0 (by rfl) T.g_NoAnswer (pk_cons pe_int (pk_cons (pv 0) pk_nil))) (pa_cons (pe_excK (ks := ["line"]) (g := (fun l => l)) (gV := (fun l => l)) T.e_NoPicture.o T.e_NoPicture.iC T.e_NoPicture.tI (ok_NoPicture___init__ T) (hr.mono (by decide)) T.k_NoPicture___init__ (fun r => r) pass0 (by rfl) T.g_NoPicture (pk_cons (pv 0) pk_nil)) pa_nil))))))
      (Evl.pss_cut (ps_set (i := 1) sc__law_by_name.nd rfl (.inl rfl) (pe_op op_catL (pv 1) (pe_lst (pa_cons (pe_excK (ks := ["word"]) (g := (fun l => l)) (gV := (fun l => l)) T.e_NoChange.o T.e_NoChange.iC T.e_NoChange.tI (ok_NoChange___init__ T) (hr.mono (by decide)) T.k_NoChange___init__ (fun r => r) pass0 (by rfl) T.g_NoChange (pk_cons (pv 0) pk_nil)) (pa_cons (pe_excK (ks := ["index"]) (g := (fun l => l)) (gV := (fun l => l)) T.e_NoText.o T.e_NoText.iC T.e_NoText.tI (ok_NoText___init__ T) (hr.mono (by decide)) T.k_NoText___init__ (fun r => r) pass0 (by rfl) T.g_NoText (pk_cons (pv 0) pk_nil)) (pa_cons (pe_excK (ks := ["index"]) (g := (fun l => l)) (gV := (fun l => l)) T.e_NoPieces.o T.e_NoPieces.iC T.e_NoPieces.tI (ok_NoPieces___init__ T) (hr.mono (by decide)) T.k_NoPieces___init__ (fun r => r) pass0 (by rfl) T.g_NoPieces (pk_cons (pv 0) pk_nil)) pa_nil))))))
      (Evl.pss_cut (ps_set (i := 1) sc__law_by_name.nd rfl (.inl rfl) (pe_op op_catL (pv 1) (pe_lst (pa_cons (pe_excK (ks := ["index"]) (g := (fun l => l)) (gV := (fun l => l)) T.e_NoBits.o T.e_NoBits.iC T.e_NoBits.tI (ok_NoBits___init__ T) (hr.mono (by decide)) T.k_NoBits___init__ (fun r => r) pass0 (by rfl) T.g_NoBits (pk_cons (pv 0) pk_nil)) (pa_cons (pe_excK (ks := ["why", "at"]) (g := rev2) (gV := rev2) T.e_Unread.o T.e_Unread.iC T.e_Unread.tI (ok_Unread___init__ T) (hr.mono (by decide)) T.k_Unread___init__ rev2_rel pass0 (by rfl) T.g_Unread (pk_cons pe_int (pk_cons (pv 0) pk_nil))) (pa_cons (pe_excK (ks := ["bits"]) (g := (fun l => l)) (gV := (fun l => l)) T.e_TooLong.o T.e_TooLong.iC T.e_TooLong.tI (ok_TooLong___init__ T) (hr.mono (by decide)) T.k_TooLong___init__ (fun r => r) pass0 (by rfl) T.g_TooLong (pk_cons (pv 0) pk_nil)) pa_nil))))))
      (Evl.pss_cut (ps_set (i := 1) sc__law_by_name.nd rfl (.inl rfl) (pe_op op_catL (pv 1) (pe_lst (pa_cons (pe_excK (ks := ["numbers", "why"]) (g := rev2) (gV := rev2) T.e_NoSeries.o T.e_NoSeries.iC T.e_NoSeries.tI (ok_NoSeries___init__ T) (hr.mono (by decide)) T.k_NoSeries___init__ rev2_rel pass0 (by rfl) T.g_NoSeries (pk_cons pe_int (pk_cons (pv 0) pk_nil))) (pa_cons (pe_excK (ks := ["index", "which"]) (g := rev2) (gV := rev2) T.e_NoParts.o T.e_NoParts.iC T.e_NoParts.tI (ok_NoParts___init__ T) (hr.mono (by decide)) T.k_NoParts___init__ rev2_rel pass0 (by rfl) T.g_NoParts (pk_cons pe_int (pk_cons (pv 0) pk_nil))) (pa_cons (pe_excK (ks := ["part"]) (g := (fun l => l)) (gV := (fun l => l)) T.e_NoFormat.o T.e_NoFormat.iC T.e_NoFormat.tI (ok_NoFormat___init__ T) (hr.mono (by decide)) T.k_NoFormat___init__ (fun r => r) pass0 (by rfl) T.g_NoFormat (pk_cons (pv 0) pk_nil)) pa_nil))))))
      (Evl.pss_cut (ps_set (i := 1) sc__law_by_name.nd rfl (.inl rfl) (pe_op op_catL (pv 1) (pe_lst (pa_cons (pe_excK (ks := ["index", "part"]) (g := rev2) (gV := rev2) T.e_NoStain.o T.e_NoStain.iC T.e_NoStain.tI (ok_NoStain___init__ T) (hr.mono (by decide)) T.k_NoStain___init__ rev2_rel pass0 (by rfl) T.g_NoStain (pk_cons pe_int (pk_cons (pv 0) pk_nil))) (pa_cons (pe_excK (ks := ["kind"]) (g := (fun l => l)) (gV := (fun l => l)) T.e_NoKind.o T.e_NoKind.iC T.e_NoKind.tI (ok_NoKind___init__ T) (hr.mono (by decide)) T.k_NoKind___init__ (fun r => r) pass0 (by rfl) T.g_NoKind (pk_cons (pv 0) pk_nil)) (pa_cons (pe_excK (ks := ["part"]) (g := (fun l => l)) (gV := (fun l => l)) T.e_NoPaper.o T.e_NoPaper.iC T.e_NoPaper.tI (ok_NoPaper___init__ T) (hr.mono (by decide)) T.k_NoPaper___init__ (fun r => r) pass0 (by rfl) T.g_NoPaper (pk_cons (pv 0) pk_nil)) pa_nil))))))
      (Evl.pss_cut (ps_set (i := 1) sc__law_by_name.nd rfl (.inl rfl) (pe_op op_catL (pv 1) (pe_lst (pa_cons (pe_excK (ks := ["index", "part"]) (g := rev2) (gV := rev2) T.e_Unmended.o T.e_Unmended.iC T.e_Unmended.tI (ok_Unmended___init__ T) (hr.mono (by decide)) T.k_Unmended___init__ rev2_rel pass0 (by rfl) T.g_Unmended (pk_cons pe_int (pk_cons (pv 0) pk_nil))) (pa_cons (pe_excK (ks := ["pose"]) (g := (fun l => l)) (gV := (fun l => l)) T.e_NoPose.o T.e_NoPose.iC T.e_NoPose.tI (ok_NoPose___init__ T) (hr.mono (by decide)) T.k_NoPose___init__ (fun r => r) pass0 (by rfl) T.g_NoPose (pk_cons (pv 0) pk_nil)) (pa_cons (pe_excK (ks := ["place"]) (g := (fun l => l)) (gV := (fun l => l)) T.e_NoPlace.o T.e_NoPlace.iC T.e_NoPlace.tI (ok_NoPlace___init__ T) (hr.mono (by decide)) T.k_NoPlace___init__ (fun r => r) pass0 (by rfl) T.g_NoPlace (pk_cons (pv 0) pk_nil)) pa_nil))))))
      (pss_one (ps_ret (pv 1)))))))))))))), ?_⟩
    refine ⟨fun σ' H' => ∃ l xs, σ' = [some x, some (.ref l)] ∧ Same H H' ∧ H' l = some (.lst xs) ∧ Mad H' xs ((tabX T x).take 3), ?_, ?_⟩
    · refine ⟨_, rfl, rfl, fun a1 h1 => ⟨a1, x, rfl, upd_same, fun G1 m1 => ⟨rfl, _, rfl, rfl, fun a2 h2 => ⟨a2, x, .int 7, rfl, upd_same, fun G2 m2 => ⟨rfl, _, rfl, rfl, fun a3 h3 => ⟨a3, x, rfl, upd_same, fun G3 m3 => ⟨rfl, (by show 3 ≤ sizeLine; decide), fun p hp => ?_⟩⟩⟩⟩⟩⟩⟩
      obtain ⟨s1, e1⟩ := m1.made h1
      obtain ⟨s2, e2⟩ := m2.made h2
      obtain ⟨s3, e3⟩ := m3.made h3
      exact ⟨p, _, rfl, Same.trans s1 <| Same.trans s2 <| Same.trans s3 <| same_upd hp, upd_same, .cons (e1.same (Same.trans s2 <| Same.trans s3 <| same_upd hp)) (.cons (e2.same (Same.trans s3 <| same_upd hp)) (.cons (e3.same (same_upd hp)) (.nil)))⟩
    rintro σ' H1 ⟨l, xs, rfl, sm, hl, m⟩
    refine ⟨fun σ' H' => ∃ l xs, σ' = [some x, some (.ref l)] ∧ Same H H' ∧ H' l = some (.lst xs) ∧ Mad H' xs ((tabX T x).take 6), ?_, ?_⟩
    · refine ⟨_, rfl, _, rfl, rfl, fun a1 h1 => ⟨a1, x, rfl, upd_same, fun G1 m1 => ⟨rfl, _, rfl, rfl, fun a2 h2 => ⟨a2, x, rfl, upd_same, fun G2 m2 => ⟨rfl, _, rfl, rfl, fun a3 h3 => ⟨a3, x, rfl, upd_same, fun G3 m3 => ⟨rfl, (by show 3 ≤ sizeLine; decide), fun p hp => ?_⟩⟩⟩⟩⟩⟩⟩
      obtain ⟨s1, e1⟩ := m1.made h1
      obtain ⟨s2, e2⟩ := m2.made h2
      obtain ⟨s3, e3⟩ := m3.made h3
      refine ⟨l, p, _, _, rfl, rfl, .inl (.inl ((Same.trans s1 <| Same.trans s2 <| Same.trans s3 <| same_upd hp) _ _ hl)), .inl (.inl upd_same), ?_, fun p2 hp2 => ?_⟩
      · show xs.length + 3 ≤ sizeLine
        rw [show xs.length = 3 from m.len]
        decide
      exact ⟨p2, _, rfl, sm.trans <| Same.trans s1 <| Same.trans s2 <| Same.trans s3 <| (same_upd hp).trans (same_upd hp2), upd_same, (m.same (Same.trans s1 <| Same.trans s2 <| Same.trans s3 <| (same_upd hp).trans (same_upd hp2))).app (.cons (e1.same (Same.trans s2 <| Same.trans s3 <| (same_upd hp).trans (same_upd hp2))) (.cons (e2.same (Same.trans s3 <| (same_upd hp).trans (same_upd hp2))) (.cons (e3.same ((same_upd hp).trans (same_upd hp2))) (.nil))))⟩
    clear sm hl m l xs
    rintro σ' H2 ⟨l, xs, rfl, sm, hl, m⟩
    refine ⟨fun σ' H' => ∃ l xs, σ' = [some x, some (.ref l)] ∧ Same H H' ∧ H' l = some (.lst xs) ∧ Mad H' xs ((tabX T x).take 9), ?_, ?_⟩
    · refine ⟨_, rfl, _, rfl, rfl, fun a1 h1 => ⟨a1, x, rfl, upd_same, fun G1 m1 => ⟨rfl, _, rfl, rfl, fun a2 h2 => ⟨a2, x, rfl, upd_same, fun G2 m2 => ⟨rfl, _, rfl, rfl, fun a3 h3 => ⟨a3, x, .int 7, rfl, upd_same, fun G3 m3 => ⟨rfl, (by show 3 ≤ sizeLine; decide), fun p hp => ?_⟩⟩⟩⟩⟩⟩⟩
      obtain ⟨s1, e1⟩ := m1.made h1
      obtain ⟨s2, e2⟩ := m2.made h2
      obtain ⟨s3, e3⟩ := m3.made h3
      refine ⟨l, p, _, _, rfl, rfl, .inl (.inl ((Same.trans s1 <| Same.trans s2 <| Same.trans s3 <| same_upd hp) _ _ hl)), .inl (.inl upd_same), ?_, fun p2 hp2 => ?_⟩
      · show xs.length + 3 ≤ sizeLine
        rw [show xs.length = 6 from m.len]
        decide
      exact ⟨p2, _, rfl, sm.trans <| Same.trans s1 <| Same.trans s2 <| Same.trans s3 <| (same_upd hp).trans (same_upd hp2), upd_same, (m.same (Same.trans s1 <| Same.trans s2 <| Same.trans s3 <| (same_upd hp).trans (same_upd hp2))).app (.cons (e1.same (Same.trans s2 <| Same.trans s3 <| (same_upd hp).trans (same_upd hp2))) (.cons (e2.same (Same.trans s3 <| (same_upd hp).trans (same_upd hp2))) (.cons (e3.same ((same_upd hp).trans (same_upd hp2))) (.nil))))⟩
    clear sm hl m l xs
    rintro σ' H3 ⟨l, xs, rfl, sm, hl, m⟩
    refine ⟨fun σ' H' => ∃ l xs, σ' = [some x, some (.ref l)] ∧ Same H H' ∧ H' l = some (.lst xs) ∧ Mad H' xs ((tabX T x).take 12), ?_, ?_⟩
    · refine ⟨_, rfl, _, rfl, rfl, fun a1 h1 => ⟨a1, x, .int 7, rfl, upd_same, fun G1 m1 => ⟨rfl, _, rfl, rfl, fun a2 h2 => ⟨a2, x, rfl, upd_same, fun G2 m2 => ⟨rfl, _, rfl, rfl, fun a3 h3 => ⟨a3, x, rfl, upd_same, fun G3 m3 => ⟨rfl, (by show 3 ≤ sizeLine; decide), fun p hp => ?_⟩⟩⟩⟩⟩⟩⟩
      obtain ⟨s1, e1⟩ := m1.made h1
      obtain ⟨s2, e2⟩ := m2.made h2
      obtain ⟨s3, e3⟩ := m3.made h3
      refine ⟨l, p, _, _, rfl, rfl, .inl (.inl ((Same.trans s1 <| Same.trans s2 <| Same.trans s3 <| same_upd hp) _ _ hl)), .inl (.inl upd_same), ?_, fun p2 hp2 => ?_⟩
      · show xs.length + 3 ≤ sizeLine
        rw [show xs.length = 9 from m.len]
        decide
      exact ⟨p2, _, rfl, sm.trans <| Same.trans s1 <| Same.trans s2 <| Same.trans s3 <| (same_upd hp).trans (same_upd hp2), upd_same, (m.same (Same.trans s1 <| Same.trans s2 <| Same.trans s3 <| (same_upd hp).trans (same_upd hp2))).app (.cons (e1.same (Same.trans s2 <| Same.trans s3 <| (same_upd hp).trans (same_upd hp2))) (.cons (e2.same (Same.trans s3 <| (same_upd hp).trans (same_upd hp2))) (.cons (e3.same ((same_upd hp).trans (same_upd hp2))) (.nil))))⟩
    clear sm hl m l xs
    rintro σ' H4 ⟨l, xs, rfl, sm, hl, m⟩
    refine ⟨fun σ' H' => ∃ l xs, σ' = [some x, some (.ref l)] ∧ Same H H' ∧ H' l = some (.lst xs) ∧ Mad H' xs ((tabX T x).take 15), ?_, ?_⟩
    · refine ⟨_, rfl, _, rfl, rfl, fun a1 h1 => ⟨a1, x, rfl, upd_same, fun G1 m1 => ⟨rfl, _, rfl, rfl, fun a2 h2 => ⟨a2, x, rfl, upd_same, fun G2 m2 => ⟨rfl, _, rfl, rfl, fun a3 h3 => ⟨a3, x, rfl, upd_same, fun G3 m3 => ⟨rfl, (by show 3 ≤ sizeLine; decide), fun p hp => ?_⟩⟩⟩⟩⟩⟩⟩
      obtain ⟨s1, e1⟩ := m1.made h1
      obtain ⟨s2, e2⟩ := m2.made h2
      obtain ⟨s3, e3⟩ := m3.made h3
      refine ⟨l, p, _, _, rfl, rfl, .inl (.inl ((Same.trans s1 <| Same.trans s2 <| Same.trans s3 <| same_upd hp) _ _ hl)), .inl (.inl upd_same), ?_, fun p2 hp2 => ?_⟩
      · show xs.length + 3 ≤ sizeLine
        rw [show xs.length = 12 from m.len]
        decide
      exact ⟨p2, _, rfl, sm.trans <| Same.trans s1 <| Same.trans s2 <| Same.trans s3 <| (same_upd hp).trans (same_upd hp2), upd_same, (m.same (Same.trans s1 <| Same.trans s2 <| Same.trans s3 <| (same_upd hp).trans (same_upd hp2))).app (.cons (e1.same (Same.trans s2 <| Same.trans s3 <| (same_upd hp).trans (same_upd hp2))) (.cons (e2.same (Same.trans s3 <| (same_upd hp).trans (same_upd hp2))) (.cons (e3.same ((same_upd hp).trans (same_upd hp2))) (.nil))))⟩
    clear sm hl m l xs
    rintro σ' H5 ⟨l, xs, rfl, sm, hl, m⟩
    refine ⟨fun σ' H' => ∃ l xs, σ' = [some x, some (.ref l)] ∧ Same H H' ∧ H' l = some (.lst xs) ∧ Mad H' xs ((tabX T x).take 18), ?_, ?_⟩
    · refine ⟨_, rfl, _, rfl, rfl, fun a1 h1 => ⟨a1, x, rfl, upd_same, fun G1 m1 => ⟨rfl, _, rfl, rfl, fun a2 h2 => ⟨a2, x, .int 7, rfl, upd_same, fun G2 m2 => ⟨rfl, _, rfl, rfl, fun a3 h3 => ⟨a3, x, rfl, upd_same, fun G3 m3 => ⟨rfl, (by show 3 ≤ sizeLine; decide), fun p hp => ?_⟩⟩⟩⟩⟩⟩⟩
      obtain ⟨s1, e1⟩ := m1.made h1
      obtain ⟨s2, e2⟩ := m2.made h2
      obtain ⟨s3, e3⟩ := m3.made h3
      refine ⟨l, p, _, _, rfl, rfl, .inl (.inl ((Same.trans s1 <| Same.trans s2 <| Same.trans s3 <| same_upd hp) _ _ hl)), .inl (.inl upd_same), ?_, fun p2 hp2 => ?_⟩
      · show xs.length + 3 ≤ sizeLine
        rw [show xs.length = 15 from m.len]
        decide
      exact ⟨p2, _, rfl, sm.trans <| Same.trans s1 <| Same.trans s2 <| Same.trans s3 <| (same_upd hp).trans (same_upd hp2), upd_same, (m.same (Same.trans s1 <| Same.trans s2 <| Same.trans s3 <| (same_upd hp).trans (same_upd hp2))).app (.cons (e1.same (Same.trans s2 <| Same.trans s3 <| (same_upd hp).trans (same_upd hp2))) (.cons (e2.same (Same.trans s3 <| (same_upd hp).trans (same_upd hp2))) (.cons (e3.same ((same_upd hp).trans (same_upd hp2))) (.nil))))⟩
    clear sm hl m l xs
    rintro σ' H6 ⟨l, xs, rfl, sm, hl, m⟩
    refine ⟨fun σ' H' => ∃ l xs, σ' = [some x, some (.ref l)] ∧ Same H H' ∧ H' l = some (.lst xs) ∧ Mad H' xs ((tabX T x).take 21), ?_, ?_⟩
    · refine ⟨_, rfl, _, rfl, rfl, fun a1 h1 => ⟨a1, x, rfl, upd_same, fun G1 m1 => ⟨rfl, _, rfl, rfl, fun a2 h2 => ⟨a2, x, rfl, upd_same, fun G2 m2 => ⟨rfl, _, rfl, rfl, fun a3 h3 => ⟨a3, x, rfl, upd_same, fun G3 m3 => ⟨rfl, (by show 3 ≤ sizeLine; decide), fun p hp => ?_⟩⟩⟩⟩⟩⟩⟩
      obtain ⟨s1, e1⟩ := m1.made h1
      obtain ⟨s2, e2⟩ := m2.made h2
      obtain ⟨s3, e3⟩ := m3.made h3
      refine ⟨l, p, _, _, rfl, rfl, .inl (.inl ((Same.trans s1 <| Same.trans s2 <| Same.trans s3 <| same_upd hp) _ _ hl)), .inl (.inl upd_same), ?_, fun p2 hp2 => ?_⟩
      · show xs.length + 3 ≤ sizeLine
        rw [show xs.length = 18 from m.len]
        decide
      exact ⟨p2, _, rfl, sm.trans <| Same.trans s1 <| Same.trans s2 <| Same.trans s3 <| (same_upd hp).trans (same_upd hp2), upd_same, (m.same (Same.trans s1 <| Same.trans s2 <| Same.trans s3 <| (same_upd hp).trans (same_upd hp2))).app (.cons (e1.same (Same.trans s2 <| Same.trans s3 <| (same_upd hp).trans (same_upd hp2))) (.cons (e2.same (Same.trans s3 <| (same_upd hp).trans (same_upd hp2))) (.cons (e3.same ((same_upd hp).trans (same_upd hp2))) (.nil))))⟩
    clear sm hl m l xs
    rintro σ' H7 ⟨l, xs, rfl, sm, hl, m⟩
    refine ⟨fun σ' H' => ∃ l xs, σ' = [some x, some (.ref l)] ∧ Same H H' ∧ H' l = some (.lst xs) ∧ Mad H' xs ((tabX T x).take 24), ?_, ?_⟩
    · refine ⟨_, rfl, _, rfl, rfl, fun a1 h1 => ⟨a1, x, rfl, upd_same, fun G1 m1 => ⟨rfl, _, rfl, rfl, fun a2 h2 => ⟨a2, x, .int 7, rfl, upd_same, fun G2 m2 => ⟨rfl, _, rfl, rfl, fun a3 h3 => ⟨a3, x, rfl, upd_same, fun G3 m3 => ⟨rfl, (by show 3 ≤ sizeLine; decide), fun p hp => ?_⟩⟩⟩⟩⟩⟩⟩
      obtain ⟨s1, e1⟩ := m1.made h1
      obtain ⟨s2, e2⟩ := m2.made h2
      obtain ⟨s3, e3⟩ := m3.made h3
      refine ⟨l, p, _, _, rfl, rfl, .inl (.inl ((Same.trans s1 <| Same.trans s2 <| Same.trans s3 <| same_upd hp) _ _ hl)), .inl (.inl upd_same), ?_, fun p2 hp2 => ?_⟩
      · show xs.length + 3 ≤ sizeLine
        rw [show xs.length = 21 from m.len]
        decide
      exact ⟨p2, _, rfl, sm.trans <| Same.trans s1 <| Same.trans s2 <| Same.trans s3 <| (same_upd hp).trans (same_upd hp2), upd_same, (m.same (Same.trans s1 <| Same.trans s2 <| Same.trans s3 <| (same_upd hp).trans (same_upd hp2))).app (.cons (e1.same (Same.trans s2 <| Same.trans s3 <| (same_upd hp).trans (same_upd hp2))) (.cons (e2.same (Same.trans s3 <| (same_upd hp).trans (same_upd hp2))) (.cons (e3.same ((same_upd hp).trans (same_upd hp2))) (.nil))))⟩
    clear sm hl m l xs
    rintro σ' H8 ⟨l, xs, rfl, sm, hl, m⟩
    refine ⟨fun σ' H' => ∃ l xs, σ' = [some x, some (.ref l)] ∧ Same H H' ∧ H' l = some (.lst xs) ∧ Mad H' xs ((tabX T x).take 27), ?_, ?_⟩
    · refine ⟨_, rfl, _, rfl, rfl, fun a1 h1 => ⟨a1, x, .int 7, rfl, upd_same, fun G1 m1 => ⟨rfl, _, rfl, rfl, fun a2 h2 => ⟨a2, x, .int 7, rfl, upd_same, fun G2 m2 => ⟨rfl, _, rfl, rfl, fun a3 h3 => ⟨a3, x, rfl, upd_same, fun G3 m3 => ⟨rfl, (by show 3 ≤ sizeLine; decide), fun p hp => ?_⟩⟩⟩⟩⟩⟩⟩
      obtain ⟨s1, e1⟩ := m1.made h1
      obtain ⟨s2, e2⟩ := m2.made h2
      obtain ⟨s3, e3⟩ := m3.made h3
      refine ⟨l, p, _, _, rfl, rfl, .inl (.inl ((Same.trans s1 <| Same.trans s2 <| Same.trans s3 <| same_upd hp) _ _ hl)), .inl (.inl upd_same), ?_, fun p2 hp2 => ?_⟩
      · show xs.length + 3 ≤ sizeLine
        rw [show xs.length = 24 from m.len]
        decide
      exact ⟨p2, _, rfl, sm.trans <| Same.trans s1 <| Same.trans s2 <| Same.trans s3 <| (same_upd hp).trans (same_upd hp2), upd_same, (m.same (Same.trans s1 <| Same.trans s2 <| Same.trans s3 <| (same_upd hp).trans (same_upd hp2))).app (.cons (e1.same (Same.trans s2 <| Same.trans s3 <| (same_upd hp).trans (same_upd hp2))) (.cons (e2.same (Same.trans s3 <| (same_upd hp).trans (same_upd hp2))) (.cons (e3.same ((same_upd hp).trans (same_upd hp2))) (.nil))))⟩
    clear sm hl m l xs
    rintro σ' H9 ⟨l, xs, rfl, sm, hl, m⟩
    refine ⟨fun σ' H' => ∃ l xs, σ' = [some x, some (.ref l)] ∧ Same H H' ∧ H' l = some (.lst xs) ∧ Mad H' xs ((tabX T x).take 30), ?_, ?_⟩
    · refine ⟨_, rfl, _, rfl, rfl, fun a1 h1 => ⟨a1, x, .int 7, rfl, upd_same, fun G1 m1 => ⟨rfl, _, rfl, rfl, fun a2 h2 => ⟨a2, x, rfl, upd_same, fun G2 m2 => ⟨rfl, _, rfl, rfl, fun a3 h3 => ⟨a3, x, rfl, upd_same, fun G3 m3 => ⟨rfl, (by show 3 ≤ sizeLine; decide), fun p hp => ?_⟩⟩⟩⟩⟩⟩⟩
      obtain ⟨s1, e1⟩ := m1.made h1
      obtain ⟨s2, e2⟩ := m2.made h2
      obtain ⟨s3, e3⟩ := m3.made h3
      refine ⟨l, p, _, _, rfl, rfl, .inl (.inl ((Same.trans s1 <| Same.trans s2 <| Same.trans s3 <| same_upd hp) _ _ hl)), .inl (.inl upd_same), ?_, fun p2 hp2 => ?_⟩
      · show xs.length + 3 ≤ sizeLine
        rw [show xs.length = 27 from m.len]
        decide
      exact ⟨p2, _, rfl, sm.trans <| Same.trans s1 <| Same.trans s2 <| Same.trans s3 <| (same_upd hp).trans (same_upd hp2), upd_same, (m.same (Same.trans s1 <| Same.trans s2 <| Same.trans s3 <| (same_upd hp).trans (same_upd hp2))).app (.cons (e1.same (Same.trans s2 <| Same.trans s3 <| (same_upd hp).trans (same_upd hp2))) (.cons (e2.same (Same.trans s3 <| (same_upd hp).trans (same_upd hp2))) (.cons (e3.same ((same_upd hp).trans (same_upd hp2))) (.nil))))⟩
    clear sm hl m l xs
    rintro σ' H10 ⟨l, xs, rfl, sm, hl, m⟩
    refine ⟨fun σ' H' => ∃ l xs, σ' = [some x, some (.ref l)] ∧ Same H H' ∧ H' l = some (.lst xs) ∧ Mad H' xs ((tabX T x).take 33), ?_, ?_⟩
    · refine ⟨_, rfl, _, rfl, rfl, fun a1 h1 => ⟨a1, x, .int 7, rfl, upd_same, fun G1 m1 => ⟨rfl, _, rfl, rfl, fun a2 h2 => ⟨a2, x, rfl, upd_same, fun G2 m2 => ⟨rfl, _, rfl, rfl, fun a3 h3 => ⟨a3, x, rfl, upd_same, fun G3 m3 => ⟨rfl, (by show 3 ≤ sizeLine; decide), fun p hp => ?_⟩⟩⟩⟩⟩⟩⟩
      obtain ⟨s1, e1⟩ := m1.made h1
      obtain ⟨s2, e2⟩ := m2.made h2
      obtain ⟨s3, e3⟩ := m3.made h3
      refine ⟨l, p, _, _, rfl, rfl, .inl (.inl ((Same.trans s1 <| Same.trans s2 <| Same.trans s3 <| same_upd hp) _ _ hl)), .inl (.inl upd_same), ?_, fun p2 hp2 => ?_⟩
      · show xs.length + 3 ≤ sizeLine
        rw [show xs.length = 30 from m.len]
        decide
      exact ⟨p2, _, rfl, sm.trans <| Same.trans s1 <| Same.trans s2 <| Same.trans s3 <| (same_upd hp).trans (same_upd hp2), upd_same, (m.same (Same.trans s1 <| Same.trans s2 <| Same.trans s3 <| (same_upd hp).trans (same_upd hp2))).app (.cons (e1.same (Same.trans s2 <| Same.trans s3 <| (same_upd hp).trans (same_upd hp2))) (.cons (e2.same (Same.trans s3 <| (same_upd hp).trans (same_upd hp2))) (.cons (e3.same ((same_upd hp).trans (same_upd hp2))) (.nil))))⟩
    clear sm hl m l xs
    rintro σ' H11 ⟨l, xs, rfl, sm, hl, m⟩
    exact ⟨_, rfl, q l xs _ sm hl m⟩
def datP : List Bool := true :: true :: false :: true :: true :: true :: true :: true :: true :: true :: false :: true :: false :: true :: true :: true :: true :: true :: true :: true :: false :: true :: true :: true :: true :: true :: true :: false :: true :: true :: false :: true :: false :: true :: true :: false :: true :: true :: true :: false :: true :: true :: []
def dueX (x : V) : List V := datP.map fun b => cond b x (.int 7)
def sp_fields (K : PySem.W.Frag) (t : V → List (Addr × List (Str × V))) : Sp := fun vs H Q _ => ∃ (l : Addr) (xs : List V) (x : V), vs = [.ref l] ∧ SqL K H l xs ∧ Mad H xs (t x) ∧ ∀ (r : Addr) (H' : Hp), Same H H' → H' r = some (.lst (dueX x)) → Q (.ref r) H'
theorem ok__law_fields (T : Txt K mg) : FnOk P w K mg base CX0 1 T.f__law_fields T.d__law_fields ["_law_some"] (sp_fields K (tabX T)) := by
  refine T.F__law_fields.ok sc__law_fields (fun vs H Q E h => ?_) (fun cdv A outer s H vs Q E hr h => ?_)
  · obtain ⟨l, xs, x, rfl, _⟩ := h
    rfl
  · obtain ⟨l, xs, x, rfl, hl, m, q⟩ := h
    refine ⟨_, (Evl.pss_cut (ps_set (i := 1) sc__law_fields.nd rfl (.inl rfl) (pe_lst (pa_cons (pe_fldV (pe_ix ix_list (pv 0) pe_int (fun _ _ => rfl))) (pa_cons (pe_fldV (pe_ix ix_list (pv 0) pe_int (fun _ _ => rfl))) (pa_cons (pe_fldV (pe_ix ix_list (pv 0) pe_int (fun _ _ => rfl))) (pa_cons (pe_fldV (pe_ix ix_list (pv 0) pe_int (fun _ _ => rfl))) pa_nil))))))
      (Evl.pss_cut (ps_set (i := 1) sc__law_fields.nd rfl (.inl rfl) (pe_op op_catL (pv 1) (pe_lst (pa_cons (pe_fldV (pe_ix ix_list (pv 0) pe_int (fun _ _ => rfl))) (pa_cons (pe_fldV (pe_ix ix_list (pv 0) pe_int (fun _ _ => rfl))) (pa_cons (pe_fldV (pe_ix ix_list (pv 0) pe_int (fun _ _ => rfl))) (pa_cons (pe_fldV (pe_ix ix_list (pv 0) pe_int (fun _ _ => rfl))) pa_nil)))))))
      (Evl.pss_cut (ps_set (i := 1) sc__law_fields.nd rfl (.inl rfl) (pe_op op_catL (pv 1) (pe_lst (pa_cons (pe_fldV (pe_ix ix_list (pv 0) pe_int (fun _ _ => rfl))) (pa_cons (pe_fldV (pe_ix ix_list (pv 0) pe_int (fun _ _ => rfl))) (pa_cons (pe_fldV (pe_ix ix_list (pv 0) pe_int (fun _ _ => rfl))) (pa_cons (pe_fldV (pe_ix ix_list (pv 0) pe_int (fun _ _ => rfl))) pa_nil)))))))
      (Evl.pss_cut (ps_set (i := 1) sc__law_fields.nd rfl (.inl rfl) (pe_op op_catL (pv 1) (pe_lst (pa_cons (pe_fldV (pe_ix ix_list (pv 0) pe_int (fun _ _ => rfl))) (pa_cons (pe_fldV (pe_ix ix_list (pv 0) pe_int (fun _ _ => rfl))) (pa_cons (pe_fldV (pe_ix ix_list (pv 0) pe_int (fun _ _ => rfl))) (pa_cons (pe_fldV (pe_ix ix_list (pv 0) pe_int (fun _ _ => rfl))) pa_nil)))))))
      (Evl.pss_cut (ps_set (i := 1) sc__law_fields.nd rfl (.inl rfl) (pe_op op_catL (pv 1) (pe_lst (pa_cons (pe_fldV (pe_ix ix_list (pv 0) pe_int (fun _ _ => rfl))) (pa_cons (pe_fldV (pe_ix ix_list (pv 0) pe_int (fun _ _ => rfl))) (pa_cons (pe_fldV (pe_ix ix_list (pv 0) pe_int (fun _ _ => rfl))) (pa_cons (pe_fldV (pe_ix ix_list (pv 0) pe_int (fun _ _ => rfl))) pa_nil)))))))
      (Evl.pss_cut (ps_set (i := 1) sc__law_fields.nd rfl (.inl rfl) (pe_op op_catL (pv 1) (pe_lst (pa_cons (pe_fldV (pe_ix ix_list (pv 0) pe_int (fun _ _ => rfl))) (pa_cons (pe_fldV (pe_ix ix_list (pv 0) pe_int (fun _ _ => rfl))) (pa_cons (pe_fldV (pe_ix ix_list (pv 0) pe_int (fun _ _ => rfl))) (pa_cons (pe_fldV (pe_ix ix_list (pv 0) pe_int (fun _ _ => rfl))) pa_nil)))))))
      (Evl.pss_cut (ps_set (i := 1) sc__law_fields.nd rfl (.inl rfl) (pe_op op_catL (pv 1) (pe_lst (pa_cons (pe_fldV (pe_ix ix_list (pv 0) pe_int (fun _ _ => rfl))) (pa_cons (pe_fldV (pe_ix ix_list (pv 0) pe_int (fun _ _ => rfl))) (pa_cons (pe_fldV (pe_ix ix_list (pv 0) pe_int (fun _ _ => rfl))) (pa_cons (pe_fldV (pe_ix ix_list (pv 0) pe_int (fun _ _ => rfl))) pa_nil)))))))
      (Evl.pss_cut (ps_set (i := 1) sc__law_fields.nd rfl (.inl rfl) (pe_op op_catL (pv 1) (pe_lst (pa_cons (pe_fldV (pe_ix ix_list (pv 0) pe_int (fun _ _ => rfl))) (pa_cons (pe_fldV (pe_ix ix_list (pv 0) pe_int (fun _ _ => rfl))) (pa_cons (pe_fldV (pe_ix ix_list (pv 0) pe_int (fun _ _ => rfl))) (pa_cons (pe_fldV (pe_ix ix_list (pv 0) pe_int (fun _ _ => rfl))) pa_nil)))))))
      (Evl.pss_cut (ps_set (i := 1) sc__law_fields.nd rfl (.inl rfl) (pe_op op_catL (pv 1) (pe_lst (pa_cons (pe_fldV (pe_ix ix_list (pv 0) pe_int (fun _ _ => rfl))) (pa_cons (pe_fldV (pe_ix ix_list (pv 0) pe_int (fun _ _ => rfl))) (pa_cons (pe_fldV (pe_ix ix_list (pv 0) pe_int (fun _ _ => rfl))) (pa_cons (pe_fldV (pe_ix ix_list (pv 0) pe_int (fun _ _ => rfl))) pa_nil)))))))
      (Evl.pss_cut (ps_set (i := 1) sc__law_fields.nd rfl (.inl rfl) (pe_op op_catL (pv 1) (pe_lst (pa_cons (pe_fldV (pe_ix ix_list (pv 0) pe_int (fun _ _ => rfl))) (pa_cons (pe_fldV (pe_ix ix_list (pv 0) pe_int (fun _ _ => rfl))) (pa_cons (pe_fldV (pe_ix ix_list (pv 0) pe_int (fun _ _ => rfl))) (pa_cons (pe_fldV (pe_ix ix_list (pv 0) pe_int (fun _ _ => rfl))) pa_nil)))))))
      (Evl.pss_cut (ps_set (i := 1) sc__law_fields.nd rfl (.inl rfl) (pe_op op_catL (pv 1) (pe_lst (pa_cons (pe_fldV (pe_ix ix_list (pv 0) pe_int (fun _ _ => rfl))) (pa_cons (pe_fldV (pe_ix ix_list (pv 0) pe_int (fun _ _ => rfl))) pa_nil)))))
      (pss_one (ps_ret (pv 1)))))))))))))), ?_⟩
    refine ⟨fun σ' H' => ∃ r, σ' = [some (.ref l), some (.ref r)] ∧ Same H H' ∧ H' r = some (.lst ((dueX x).take 4)), ?_, ?_⟩
    · obtain ⟨a0, d0, g0, u0, v0⟩ := m.at (i := 0) (C := T.C_NoField) (fs := [("bits", x)]) rfl
      obtain ⟨a1, d1, g1, u1, v1⟩ := m.at (i := 1) (C := T.C_NoWord) (fs := [("index", .int 7), ("part", x)]) rfl
      obtain ⟨a2, d2, g2, u2, v2⟩ := m.at (i := 1) (C := T.C_NoWord) (fs := [("index", .int 7), ("part", x)]) rfl
      obtain ⟨a3, d3, g3, u3, v3⟩ := m.at (i := 2) (C := T.C_NoSize) (fs := [("size", x)]) rfl
      refine ⟨_, rfl, l, xs, 0, .ref a0, rfl, rfl, hl, atI_nat g0, a0, _, d0, _, _, rfl, T.e_NoField.x, T.nf_NoField_bits, u0, v0, rfl, _, rfl, l, xs, 1, .ref a1, rfl, rfl, hl, atI_nat g1, a1, _, d1, _, _, rfl, T.e_NoWord.x, T.nf_NoWord_part, u1, v1, rfl, _, rfl, l, xs, 1, .ref a2, rfl, rfl, hl, atI_nat g2, a2, _, d2, _, _, rfl, T.e_NoWord.x, T.nf_NoWord_index, u2, v2, rfl, _, rfl, l, xs, 2, .ref a3, rfl, rfl, hl, atI_nat g3, a3, _, d3, _, _, rfl, T.e_NoSize.x, T.nf_NoSize_size, u3, v3, rfl, (by show 4 ≤ sizeLine; decide), fun p hp => ?_⟩
      exact ⟨p, rfl, same_upd hp, upd_same⟩
    rintro σ' H1 ⟨r, rfl, sm, hr1⟩
    refine ⟨fun σ' H' => ∃ r, σ' = [some (.ref l), some (.ref r)] ∧ Same H H' ∧ H' r = some (.lst ((dueX x).take 8)), ?_, ?_⟩
    · obtain ⟨a0, d0, g0, u0, v0⟩ := (m.same sm).at (i := 3) (C := T.C_NoLevel) (fs := [("level", x)]) rfl
      obtain ⟨a1, d1, g1, u1, v1⟩ := (m.same sm).at (i := 4) (C := T.C_NoMask) (fs := [("mask", x)]) rfl
      obtain ⟨a2, d2, g2, u2, v2⟩ := (m.same sm).at (i := 5) (C := T.C_NoDot) (fs := [("dot", x)]) rfl
      obtain ⟨a3, d3, g3, u3, v3⟩ := (m.same sm).at (i := 6) (C := T.C_NoIndex) (fs := [("index", x)]) rfl
      refine ⟨_, rfl, _, rfl, l, xs, 3, .ref a0, rfl, rfl, (sm.seq hl), atI_nat g0, a0, _, d0, _, _, rfl, T.e_NoLevel.x, T.nf_NoLevel_level, u0, v0, rfl, _, rfl, l, xs, 4, .ref a1, rfl, rfl, (sm.seq hl), atI_nat g1, a1, _, d1, _, _, rfl, T.e_NoMask.x, T.nf_NoMask_mask, u1, v1, rfl, _, rfl, l, xs, 5, .ref a2, rfl, rfl, (sm.seq hl), atI_nat g2, a2, _, d2, _, _, rfl, T.e_NoDot.x, T.nf_NoDot_dot, u2, v2, rfl, _, rfl, l, xs, 6, .ref a3, rfl, rfl, (sm.seq hl), atI_nat g3, a3, _, d3, _, _, rfl, T.e_NoIndex.x, T.nf_NoIndex_index, u3, v3, rfl, (by show 4 ≤ sizeLine; decide), fun p hp => ?_⟩
      exact ⟨r, p, _, _, rfl, rfl, .inl (.inl (same_upd hp _ _ hr1)), .inl (.inl upd_same), (by show 4 + 4 ≤ sizeLine; decide), fun p2 hp2 => ⟨p2, rfl, sm.trans ((same_upd hp).trans (same_upd hp2)), upd_same⟩⟩
    clear sm hr1 r
    rintro σ' H2 ⟨r, rfl, sm, hr1⟩
    refine ⟨fun σ' H' => ∃ r, σ' = [some (.ref l), some (.ref r)] ∧ Same H H' ∧ H' r = some (.lst ((dueX x).take 12)), ?_, ?_⟩
    · obtain ⟨a0, d0, g0, u0, v0⟩ := (m.same sm).at (i := 7) (C := T.C_NoWords) (fs := [("index", x)]) rfl
      obtain ⟨a1, d1, g1, u1, v1⟩ := (m.same sm).at (i := 8) (C := T.C_NoBlock) (fs := [("index", .int 7), ("block", x)]) rfl
      obtain ⟨a2, d2, g2, u2, v2⟩ := (m.same sm).at (i := 8) (C := T.C_NoBlock) (fs := [("index", .int 7), ("block", x)]) rfl
      obtain ⟨a3, d3, g3, u3, v3⟩ := (m.same sm).at (i := 9) (C := T.C_NoGrid) (fs := [("column", .int 7), ("row", x)]) rfl
      refine ⟨_, rfl, _, rfl, l, xs, 7, .ref a0, rfl, rfl, (sm.seq hl), atI_nat g0, a0, _, d0, _, _, rfl, T.e_NoWords.x, T.nf_NoWords_index, u0, v0, rfl, _, rfl, l, xs, 8, .ref a1, rfl, rfl, (sm.seq hl), atI_nat g1, a1, _, d1, _, _, rfl, T.e_NoBlock.x, T.nf_NoBlock_block, u1, v1, rfl, _, rfl, l, xs, 8, .ref a2, rfl, rfl, (sm.seq hl), atI_nat g2, a2, _, d2, _, _, rfl, T.e_NoBlock.x, T.nf_NoBlock_index, u2, v2, rfl, _, rfl, l, xs, 9, .ref a3, rfl, rfl, (sm.seq hl), atI_nat g3, a3, _, d3, _, _, rfl, T.e_NoGrid.x, T.nf_NoGrid_row, u3, v3, rfl, (by show 4 ≤ sizeLine; decide), fun p hp => ?_⟩
      exact ⟨r, p, _, _, rfl, rfl, .inl (.inl (same_upd hp _ _ hr1)), .inl (.inl upd_same), (by show 8 + 4 ≤ sizeLine; decide), fun p2 hp2 => ⟨p2, rfl, sm.trans ((same_upd hp).trans (same_upd hp2)), upd_same⟩⟩
    clear sm hr1 r
    rintro σ' H3 ⟨r, rfl, sm, hr1⟩
    refine ⟨fun σ' H' => ∃ r, σ' = [some (.ref l), some (.ref r)] ∧ Same H H' ∧ H' r = some (.lst ((dueX x).take 16)), ?_, ?_⟩
    · obtain ⟨a0, d0, g0, u0, v0⟩ := (m.same sm).at (i := 9) (C := T.C_NoGrid) (fs := [("column", .int 7), ("row", x)]) rfl
      obtain ⟨a1, d1, g1, u1, v1⟩ := (m.same sm).at (i := 10) (C := T.C_NoCode) (fs := [("code", x)]) rfl
      obtain ⟨a2, d2, g2, u2, v2⟩ := (m.same sm).at (i := 11) (C := T.C_NoNumber) (fs := [("part", x)]) rfl
      obtain ⟨a3, d3, g3, u3, v3⟩ := (m.same sm).at (i := 12) (C := T.C_TooLarge) (fs := [("limit", x)]) rfl
      refine ⟨_, rfl, _, rfl, l, xs, 9, .ref a0, rfl, rfl, (sm.seq hl), atI_nat g0, a0, _, d0, _, _, rfl, T.e_NoGrid.x, T.nf_NoGrid_column, u0, v0, rfl, _, rfl, l, xs, 10, .ref a1, rfl, rfl, (sm.seq hl), atI_nat g1, a1, _, d1, _, _, rfl, T.e_NoCode.x, T.nf_NoCode_code, u1, v1, rfl, _, rfl, l, xs, 11, .ref a2, rfl, rfl, (sm.seq hl), atI_nat g2, a2, _, d2, _, _, rfl, T.e_NoNumber.x, T.nf_NoNumber_part, u2, v2, rfl, _, rfl, l, xs, 12, .ref a3, rfl, rfl, (sm.seq hl), atI_nat g3, a3, _, d3, _, _, rfl, T.e_TooLarge.x, T.nf_TooLarge_limit, u3, v3, rfl, (by show 4 ≤ sizeLine; decide), fun p hp => ?_⟩
      exact ⟨r, p, _, _, rfl, rfl, .inl (.inl (same_upd hp _ _ hr1)), .inl (.inl upd_same), (by show 12 + 4 ≤ sizeLine; decide), fun p2 hp2 => ⟨p2, rfl, sm.trans ((same_upd hp).trans (same_upd hp2)), upd_same⟩⟩
    clear sm hr1 r
    rintro σ' H4 ⟨r, rfl, sm, hr1⟩
    refine ⟨fun σ' H' => ∃ r, σ' = [some (.ref l), some (.ref r)] ∧ Same H H' ∧ H' r = some (.lst ((dueX x).take 20)), ?_, ?_⟩
    · obtain ⟨a0, d0, g0, u0, v0⟩ := (m.same sm).at (i := 13) (C := T.C_NoWish) (fs := [("dot", x)]) rfl
      obtain ⟨a1, d1, g1, u1, v1⟩ := (m.same sm).at (i := 14) (C := T.C_NoDots) (fs := [("index", x)]) rfl
      obtain ⟨a2, d2, g2, u2, v2⟩ := (m.same sm).at (i := 15) (C := T.C_NoPattern) (fs := [("index", x)]) rfl
      obtain ⟨a3, d3, g3, u3, v3⟩ := (m.same sm).at (i := 16) (C := T.C_NoAnswer) (fs := [("index", .int 7), ("part", x)]) rfl
      refine ⟨_, rfl, _, rfl, l, xs, 13, .ref a0, rfl, rfl, (sm.seq hl), atI_nat g0, a0, _, d0, _, _, rfl, T.e_NoWish.x, T.nf_NoWish_dot, u0, v0, rfl, _, rfl, l, xs, 14, .ref a1, rfl, rfl, (sm.seq hl), atI_nat g1, a1, _, d1, _, _, rfl, T.e_NoDots.x, T.nf_NoDots_index, u1, v1, rfl, _, rfl, l, xs, 15, .ref a2, rfl, rfl, (sm.seq hl), atI_nat g2, a2, _, d2, _, _, rfl, T.e_NoPattern.x, T.nf_NoPattern_index, u2, v2, rfl, _, rfl, l, xs, 16, .ref a3, rfl, rfl, (sm.seq hl), atI_nat g3, a3, _, d3, _, _, rfl, T.e_NoAnswer.x, T.nf_NoAnswer_part, u3, v3, rfl, (by show 4 ≤ sizeLine; decide), fun p hp => ?_⟩
      exact ⟨r, p, _, _, rfl, rfl, .inl (.inl (same_upd hp _ _ hr1)), .inl (.inl upd_same), (by show 16 + 4 ≤ sizeLine; decide), fun p2 hp2 => ⟨p2, rfl, sm.trans ((same_upd hp).trans (same_upd hp2)), upd_same⟩⟩
    clear sm hr1 r
    rintro σ' H5 ⟨r, rfl, sm, hr1⟩
    refine ⟨fun σ' H' => ∃ r, σ' = [some (.ref l), some (.ref r)] ∧ Same H H' ∧ H' r = some (.lst ((dueX x).take 24)), ?_, ?_⟩
    · obtain ⟨a0, d0, g0, u0, v0⟩ := (m.same sm).at (i := 16) (C := T.C_NoAnswer) (fs := [("index", .int 7), ("part", x)]) rfl
      obtain ⟨a1, d1, g1, u1, v1⟩ := (m.same sm).at (i := 17) (C := T.C_NoPicture) (fs := [("line", x)]) rfl
      obtain ⟨a2, d2, g2, u2, v2⟩ := (m.same sm).at (i := 18) (C := T.C_NoChange) (fs := [("word", x)]) rfl
      obtain ⟨a3, d3, g3, u3, v3⟩ := (m.same sm).at (i := 19) (C := T.C_NoText) (fs := [("index", x)]) rfl
      refine ⟨_, rfl, _, rfl, l, xs, 16, .ref a0, rfl, rfl, (sm.seq hl), atI_nat g0, a0, _, d0, _, _, rfl, T.e_NoAnswer.x, T.nf_NoAnswer_index, u0, v0, rfl, _, rfl, l, xs, 17, .ref a1, rfl, rfl, (sm.seq hl), atI_nat g1, a1, _, d1, _, _, rfl, T.e_NoPicture.x, T.nf_NoPicture_line, u1, v1, rfl, _, rfl, l, xs, 18, .ref a2, rfl, rfl, (sm.seq hl), atI_nat g2, a2, _, d2, _, _, rfl, T.e_NoChange.x, T.nf_NoChange_word, u2, v2, rfl, _, rfl, l, xs, 19, .ref a3, rfl, rfl, (sm.seq hl), atI_nat g3, a3, _, d3, _, _, rfl, T.e_NoText.x, T.nf_NoText_index, u3, v3, rfl, (by show 4 ≤ sizeLine; decide), fun p hp => ?_⟩
      exact ⟨r, p, _, _, rfl, rfl, .inl (.inl (same_upd hp _ _ hr1)), .inl (.inl upd_same), (by show 20 + 4 ≤ sizeLine; decide), fun p2 hp2 => ⟨p2, rfl, sm.trans ((same_upd hp).trans (same_upd hp2)), upd_same⟩⟩
    clear sm hr1 r
    rintro σ' H6 ⟨r, rfl, sm, hr1⟩
    refine ⟨fun σ' H' => ∃ r, σ' = [some (.ref l), some (.ref r)] ∧ Same H H' ∧ H' r = some (.lst ((dueX x).take 28)), ?_, ?_⟩
    · obtain ⟨a0, d0, g0, u0, v0⟩ := (m.same sm).at (i := 20) (C := T.C_NoPieces) (fs := [("index", x)]) rfl
      obtain ⟨a1, d1, g1, u1, v1⟩ := (m.same sm).at (i := 21) (C := T.C_NoBits) (fs := [("index", x)]) rfl
      obtain ⟨a2, d2, g2, u2, v2⟩ := (m.same sm).at (i := 22) (C := T.C_Unread) (fs := [("why", .int 7), ("at", x)]) rfl
      obtain ⟨a3, d3, g3, u3, v3⟩ := (m.same sm).at (i := 22) (C := T.C_Unread) (fs := [("why", .int 7), ("at", x)]) rfl
      refine ⟨_, rfl, _, rfl, l, xs, 20, .ref a0, rfl, rfl, (sm.seq hl), atI_nat g0, a0, _, d0, _, _, rfl, T.e_NoPieces.x, T.nf_NoPieces_index, u0, v0, rfl, _, rfl, l, xs, 21, .ref a1, rfl, rfl, (sm.seq hl), atI_nat g1, a1, _, d1, _, _, rfl, T.e_NoBits.x, T.nf_NoBits_index, u1, v1, rfl, _, rfl, l, xs, 22, .ref a2, rfl, rfl, (sm.seq hl), atI_nat g2, a2, _, d2, _, _, rfl, T.e_Unread.x, T.nf_Unread_at, u2, v2, rfl, _, rfl, l, xs, 22, .ref a3, rfl, rfl, (sm.seq hl), atI_nat g3, a3, _, d3, _, _, rfl, T.e_Unread.x, T.nf_Unread_why, u3, v3, rfl, (by show 4 ≤ sizeLine; decide), fun p hp => ?_⟩
      exact ⟨r, p, _, _, rfl, rfl, .inl (.inl (same_upd hp _ _ hr1)), .inl (.inl upd_same), (by show 24 + 4 ≤ sizeLine; decide), fun p2 hp2 => ⟨p2, rfl, sm.trans ((same_upd hp).trans (same_upd hp2)), upd_same⟩⟩
    clear sm hr1 r
    rintro σ' H7 ⟨r, rfl, sm, hr1⟩
    refine ⟨fun σ' H' => ∃ r, σ' = [some (.ref l), some (.ref r)] ∧ Same H H' ∧ H' r = some (.lst ((dueX x).take 32)), ?_, ?_⟩
    · obtain ⟨a0, d0, g0, u0, v0⟩ := (m.same sm).at (i := 23) (C := T.C_TooLong) (fs := [("bits", x)]) rfl
      obtain ⟨a1, d1, g1, u1, v1⟩ := (m.same sm).at (i := 24) (C := T.C_NoSeries) (fs := [("numbers", .int 7), ("why", x)]) rfl
      obtain ⟨a2, d2, g2, u2, v2⟩ := (m.same sm).at (i := 24) (C := T.C_NoSeries) (fs := [("numbers", .int 7), ("why", x)]) rfl
      obtain ⟨a3, d3, g3, u3, v3⟩ := (m.same sm).at (i := 25) (C := T.C_NoParts) (fs := [("index", .int 7), ("which", x)]) rfl
      refine ⟨_, rfl, _, rfl, l, xs, 23, .ref a0, rfl, rfl, (sm.seq hl), atI_nat g0, a0, _, d0, _, _, rfl, T.e_TooLong.x, T.nf_TooLong_bits, u0, v0, rfl, _, rfl, l, xs, 24, .ref a1, rfl, rfl, (sm.seq hl), atI_nat g1, a1, _, d1, _, _, rfl, T.e_NoSeries.x, T.nf_NoSeries_why, u1, v1, rfl, _, rfl, l, xs, 24, .ref a2, rfl, rfl, (sm.seq hl), atI_nat g2, a2, _, d2, _, _, rfl, T.e_NoSeries.x, T.nf_NoSeries_numbers, u2, v2, rfl, _, rfl, l, xs, 25, .ref a3, rfl, rfl, (sm.seq hl), atI_nat g3, a3, _, d3, _, _, rfl, T.e_NoParts.x, T.nf_NoParts_which, u3, v3, rfl, (by show 4 ≤ sizeLine; decide), fun p hp => ?_⟩
      exact ⟨r, p, _, _, rfl, rfl, .inl (.inl (same_upd hp _ _ hr1)), .inl (.inl upd_same), (by show 28 + 4 ≤ sizeLine; decide), fun p2 hp2 => ⟨p2, rfl, sm.trans ((same_upd hp).trans (same_upd hp2)), upd_same⟩⟩
    clear sm hr1 r
    rintro σ' H8 ⟨r, rfl, sm, hr1⟩
    refine ⟨fun σ' H' => ∃ r, σ' = [some (.ref l), some (.ref r)] ∧ Same H H' ∧ H' r = some (.lst ((dueX x).take 36)), ?_, ?_⟩
    · obtain ⟨a0, d0, g0, u0, v0⟩ := (m.same sm).at (i := 25) (C := T.C_NoParts) (fs := [("index", .int 7), ("which", x)]) rfl
      obtain ⟨a1, d1, g1, u1, v1⟩ := (m.same sm).at (i := 26) (C := T.C_NoFormat) (fs := [("part", x)]) rfl
      obtain ⟨a2, d2, g2, u2, v2⟩ := (m.same sm).at (i := 27) (C := T.C_NoStain) (fs := [("index", .int 7), ("part", x)]) rfl
      obtain ⟨a3, d3, g3, u3, v3⟩ := (m.same sm).at (i := 27) (C := T.C_NoStain) (fs := [("index", .int 7), ("part", x)]) rfl
      refine ⟨_, rfl, _, rfl, l, xs, 25, .ref a0, rfl, rfl, (sm.seq hl), atI_nat g0, a0, _, d0, _, _, rfl, T.e_NoParts.x, T.nf_NoParts_index, u0, v0, rfl, _, rfl, l, xs, 26, .ref a1, rfl, rfl, (sm.seq hl), atI_nat g1, a1, _, d1, _, _, rfl, T.e_NoFormat.x, T.nf_NoFormat_part, u1, v1, rfl, _, rfl, l, xs, 27, .ref a2, rfl, rfl, (sm.seq hl), atI_nat g2, a2, _, d2, _, _, rfl, T.e_NoStain.x, T.nf_NoStain_part, u2, v2, rfl, _, rfl, l, xs, 27, .ref a3, rfl, rfl, (sm.seq hl), atI_nat g3, a3, _, d3, _, _, rfl, T.e_NoStain.x, T.nf_NoStain_index, u3, v3, rfl, (by show 4 ≤ sizeLine; decide), fun p hp => ?_⟩
      exact ⟨r, p, _, _, rfl, rfl, .inl (.inl (same_upd hp _ _ hr1)), .inl (.inl upd_same), (by show 32 + 4 ≤ sizeLine; decide), fun p2 hp2 => ⟨p2, rfl, sm.trans ((same_upd hp).trans (same_upd hp2)), upd_same⟩⟩
    clear sm hr1 r
    rintro σ' H9 ⟨r, rfl, sm, hr1⟩
    refine ⟨fun σ' H' => ∃ r, σ' = [some (.ref l), some (.ref r)] ∧ Same H H' ∧ H' r = some (.lst ((dueX x).take 40)), ?_, ?_⟩
    · obtain ⟨a0, d0, g0, u0, v0⟩ := (m.same sm).at (i := 28) (C := T.C_NoKind) (fs := [("kind", x)]) rfl
      obtain ⟨a1, d1, g1, u1, v1⟩ := (m.same sm).at (i := 29) (C := T.C_NoPaper) (fs := [("part", x)]) rfl
      obtain ⟨a2, d2, g2, u2, v2⟩ := (m.same sm).at (i := 30) (C := T.C_Unmended) (fs := [("index", .int 7), ("part", x)]) rfl
      obtain ⟨a3, d3, g3, u3, v3⟩ := (m.same sm).at (i := 30) (C := T.C_Unmended) (fs := [("index", .int 7), ("part", x)]) rfl
      refine ⟨_, rfl, _, rfl, l, xs, 28, .ref a0, rfl, rfl, (sm.seq hl), atI_nat g0, a0, _, d0, _, _, rfl, T.e_NoKind.x, T.nf_NoKind_kind, u0, v0, rfl, _, rfl, l, xs, 29, .ref a1, rfl, rfl, (sm.seq hl), atI_nat g1, a1, _, d1, _, _, rfl, T.e_NoPaper.x, T.nf_NoPaper_part, u1, v1, rfl, _, rfl, l, xs, 30, .ref a2, rfl, rfl, (sm.seq hl), atI_nat g2, a2, _, d2, _, _, rfl, T.e_Unmended.x, T.nf_Unmended_part, u2, v2, rfl, _, rfl, l, xs, 30, .ref a3, rfl, rfl, (sm.seq hl), atI_nat g3, a3, _, d3, _, _, rfl, T.e_Unmended.x, T.nf_Unmended_index, u3, v3, rfl, (by show 4 ≤ sizeLine; decide), fun p hp => ?_⟩
      exact ⟨r, p, _, _, rfl, rfl, .inl (.inl (same_upd hp _ _ hr1)), .inl (.inl upd_same), (by show 36 + 4 ≤ sizeLine; decide), fun p2 hp2 => ⟨p2, rfl, sm.trans ((same_upd hp).trans (same_upd hp2)), upd_same⟩⟩
    clear sm hr1 r
    rintro σ' H10 ⟨r, rfl, sm, hr1⟩
    refine ⟨fun σ' H' => ∃ r, σ' = [some (.ref l), some (.ref r)] ∧ Same H H' ∧ H' r = some (.lst ((dueX x).take 42)), ?_, ?_⟩
    · obtain ⟨a0, d0, g0, u0, v0⟩ := (m.same sm).at (i := 31) (C := T.C_NoPose) (fs := [("pose", x)]) rfl
      obtain ⟨a1, d1, g1, u1, v1⟩ := (m.same sm).at (i := 32) (C := T.C_NoPlace) (fs := [("place", x)]) rfl
      refine ⟨_, rfl, _, rfl, l, xs, 31, .ref a0, rfl, rfl, (sm.seq hl), atI_nat g0, a0, _, d0, _, _, rfl, T.e_NoPose.x, T.nf_NoPose_pose, u0, v0, rfl, _, rfl, l, xs, 32, .ref a1, rfl, rfl, (sm.seq hl), atI_nat g1, a1, _, d1, _, _, rfl, T.e_NoPlace.x, T.nf_NoPlace_place, u1, v1, rfl, (by show 2 ≤ sizeLine; decide), fun p hp => ?_⟩
      exact ⟨r, p, _, _, rfl, rfl, .inl (.inl (same_upd hp _ _ hr1)), .inl (.inl upd_same), (by show 40 + 2 ≤ sizeLine; decide), fun p2 hp2 => ⟨p2, rfl, sm.trans ((same_upd hp).trans (same_upd hp2)), upd_same⟩⟩
    clear sm hr1 r
    rintro σ' H11 ⟨r, rfl, sm, hr1⟩
    exact ⟨_, rfl, q r _ sm hr1⟩
/-! CUT -/
def Kp (p : Addr) (H H' : Hp) : Prop := ∀ b o, H b = some o → b ≠ p → H' b = some o
/-- a value that exceptions are made with, and its data -/
def XOk (H : Hp) (x : V) (dx : PyData) : Prop := (∃ n : Int, x = .int n ∧ dx = .int n) ∨ (x = .non ∧ dx = .none) ∨ (x = .str "v" ∧ dx = .str "v") ∨ (∃ t : Addr, x = .ref t ∧ dx = .tuple [.int 0, .int 1] ∧ H t = some (.tup [.int 0, .int 1]))
theorem XOk.same {H H' : Hp} {x : V} {dx : PyData} (h : XOk H x dx) (s : Same H H') : XOk H' x dx := by
  rcases h with h | h | h | ⟨t, h1, h2, h3⟩
  · exact .inl h
  · exact .inr (.inl h)
  · exact .inr (.inr (.inl h))
  · exact .inr (.inr (.inr ⟨t, h1, h2, s _ _ h3⟩))
theorem XOk.dp {H : Hp} {x : V} {dx : PyData} (h : XOk H x dx) : Dp K H x dx := by
  rcases h with ⟨n, rfl, rfl⟩ | ⟨rfl, rfl⟩ | ⟨rfl, rfl⟩ | ⟨t, rfl, rfl, h⟩
  · exact .int n
  · exact .non
  · exact .str _
  · exact .tup (.inl (.inl h)) (.cons (.int 0) (.cons (.int 1) .nil))
/-- data that equal themselves, and lie flat -/
def Okd (d : PyData) : Prop := PyData.eqv d d = true ∧ d.canLay0 = true ∧ d.depth ≤ 1
theorem okd_int (n : Int) : Okd (.int n) := ⟨by show (n == n) = true; simp, rfl, Nat.le_of_ble_eq_true rfl⟩
theorem okd_bool (b : Bool) : Okd (.bool b) := ⟨by cases b <;> rfl, rfl, Nat.le_of_ble_eq_true rfl⟩
theorem XOk.okd {H : Hp} {x : V} {dx : PyData} (h : XOk H x dx) : Okd dx := by
  rcases h with ⟨n, rfl, rfl⟩ | ⟨rfl, rfl⟩ | ⟨rfl, rfl⟩ | ⟨t, rfl, rfl, h⟩
  · exact okd_int n
  · exact ⟨rfl, rfl, Nat.le_of_ble_eq_true rfl⟩
  · exact ⟨by decide +kernel, by decide +kernel, Nat.le_of_ble_eq_true rfl⟩
  · exact ⟨by decide, rfl, by decide⟩
theorem okd_all {ds : List PyData} (h : ∀ d ∈ ds, Okd d) : PyData.eqvAll ds ds = true ∧ PyData.canLayAll0 ds = true ∧ PyData.depthAll ds ≤ 1 := by
  induction ds with
  | nil => exact ⟨rfl, rfl, Nat.zero_le _⟩
  | cons d r ih =>
    obtain ⟨h1, h2, h3⟩ := ih fun e he => h e (List.mem_cons_of_mem _ he)
    obtain ⟨g1, g2, g3⟩ := h d (List.mem_cons_self ..)
    refine ⟨?_, ?_, ?_⟩
    · show (PyData.eqv d d && PyData.eqvAll r r) = true
      rw [g1, h1]
      rfl
    · show (PyData.canLay0 d && PyData.canLayAll0 r) = true
      rw [g2, h2]
      rfl
    · show max (PyData.depth d) (PyData.depthAll r) ≤ 1
      exact Nat.max_le.mpr ⟨g3, h3⟩
theorem okd_shaped {ds : List PyData} (h : ∀ d ∈ ds, Okd d) : SeqAt.shaped (.list ds) = true := by
  obtain ⟨_, h2, h3⟩ := okd_all h
  unfold SeqAt.shaped
  have e : PyData.canLay0 (.list ds) = true := h2
  rw [e, Bool.true_and]
  refine decide_eq_true ?_
  show PyData.depthAll ds + 1 ≤ 64
  omega
theorem okd_eqv {ds : List PyData} (h : ∀ d ∈ ds, Okd d) : PyData.eqv (.list ds) (.list ds) = true := (okd_all h).1
def dueD (dx : PyData) : List PyData := datP.map fun b => cond b dx (.int 7)
theorem due_okd {dx : PyData} (h : Okd dx) : ∀ d ∈ dueD dx, Okd d := fun d hd => by
  obtain ⟨b, _, rfl⟩ := List.mem_map.mp hd
  cases b
  · exact okd_int 7
  · exact h
theorem due_dp {H : Hp} {x : V} {dx : PyData} (h : Dp K H x dx) : DpAll K H (dueX x) (dueD dx) := by
  unfold dueX dueD
  induction datP with
  | nil => exact .nil
  | cons b r ih =>
    refine .cons ?_ ih
    cases b
    · exact .int 7
    · exact h
def takD (i : Nat) : List PyData := (List.range 33).map fun j => .bool (Nat.beq j i)
theorem tak_okd (i : Nat) : ∀ d ∈ takD i, Okd d := fun d hd => by
  obtain ⟨j, _, rfl⟩ := List.mem_map.mp hd
  exact okd_bool _
theorem tak_dp {H : Hp} (i : Nat) : DpAll K H (tak i) (takD i) := by
  unfold tak takD
  induction List.range 33 with
  | nil => exact .nil
  | cons b r ih => exact .cons (.bl _) ih
theorem tak_eq (i : Nat) : ((List.range 33).map fun j : Nat => V.bl (decide (V.int ((0 : Int) + (j : Int)) = V.int (i : Int)))) = tak i := by
  refine List.map_congr_left fun j _ => ?_
  congr 1
  by_cases h : j = i
  · subst h
    rw [Int.zero_add]
    simp
  · rw [show Nat.beq j i = false by rw [← Bool.not_eq_true, Nat.beq_eq]; exact h]
    exact decide_eq_false fun z => by
      have := V.int.inj z
      omega
theorem tab_cls (T : Txt K mg) (x : V) {i : Nat} {C : Addr} {fs : List (Str × V)} (h : (tabX T x)[i]? = some (C, fs)) : i < 33 ∧ (clL T).getD i 0 = C := by
  have hi : i < 33 := (List.getElem?_eq_some_iff.mp h).1
  have e : (clL T)[i]? = some C := by
    have z : (clL T) = (tabX T x).map Prod.fst := rfl
    rw [z, List.getElem?_map, h]
    rfl
  exact ⟨hi, by rw [List.getD_eq_getElem?_getD, e]; rfl⟩
def sp_right : Sp := fun vs H Q _ => ∃ (p : Addr) (a b c : Int), vs = [.ref p] ∧ H p = some (WellL a b c) ∧ ∀ H', Kp p H H' → Q (.bl true) H'
theorem ok__law_right (T : Txt K mg) : FnOk P w K mg base CX0 4 T.f__law_right T.d__law_right ["_law_well"] sp_right := by
  refine T.F__law_right.ok sc__law_right (fun vs H Q E h => ?_) (fun cdv A outer s H vs Q E hr h => ?_)
  · obtain ⟨p, a, b, c, rfl, _⟩ := h
    rfl
  · obtain ⟨p, a, b, c, rfl, hp, q⟩ := h
    refine ⟨_, (Evl.pss_cut (ps_set (i := 1) sc__law_right.nd rfl (.inl rfl) (pe_call (ok__law_one T) (hr.mono (by decide)) (by rfl) T.g__law_one T.F__law_one.kp T.b__law_one .nil pass0 (pa_cons (pv 0) (pa_cons (pe_lst (pa_cons (pe_call (ok__law_draw T) (hr.mono (by decide)) (by rfl) T.g__law_draw T.F__law_draw.kp T.b__law_draw .nil pass0 (pa_cons (pv 0) (pa_cons pe_int pa_nil))) (pa_cons (pe_un un_neg pe_int) (pa_cons pe_non (pa_cons pe_str (pa_cons (pe_tup (pa_cons pe_int (pa_cons pe_int pa_nil))) pa_nil)))))) pa_nil))))
      (pss_cons (ps_set (i := 2) sc__law_right.nd rfl (.inl rfl) (pe_lst (pa_cons (pv 1) (pa_cons (pv 1) (pa_cons pe_int (pa_cons (pv 1) (pa_cons (pv 1) (pa_cons (pv 1) (pa_cons (pv 1) (pa_cons (pv 1) (pa_cons (pv 1) (pa_cons (pv 1) (pa_cons pe_int (pa_cons (pv 1) (pa_cons pe_int (pa_cons (pv 1) (pa_cons (pv 1) (pa_cons (pv 1) (pa_cons (pv 1) (pa_cons (pv 1) (pa_cons (pv 1) (pa_cons (pv 1) (pa_cons pe_int (pa_cons (pv 1) pa_nil))))))))))))))))))))))))
      (pss_cons (ps_set (i := 2) sc__law_right.nd rfl (.inl rfl) (pe_op op_catL (pv 2) (pe_lst (pa_cons (pv 1) (pa_cons (pv 1) (pa_cons (pv 1) (pa_cons (pv 1) (pa_cons (pv 1) (pa_cons pe_int (pa_cons (pv 1) (pa_cons (pv 1) (pa_cons pe_int (pa_cons (pv 1) (pa_cons pe_int (pa_cons (pv 1) (pa_cons (pv 1) (pa_cons pe_int (pa_cons (pv 1) (pa_cons (pv 1) (pa_cons (pv 1) (pa_cons pe_int (pa_cons (pv 1) (pa_cons (pv 1) pa_nil)))))))))))))))))))))))
      (pss_cons (ps_for PassesOwn.never rfl (pi_list (pe_lst (pa_cons (pe_call (ok__law_by_place T) (hr.mono (by decide)) (by rfl) T.g__law_by_place T.F__law_by_place.kp T.b__law_by_place .nil pass0 (pa_cons (pv 1) pa_nil)) (pa_cons (pe_call (ok__law_by_name T) (hr.mono (by decide)) (by rfl) T.g__law_by_name T.F__law_by_name.kp T.b__law_by_name .nil pass0 (pa_cons (pv 1) pa_nil)) pa_nil)))) (pg_name (i := 3) sc__law_right.nd rfl (.inl rfl)) (pss_cons (ps_if (pt_cmpR (op_neD hr.units) (pe_call (ok__law_fields T) (hr.mono (by decide)) (by rfl) T.g__law_fields T.F__law_fields.kp T.b__law_fields .nil pass0 (pa_cons (pv 3) pa_nil)) (pv 2) (nomark _)) (pss_one (ps_ret pe_bl)) pss_nil)
      (pss_one (ps_for PassesOwn.never rfl (pi_enum (by rfl) T.n_enumerate (pa_cons (pv 3) pa_nil)) (pg_tup rfl (pgs_cons (pg_name (i := 4) sc__law_right.nd rfl (.inr rfl)) (pgs_cons (pg_name (i := 5) sc__law_right.nd rfl (.inl rfl)) pgs_nil))) (pss_cons (ps_if (pt_cmpR (op_neD hr.units) (pe_call (ok__law_taken T) (hr.mono (by decide)) (by rfl) T.g__law_taken T.F__law_taken.kp T.b__law_taken .nil pass0 (pa_cons (pv 5) pa_nil)) (pe_lc (own := [("_law_k", 6)]) rfl sc__law_right.nd (pi_range1 (by rfl) T.n_range (pa_cons (pe_callB call_len_seq (by rfl) T.n_len (by decide +kernel) (pa_cons (pv 3) pa_nil)) pa_nil)) (blkOk_by (N := ["_law_well", "_law_x", "_law_due", "_law_some", "_law_spot", "_law_e", "_law_k"]) (sc := defScope s__law_right) (by decide +kernel)) (fun _ _ _ _ _ => by exact (pg_name (i := 6) sc__law_right.nd rfl (.inl rfl))) (fun _ _ _ _ _ => by exact pts_nil) (fun _ _ _ _ _ => by exact (pe_cmpR op_eq (pv 6) (pv 4) (nomark _)))) (nomark _)) (pss_one (ps_ret pe_bl)) pss_nil)
      (pss_one (ps_if (PW.pt (pw_or (pt_not (pt_val (pe_callB call_isV (by rfl) T.n_isinstance (by decide +kernel) (pa_cons (pv 5) (pa_cons (pe_glob (v := .ref T.C_QuiltError) (by rfl) T.g_QuiltError rfl) pa_nil))))) (pw_or1 (pt_not (pt_val (pe_callB call_isV (by rfl) T.n_isinstance (by decide +kernel) (pa_cons (pv 5) (pa_cons (pe_bltn (v := .ty "ValueError") (by rfl) T.n_ValueError (by decide +kernel) rfl) pa_nil)))))))) (pss_one (ps_ret pe_bl)) pss_nil)))))))
      (pss_one (ps_ret (pe_not (pe_callB call_isB (by rfl) T.n_isinstance (by decide +kernel) (pa_cons (pe_valE (by rfl) T.n_ValueError rfl (pa_cons pe_str pa_nil)) (pa_cons (pe_glob (v := .ref T.C_QuiltError) (by rfl) T.g_QuiltError rfl) pa_nil)))))))))), ?_⟩
    refine ⟨fun σ' H' => ∃ x dx, σ' = [some (.ref p), some x, none, none, none, none, none] ∧ Kp p H H' ∧ XOk H' x dx, ?_, ?_⟩
    · refine ⟨_, rfl, _, rfl, p, a, b, c, 1000, rfl, hp, by decide, by decide, fun n a1 c1 n0 n1 => ⟨_, rfl, (by show 2 ≤ sizeLine; decide), fun t ht => ⟨(by show 5 ≤ sizeLine; decide), fun l hl => ?_⟩⟩⟩
      have npt : p ≠ t := ne_of_none upd_same ht
      have npl : p ≠ l := ne_of_none (by rw [upd_ne npt]; exact upd_same) hl
      have ntl : t ≠ l := ne_of_none upd_same hl
      refine ⟨p, l, a1, b, c1, _, rfl, npl, by rw [upd_ne npl, upd_ne npt]; exact upd_same, upd_same, (by show 0 < 5; decide), (by show 5 ≤ 1000; decide), fun i v a2 c2 hv => ?_⟩
      refine ⟨v, ?_⟩
      have hk : Kp p H (upd (upd (upd (upd H p (WellL a1 b c1)) t (.tup [.int 0, .int 1])) l (.lst [.int n, .int (-1), .non, .str "v", .ref t])) p (WellL a2 b c2)) := fun e o he ne => by
        rw [upd_ne ne]
        exact same_upd hl _ _ (same_upd ht _ _ (by rw [upd_ne ne]; exact he))
      have ht4 : (upd (upd (upd (upd H p (WellL a1 b c1)) t (.tup [.int 0, .int 1])) l (.lst [.int n, .int (-1), .non, .str "v", .ref t])) p (WellL a2 b c2)) t = some (.tup [.int 0, .int 1]) := by
        rw [upd_ne npt.symm, upd_ne ntl, upd_same]
      match i, hv with
      | 0, hv => exact ⟨.int n, rfl, hk, .inl ⟨n, (Option.some.inj hv).symm, rfl⟩⟩
      | 1, hv => exact ⟨.int (-1), rfl, hk, .inl ⟨-1, (Option.some.inj hv).symm, rfl⟩⟩
      | 2, hv => exact ⟨.none, rfl, hk, .inr (.inl ⟨(Option.some.inj hv).symm, rfl⟩)⟩
      | 3, hv => exact ⟨.str "v", rfl, hk, .inr (.inr (.inl ⟨(Option.some.inj hv).symm, rfl⟩))⟩
      | 4, hv => exact ⟨.tuple [.int 0, .int 1], rfl, hk, .inr (.inr (.inr ⟨t, (Option.some.inj hv).symm, rfl, ht4⟩))⟩
      | n + 5, hv => simp at hv
    rintro σ' H1 ⟨x, dx, rfl, k1, hx⟩
    refine ⟨_, rfl, _, rfl, _, rfl, _, rfl, _, rfl, _, rfl, _, rfl, _, rfl, _, rfl, _, rfl, _, rfl, _, rfl, _, rfl, _, rfl, _, rfl, _, rfl, _, rfl, _, rfl, (by show 22 ≤ sizeLine; decide), fun d0 hd0 => ⟨_, rfl, _, rfl, _, rfl, _, rfl, _, rfl, _, rfl, _, rfl, _, rfl, _, rfl, _, rfl, _, rfl, _, rfl, _, rfl, _, rfl, _, rfl, _, rfl, (by show 20 ≤ sizeLine; decide), fun d1 hd1 => ⟨d0, d1, _, _, rfl, rfl, .inl (.inl (same_upd hd1 _ _ upd_same)), .inl (.inl upd_same), (by show 22 + 20 ≤ sizeLine; decide), fun d2 hd2 => ⟨_, rfl, x, rfl, fun l1 xs1 G1 s1 e1 m1 => ⟨_, rfl, x, rfl, fun l2 xs2 G2 s2 e2 m2 => ⟨(by show 2 ≤ sizeLine; decide), fun L hL => ⟨L, rfl, ⟨_, .inl (.inl upd_same)⟩, ?_⟩⟩⟩⟩⟩⟩⟩
    have hdue : G2 d2 = some (.lst (dueX x)) := s2 _ _ (s1 _ _ upd_same)
    have sG : Same H1 G2 := (same_upd hd0).trans ((same_upd hd1).trans ((same_upd hd2).trans (s1.trans s2)))
    have hx2 := hx.same sG
    have e12 := s2 _ _ e1
    have m12 := m1.same s2
    clear e1 m1 hd0 hd1 hd2
    have okx := hx2.okd
    have sL := same_upd (o := .lst [.ref l1, .ref l2]) hL
    refine for_it (walk_list (K := K) (a := L) (xs := [.ref l1, .ref l2])) (fun i σ H' => ∃ z3 z4 z5 z6 : Option V, σ = [some (.ref p), some x, some (.ref d2), z3, z4, z5, z6] ∧ Same G2 H' ∧ H' L = some (.lst [.ref l1, .ref l2]))
      ⟨_, _, _, _, rfl, sL, upd_same⟩ (fun i σ H' _ ⟨_, _, _, _, _, _, h⟩ => .inl (.inl h)) ?_ ?_
    · rintro i v σ H4 H5 hi ⟨z3, z4, z5, z6, rfl, s4, hL4⟩ ⟨rfl, hv⟩
      have hv' : ∃ l xs, v = .ref l ∧ H5 l = some (.lst xs) ∧ Mad H5 xs (tabX T x) := by
        match i, hv with
        | 0, hv => exact ⟨l1, xs1, (Option.some.inj hv).symm, s4 _ _ e12, m12.same s4⟩
        | 1, hv => exact ⟨l2, xs2, (Option.some.inj hv).symm, s4 _ _ e2, m2.same s4⟩
        | n + 2, hv => simp at hv
      obtain ⟨l, xs, rfl, hl4, m4⟩ := hv'
      refine ⟨_, rfl, l, xs, x, rfl, .inl (.inl hl4), m4, fun r H6 s6 e6 => ⟨_, rfl, .list (dueD dx), .list (dueD dx), .lst (.inl (.inl e6)) (due_dp (hx2.same (s4.trans s6)).dp), .lst (.inl (.inl (s6 _ _ (s4 _ _ hdue)))) (due_dp (hx2.same (s4.trans s6)).dp), okd_shaped (due_okd okx), okd_shaped (due_okd okx), _, rfl, ?_⟩⟩
      rw [okd_eqv (due_okd okx)]
      refine iteF ?_
      have hl6 := s6 _ _ hl4
      have m6 := m4.same s6
      refine ⟨_, rfl, l, xs, rfl, .inl (.inl hl6), ?_⟩
      refine for_it (walk_enum (K := K) (a := l) (xs := xs)) (fun j σ H' => ∃ z4 z5 z6 : Option V, σ = [some (.ref p), some x, some (.ref d2), some (.ref l), z4, z5, z6] ∧ Same H6 H')
        ⟨_, _, _, rfl, fun _ _ e => e⟩ (fun j σ H' _ ⟨_, _, _, _, h⟩ => .inl (.inl (h _ _ hl6))) ?_ (fun σ H' ⟨z4, z5, z6, e, h⟩ => ⟨_, _, _, _, e, s4.trans (s6.trans h), h _ _ (s6 _ _ hL4)⟩)
      rintro j x1 σ H7 H8 hj ⟨z4, z5, z6, rfl, s7⟩ ⟨T1, x1, y1, rfl, hT, rfl, ej, ey⟩
      have ex1 : x1 = .int (j : Int) := (Option.some.inj ej).symm
      subst ex1
      obtain ⟨a, d, C, fs, rfl, ht, ea, ed⟩ := m6.at' ey
      obtain ⟨hj33, hC⟩ := tab_cls T x ht
      subst hC
      have hxs : xs.length = 33 := m6.len
      have sT := same_upd (o := .tup [.int (j : Int), .ref a]) hT
      have ea7 := sT _ _ (s7 _ _ ea)
      have ed7 := sT _ _ (s7 _ _ ed)
      refine ⟨T1, [.int (j : Int), .ref a], rfl, .inl (.inl upd_same), rfl, .int (j : Int), [.ref a], rfl, .ref a, [], rfl, rfl, ?_⟩
      refine ⟨_, rfl, a, d, fs, j, rfl, hj33, ea7, ed7, fun r2 H9 s9 e9 => ?_⟩
      have hl9 := s9 _ _ (sT _ _ (s7 _ _ hl6))
      have e33 : ((xs.length : Nat) : Int).toNat = 33 := by
        rw [hxs]
        rfl
      refine ⟨_, rfl, l, xs, rfl, .inl (.inl (.inl hl9)), (xs.length : Int), rfl, by omega, by omega, fun D hD => ?_⟩
      refine lc_range (lo := 0) (n := ((xs.length : Nat) : Int).toNat) (fun i H' => Same H9 H' ∧ H' D = some (.lst ((List.range i).map fun k : Nat => V.bl (decide (V.int ((0 : Int) + (k : Int)) = V.int (j : Int)))))) ⟨same_upd hD, upd_same⟩ ?_ ?_
      · rintro i H' hi ⟨sm, g⟩
        refine ⟨rfl, ?_⟩
        have hlen : i < 33 := by omega
        refine ⟨_, rfl, _, rfl, rfl, _, g, ?_, fun b o e => ?_, ?_⟩
        · rw [List.length_map, List.length_range]
          exact small1000 (by omega)
        · rw [upd_ne (ne_of_none e hD)]
          exact sm _ _ e
        · rw [upd_same, List.range_succ, List.map_append]
          rfl
      · rintro H' ⟨sm, g⟩
        rw [e33, tak_eq] at g
        refine ⟨.list (takD j), .list (takD j), .lst (.inl (.inl (sm _ _ e9))) (tak_dp j), .lst (.inl (.inl g)) (tak_dp j), okd_shaped (tak_okd j), okd_shaped (tak_okd j), _, rfl, ?_⟩
        rw [okd_eqv (tak_okd j)]
        refine iteF ?_
        have sF : Same H6 H' := s7.trans (sT.trans (s9.trans sm))
        have eaF := sF _ _ ea
        have edF := sF _ _ ed
        have hx := excC T j hj33
        have hk := (kitTab_ok (K := K) (L := clL T) (B := T.C_QuiltError) T.kt).2.1 j hj33
        refine ⟨_, rfl, a, _, d, fs, .ref T.C_QuiltError, .ref T.C_QuiltError, true, rfl, .own _, hx, eaF, edF, hk.1, _, rfl, iteF ?_⟩
        refine ⟨_, rfl, a, _, d, fs, .ty "ValueError", .type "ValueError", true, rfl, .ty _, hx, eaF, edF, hk.2, _, rfl, iteF ?_⟩
        exact ⟨_, _, _, rfl, sF⟩
    · rintro σ H9 ⟨_, _, _, _, rfl, s9, _⟩
      refine ⟨Nat.le_of_ble_eq_true rfl, fun a9 h9 => ⟨a9, .ref T.C_QuiltError, .ref T.C_QuiltError, false, rfl, .own _, upd_same, (kitTab_ok (K := K) (L := clL T) (B := T.C_QuiltError) T.kt).2.2, ?_⟩⟩
      refine ⟨_, rfl, q _ fun b o e ne => ?_⟩
      exact same_upd h9 _ _ (s9 _ _ (sG _ _ (k1 _ _ e ne)))
def sp_law (K : PySem.W.Frag) : Sp := fun vs H Q _ => ∃ (a : Addr) (ns : List Int), vs = [.ref a] ∧ SqL K H a (ns.map V.int) ∧ ns.length ≤ 63 ∧ ∀ H', Q (.bl true) H'
theorem ok_law (T : Txt K mg) : FnOk P w K mg base CX0 5 T.f_law T.d_law ["_law_script"] (sp_law K) := by
  refine T.F_law.ok sc_law (fun vs H Q E h => ?_) (fun cdv A outer s H vs Q E hr h => ?_)
  · obtain ⟨a, ns, rfl, _⟩ := h
    rfl
  · obtain ⟨a, ns, rfl, hS, hlen, q⟩ := h
    refine ⟨_, (pss_cons (ps_for PassesOwn.never rfl (pi_enum (by rfl) T.n_enumerate (pa_cons (pe_slice sl_list (pe_op op_catL (pv 0) (pe_lst (pa_cons pe_int pa_nil))) po_none (po_some pe_int)) pa_nil)) (pg_tup rfl (pgs_cons (pg_name (i := 1) sc_law.nd rfl (.inl rfl)) (pgs_cons (pg_name (i := 2) sc_law.nd rfl (.inl rfl)) pgs_nil))) (pss_cons (ps_set (i := 3) sc_law.nd rfl (.inl rfl) (pe_lst (pa_cons (pe_op op_mul (pv 2) (pe_callTy call_int1 (by rfl) T.n_int (by decide +kernel) (pa_cons (pe_cmpR op_ge (pv 2) (pe_op op_pow pe_int pe_int) (nomark _)) pa_nil))) (pa_cons (pe_op op_add (pe_op op_mod (pe_callTy call_int1 (by rfl) T.n_int (by decide +kernel) (pa_cons (pv 2) pa_nil)) pe_int) (pe_op op_mul pe_int (pv 1))) (pa_cons pe_int pa_nil)))))
      (pss_one (ps_if (pt_not (pt_val (pe_call (ok__law_right T) (hr.mono (by decide)) (by rfl) T.g__law_right T.F__law_right.kp T.b__law_right .nil pass0 (pa_cons (pv 3) pa_nil)))) (pss_one (ps_ret pe_bl)) pss_nil))))
      (pss_one (ps_ret pe_bl))), ?_⟩
    refine ⟨_, rfl, (by show 1 ≤ sizeLine; decide), fun p3 hp3 => ?_⟩
    have hS4 : SqL K (upd H p3 (.lst [.int 0])) a (ns.map V.int) := (same_upd hp3).seq hS
    refine ⟨a, p3, _, _, rfl, rfl, hS4, .inl (.inl upd_same), ?_, fun p4 hp4 => ?_⟩
    · rw [List.length_map]
      exact Nat.le_of_lt (small1000 (by show ns.length + 1 ≤ 1000; omega))
    refine ⟨4, rfl, p4, _, rfl, .inl (.inl upd_same), fun p5 hp5 => ?_⟩
    refine ⟨p5, _, rfl, .inl (.inl upd_same), ?_⟩
    refine for_it (walk_enum (K := K) (a := p5) (xs := cutV (ns.map V.int ++ [.int 0]) none (some 4))) (fun i σ H' => ∃ z1 z2 z3 : Option V, σ = [some (.ref a), z1, z2, z3] ∧ H' p5 = some (.lst (cutV (ns.map V.int ++ [.int 0]) none (some 4))))
      ⟨_, _, _, rfl, upd_same⟩ (fun i σ H' _ ⟨_, _, _, _, h5⟩ => .inl (.inl h5)) ?_ (fun σ H' _ => q H')
    rintro i x σ H4 H5 hi ⟨z1, z2, z3, rfl, h54⟩ ⟨T1, x1, y1, rfl, hT, rfl, e1, e2⟩
    have ex1 : x1 = .int (i : Int) := (Option.some.inj e1).symm
    subst ex1
    obtain ⟨cell, rfl⟩ : ∃ c, y1 = V.int c := by
      have hm := List.mem_of_getElem? e2
      have hm2 : y1 ∈ ns.map V.int ++ [.int 0] := List.mem_of_mem_drop (List.mem_of_mem_take hm)
      rcases List.mem_append.mp hm2 with h | h
      · obtain ⟨c, _, rfl⟩ := List.mem_map.mp h
        exact ⟨c, rfl⟩
      · simp at h
        exact ⟨_, h⟩
    refine ⟨T1, [.int (i : Int), .int cell], rfl, .inl (.inl upd_same), rfl, .int (i : Int), [.int cell], rfl, .int cell, [], rfl, rfl, ?_⟩
    refine ⟨_, rfl, _, rfl, _, _, rfl, rfl, ⟨by decide, by decide, by decide⟩, _, _, rfl, rfl, .inr ⟨_, rfl, _, _, rfl, rfl, .inr (by split <;> decide), _, rfl, .inl ⟨_, rfl, _, _, rfl, rfl, (show (0 : Int) < 2147483647 by decide), _, rfl, _, _, rfl, rfl, .inl (by decide), _, _, rfl, rfl, (by show 3 ≤ sizeLine; decide), fun p6 hp6 => ?_⟩⟩⟩
    have h56 := (same_upd (o := .tup [.int (i : Int), .int cell]) hT) _ _ h54
    have n65 : p5 ≠ p6 := ne_of_none h56 hp6
    refine ⟨_, rfl, p6, _, _, _, rfl, upd_same, fun H7 k7 => ⟨_, rfl, iteF ?_⟩⟩
    exact ⟨_, _, _, rfl, k7 _ _ ((same_upd hp6) _ _ h56) n65⟩
/-! CUT -/
end
theorem all_mk {P : Program} {w : World} {K : PySem.W.Frag} {h : Heap} {mg : Str → Option Value} {fa : Addr} (X : K.In h) (G : h.Ns mainGlobals mg) (hfa : mg "law" = some (.ref fa))
    {f0 : Addr} {od0 an0 : Option Addr} {sl0 : Array (Option Value)} {oc0 kV0 dc0 pm0 cd0 ct0 : Value}
    (l0 : K.lookup f0 = some ⟨oc0, od0, .func (PySem.W.fnOf "__init__" "NoField.__init__" (defArgs s_NoField___init__) (defBody s_NoField___init__) (defScope s_NoField___init__) .none kV0 dc0 pm0 an0 cd0 ct0), sl0⟩) (c0 : PySem.W.codeIn K cd0 "NoField.__init__" = true) (k0 : PySem.W.keepIn K (.ref f0) = true)
    {f1 : Addr} {od1 an1 : Option Addr} {sl1 : Array (Option Value)} {oc1 kV1 dc1 pm1 cd1 ct1 : Value}
    (l1 : K.lookup f1 = some ⟨oc1, od1, .func (PySem.W.fnOf "__init__" "NoWord.__init__" (defArgs s_NoWord___init__) (defBody s_NoWord___init__) (defScope s_NoWord___init__) .none kV1 dc1 pm1 an1 cd1 ct1), sl1⟩) (c1 : PySem.W.codeIn K cd1 "NoWord.__init__" = true) (k1 : PySem.W.keepIn K (.ref f1) = true)
    {f2 : Addr} {od2 an2 : Option Addr} {sl2 : Array (Option Value)} {oc2 kV2 dc2 pm2 cd2 ct2 : Value}
    (l2 : K.lookup f2 = some ⟨oc2, od2, .func (PySem.W.fnOf "__init__" "NoSize.__init__" (defArgs s_NoSize___init__) (defBody s_NoSize___init__) (defScope s_NoSize___init__) .none kV2 dc2 pm2 an2 cd2 ct2), sl2⟩) (c2 : PySem.W.codeIn K cd2 "NoSize.__init__" = true) (k2 : PySem.W.keepIn K (.ref f2) = true)
    {f3 : Addr} {od3 an3 : Option Addr} {sl3 : Array (Option Value)} {oc3 kV3 dc3 pm3 cd3 ct3 : Value}
    (l3 : K.lookup f3 = some ⟨oc3, od3, .func (PySem.W.fnOf "__init__" "NoLevel.__init__" (defArgs s_NoLevel___init__) (defBody s_NoLevel___init__) (defScope s_NoLevel___init__) .none kV3 dc3 pm3 an3 cd3 ct3), sl3⟩) (c3 : PySem.W.codeIn K cd3 "NoLevel.__init__" = true) (k3 : PySem.W.keepIn K (.ref f3) = true)
    {f4 : Addr} {od4 an4 : Option Addr} {sl4 : Array (Option Value)} {oc4 kV4 dc4 pm4 cd4 ct4 : Value}
    (l4 : K.lookup f4 = some ⟨oc4, od4, .func (PySem.W.fnOf "__init__" "NoMask.__init__" (defArgs s_NoMask___init__) (defBody s_NoMask___init__) (defScope s_NoMask___init__) .none kV4 dc4 pm4 an4 cd4 ct4), sl4⟩) (c4 : PySem.W.codeIn K cd4 "NoMask.__init__" = true) (k4 : PySem.W.keepIn K (.ref f4) = true)
    {f5 : Addr} {od5 an5 : Option Addr} {sl5 : Array (Option Value)} {oc5 kV5 dc5 pm5 cd5 ct5 : Value}
    (l5 : K.lookup f5 = some ⟨oc5, od5, .func (PySem.W.fnOf "__init__" "NoDot.__init__" (defArgs s_NoDot___init__) (defBody s_NoDot___init__) (defScope s_NoDot___init__) .none kV5 dc5 pm5 an5 cd5 ct5), sl5⟩) (c5 : PySem.W.codeIn K cd5 "NoDot.__init__" = true) (k5 : PySem.W.keepIn K (.ref f5) = true)
    {f6 : Addr} {od6 an6 : Option Addr} {sl6 : Array (Option Value)} {oc6 kV6 dc6 pm6 cd6 ct6 : Value}
    (l6 : K.lookup f6 = some ⟨oc6, od6, .func (PySem.W.fnOf "__init__" "NoIndex.__init__" (defArgs s_NoIndex___init__) (defBody s_NoIndex___init__) (defScope s_NoIndex___init__) .none kV6 dc6 pm6 an6 cd6 ct6), sl6⟩) (c6 : PySem.W.codeIn K cd6 "NoIndex.__init__" = true) (k6 : PySem.W.keepIn K (.ref f6) = true)
    {f7 : Addr} {od7 an7 : Option Addr} {sl7 : Array (Option Value)} {oc7 kV7 dc7 pm7 cd7 ct7 : Value}
    (l7 : K.lookup f7 = some ⟨oc7, od7, .func (PySem.W.fnOf "__init__" "NoWords.__init__" (defArgs s_NoWords___init__) (defBody s_NoWords___init__) (defScope s_NoWords___init__) .none kV7 dc7 pm7 an7 cd7 ct7), sl7⟩) (c7 : PySem.W.codeIn K cd7 "NoWords.__init__" = true) (k7 : PySem.W.keepIn K (.ref f7) = true)
    {f8 : Addr} {od8 an8 : Option Addr} {sl8 : Array (Option Value)} {oc8 kV8 dc8 pm8 cd8 ct8 : Value}
    (l8 : K.lookup f8 = some ⟨oc8, od8, .func (PySem.W.fnOf "__init__" "NoBlock.__init__" (defArgs s_NoBlock___init__) (defBody s_NoBlock___init__) (defScope s_NoBlock___init__) .none kV8 dc8 pm8 an8 cd8 ct8), sl8⟩) (c8 : PySem.W.codeIn K cd8 "NoBlock.__init__" = true) (k8 : PySem.W.keepIn K (.ref f8) = true)
    {f9 : Addr} {od9 an9 : Option Addr} {sl9 : Array (Option Value)} {oc9 kV9 dc9 pm9 cd9 ct9 : Value}
    (l9 : K.lookup f9 = some ⟨oc9, od9, .func (PySem.W.fnOf "__init__" "NoGrid.__init__" (defArgs s_NoGrid___init__) (defBody s_NoGrid___init__) (defScope s_NoGrid___init__) .none kV9 dc9 pm9 an9 cd9 ct9), sl9⟩) (c9 : PySem.W.codeIn K cd9 "NoGrid.__init__" = true) (k9 : PySem.W.keepIn K (.ref f9) = true)
    {f10 : Addr} {od10 an10 : Option Addr} {sl10 : Array (Option Value)} {oc10 kV10 dc10 pm10 cd10 ct10 : Value}
    (l10 : K.lookup f10 = some ⟨oc10, od10, .func (PySem.W.fnOf "__init__" "NoCode.__init__" (defArgs s_NoCode___init__) (defBody s_NoCode___init__) (defScope s_NoCode___init__) .none kV10 dc10 pm10 an10 cd10 ct10), sl10⟩) (c10 : PySem.W.codeIn K cd10 "NoCode.__init__" = true) (k10 : PySem.W.keepIn K (.ref f10) = true)
    {f11 : Addr} {od11 an11 : Option Addr} {sl11 : Array (Option Value)} {oc11 kV11 dc11 pm11 cd11 ct11 : Value}
    (l11 : K.lookup f11 = some ⟨oc11, od11, .func (PySem.W.fnOf "__init__" "NoNumber.__init__" (defArgs s_NoNumber___init__) (defBody s_NoNumber___init__) (defScope s_NoNumber___init__) .none kV11 dc11 pm11 an11 cd11 ct11), sl11⟩) (c11 : PySem.W.codeIn K cd11 "NoNumber.__init__" = true) (k11 : PySem.W.keepIn K (.ref f11) = true)
    {f12 : Addr} {od12 an12 : Option Addr} {sl12 : Array (Option Value)} {oc12 kV12 dc12 pm12 cd12 ct12 : Value}
    (l12 : K.lookup f12 = some ⟨oc12, od12, .func (PySem.W.fnOf "__init__" "TooLarge.__init__" (defArgs s_TooLarge___init__) (defBody s_TooLarge___init__) (defScope s_TooLarge___init__) .none kV12 dc12 pm12 an12 cd12 ct12), sl12⟩) (c12 : PySem.W.codeIn K cd12 "TooLarge.__init__" = true) (k12 : PySem.W.keepIn K (.ref f12) = true)
    {f13 : Addr} {od13 an13 : Option Addr} {sl13 : Array (Option Value)} {oc13 kV13 dc13 pm13 cd13 ct13 : Value}
    (l13 : K.lookup f13 = some ⟨oc13, od13, .func (PySem.W.fnOf "__init__" "NoWish.__init__" (defArgs s_NoWish___init__) (defBody s_NoWish___init__) (defScope s_NoWish___init__) .none kV13 dc13 pm13 an13 cd13 ct13), sl13⟩) (c13 : PySem.W.codeIn K cd13 "NoWish.__init__" = true) (k13 : PySem.W.keepIn K (.ref f13) = true)
    {f14 : Addr} {od14 an14 : Option Addr} {sl14 : Array (Option Value)} {oc14 kV14 dc14 pm14 cd14 ct14 : Value}
    (l14 : K.lookup f14 = some ⟨oc14, od14, .func (PySem.W.fnOf "__init__" "NoDots.__init__" (defArgs s_NoDots___init__) (defBody s_NoDots___init__) (defScope s_NoDots___init__) .none kV14 dc14 pm14 an14 cd14 ct14), sl14⟩) (c14 : PySem.W.codeIn K cd14 "NoDots.__init__" = true) (k14 : PySem.W.keepIn K (.ref f14) = true)
    {f15 : Addr} {od15 an15 : Option Addr} {sl15 : Array (Option Value)} {oc15 kV15 dc15 pm15 cd15 ct15 : Value}
    (l15 : K.lookup f15 = some ⟨oc15, od15, .func (PySem.W.fnOf "__init__" "NoPattern.__init__" (defArgs s_NoPattern___init__) (defBody s_NoPattern___init__) (defScope s_NoPattern___init__) .none kV15 dc15 pm15 an15 cd15 ct15), sl15⟩) (c15 : PySem.W.codeIn K cd15 "NoPattern.__init__" = true) (k15 : PySem.W.keepIn K (.ref f15) = true)
    {f16 : Addr} {od16 an16 : Option Addr} {sl16 : Array (Option Value)} {oc16 kV16 dc16 pm16 cd16 ct16 : Value}
    (l16 : K.lookup f16 = some ⟨oc16, od16, .func (PySem.W.fnOf "__init__" "NoAnswer.__init__" (defArgs s_NoAnswer___init__) (defBody s_NoAnswer___init__) (defScope s_NoAnswer___init__) .none kV16 dc16 pm16 an16 cd16 ct16), sl16⟩) (c16 : PySem.W.codeIn K cd16 "NoAnswer.__init__" = true) (k16 : PySem.W.keepIn K (.ref f16) = true)
    {f17 : Addr} {od17 an17 : Option Addr} {sl17 : Array (Option Value)} {oc17 kV17 dc17 pm17 cd17 ct17 : Value}
    (l17 : K.lookup f17 = some ⟨oc17, od17, .func (PySem.W.fnOf "__init__" "NoPicture.__init__" (defArgs s_NoPicture___init__) (defBody s_NoPicture___init__) (defScope s_NoPicture___init__) .none kV17 dc17 pm17 an17 cd17 ct17), sl17⟩) (c17 : PySem.W.codeIn K cd17 "NoPicture.__init__" = true) (k17 : PySem.W.keepIn K (.ref f17) = true)
    {f18 : Addr} {od18 an18 : Option Addr} {sl18 : Array (Option Value)} {oc18 kV18 dc18 pm18 cd18 ct18 : Value}
    (l18 : K.lookup f18 = some ⟨oc18, od18, .func (PySem.W.fnOf "__init__" "NoChange.__init__" (defArgs s_NoChange___init__) (defBody s_NoChange___init__) (defScope s_NoChange___init__) .none kV18 dc18 pm18 an18 cd18 ct18), sl18⟩) (c18 : PySem.W.codeIn K cd18 "NoChange.__init__" = true) (k18 : PySem.W.keepIn K (.ref f18) = true)
    {f19 : Addr} {od19 an19 : Option Addr} {sl19 : Array (Option Value)} {oc19 kV19 dc19 pm19 cd19 ct19 : Value}
    (l19 : K.lookup f19 = some ⟨oc19, od19, .func (PySem.W.fnOf "__init__" "NoText.__init__" (defArgs s_NoText___init__) (defBody s_NoText___init__) (defScope s_NoText___init__) .none kV19 dc19 pm19 an19 cd19 ct19), sl19⟩) (c19 : PySem.W.codeIn K cd19 "NoText.__init__" = true) (k19 : PySem.W.keepIn K (.ref f19) = true)
    {f20 : Addr} {od20 an20 : Option Addr} {sl20 : Array (Option Value)} {oc20 kV20 dc20 pm20 cd20 ct20 : Value}
    (l20 : K.lookup f20 = some ⟨oc20, od20, .func (PySem.W.fnOf "__init__" "NoPieces.__init__" (defArgs s_NoPieces___init__) (defBody s_NoPieces___init__) (defScope s_NoPieces___init__) .none kV20 dc20 pm20 an20 cd20 ct20), sl20⟩) (c20 : PySem.W.codeIn K cd20 "NoPieces.__init__" = true) (k20 : PySem.W.keepIn K (.ref f20) = true)
    {f21 : Addr} {od21 an21 : Option Addr} {sl21 : Array (Option Value)} {oc21 kV21 dc21 pm21 cd21 ct21 : Value}
    (l21 : K.lookup f21 = some ⟨oc21, od21, .func (PySem.W.fnOf "__init__" "NoBits.__init__" (defArgs s_NoBits___init__) (defBody s_NoBits___init__) (defScope s_NoBits___init__) .none kV21 dc21 pm21 an21 cd21 ct21), sl21⟩) (c21 : PySem.W.codeIn K cd21 "NoBits.__init__" = true) (k21 : PySem.W.keepIn K (.ref f21) = true)
    {f22 : Addr} {od22 an22 : Option Addr} {sl22 : Array (Option Value)} {oc22 kV22 dc22 pm22 cd22 ct22 : Value}
    (l22 : K.lookup f22 = some ⟨oc22, od22, .func (PySem.W.fnOf "__init__" "Unread.__init__" (defArgs s_Unread___init__) (defBody s_Unread___init__) (defScope s_Unread___init__) .none kV22 dc22 pm22 an22 cd22 ct22), sl22⟩) (c22 : PySem.W.codeIn K cd22 "Unread.__init__" = true) (k22 : PySem.W.keepIn K (.ref f22) = true)
    {f23 : Addr} {od23 an23 : Option Addr} {sl23 : Array (Option Value)} {oc23 kV23 dc23 pm23 cd23 ct23 : Value}
    (l23 : K.lookup f23 = some ⟨oc23, od23, .func (PySem.W.fnOf "__init__" "TooLong.__init__" (defArgs s_TooLong___init__) (defBody s_TooLong___init__) (defScope s_TooLong___init__) .none kV23 dc23 pm23 an23 cd23 ct23), sl23⟩) (c23 : PySem.W.codeIn K cd23 "TooLong.__init__" = true) (k23 : PySem.W.keepIn K (.ref f23) = true)
    {f24 : Addr} {od24 an24 : Option Addr} {sl24 : Array (Option Value)} {oc24 kV24 dc24 pm24 cd24 ct24 : Value}
    (l24 : K.lookup f24 = some ⟨oc24, od24, .func (PySem.W.fnOf "__init__" "NoSeries.__init__" (defArgs s_NoSeries___init__) (defBody s_NoSeries___init__) (defScope s_NoSeries___init__) .none kV24 dc24 pm24 an24 cd24 ct24), sl24⟩) (c24 : PySem.W.codeIn K cd24 "NoSeries.__init__" = true) (k24 : PySem.W.keepIn K (.ref f24) = true)
    {f25 : Addr} {od25 an25 : Option Addr} {sl25 : Array (Option Value)} {oc25 kV25 dc25 pm25 cd25 ct25 : Value}
    (l25 : K.lookup f25 = some ⟨oc25, od25, .func (PySem.W.fnOf "__init__" "NoParts.__init__" (defArgs s_NoParts___init__) (defBody s_NoParts___init__) (defScope s_NoParts___init__) .none kV25 dc25 pm25 an25 cd25 ct25), sl25⟩) (c25 : PySem.W.codeIn K cd25 "NoParts.__init__" = true) (k25 : PySem.W.keepIn K (.ref f25) = true)
    {f26 : Addr} {od26 an26 : Option Addr} {sl26 : Array (Option Value)} {oc26 kV26 dc26 pm26 cd26 ct26 : Value}
    (l26 : K.lookup f26 = some ⟨oc26, od26, .func (PySem.W.fnOf "__init__" "NoFormat.__init__" (defArgs s_NoFormat___init__) (defBody s_NoFormat___init__) (defScope s_NoFormat___init__) .none kV26 dc26 pm26 an26 cd26 ct26), sl26⟩) (c26 : PySem.W.codeIn K cd26 "NoFormat.__init__" = true) (k26 : PySem.W.keepIn K (.ref f26) = true)
    {f27 : Addr} {od27 an27 : Option Addr} {sl27 : Array (Option Value)} {oc27 kV27 dc27 pm27 cd27 ct27 : Value}
    (l27 : K.lookup f27 = some ⟨oc27, od27, .func (PySem.W.fnOf "__init__" "NoStain.__init__" (defArgs s_NoStain___init__) (defBody s_NoStain___init__) (defScope s_NoStain___init__) .none kV27 dc27 pm27 an27 cd27 ct27), sl27⟩) (c27 : PySem.W.codeIn K cd27 "NoStain.__init__" = true) (k27 : PySem.W.keepIn K (.ref f27) = true)
    {f28 : Addr} {od28 an28 : Option Addr} {sl28 : Array (Option Value)} {oc28 kV28 dc28 pm28 cd28 ct28 : Value}
    (l28 : K.lookup f28 = some ⟨oc28, od28, .func (PySem.W.fnOf "__init__" "NoKind.__init__" (defArgs s_NoKind___init__) (defBody s_NoKind___init__) (defScope s_NoKind___init__) .none kV28 dc28 pm28 an28 cd28 ct28), sl28⟩) (c28 : PySem.W.codeIn K cd28 "NoKind.__init__" = true) (k28 : PySem.W.keepIn K (.ref f28) = true)
    {f29 : Addr} {od29 an29 : Option Addr} {sl29 : Array (Option Value)} {oc29 kV29 dc29 pm29 cd29 ct29 : Value}
    (l29 : K.lookup f29 = some ⟨oc29, od29, .func (PySem.W.fnOf "__init__" "NoPaper.__init__" (defArgs s_NoPaper___init__) (defBody s_NoPaper___init__) (defScope s_NoPaper___init__) .none kV29 dc29 pm29 an29 cd29 ct29), sl29⟩) (c29 : PySem.W.codeIn K cd29 "NoPaper.__init__" = true) (k29 : PySem.W.keepIn K (.ref f29) = true)
    {f30 : Addr} {od30 an30 : Option Addr} {sl30 : Array (Option Value)} {oc30 kV30 dc30 pm30 cd30 ct30 : Value}
    (l30 : K.lookup f30 = some ⟨oc30, od30, .func (PySem.W.fnOf "__init__" "Unmended.__init__" (defArgs s_Unmended___init__) (defBody s_Unmended___init__) (defScope s_Unmended___init__) .none kV30 dc30 pm30 an30 cd30 ct30), sl30⟩) (c30 : PySem.W.codeIn K cd30 "Unmended.__init__" = true) (k30 : PySem.W.keepIn K (.ref f30) = true)
    {f31 : Addr} {od31 an31 : Option Addr} {sl31 : Array (Option Value)} {oc31 kV31 dc31 pm31 cd31 ct31 : Value}
    (l31 : K.lookup f31 = some ⟨oc31, od31, .func (PySem.W.fnOf "__init__" "NoPose.__init__" (defArgs s_NoPose___init__) (defBody s_NoPose___init__) (defScope s_NoPose___init__) .none kV31 dc31 pm31 an31 cd31 ct31), sl31⟩) (c31 : PySem.W.codeIn K cd31 "NoPose.__init__" = true) (k31 : PySem.W.keepIn K (.ref f31) = true)
    {f32 : Addr} {od32 an32 : Option Addr} {sl32 : Array (Option Value)} {oc32 kV32 dc32 pm32 cd32 ct32 : Value}
    (l32 : K.lookup f32 = some ⟨oc32, od32, .func (PySem.W.fnOf "__init__" "NoPlace.__init__" (defArgs s_NoPlace___init__) (defBody s_NoPlace___init__) (defScope s_NoPlace___init__) .none kV32 dc32 pm32 an32 cd32 ct32), sl32⟩) (c32 : PySem.W.codeIn K cd32 "NoPlace.__init__" = true) (k32 : PySem.W.keepIn K (.ref f32) = true)
    {f33 : Addr} {od33 an33 : Option Addr} {sl33 : Array (Option Value)} {oc33 kV33 dc33 pm33 cd33 ct33 : Value}
    (a33 : PySem.W.nsIn K mainGlobals "_law_draw" = some (some (.ref f33)))
    (l33 : K.lookup f33 = some ⟨oc33, od33, .func (PySem.W.fnOf "_law_draw" "_law_draw" (defArgs s__law_draw) (defBody s__law_draw) (defScope s__law_draw) .none kV33 dc33 pm33 an33 cd33 ct33), sl33⟩) (c33 : PySem.W.codeIn K cd33 "_law_draw" = true) (k33 : PySem.W.keepIn K (.ref f33) = true)
    {f34 : Addr} {od34 an34 : Option Addr} {sl34 : Array (Option Value)} {oc34 kV34 dc34 pm34 cd34 ct34 : Value}
    (a34 : PySem.W.nsIn K mainGlobals "_law_one" = some (some (.ref f34)))
    (l34 : K.lookup f34 = some ⟨oc34, od34, .func (PySem.W.fnOf "_law_one" "_law_one" (defArgs s__law_one) (defBody s__law_one) (defScope s__law_one) .none kV34 dc34 pm34 an34 cd34 ct34), sl34⟩) (c34 : PySem.W.codeIn K cd34 "_law_one" = true) (k34 : PySem.W.keepIn K (.ref f34) = true)
    {f35 : Addr} {od35 an35 : Option Addr} {sl35 : Array (Option Value)} {oc35 kV35 dc35 pm35 cd35 ct35 : Value}
    (a35 : PySem.W.nsIn K mainGlobals "_law_taken" = some (some (.ref f35)))
    (l35 : K.lookup f35 = some ⟨oc35, od35, .func (PySem.W.fnOf "_law_taken" "_law_taken" (defArgs s__law_taken) (defBody s__law_taken) (defScope s__law_taken) .none kV35 dc35 pm35 an35 cd35 ct35), sl35⟩) (c35 : PySem.W.codeIn K cd35 "_law_taken" = true) (k35 : PySem.W.keepIn K (.ref f35) = true)
    {f36 : Addr} {od36 an36 : Option Addr} {sl36 : Array (Option Value)} {oc36 kV36 dc36 pm36 cd36 ct36 : Value}
    (a36 : PySem.W.nsIn K mainGlobals "_law_by_place" = some (some (.ref f36)))
    (l36 : K.lookup f36 = some ⟨oc36, od36, .func (PySem.W.fnOf "_law_by_place" "_law_by_place" (defArgs s__law_by_place) (defBody s__law_by_place) (defScope s__law_by_place) .none kV36 dc36 pm36 an36 cd36 ct36), sl36⟩) (c36 : PySem.W.codeIn K cd36 "_law_by_place" = true) (k36 : PySem.W.keepIn K (.ref f36) = true)
    {f37 : Addr} {od37 an37 : Option Addr} {sl37 : Array (Option Value)} {oc37 kV37 dc37 pm37 cd37 ct37 : Value}
    (a37 : PySem.W.nsIn K mainGlobals "_law_by_name" = some (some (.ref f37)))
    (l37 : K.lookup f37 = some ⟨oc37, od37, .func (PySem.W.fnOf "_law_by_name" "_law_by_name" (defArgs s__law_by_name) (defBody s__law_by_name) (defScope s__law_by_name) .none kV37 dc37 pm37 an37 cd37 ct37), sl37⟩) (c37 : PySem.W.codeIn K cd37 "_law_by_name" = true) (k37 : PySem.W.keepIn K (.ref f37) = true)
    {f38 : Addr} {od38 an38 : Option Addr} {sl38 : Array (Option Value)} {oc38 kV38 dc38 pm38 cd38 ct38 : Value}
    (a38 : PySem.W.nsIn K mainGlobals "_law_fields" = some (some (.ref f38)))
    (l38 : K.lookup f38 = some ⟨oc38, od38, .func (PySem.W.fnOf "_law_fields" "_law_fields" (defArgs s__law_fields) (defBody s__law_fields) (defScope s__law_fields) .none kV38 dc38 pm38 an38 cd38 ct38), sl38⟩) (c38 : PySem.W.codeIn K cd38 "_law_fields" = true) (k38 : PySem.W.keepIn K (.ref f38) = true)
    {f39 : Addr} {od39 an39 : Option Addr} {sl39 : Array (Option Value)} {oc39 kV39 dc39 pm39 cd39 ct39 : Value}
    (a39 : PySem.W.nsIn K mainGlobals "_law_right" = some (some (.ref f39)))
    (l39 : K.lookup f39 = some ⟨oc39, od39, .func (PySem.W.fnOf "_law_right" "_law_right" (defArgs s__law_right) (defBody s__law_right) (defScope s__law_right) .none kV39 dc39 pm39 an39 cd39 ct39), sl39⟩) (c39 : PySem.W.codeIn K cd39 "_law_right" = true) (k39 : PySem.W.keepIn K (.ref f39) = true)
    {f40 : Addr} {od40 an40 : Option Addr} {sl40 : Array (Option Value)} {oc40 kV40 dc40 pm40 cd40 ct40 : Value}
    (a40 : PySem.W.nsIn K mainGlobals "law" = some (some (.ref f40)))
    (l40 : K.lookup f40 = some ⟨oc40, od40, .func (PySem.W.fnOf "law" "law" (defArgs s_law) (defBody s_law) (defScope s_law) .none kV40 dc40 pm40 an40 cd40 ct40), sl40⟩) (c40 : PySem.W.codeIn K cd40 "law" = true) (k40 : PySem.W.keepIn K (.ref f40) = true)
    {C_QuiltError : Addr} (aC_QuiltError : PySem.W.nsIn K mainGlobals "QuiltError" = some (some (.ref C_QuiltError)))
    {C_NoField : Addr} (aC_NoField : PySem.W.nsIn K mainGlobals "NoField" = some (some (.ref C_NoField)))
    (a0 : PySem.W.findIn K (.ref C_NoField) "__init__" = some (some (.ref f0)))
    (e_NoField : excB K C_NoField f0 = true)
    (x_NoField_bits : PySem.W.findIn K (.ref C_NoField) "bits" = some none)
    {C_NoWord : Addr} (aC_NoWord : PySem.W.nsIn K mainGlobals "NoWord" = some (some (.ref C_NoWord)))
    (a1 : PySem.W.findIn K (.ref C_NoWord) "__init__" = some (some (.ref f1)))
    (e_NoWord : excB K C_NoWord f1 = true)
    (x_NoWord_part : PySem.W.findIn K (.ref C_NoWord) "part" = some none)
    (x_NoWord_index : PySem.W.findIn K (.ref C_NoWord) "index" = some none)
    {C_NoSize : Addr} (aC_NoSize : PySem.W.nsIn K mainGlobals "NoSize" = some (some (.ref C_NoSize)))
    (a2 : PySem.W.findIn K (.ref C_NoSize) "__init__" = some (some (.ref f2)))
    (e_NoSize : excB K C_NoSize f2 = true)
    (x_NoSize_size : PySem.W.findIn K (.ref C_NoSize) "size" = some none)
    {C_NoLevel : Addr} (aC_NoLevel : PySem.W.nsIn K mainGlobals "NoLevel" = some (some (.ref C_NoLevel)))
    (a3 : PySem.W.findIn K (.ref C_NoLevel) "__init__" = some (some (.ref f3)))
    (e_NoLevel : excB K C_NoLevel f3 = true)
    (x_NoLevel_level : PySem.W.findIn K (.ref C_NoLevel) "level" = some none)
    {C_NoMask : Addr} (aC_NoMask : PySem.W.nsIn K mainGlobals "NoMask" = some (some (.ref C_NoMask)))
    (a4 : PySem.W.findIn K (.ref C_NoMask) "__init__" = some (some (.ref f4)))
    (e_NoMask : excB K C_NoMask f4 = true)
    (x_NoMask_mask : PySem.W.findIn K (.ref C_NoMask) "mask" = some none)
    {C_NoDot : Addr} (aC_NoDot : PySem.W.nsIn K mainGlobals "NoDot" = some (some (.ref C_NoDot)))
    (a5 : PySem.W.findIn K (.ref C_NoDot) "__init__" = some (some (.ref f5)))
    (e_NoDot : excB K C_NoDot f5 = true)
    (x_NoDot_dot : PySem.W.findIn K (.ref C_NoDot) "dot" = some none)
    {C_NoIndex : Addr} (aC_NoIndex : PySem.W.nsIn K mainGlobals "NoIndex" = some (some (.ref C_NoIndex)))
    (a6 : PySem.W.findIn K (.ref C_NoIndex) "__init__" = some (some (.ref f6)))
    (e_NoIndex : excB K C_NoIndex f6 = true)
    (x_NoIndex_index : PySem.W.findIn K (.ref C_NoIndex) "index" = some none)
    {C_NoWords : Addr} (aC_NoWords : PySem.W.nsIn K mainGlobals "NoWords" = some (some (.ref C_NoWords)))
    (a7 : PySem.W.findIn K (.ref C_NoWords) "__init__" = some (some (.ref f7)))
    (e_NoWords : excB K C_NoWords f7 = true)
    (x_NoWords_index : PySem.W.findIn K (.ref C_NoWords) "index" = some none)
    {C_NoBlock : Addr} (aC_NoBlock : PySem.W.nsIn K mainGlobals "NoBlock" = some (some (.ref C_NoBlock)))
    (a8 : PySem.W.findIn K (.ref C_NoBlock) "__init__" = some (some (.ref f8)))
    (e_NoBlock : excB K C_NoBlock f8 = true)
    (x_NoBlock_block : PySem.W.findIn K (.ref C_NoBlock) "block" = some none)
    (x_NoBlock_index : PySem.W.findIn K (.ref C_NoBlock) "index" = some none)
    {C_NoGrid : Addr} (aC_NoGrid : PySem.W.nsIn K mainGlobals "NoGrid" = some (some (.ref C_NoGrid)))
    (a9 : PySem.W.findIn K (.ref C_NoGrid) "__init__" = some (some (.ref f9)))
    (e_NoGrid : excB K C_NoGrid f9 = true)
    (x_NoGrid_row : PySem.W.findIn K (.ref C_NoGrid) "row" = some none)
    (x_NoGrid_column : PySem.W.findIn K (.ref C_NoGrid) "column" = some none)
    {C_NoCode : Addr} (aC_NoCode : PySem.W.nsIn K mainGlobals "NoCode" = some (some (.ref C_NoCode)))
    (a10 : PySem.W.findIn K (.ref C_NoCode) "__init__" = some (some (.ref f10)))
    (e_NoCode : excB K C_NoCode f10 = true)
    (x_NoCode_code : PySem.W.findIn K (.ref C_NoCode) "code" = some none)
    {C_NoNumber : Addr} (aC_NoNumber : PySem.W.nsIn K mainGlobals "NoNumber" = some (some (.ref C_NoNumber)))
    (a11 : PySem.W.findIn K (.ref C_NoNumber) "__init__" = some (some (.ref f11)))
    (e_NoNumber : excB K C_NoNumber f11 = true)
    (x_NoNumber_part : PySem.W.findIn K (.ref C_NoNumber) "part" = some none)
    {C_TooLarge : Addr} (aC_TooLarge : PySem.W.nsIn K mainGlobals "TooLarge" = some (some (.ref C_TooLarge)))
    (a12 : PySem.W.findIn K (.ref C_TooLarge) "__init__" = some (some (.ref f12)))
    (e_TooLarge : excB K C_TooLarge f12 = true)
    (x_TooLarge_limit : PySem.W.findIn K (.ref C_TooLarge) "limit" = some none)
    {C_NoWish : Addr} (aC_NoWish : PySem.W.nsIn K mainGlobals "NoWish" = some (some (.ref C_NoWish)))
    (a13 : PySem.W.findIn K (.ref C_NoWish) "__init__" = some (some (.ref f13)))
    (e_NoWish : excB K C_NoWish f13 = true)
    (x_NoWish_dot : PySem.W.findIn K (.ref C_NoWish) "dot" = some none)
    {C_NoDots : Addr} (aC_NoDots : PySem.W.nsIn K mainGlobals "NoDots" = some (some (.ref C_NoDots)))
    (a14 : PySem.W.findIn K (.ref C_NoDots) "__init__" = some (some (.ref f14)))
    (e_NoDots : excB K C_NoDots f14 = true)
    (x_NoDots_index : PySem.W.findIn K (.ref C_NoDots) "index" = some none)
    {C_NoPattern : Addr} (aC_NoPattern : PySem.W.nsIn K mainGlobals "NoPattern" = some (some (.ref C_NoPattern)))
    (a15 : PySem.W.findIn K (.ref C_NoPattern) "__init__" = some (some (.ref f15)))
    (e_NoPattern : excB K C_NoPattern f15 = true)
    (x_NoPattern_index : PySem.W.findIn K (.ref C_NoPattern) "index" = some none)
    {C_NoAnswer : Addr} (aC_NoAnswer : PySem.W.nsIn K mainGlobals "NoAnswer" = some (some (.ref C_NoAnswer)))
    (a16 : PySem.W.findIn K (.ref C_NoAnswer) "__init__" = some (some (.ref f16)))
    (e_NoAnswer : excB K C_NoAnswer f16 = true)
    (x_NoAnswer_part : PySem.W.findIn K (.ref C_NoAnswer) "part" = some none)
    (x_NoAnswer_index : PySem.W.findIn K (.ref C_NoAnswer) "index" = some none)
    {C_NoPicture : Addr} (aC_NoPicture : PySem.W.nsIn K mainGlobals "NoPicture" = some (some (.ref C_NoPicture)))
    (a17 : PySem.W.findIn K (.ref C_NoPicture) "__init__" = some (some (.ref f17)))
    (e_NoPicture : excB K C_NoPicture f17 = true)
    (x_NoPicture_line : PySem.W.findIn K (.ref C_NoPicture) "line" = some none)
    {C_NoChange : Addr} (aC_NoChange : PySem.W.nsIn K mainGlobals "NoChange" = some (some (.ref C_NoChange)))
    (a18 : PySem.W.findIn K (.ref C_NoChange) "__init__" = some (some (.ref f18)))
    (e_NoChange : excB K C_NoChange f18 = true)
    (x_NoChange_word : PySem.W.findIn K (.ref C_NoChange) "word" = some none)
    {C_NoText : Addr} (aC_NoText : PySem.W.nsIn K mainGlobals "NoText" = some (some (.ref C_NoText)))
    (a19 : PySem.W.findIn K (.ref C_NoText) "__init__" = some (some (.ref f19)))
    (e_NoText : excB K C_NoText f19 = true)
    (x_NoText_index : PySem.W.findIn K (.ref C_NoText) "index" = some none)
    {C_NoPieces : Addr} (aC_NoPieces : PySem.W.nsIn K mainGlobals "NoPieces" = some (some (.ref C_NoPieces)))
    (a20 : PySem.W.findIn K (.ref C_NoPieces) "__init__" = some (some (.ref f20)))
    (e_NoPieces : excB K C_NoPieces f20 = true)
    (x_NoPieces_index : PySem.W.findIn K (.ref C_NoPieces) "index" = some none)
    {C_NoBits : Addr} (aC_NoBits : PySem.W.nsIn K mainGlobals "NoBits" = some (some (.ref C_NoBits)))
    (a21 : PySem.W.findIn K (.ref C_NoBits) "__init__" = some (some (.ref f21)))
    (e_NoBits : excB K C_NoBits f21 = true)
    (x_NoBits_index : PySem.W.findIn K (.ref C_NoBits) "index" = some none)
    {C_Unread : Addr} (aC_Unread : PySem.W.nsIn K mainGlobals "Unread" = some (some (.ref C_Unread)))
    (a22 : PySem.W.findIn K (.ref C_Unread) "__init__" = some (some (.ref f22)))
    (e_Unread : excB K C_Unread f22 = true)
    (x_Unread_at : PySem.W.findIn K (.ref C_Unread) "at" = some none)
    (x_Unread_why : PySem.W.findIn K (.ref C_Unread) "why" = some none)
    {C_TooLong : Addr} (aC_TooLong : PySem.W.nsIn K mainGlobals "TooLong" = some (some (.ref C_TooLong)))
    (a23 : PySem.W.findIn K (.ref C_TooLong) "__init__" = some (some (.ref f23)))
    (e_TooLong : excB K C_TooLong f23 = true)
    (x_TooLong_bits : PySem.W.findIn K (.ref C_TooLong) "bits" = some none)
    {C_NoSeries : Addr} (aC_NoSeries : PySem.W.nsIn K mainGlobals "NoSeries" = some (some (.ref C_NoSeries)))
    (a24 : PySem.W.findIn K (.ref C_NoSeries) "__init__" = some (some (.ref f24)))
    (e_NoSeries : excB K C_NoSeries f24 = true)
    (x_NoSeries_why : PySem.W.findIn K (.ref C_NoSeries) "why" = some none)
    (x_NoSeries_numbers : PySem.W.findIn K (.ref C_NoSeries) "numbers" = some none)
    {C_NoParts : Addr} (aC_NoParts : PySem.W.nsIn K mainGlobals "NoParts" = some (some (.ref C_NoParts)))
    (a25 : PySem.W.findIn K (.ref C_NoParts) "__init__" = some (some (.ref f25)))
    (e_NoParts : excB K C_NoParts f25 = true)
    (x_NoParts_which : PySem.W.findIn K (.ref C_NoParts) "which" = some none)
    (x_NoParts_index : PySem.W.findIn K (.ref C_NoParts) "index" = some none)
    {C_NoFormat : Addr} (aC_NoFormat : PySem.W.nsIn K mainGlobals "NoFormat" = some (some (.ref C_NoFormat)))
    (a26 : PySem.W.findIn K (.ref C_NoFormat) "__init__" = some (some (.ref f26)))
    (e_NoFormat : excB K C_NoFormat f26 = true)
    (x_NoFormat_part : PySem.W.findIn K (.ref C_NoFormat) "part" = some none)
    {C_NoStain : Addr} (aC_NoStain : PySem.W.nsIn K mainGlobals "NoStain" = some (some (.ref C_NoStain)))
    (a27 : PySem.W.findIn K (.ref C_NoStain) "__init__" = some (some (.ref f27)))
    (e_NoStain : excB K C_NoStain f27 = true)
    (x_NoStain_part : PySem.W.findIn K (.ref C_NoStain) "part" = some none)
    (x_NoStain_index : PySem.W.findIn K (.ref C_NoStain) "index" = some none)
    {C_NoKind : Addr} (aC_NoKind : PySem.W.nsIn K mainGlobals "NoKind" = some (some (.ref C_NoKind)))
    (a28 : PySem.W.findIn K (.ref C_NoKind) "__init__" = some (some (.ref f28)))
    (e_NoKind : excB K C_NoKind f28 = true)
    (x_NoKind_kind : PySem.W.findIn K (.ref C_NoKind) "kind" = some none)
    {C_NoPaper : Addr} (aC_NoPaper : PySem.W.nsIn K mainGlobals "NoPaper" = some (some (.ref C_NoPaper)))
    (a29 : PySem.W.findIn K (.ref C_NoPaper) "__init__" = some (some (.ref f29)))
    (e_NoPaper : excB K C_NoPaper f29 = true)
    (x_NoPaper_part : PySem.W.findIn K (.ref C_NoPaper) "part" = some none)
    {C_Unmended : Addr} (aC_Unmended : PySem.W.nsIn K mainGlobals "Unmended" = some (some (.ref C_Unmended)))
    (a30 : PySem.W.findIn K (.ref C_Unmended) "__init__" = some (some (.ref f30)))
    (e_Unmended : excB K C_Unmended f30 = true)
    (x_Unmended_part : PySem.W.findIn K (.ref C_Unmended) "part" = some none)
    (x_Unmended_index : PySem.W.findIn K (.ref C_Unmended) "index" = some none)
    {C_NoPose : Addr} (aC_NoPose : PySem.W.nsIn K mainGlobals "NoPose" = some (some (.ref C_NoPose)))
    (a31 : PySem.W.findIn K (.ref C_NoPose) "__init__" = some (some (.ref f31)))
    (e_NoPose : excB K C_NoPose f31 = true)
    (x_NoPose_pose : PySem.W.findIn K (.ref C_NoPose) "pose" = some none)
    {C_NoPlace : Addr} (aC_NoPlace : PySem.W.nsIn K mainGlobals "NoPlace" = some (some (.ref C_NoPlace)))
    (a32 : PySem.W.findIn K (.ref C_NoPlace) "__init__" = some (some (.ref f32)))
    (e_NoPlace : excB K C_NoPlace f32 = true)
    (x_NoPlace_place : PySem.W.findIn K (.ref C_NoPlace) "place" = some none)
    (kt : kitTab K [C_NoField, C_NoWord, C_NoSize, C_NoLevel, C_NoMask, C_NoDot, C_NoIndex, C_NoWords, C_NoBlock, C_NoGrid, C_NoCode, C_NoNumber, C_TooLarge, C_NoWish, C_NoDots, C_NoPattern, C_NoAnswer, C_NoPicture, C_NoChange, C_NoText, C_NoPieces, C_NoBits, C_Unread, C_TooLong, C_NoSeries, C_NoParts, C_NoFormat, C_NoStain, C_NoKind, C_NoPaper, C_Unmended, C_NoPose, C_NoPlace] C_QuiltError = true)
    (z_ValueError : PySem.W.nsIn K mainGlobals "ValueError" = some none)
    (z_enumerate : PySem.W.nsIn K mainGlobals "enumerate" = some none)
    (z_int : PySem.W.nsIn K mainGlobals "int" = some none)
    (z_isinstance : PySem.W.nsIn K mainGlobals "isinstance" = some none)
    (z_len : PySem.W.nsIn K mainGlobals "len" = some none)
    (z_range : PySem.W.nsIn K mainGlobals "range" = some none)
    : ∃ fd : FuncData, (∀ (s : Shared) (v : Value), BindsTo s fd ⟨[v], []⟩ [("_law_script", v)]) ∧ ∀ base : Heap, K.In base → base.Ns mainGlobals mg → FnOk P w K mg base CX0 5 fa fd ["_law_script"] (sp_law K) := by
  have e := hfa.symm.trans (PySem.W.mg_of X G a40)
  cases e
  let T : Txt K mg := {
    f_NoField___init__ := _
    d_NoField___init__ := _
    F_NoField___init__ := fun_mk (st := s_NoField___init__) l0 c0 k0
    b_NoField___init__ := (fun_mk (st := s_NoField___init__) l0 c0 k0).binds (ps := ["self", "bits"]) (fun _ _ _ _ _ _ us hl => match us, hl with | [_, _], _ => rfl)
    f_NoWord___init__ := _
    d_NoWord___init__ := _
    F_NoWord___init__ := fun_mk (st := s_NoWord___init__) l1 c1 k1
    b_NoWord___init__ := (fun_mk (st := s_NoWord___init__) l1 c1 k1).binds (ps := ["self", "part", "index"]) (fun _ _ _ _ _ _ us hl => match us, hl with | [_, _, _], _ => rfl)
    f_NoSize___init__ := _
    d_NoSize___init__ := _
    F_NoSize___init__ := fun_mk (st := s_NoSize___init__) l2 c2 k2
    b_NoSize___init__ := (fun_mk (st := s_NoSize___init__) l2 c2 k2).binds (ps := ["self", "size"]) (fun _ _ _ _ _ _ us hl => match us, hl with | [_, _], _ => rfl)
    f_NoLevel___init__ := _
    d_NoLevel___init__ := _
    F_NoLevel___init__ := fun_mk (st := s_NoLevel___init__) l3 c3 k3
    b_NoLevel___init__ := (fun_mk (st := s_NoLevel___init__) l3 c3 k3).binds (ps := ["self", "level"]) (fun _ _ _ _ _ _ us hl => match us, hl with | [_, _], _ => rfl)
    f_NoMask___init__ := _
    d_NoMask___init__ := _
    F_NoMask___init__ := fun_mk (st := s_NoMask___init__) l4 c4 k4
    b_NoMask___init__ := (fun_mk (st := s_NoMask___init__) l4 c4 k4).binds (ps := ["self", "mask"]) (fun _ _ _ _ _ _ us hl => match us, hl with | [_, _], _ => rfl)
    f_NoDot___init__ := _
    d_NoDot___init__ := _
    F_NoDot___init__ := fun_mk (st := s_NoDot___init__) l5 c5 k5
    b_NoDot___init__ := (fun_mk (st := s_NoDot___init__) l5 c5 k5).binds (ps := ["self", "dot"]) (fun _ _ _ _ _ _ us hl => match us, hl with | [_, _], _ => rfl)
    f_NoIndex___init__ := _
    d_NoIndex___init__ := _
    F_NoIndex___init__ := fun_mk (st := s_NoIndex___init__) l6 c6 k6
    b_NoIndex___init__ := (fun_mk (st := s_NoIndex___init__) l6 c6 k6).binds (ps := ["self", "index"]) (fun _ _ _ _ _ _ us hl => match us, hl with | [_, _], _ => rfl)
    f_NoWords___init__ := _
    d_NoWords___init__ := _
    F_NoWords___init__ := fun_mk (st := s_NoWords___init__) l7 c7 k7
    b_NoWords___init__ := (fun_mk (st := s_NoWords___init__) l7 c7 k7).binds (ps := ["self", "index"]) (fun _ _ _ _ _ _ us hl => match us, hl with | [_, _], _ => rfl)
    f_NoBlock___init__ := _
    d_NoBlock___init__ := _
    F_NoBlock___init__ := fun_mk (st := s_NoBlock___init__) l8 c8 k8
    b_NoBlock___init__ := (fun_mk (st := s_NoBlock___init__) l8 c8 k8).binds (ps := ["self", "block", "index"]) (fun _ _ _ _ _ _ us hl => match us, hl with | [_, _, _], _ => rfl)
    f_NoGrid___init__ := _
    d_NoGrid___init__ := _
    F_NoGrid___init__ := fun_mk (st := s_NoGrid___init__) l9 c9 k9
    b_NoGrid___init__ := (fun_mk (st := s_NoGrid___init__) l9 c9 k9).binds (ps := ["self", "row", "column"]) (fun _ _ _ _ _ _ us hl => match us, hl with | [_, _, _], _ => rfl)
    f_NoCode___init__ := _
    d_NoCode___init__ := _
    F_NoCode___init__ := fun_mk (st := s_NoCode___init__) l10 c10 k10
    b_NoCode___init__ := (fun_mk (st := s_NoCode___init__) l10 c10 k10).binds (ps := ["self", "code"]) (fun _ _ _ _ _ _ us hl => match us, hl with | [_, _], _ => rfl)
    f_NoNumber___init__ := _
    d_NoNumber___init__ := _
    F_NoNumber___init__ := fun_mk (st := s_NoNumber___init__) l11 c11 k11
    b_NoNumber___init__ := (fun_mk (st := s_NoNumber___init__) l11 c11 k11).binds (ps := ["self", "part"]) (fun _ _ _ _ _ _ us hl => match us, hl with | [_, _], _ => rfl)
    f_TooLarge___init__ := _
    d_TooLarge___init__ := _
    F_TooLarge___init__ := fun_mk (st := s_TooLarge___init__) l12 c12 k12
    b_TooLarge___init__ := (fun_mk (st := s_TooLarge___init__) l12 c12 k12).binds (ps := ["self", "limit"]) (fun _ _ _ _ _ _ us hl => match us, hl with | [_, _], _ => rfl)
    f_NoWish___init__ := _
    d_NoWish___init__ := _
    F_NoWish___init__ := fun_mk (st := s_NoWish___init__) l13 c13 k13
    b_NoWish___init__ := (fun_mk (st := s_NoWish___init__) l13 c13 k13).binds (ps := ["self", "dot"]) (fun _ _ _ _ _ _ us hl => match us, hl with | [_, _], _ => rfl)
    f_NoDots___init__ := _
    d_NoDots___init__ := _
    F_NoDots___init__ := fun_mk (st := s_NoDots___init__) l14 c14 k14
    b_NoDots___init__ := (fun_mk (st := s_NoDots___init__) l14 c14 k14).binds (ps := ["self", "index"]) (fun _ _ _ _ _ _ us hl => match us, hl with | [_, _], _ => rfl)
    f_NoPattern___init__ := _
    d_NoPattern___init__ := _
    F_NoPattern___init__ := fun_mk (st := s_NoPattern___init__) l15 c15 k15
    b_NoPattern___init__ := (fun_mk (st := s_NoPattern___init__) l15 c15 k15).binds (ps := ["self", "index"]) (fun _ _ _ _ _ _ us hl => match us, hl with | [_, _], _ => rfl)
    f_NoAnswer___init__ := _
    d_NoAnswer___init__ := _
    F_NoAnswer___init__ := fun_mk (st := s_NoAnswer___init__) l16 c16 k16
    b_NoAnswer___init__ := (fun_mk (st := s_NoAnswer___init__) l16 c16 k16).binds (ps := ["self", "part", "index"]) (fun _ _ _ _ _ _ us hl => match us, hl with | [_, _, _], _ => rfl)
    f_NoPicture___init__ := _
    d_NoPicture___init__ := _
    F_NoPicture___init__ := fun_mk (st := s_NoPicture___init__) l17 c17 k17
    b_NoPicture___init__ := (fun_mk (st := s_NoPicture___init__) l17 c17 k17).binds (ps := ["self", "line"]) (fun _ _ _ _ _ _ us hl => match us, hl with | [_, _], _ => rfl)
    f_NoChange___init__ := _
    d_NoChange___init__ := _
    F_NoChange___init__ := fun_mk (st := s_NoChange___init__) l18 c18 k18
    b_NoChange___init__ := (fun_mk (st := s_NoChange___init__) l18 c18 k18).binds (ps := ["self", "word"]) (fun _ _ _ _ _ _ us hl => match us, hl with | [_, _], _ => rfl)
    f_NoText___init__ := _
    d_NoText___init__ := _
    F_NoText___init__ := fun_mk (st := s_NoText___init__) l19 c19 k19
    b_NoText___init__ := (fun_mk (st := s_NoText___init__) l19 c19 k19).binds (ps := ["self", "index"]) (fun _ _ _ _ _ _ us hl => match us, hl with | [_, _], _ => rfl)
    f_NoPieces___init__ := _
    d_NoPieces___init__ := _
    F_NoPieces___init__ := fun_mk (st := s_NoPieces___init__) l20 c20 k20
    b_NoPieces___init__ := (fun_mk (st := s_NoPieces___init__) l20 c20 k20).binds (ps := ["self", "index"]) (fun _ _ _ _ _ _ us hl => match us, hl with | [_, _], _ => rfl)
    f_NoBits___init__ := _
    d_NoBits___init__ := _
    F_NoBits___init__ := fun_mk (st := s_NoBits___init__) l21 c21 k21
    b_NoBits___init__ := (fun_mk (st := s_NoBits___init__) l21 c21 k21).binds (ps := ["self", "index"]) (fun _ _ _ _ _ _ us hl => match us, hl with | [_, _], _ => rfl)
    f_Unread___init__ := _
    d_Unread___init__ := _
    F_Unread___init__ := fun_mk (st := s_Unread___init__) l22 c22 k22
    b_Unread___init__ := (fun_mk (st := s_Unread___init__) l22 c22 k22).binds (ps := ["self", "at", "why"]) (fun _ _ _ _ _ _ us hl => match us, hl with | [_, _, _], _ => rfl)
    f_TooLong___init__ := _
    d_TooLong___init__ := _
    F_TooLong___init__ := fun_mk (st := s_TooLong___init__) l23 c23 k23
    b_TooLong___init__ := (fun_mk (st := s_TooLong___init__) l23 c23 k23).binds (ps := ["self", "bits"]) (fun _ _ _ _ _ _ us hl => match us, hl with | [_, _], _ => rfl)
    f_NoSeries___init__ := _
    d_NoSeries___init__ := _
    F_NoSeries___init__ := fun_mk (st := s_NoSeries___init__) l24 c24 k24
    b_NoSeries___init__ := (fun_mk (st := s_NoSeries___init__) l24 c24 k24).binds (ps := ["self", "why", "numbers"]) (fun _ _ _ _ _ _ us hl => match us, hl with | [_, _, _], _ => rfl)
    f_NoParts___init__ := _
    d_NoParts___init__ := _
    F_NoParts___init__ := fun_mk (st := s_NoParts___init__) l25 c25 k25
    b_NoParts___init__ := (fun_mk (st := s_NoParts___init__) l25 c25 k25).binds (ps := ["self", "which", "index"]) (fun _ _ _ _ _ _ us hl => match us, hl with | [_, _, _], _ => rfl)
    f_NoFormat___init__ := _
    d_NoFormat___init__ := _
    F_NoFormat___init__ := fun_mk (st := s_NoFormat___init__) l26 c26 k26
    b_NoFormat___init__ := (fun_mk (st := s_NoFormat___init__) l26 c26 k26).binds (ps := ["self", "part"]) (fun _ _ _ _ _ _ us hl => match us, hl with | [_, _], _ => rfl)
    f_NoStain___init__ := _
    d_NoStain___init__ := _
    F_NoStain___init__ := fun_mk (st := s_NoStain___init__) l27 c27 k27
    b_NoStain___init__ := (fun_mk (st := s_NoStain___init__) l27 c27 k27).binds (ps := ["self", "part", "index"]) (fun _ _ _ _ _ _ us hl => match us, hl with | [_, _, _], _ => rfl)
    f_NoKind___init__ := _
    d_NoKind___init__ := _
    F_NoKind___init__ := fun_mk (st := s_NoKind___init__) l28 c28 k28
    b_NoKind___init__ := (fun_mk (st := s_NoKind___init__) l28 c28 k28).binds (ps := ["self", "kind"]) (fun _ _ _ _ _ _ us hl => match us, hl with | [_, _], _ => rfl)
    f_NoPaper___init__ := _
    d_NoPaper___init__ := _
    F_NoPaper___init__ := fun_mk (st := s_NoPaper___init__) l29 c29 k29
    b_NoPaper___init__ := (fun_mk (st := s_NoPaper___init__) l29 c29 k29).binds (ps := ["self", "part"]) (fun _ _ _ _ _ _ us hl => match us, hl with | [_, _], _ => rfl)
    f_Unmended___init__ := _
    d_Unmended___init__ := _
    F_Unmended___init__ := fun_mk (st := s_Unmended___init__) l30 c30 k30
    b_Unmended___init__ := (fun_mk (st := s_Unmended___init__) l30 c30 k30).binds (ps := ["self", "part", "index"]) (fun _ _ _ _ _ _ us hl => match us, hl with | [_, _, _], _ => rfl)
    f_NoPose___init__ := _
    d_NoPose___init__ := _
    F_NoPose___init__ := fun_mk (st := s_NoPose___init__) l31 c31 k31
    b_NoPose___init__ := (fun_mk (st := s_NoPose___init__) l31 c31 k31).binds (ps := ["self", "pose"]) (fun _ _ _ _ _ _ us hl => match us, hl with | [_, _], _ => rfl)
    f_NoPlace___init__ := _
    d_NoPlace___init__ := _
    F_NoPlace___init__ := fun_mk (st := s_NoPlace___init__) l32 c32 k32
    b_NoPlace___init__ := (fun_mk (st := s_NoPlace___init__) l32 c32 k32).binds (ps := ["self", "place"]) (fun _ _ _ _ _ _ us hl => match us, hl with | [_, _], _ => rfl)
    f__law_draw := _
    d__law_draw := _
    F__law_draw := fun_mk (st := s__law_draw) l33 c33 k33
    g__law_draw := PySem.W.mg_of X G a33
    b__law_draw := (fun_mk (st := s__law_draw) l33 c33 k33).binds (ps := ["_law_well", "_law_many"]) (fun _ _ _ _ _ _ us hl => match us, hl with | [_, _], _ => rfl)
    f__law_one := _
    d__law_one := _
    F__law_one := fun_mk (st := s__law_one) l34 c34 k34
    g__law_one := PySem.W.mg_of X G a34
    b__law_one := (fun_mk (st := s__law_one) l34 c34 k34).binds (ps := ["_law_well", "_law_some"]) (fun _ _ _ _ _ _ us hl => match us, hl with | [_, _], _ => rfl)
    f__law_taken := _
    d__law_taken := _
    F__law_taken := fun_mk (st := s__law_taken) l35 c35 k35
    g__law_taken := PySem.W.mg_of X G a35
    b__law_taken := (fun_mk (st := s__law_taken) l35 c35 k35).binds (ps := ["_law_e"]) (fun _ _ _ _ _ _ us hl => match us, hl with | [_], _ => rfl)
    f__law_by_place := _
    d__law_by_place := _
    F__law_by_place := fun_mk (st := s__law_by_place) l36 c36 k36
    g__law_by_place := PySem.W.mg_of X G a36
    b__law_by_place := (fun_mk (st := s__law_by_place) l36 c36 k36).binds (ps := ["_law_x"]) (fun _ _ _ _ _ _ us hl => match us, hl with | [_], _ => rfl)
    f__law_by_name := _
    d__law_by_name := _
    F__law_by_name := fun_mk (st := s__law_by_name) l37 c37 k37
    g__law_by_name := PySem.W.mg_of X G a37
    b__law_by_name := (fun_mk (st := s__law_by_name) l37 c37 k37).binds (ps := ["_law_x"]) (fun _ _ _ _ _ _ us hl => match us, hl with | [_], _ => rfl)
    f__law_fields := _
    d__law_fields := _
    F__law_fields := fun_mk (st := s__law_fields) l38 c38 k38
    g__law_fields := PySem.W.mg_of X G a38
    b__law_fields := (fun_mk (st := s__law_fields) l38 c38 k38).binds (ps := ["_law_some"]) (fun _ _ _ _ _ _ us hl => match us, hl with | [_], _ => rfl)
    f__law_right := _
    d__law_right := _
    F__law_right := fun_mk (st := s__law_right) l39 c39 k39
    g__law_right := PySem.W.mg_of X G a39
    b__law_right := (fun_mk (st := s__law_right) l39 c39 k39).binds (ps := ["_law_well"]) (fun _ _ _ _ _ _ us hl => match us, hl with | [_], _ => rfl)
    f_law := _
    d_law := _
    F_law := fun_mk (st := s_law) l40 c40 k40
    g_law := PySem.W.mg_of X G a40
    b_law := (fun_mk (st := s_law) l40 c40 k40).binds (ps := ["_law_script"]) (fun _ _ _ _ _ _ us hl => match us, hl with | [_], _ => rfl)
    C_QuiltError := C_QuiltError
    g_QuiltError := PySem.W.mg_of X G aC_QuiltError
    C_NoField := C_NoField
    g_NoField := PySem.W.mg_of X G aC_NoField
    e_NoField := excB_ok e_NoField
    nf_NoField_bits := x_NoField_bits
    k_NoField___init__ := kbs (fun_mk (st := s_NoField___init__) l0 c0 k0) (ks := ["bits"]) (ps := ["self", "bits"]) (fun ws => (fun l => l) ws) (fun _ _ _ _ _ _ self ws hl => match ws, hl with | [_], _ => rfl)
    C_NoWord := C_NoWord
    g_NoWord := PySem.W.mg_of X G aC_NoWord
    e_NoWord := excB_ok e_NoWord
    nf_NoWord_part := x_NoWord_part
    nf_NoWord_index := x_NoWord_index
    k_NoWord___init__ := kbs (fun_mk (st := s_NoWord___init__) l1 c1 k1) (ks := ["index", "part"]) (ps := ["self", "part", "index"]) (fun ws => rev2 ws) (fun _ _ _ _ _ _ self ws hl => match ws, hl with | [_, _], _ => rfl)
    C_NoSize := C_NoSize
    g_NoSize := PySem.W.mg_of X G aC_NoSize
    e_NoSize := excB_ok e_NoSize
    nf_NoSize_size := x_NoSize_size
    k_NoSize___init__ := kbs (fun_mk (st := s_NoSize___init__) l2 c2 k2) (ks := ["size"]) (ps := ["self", "size"]) (fun ws => (fun l => l) ws) (fun _ _ _ _ _ _ self ws hl => match ws, hl with | [_], _ => rfl)
    C_NoLevel := C_NoLevel
    g_NoLevel := PySem.W.mg_of X G aC_NoLevel
    e_NoLevel := excB_ok e_NoLevel
    nf_NoLevel_level := x_NoLevel_level
    k_NoLevel___init__ := kbs (fun_mk (st := s_NoLevel___init__) l3 c3 k3) (ks := ["level"]) (ps := ["self", "level"]) (fun ws => (fun l => l) ws) (fun _ _ _ _ _ _ self ws hl => match ws, hl with | [_], _ => rfl)
    C_NoMask := C_NoMask
    g_NoMask := PySem.W.mg_of X G aC_NoMask
    e_NoMask := excB_ok e_NoMask
    nf_NoMask_mask := x_NoMask_mask
    k_NoMask___init__ := kbs (fun_mk (st := s_NoMask___init__) l4 c4 k4) (ks := ["mask"]) (ps := ["self", "mask"]) (fun ws => (fun l => l) ws) (fun _ _ _ _ _ _ self ws hl => match ws, hl with | [_], _ => rfl)
    C_NoDot := C_NoDot
    g_NoDot := PySem.W.mg_of X G aC_NoDot
    e_NoDot := excB_ok e_NoDot
    nf_NoDot_dot := x_NoDot_dot
    k_NoDot___init__ := kbs (fun_mk (st := s_NoDot___init__) l5 c5 k5) (ks := ["dot"]) (ps := ["self", "dot"]) (fun ws => (fun l => l) ws) (fun _ _ _ _ _ _ self ws hl => match ws, hl with | [_], _ => rfl)
    C_NoIndex := C_NoIndex
    g_NoIndex := PySem.W.mg_of X G aC_NoIndex
    e_NoIndex := excB_ok e_NoIndex
    nf_NoIndex_index := x_NoIndex_index
    k_NoIndex___init__ := kbs (fun_mk (st := s_NoIndex___init__) l6 c6 k6) (ks := ["index"]) (ps := ["self", "index"]) (fun ws => (fun l => l) ws) (fun _ _ _ _ _ _ self ws hl => match ws, hl with | [_], _ => rfl)
    C_NoWords := C_NoWords
    g_NoWords := PySem.W.mg_of X G aC_NoWords
    e_NoWords := excB_ok e_NoWords
    nf_NoWords_index := x_NoWords_index
    k_NoWords___init__ := kbs (fun_mk (st := s_NoWords___init__) l7 c7 k7) (ks := ["index"]) (ps := ["self", "index"]) (fun ws => (fun l => l) ws) (fun _ _ _ _ _ _ self ws hl => match ws, hl with | [_], _ => rfl)
    C_NoBlock := C_NoBlock
    g_NoBlock := PySem.W.mg_of X G aC_NoBlock
    e_NoBlock := excB_ok e_NoBlock
    nf_NoBlock_block := x_NoBlock_block
    nf_NoBlock_index := x_NoBlock_index
    k_NoBlock___init__ := kbs (fun_mk (st := s_NoBlock___init__) l8 c8 k8) (ks := ["index", "block"]) (ps := ["self", "block", "index"]) (fun ws => rev2 ws) (fun _ _ _ _ _ _ self ws hl => match ws, hl with | [_, _], _ => rfl)
    C_NoGrid := C_NoGrid
    g_NoGrid := PySem.W.mg_of X G aC_NoGrid
    e_NoGrid := excB_ok e_NoGrid
    nf_NoGrid_row := x_NoGrid_row
    nf_NoGrid_column := x_NoGrid_column
    k_NoGrid___init__ := kbs (fun_mk (st := s_NoGrid___init__) l9 c9 k9) (ks := ["column", "row"]) (ps := ["self", "row", "column"]) (fun ws => rev2 ws) (fun _ _ _ _ _ _ self ws hl => match ws, hl with | [_, _], _ => rfl)
    C_NoCode := C_NoCode
    g_NoCode := PySem.W.mg_of X G aC_NoCode
    e_NoCode := excB_ok e_NoCode
    nf_NoCode_code := x_NoCode_code
    k_NoCode___init__ := kbs (fun_mk (st := s_NoCode___init__) l10 c10 k10) (ks := ["code"]) (ps := ["self", "code"]) (fun ws => (fun l => l) ws) (fun _ _ _ _ _ _ self ws hl => match ws, hl with | [_], _ => rfl)
    C_NoNumber := C_NoNumber
    g_NoNumber := PySem.W.mg_of X G aC_NoNumber
    e_NoNumber := excB_ok e_NoNumber
    nf_NoNumber_part := x_NoNumber_part
    k_NoNumber___init__ := kbs (fun_mk (st := s_NoNumber___init__) l11 c11 k11) (ks := ["part"]) (ps := ["self", "part"]) (fun ws => (fun l => l) ws) (fun _ _ _ _ _ _ self ws hl => match ws, hl with | [_], _ => rfl)
    C_TooLarge := C_TooLarge
    g_TooLarge := PySem.W.mg_of X G aC_TooLarge
    e_TooLarge := excB_ok e_TooLarge
    nf_TooLarge_limit := x_TooLarge_limit
    k_TooLarge___init__ := kbs (fun_mk (st := s_TooLarge___init__) l12 c12 k12) (ks := ["limit"]) (ps := ["self", "limit"]) (fun ws => (fun l => l) ws) (fun _ _ _ _ _ _ self ws hl => match ws, hl with | [_], _ => rfl)
    C_NoWish := C_NoWish
    g_NoWish := PySem.W.mg_of X G aC_NoWish
    e_NoWish := excB_ok e_NoWish
    nf_NoWish_dot := x_NoWish_dot
    k_NoWish___init__ := kbs (fun_mk (st := s_NoWish___init__) l13 c13 k13) (ks := ["dot"]) (ps := ["self", "dot"]) (fun ws => (fun l => l) ws) (fun _ _ _ _ _ _ self ws hl => match ws, hl with | [_], _ => rfl)
    C_NoDots := C_NoDots
    g_NoDots := PySem.W.mg_of X G aC_NoDots
    e_NoDots := excB_ok e_NoDots
    nf_NoDots_index := x_NoDots_index
    k_NoDots___init__ := kbs (fun_mk (st := s_NoDots___init__) l14 c14 k14) (ks := ["index"]) (ps := ["self", "index"]) (fun ws => (fun l => l) ws) (fun _ _ _ _ _ _ self ws hl => match ws, hl with | [_], _ => rfl)
    C_NoPattern := C_NoPattern
    g_NoPattern := PySem.W.mg_of X G aC_NoPattern
    e_NoPattern := excB_ok e_NoPattern
    nf_NoPattern_index := x_NoPattern_index
    k_NoPattern___init__ := kbs (fun_mk (st := s_NoPattern___init__) l15 c15 k15) (ks := ["index"]) (ps := ["self", "index"]) (fun ws => (fun l => l) ws) (fun _ _ _ _ _ _ self ws hl => match ws, hl with | [_], _ => rfl)
    C_NoAnswer := C_NoAnswer
    g_NoAnswer := PySem.W.mg_of X G aC_NoAnswer
    e_NoAnswer := excB_ok e_NoAnswer
    nf_NoAnswer_part := x_NoAnswer_part
    nf_NoAnswer_index := x_NoAnswer_index
    k_NoAnswer___init__ := kbs (fun_mk (st := s_NoAnswer___init__) l16 c16 k16) (ks := ["index", "part"]) (ps := ["self", "part", "index"]) (fun ws => rev2 ws) (fun _ _ _ _ _ _ self ws hl => match ws, hl with | [_, _], _ => rfl)
    C_NoPicture := C_NoPicture
    g_NoPicture := PySem.W.mg_of X G aC_NoPicture
    e_NoPicture := excB_ok e_NoPicture
    nf_NoPicture_line := x_NoPicture_line
    k_NoPicture___init__ := kbs (fun_mk (st := s_NoPicture___init__) l17 c17 k17) (ks := ["line"]) (ps := ["self", "line"]) (fun ws => (fun l => l) ws) (fun _ _ _ _ _ _ self ws hl => match ws, hl with | [_], _ => rfl)
    C_NoChange := C_NoChange
    g_NoChange := PySem.W.mg_of X G aC_NoChange
    e_NoChange := excB_ok e_NoChange
    nf_NoChange_word := x_NoChange_word
    k_NoChange___init__ := kbs (fun_mk (st := s_NoChange___init__) l18 c18 k18) (ks := ["word"]) (ps := ["self", "word"]) (fun ws => (fun l => l) ws) (fun _ _ _ _ _ _ self ws hl => match ws, hl with | [_], _ => rfl)
    C_NoText := C_NoText
    g_NoText := PySem.W.mg_of X G aC_NoText
    e_NoText := excB_ok e_NoText
    nf_NoText_index := x_NoText_index
    k_NoText___init__ := kbs (fun_mk (st := s_NoText___init__) l19 c19 k19) (ks := ["index"]) (ps := ["self", "index"]) (fun ws => (fun l => l) ws) (fun _ _ _ _ _ _ self ws hl => match ws, hl with | [_], _ => rfl)
    C_NoPieces := C_NoPieces
    g_NoPieces := PySem.W.mg_of X G aC_NoPieces
    e_NoPieces := excB_ok e_NoPieces
    nf_NoPieces_index := x_NoPieces_index
    k_NoPieces___init__ := kbs (fun_mk (st := s_NoPieces___init__) l20 c20 k20) (ks := ["index"]) (ps := ["self", "index"]) (fun ws => (fun l => l) ws) (fun _ _ _ _ _ _ self ws hl => match ws, hl with | [_], _ => rfl)
    C_NoBits := C_NoBits
    g_NoBits := PySem.W.mg_of X G aC_NoBits
    e_NoBits := excB_ok e_NoBits
    nf_NoBits_index := x_NoBits_index
    k_NoBits___init__ := kbs (fun_mk (st := s_NoBits___init__) l21 c21 k21) (ks := ["index"]) (ps := ["self", "index"]) (fun ws => (fun l => l) ws) (fun _ _ _ _ _ _ self ws hl => match ws, hl with | [_], _ => rfl)
    C_Unread := C_Unread
    g_Unread := PySem.W.mg_of X G aC_Unread
    e_Unread := excB_ok e_Unread
    nf_Unread_at := x_Unread_at
    nf_Unread_why := x_Unread_why
    k_Unread___init__ := kbs (fun_mk (st := s_Unread___init__) l22 c22 k22) (ks := ["why", "at"]) (ps := ["self", "at", "why"]) (fun ws => rev2 ws) (fun _ _ _ _ _ _ self ws hl => match ws, hl with | [_, _], _ => rfl)
    C_TooLong := C_TooLong
    g_TooLong := PySem.W.mg_of X G aC_TooLong
    e_TooLong := excB_ok e_TooLong
    nf_TooLong_bits := x_TooLong_bits
    k_TooLong___init__ := kbs (fun_mk (st := s_TooLong___init__) l23 c23 k23) (ks := ["bits"]) (ps := ["self", "bits"]) (fun ws => (fun l => l) ws) (fun _ _ _ _ _ _ self ws hl => match ws, hl with | [_], _ => rfl)
    C_NoSeries := C_NoSeries
    g_NoSeries := PySem.W.mg_of X G aC_NoSeries
    e_NoSeries := excB_ok e_NoSeries
    nf_NoSeries_why := x_NoSeries_why
    nf_NoSeries_numbers := x_NoSeries_numbers
    k_NoSeries___init__ := kbs (fun_mk (st := s_NoSeries___init__) l24 c24 k24) (ks := ["numbers", "why"]) (ps := ["self", "why", "numbers"]) (fun ws => rev2 ws) (fun _ _ _ _ _ _ self ws hl => match ws, hl with | [_, _], _ => rfl)
    C_NoParts := C_NoParts
    g_NoParts := PySem.W.mg_of X G aC_NoParts
    e_NoParts := excB_ok e_NoParts
    nf_NoParts_which := x_NoParts_which
    nf_NoParts_index := x_NoParts_index
    k_NoParts___init__ := kbs (fun_mk (st := s_NoParts___init__) l25 c25 k25) (ks := ["index", "which"]) (ps := ["self", "which", "index"]) (fun ws => rev2 ws) (fun _ _ _ _ _ _ self ws hl => match ws, hl with | [_, _], _ => rfl)
    C_NoFormat := C_NoFormat
    g_NoFormat := PySem.W.mg_of X G aC_NoFormat
    e_NoFormat := excB_ok e_NoFormat
    nf_NoFormat_part := x_NoFormat_part
    k_NoFormat___init__ := kbs (fun_mk (st := s_NoFormat___init__) l26 c26 k26) (ks := ["part"]) (ps := ["self", "part"]) (fun ws => (fun l => l) ws) (fun _ _ _ _ _ _ self ws hl => match ws, hl with | [_], _ => rfl)
    C_NoStain := C_NoStain
    g_NoStain := PySem.W.mg_of X G aC_NoStain
    e_NoStain := excB_ok e_NoStain
    nf_NoStain_part := x_NoStain_part
    nf_NoStain_index := x_NoStain_index
    k_NoStain___init__ := kbs (fun_mk (st := s_NoStain___init__) l27 c27 k27) (ks := ["index", "part"]) (ps := ["self", "part", "index"]) (fun ws => rev2 ws) (fun _ _ _ _ _ _ self ws hl => match ws, hl with | [_, _], _ => rfl)
    C_NoKind := C_NoKind
    g_NoKind := PySem.W.mg_of X G aC_NoKind
    e_NoKind := excB_ok e_NoKind
    nf_NoKind_kind := x_NoKind_kind
    k_NoKind___init__ := kbs (fun_mk (st := s_NoKind___init__) l28 c28 k28) (ks := ["kind"]) (ps := ["self", "kind"]) (fun ws => (fun l => l) ws) (fun _ _ _ _ _ _ self ws hl => match ws, hl with | [_], _ => rfl)
    C_NoPaper := C_NoPaper
    g_NoPaper := PySem.W.mg_of X G aC_NoPaper
    e_NoPaper := excB_ok e_NoPaper
    nf_NoPaper_part := x_NoPaper_part
    k_NoPaper___init__ := kbs (fun_mk (st := s_NoPaper___init__) l29 c29 k29) (ks := ["part"]) (ps := ["self", "part"]) (fun ws => (fun l => l) ws) (fun _ _ _ _ _ _ self ws hl => match ws, hl with | [_], _ => rfl)
    C_Unmended := C_Unmended
    g_Unmended := PySem.W.mg_of X G aC_Unmended
    e_Unmended := excB_ok e_Unmended
    nf_Unmended_part := x_Unmended_part
    nf_Unmended_index := x_Unmended_index
    k_Unmended___init__ := kbs (fun_mk (st := s_Unmended___init__) l30 c30 k30) (ks := ["index", "part"]) (ps := ["self", "part", "index"]) (fun ws => rev2 ws) (fun _ _ _ _ _ _ self ws hl => match ws, hl with | [_, _], _ => rfl)
    C_NoPose := C_NoPose
    g_NoPose := PySem.W.mg_of X G aC_NoPose
    e_NoPose := excB_ok e_NoPose
    nf_NoPose_pose := x_NoPose_pose
    k_NoPose___init__ := kbs (fun_mk (st := s_NoPose___init__) l31 c31 k31) (ks := ["pose"]) (ps := ["self", "pose"]) (fun ws => (fun l => l) ws) (fun _ _ _ _ _ _ self ws hl => match ws, hl with | [_], _ => rfl)
    C_NoPlace := C_NoPlace
    g_NoPlace := PySem.W.mg_of X G aC_NoPlace
    e_NoPlace := excB_ok e_NoPlace
    nf_NoPlace_place := x_NoPlace_place
    k_NoPlace___init__ := kbs (fun_mk (st := s_NoPlace___init__) l32 c32 k32) (ks := ["place"]) (ps := ["self", "place"]) (fun ws => (fun l => l) ws) (fun _ _ _ _ _ _ self ws hl => match ws, hl with | [_], _ => rfl)
    kt := kt
    n_ValueError := PySem.W.mg_none_of X G z_ValueError
    n_enumerate := PySem.W.mg_none_of X G z_enumerate
    n_int := PySem.W.mg_none_of X G z_int
    n_isinstance := PySem.W.mg_none_of X G z_isinstance
    n_len := PySem.W.mg_none_of X G z_len
    n_range := PySem.W.mg_none_of X G z_range }
  exact ⟨T.d_law, fun s v => .of_eq rfl, fun base _ _ => ok_law T⟩
end My
open PySem PySem.W PyProof.Rows
set_option maxHeartbeats 0 in
theorem PySem.Challenge.cw_dotquilts_k04_exceptions_holds : PySem.Challenge.rw_dotquilts_k04_exceptions.Holds := by
  w_on; o_law; k_headL; (case hw => w_witness2)
  k_fill
  refine L2.walk_of (l := PySem.Challenge.rw_dotquilts_k04_exceptions) (n := 63) (k := 5) (x := "_law_script") (CX := fun _ => L2.CX0) (sp := fun w => My.sp_law _) rfl (by decide) rfl ⟨rfl, by decide, by decide⟩ (fun w h Y => PySem.W.kIn_of Y) ?F (fun _ _ a ns hl _ hS => ⟨a, ns, rfl, hS, hl, fun _ => rfl⟩) (fun _ _ _ _ _ h => h)
  case F =>
    intro w mg fa h KX G hmg
    refine' My.all_mk KX G hmg ?l0 ?c0 ?k0 ?l1 ?c1 ?k1 ?l2 ?c2 ?k2 ?l3 ?c3 ?k3 ?l4 ?c4 ?k4 ?l5 ?c5 ?k5 ?l6 ?c6 ?k6 ?l7 ?c7 ?k7 ?l8 ?c8 ?k8 ?l9 ?c9 ?k9 ?l10 ?c10 ?k10 ?l11 ?c11 ?k11 ?l12 ?c12 ?k12 ?l13 ?c13 ?k13 ?l14 ?c14 ?k14 ?l15 ?c15 ?k15 ?l16 ?c16 ?k16 ?l17 ?c17 ?k17 ?l18 ?c18 ?k18 ?l19 ?c19 ?k19 ?l20 ?c20 ?k20 ?l21 ?c21 ?k21 ?l22 ?c22 ?k22 ?l23 ?c23 ?k23 ?l24 ?c24 ?k24 ?l25 ?c25 ?k25 ?l26 ?c26 ?k26 ?l27 ?c27 ?k27 ?l28 ?c28 ?k28 ?l29 ?c29 ?k29 ?l30 ?c30 ?k30 ?l31 ?c31 ?k31 ?l32 ?c32 ?k32 ?a33 ?l33 ?c33 ?k33 ?a34 ?l34 ?c34 ?k34 ?a35 ?l35 ?c35 ?k35 ?a36 ?l36 ?c36 ?k36 ?a37 ?l37 ?c37 ?k37 ?a38 ?l38 ?c38 ?k38 ?a39 ?l39 ?c39 ?k39 ?a40 ?l40 ?c40 ?k40 ?aC_QuiltError ?aC_NoField ?a0 ?e_NoField ?x_NoField_bits ?aC_NoWord ?a1 ?e_NoWord ?x_NoWord_part ?x_NoWord_index ?aC_NoSize ?a2 ?e_NoSize ?x_NoSize_size ?aC_NoLevel ?a3 ?e_NoLevel ?x_NoLevel_level ?aC_NoMask ?a4 ?e_NoMask ?x_NoMask_mask ?aC_NoDot ?a5 ?e_NoDot ?x_NoDot_dot ?aC_NoIndex ?a6 ?e_NoIndex ?x_NoIndex_index ?aC_NoWords ?a7 ?e_NoWords ?x_NoWords_index ?aC_NoBlock ?a8 ?e_NoBlock ?x_NoBlock_block ?x_NoBlock_index ?aC_NoGrid ?a9 ?e_NoGrid ?x_NoGrid_row ?x_NoGrid_column ?aC_NoCode ?a10 ?e_NoCode ?x_NoCode_code ?aC_NoNumber ?a11 ?e_NoNumber ?x_NoNumber_part ?aC_TooLarge ?a12 ?e_TooLarge ?x_TooLarge_limit ?aC_NoWish ?a13 ?e_NoWish ?x_NoWish_dot ?aC_NoDots ?a14 ?e_NoDots ?x_NoDots_index ?aC_NoPattern ?a15 ?e_NoPattern ?x_NoPattern_index ?aC_NoAnswer ?a16 ?e_NoAnswer ?x_NoAnswer_part ?x_NoAnswer_index ?aC_NoPicture ?a17 ?e_NoPicture ?x_NoPicture_line ?aC_NoChange ?a18 ?e_NoChange ?x_NoChange_word ?aC_NoText ?a19 ?e_NoText ?x_NoText_index ?aC_NoPieces ?a20 ?e_NoPieces ?x_NoPieces_index ?aC_NoBits ?a21 ?e_NoBits ?x_NoBits_index ?aC_Unread ?a22 ?e_Unread ?x_Unread_at ?x_Unread_why ?aC_TooLong ?a23 ?e_TooLong ?x_TooLong_bits ?aC_NoSeries ?a24 ?e_NoSeries ?x_NoSeries_why ?x_NoSeries_numbers ?aC_NoParts ?a25 ?e_NoParts ?x_NoParts_which ?x_NoParts_index ?aC_NoFormat ?a26 ?e_NoFormat ?x_NoFormat_part ?aC_NoStain ?a27 ?e_NoStain ?x_NoStain_part ?x_NoStain_index ?aC_NoKind ?a28 ?e_NoKind ?x_NoKind_kind ?aC_NoPaper ?a29 ?e_NoPaper ?x_NoPaper_part ?aC_Unmended ?a30 ?e_Unmended ?x_Unmended_part ?x_Unmended_index ?aC_NoPose ?a31 ?e_NoPose ?x_NoPose_pose ?aC_NoPlace ?a32 ?e_NoPlace ?x_NoPlace_place ?kt ?z_ValueError ?z_enumerate ?z_int ?z_isinstance ?z_len ?z_range
    (case a33 => k_is)
    (case l33 => k_is)
    (case c33 => k_is)
    (case k33 => k_is)
    (case a34 => k_is)
    (case l34 => k_is)
    (case c34 => k_is)
    (case k34 => k_is)
    (case a35 => k_is)
    (case l35 => k_is)
    (case c35 => k_is)
    (case k35 => k_is)
    (case a36 => k_is)
    (case l36 => k_is)
    (case c36 => k_is)
    (case k36 => k_is)
    (case a37 => k_is)
    (case l37 => k_is)
    (case c37 => k_is)
    (case k37 => k_is)
    (case a38 => k_is)
    (case l38 => k_is)
    (case c38 => k_is)
    (case k38 => k_is)
    (case a39 => k_is)
    (case l39 => k_is)
    (case c39 => k_is)
    (case k39 => k_is)
    (case a40 => k_is)
    (case l40 => k_is)
    (case c40 => k_is)
    (case k40 => k_is)
    (case aC_QuiltError => k_is)
    (case aC_NoField => k_is)
    (case a0 => k_is)
    (case x_NoField_bits => k_is)
    (case aC_NoWord => k_is)
    (case a1 => k_is)
    (case x_NoWord_part => k_is)
    (case x_NoWord_index => k_is)
    (case aC_NoSize => k_is)
    (case a2 => k_is)
    (case x_NoSize_size => k_is)
    (case aC_NoLevel => k_is)
    (case a3 => k_is)
    (case x_NoLevel_level => k_is)
    (case aC_NoMask => k_is)
    (case a4 => k_is)
    (case x_NoMask_mask => k_is)
    (case aC_NoDot => k_is)
    (case a5 => k_is)
    (case x_NoDot_dot => k_is)
    (case aC_NoIndex => k_is)
    (case a6 => k_is)
    (case x_NoIndex_index => k_is)
    (case aC_NoWords => k_is)
    (case a7 => k_is)
    (case x_NoWords_index => k_is)
    (case aC_NoBlock => k_is)
    (case a8 => k_is)
    (case x_NoBlock_block => k_is)
    (case x_NoBlock_index => k_is)
    (case aC_NoGrid => k_is)
    (case a9 => k_is)
    (case x_NoGrid_row => k_is)
    (case x_NoGrid_column => k_is)
    (case aC_NoCode => k_is)
    (case a10 => k_is)
    (case x_NoCode_code => k_is)
    (case aC_NoNumber => k_is)
    (case a11 => k_is)
    (case x_NoNumber_part => k_is)
    (case aC_TooLarge => k_is)
    (case a12 => k_is)
    (case x_TooLarge_limit => k_is)
    (case aC_NoWish => k_is)
    (case a13 => k_is)
    (case x_NoWish_dot => k_is)
    (case aC_NoDots => k_is)
    (case a14 => k_is)
    (case x_NoDots_index => k_is)
    (case aC_NoPattern => k_is)
    (case a15 => k_is)
    (case x_NoPattern_index => k_is)
    (case aC_NoAnswer => k_is)
    (case a16 => k_is)
    (case x_NoAnswer_part => k_is)
    (case x_NoAnswer_index => k_is)
    (case aC_NoPicture => k_is)
    (case a17 => k_is)
    (case x_NoPicture_line => k_is)
    (case aC_NoChange => k_is)
    (case a18 => k_is)
    (case x_NoChange_word => k_is)
    (case aC_NoText => k_is)
    (case a19 => k_is)
    (case x_NoText_index => k_is)
    (case aC_NoPieces => k_is)
    (case a20 => k_is)
    (case x_NoPieces_index => k_is)
    (case aC_NoBits => k_is)
    (case a21 => k_is)
    (case x_NoBits_index => k_is)
    (case aC_Unread => k_is)
    (case a22 => k_is)
    (case x_Unread_at => k_is)
    (case x_Unread_why => k_is)
    (case aC_TooLong => k_is)
    (case a23 => k_is)
    (case x_TooLong_bits => k_is)
    (case aC_NoSeries => k_is)
    (case a24 => k_is)
    (case x_NoSeries_why => k_is)
    (case x_NoSeries_numbers => k_is)
    (case aC_NoParts => k_is)
    (case a25 => k_is)
    (case x_NoParts_which => k_is)
    (case x_NoParts_index => k_is)
    (case aC_NoFormat => k_is)
    (case a26 => k_is)
    (case x_NoFormat_part => k_is)
    (case aC_NoStain => k_is)
    (case a27 => k_is)
    (case x_NoStain_part => k_is)
    (case x_NoStain_index => k_is)
    (case aC_NoKind => k_is)
    (case a28 => k_is)
    (case x_NoKind_kind => k_is)
    (case aC_NoPaper => k_is)
    (case a29 => k_is)
    (case x_NoPaper_part => k_is)
    (case aC_Unmended => k_is)
    (case a30 => k_is)
    (case x_Unmended_part => k_is)
    (case x_Unmended_index => k_is)
    (case aC_NoPose => k_is)
    (case a31 => k_is)
    (case x_NoPose_pose => k_is)
    (case aC_NoPlace => k_is)
    (case a32 => k_is)
    (case x_NoPlace_place => k_is)
    (case z_ValueError => k_is)
    (case z_enumerate => k_is)
    (case z_int => k_is)
    (case z_isinstance => k_is)
    (case z_len => k_is)
    (case z_range => k_is)
    (case l0 => k_is)
    (case c0 => k_is)
    (case k0 => k_is)
    (case l1 => k_is)
    (case c1 => k_is)
    (case k1 => k_is)
    (case l2 => k_is)
    (case c2 => k_is)
    (case k2 => k_is)
    (case l3 => k_is)
    (case c3 => k_is)
    (case k3 => k_is)
    (case l4 => k_is)
    (case c4 => k_is)
    (case k4 => k_is)
    (case l5 => k_is)
    (case c5 => k_is)
    (case k5 => k_is)
    (case l6 => k_is)
    (case c6 => k_is)
    (case k6 => k_is)
    (case l7 => k_is)
    (case c7 => k_is)
    (case k7 => k_is)
    (case l8 => k_is)
    (case c8 => k_is)
    (case k8 => k_is)
    (case l9 => k_is)
    (case c9 => k_is)
    (case k9 => k_is)
    (case l10 => k_is)
    (case c10 => k_is)
    (case k10 => k_is)
    (case l11 => k_is)
    (case c11 => k_is)
    (case k11 => k_is)
    (case l12 => k_is)
    (case c12 => k_is)
    (case k12 => k_is)
    (case l13 => k_is)
    (case c13 => k_is)
    (case k13 => k_is)
    (case l14 => k_is)
    (case c14 => k_is)
    (case k14 => k_is)
    (case l15 => k_is)
    (case c15 => k_is)
    (case k15 => k_is)
    (case l16 => k_is)
    (case c16 => k_is)
    (case k16 => k_is)
    (case l17 => k_is)
    (case c17 => k_is)
    (case k17 => k_is)
    (case l18 => k_is)
    (case c18 => k_is)
    (case k18 => k_is)
    (case l19 => k_is)
    (case c19 => k_is)
    (case k19 => k_is)
    (case l20 => k_is)
    (case c20 => k_is)
    (case k20 => k_is)
    (case l21 => k_is)
    (case c21 => k_is)
    (case k21 => k_is)
    (case l22 => k_is)
    (case c22 => k_is)
    (case k22 => k_is)
    (case l23 => k_is)
    (case c23 => k_is)
    (case k23 => k_is)
    (case l24 => k_is)
    (case c24 => k_is)
    (case k24 => k_is)
    (case l25 => k_is)
    (case c25 => k_is)
    (case k25 => k_is)
    (case l26 => k_is)
    (case c26 => k_is)
    (case k26 => k_is)
    (case l27 => k_is)
    (case c27 => k_is)
    (case k27 => k_is)
    (case l28 => k_is)
    (case c28 => k_is)
    (case k28 => k_is)
    (case l29 => k_is)
    (case c29 => k_is)
    (case k29 => k_is)
    (case l30 => k_is)
    (case c30 => k_is)
    (case k30 => k_is)
    (case l31 => k_is)
    (case c31 => k_is)
    (case k31 => k_is)
    (case l32 => k_is)
    (case c32 => k_is)
    (case k32 => k_is)
    (case e_NoField => first | rfl | decide +kernel | k_is)
    (case e_NoWord => first | rfl | decide +kernel | k_is)
    (case e_NoSize => first | rfl | decide +kernel | k_is)
    (case e_NoLevel => first | rfl | decide +kernel | k_is)
    (case e_NoMask => first | rfl | decide +kernel | k_is)
    (case e_NoDot => first | rfl | decide +kernel | k_is)
    (case e_NoIndex => first | rfl | decide +kernel | k_is)
    (case e_NoWords => first | rfl | decide +kernel | k_is)
    (case e_NoBlock => first | rfl | decide +kernel | k_is)
    (case e_NoGrid => first | rfl | decide +kernel | k_is)
    (case e_NoCode => first | rfl | decide +kernel | k_is)
    (case e_NoNumber => first | rfl | decide +kernel | k_is)
    (case e_TooLarge => first | rfl | decide +kernel | k_is)
    (case e_NoWish => first | rfl | decide +kernel | k_is)
    (case e_NoDots => first | rfl | decide +kernel | k_is)
    (case e_NoPattern => first | rfl | decide +kernel | k_is)
    (case e_NoAnswer => first | rfl | decide +kernel | k_is)
    (case e_NoPicture => first | rfl | decide +kernel | k_is)
    (case e_NoChange => first | rfl | decide +kernel | k_is)
    (case e_NoText => first | rfl | decide +kernel | k_is)
    (case e_NoPieces => first | rfl | decide +kernel | k_is)
    (case e_NoBits => first | rfl | decide +kernel | k_is)
    (case e_Unread => first | rfl | decide +kernel | k_is)
    (case e_TooLong => first | rfl | decide +kernel | k_is)
    (case e_NoSeries => first | rfl | decide +kernel | k_is)
    (case e_NoParts => first | rfl | decide +kernel | k_is)
    (case e_NoFormat => first | rfl | decide +kernel | k_is)
    (case e_NoStain => first | rfl | decide +kernel | k_is)
    (case e_NoKind => first | rfl | decide +kernel | k_is)
    (case e_NoPaper => first | rfl | decide +kernel | k_is)
    (case e_Unmended => first | rfl | decide +kernel | k_is)
    (case e_NoPose => first | rfl | decide +kernel | k_is)
    (case e_NoPlace => first | rfl | decide +kernel | k_is)
    (case kt => first | rfl | decide +kernel | k_is)

import PyProof.Rows.All
import Wide.All
import OpenK.AllK
import Wide.FinOn
import HandS.ForMost
import HandS.IsInst
import HandS.SortInts
import HandS.Evl
import HandS.Conv
import HandS.Walk
import KE.GoesEnum
import KE.GoesMore
import HandS.Defaults
import HandS.Rev
import HandS.TupAny
import HandS.TupMul
import HandS.Flow
import HandS.More
import HandS.Zip
import PySem.Challenge.RW_dotquilts_k02_whole_polynomials
set_option Elab.async false
set_option linter.all false
set_option maxRecDepth 100000
set_option maxHeartbeats 4000000
namespace My
open PySem PySem.Spec PyProof.Rows L2
/-! ### a dict of the module with int keys -/
inductive EntI : List DictEntry → List (Int × Int) → Prop where
  | nil : EntI [] []
  | cons {k v : Int} {t u : Tok} {es : List DictEntry} {kvs : List (Int × Int)} (h : EntI es kvs) (hk : hashInt k = k := by decide +kernel) : EntI (⟨k, .int k t, .int v u⟩ :: es) ((k, v) :: kvs)
def KInt (K : PySem.W.Frag) (d : Addr) (kvs : List (Int × Int)) : Prop :=
  ∃ (es : Array DictEntry) (n : Nat), K.lookup d = some ⟨.type "dict", none, .dict es n, #[]⟩ ∧ EntI es.toList kvs ∧ (d == sysModules) = false
theorem EntI.all {es : List DictEntry} {kvs : List (Int × Int)} (h : EntI es kvs) : ∀ e ∈ es, ∃ k t, e.key = .int k t ∧ e.hash = hashInt k := by
  induction h with
  | nil => intro e he; cases he
  | cons h hk ih =>
    intro e he
    cases he with
    | head => exact ⟨_, _, rfl, hk.symm⟩
    | tail _ m => exact ih e m
def getI (k : Int) : List (Int × Int) → Option Int
  | [] => none
  | (k', v) :: r => if k' = k then some v else getI k r
theorem EntI.find {es : List DictEntry} {kvs : List (Int × Int)} (h : EntI es kvs) (k : Int) :
    (getI k kvs = none → findBy Value.isInt es.toArray k = none) ∧ (∀ v, getI k kvs = some v → ∃ u, findBy Value.isInt es.toArray k = some (.int v u)) := by
  unfold findBy
  rw [List.find?_toArray]
  induction h with
  | nil => exact ⟨fun _ => rfl, fun v z => by cases z⟩
  | @cons k' v t u es kvs h hk ih =>
    rw [List.find?_cons]
    by_cases e : k' = k
    · have q : Value.isInt k (Value.int k' t) = true := by show (k' == k) = true; simp [e]
      simp only [q]
      refine ⟨fun z => ?_, fun v' z => ?_⟩
      · unfold getI at z; rw [if_pos e] at z; cases z
      · unfold getI at z; rw [if_pos e] at z; cases z; exact ⟨u, rfl⟩
    · have q : Value.isInt k (Value.int k' t) = false := by show (k' == k) = false; simp [e]
      simp only [q]
      unfold getI
      rw [if_neg e]
      exact ih
section
variable {X : Cx} {d : Addr} {kvs : List (Int × Int)}
theorem mapInt_K {prog : Program} {w : World} {K : PySem.W.Frag} {h : Heap} {es : Array DictEntry} {n : Nat} (X : K.In h) (hl : K.lookup d = some ⟨.type "dict", none, .dict es n, #[]⟩) (hk : EntI es.toList kvs) :
    h.MapOf (intKind prog w) d (fun k => findBy Value.isInt es k) :=
  ⟨_, es, n, X _ _ hl, ⟨rfl, rfl, rfl⟩, rfl, fun e he => by
    obtain ⟨x, t, e1, e2⟩ := hk.all e (Array.mem_toList_iff.mpr he)
    exact ⟨x, by rw [e1]; exact intKind_is prog w x t, e2⟩, fun _ => rfl⟩
/-- d[k] -/
def rKI (d : Addr) (kvs : List (Int × Int)) : R2 := fun x y H Q => ∃ k v, x = .ref d ∧ y = .int k ∧ getI k kvs = some v ∧ Q (.int v) H
theorem ix_kint (D : KInt X.K d kvs) : IxR X (rKI d kvs) := by
  intro value slice pins s σ H x y v u Q I rx ry h hs
  obtain ⟨k, r, rfl, rfl, e, q⟩ := h
  obtain ⟨es, n, hl, hk, hd⟩ := D
  obtain rfl : v = Value.ref d := rx
  obtain ⟨t, rfl⟩ := ry
  have hm := mapInt_K (prog := X.prog) (w := X.w) I.kIn hl hk
  obtain ⟨u0, eu⟩ := (hk.find k).2 r e
  exact tail_any hm.typeIs slot_dict_getitem.lookup (wpAny_getItem_of (intKind_is X.prog X.w k t) hm eu ⟨.int r, H, I.tok _, ⟨_, rfl⟩, q⟩) hs
/-- k in d, k not in d -/
def rInKI (d : Addr) (kvs : List (Int × Int)) (neg : Bool) : R2 := fun x y H Q => ∃ k, x = .int k ∧ y = .ref d ∧ Q (.bl (if neg then !(getI k kvs).isSome else (getI k kvs).isSome)) H
theorem find_is {es : Array DictEntry} (hk : EntI es.toList kvs) (k : Int) : (findBy Value.isInt es k).isSome = (getI k kvs).isSome := by
  have q : findBy Value.isInt es k = findBy Value.isInt es.toList.toArray k := by simp
  cases e : getI k kvs with
  | none => rw [q, (hk.find k).1 e] <;> rfl
  | some v =>
    obtain ⟨u, eu⟩ := (hk.find k).2 v e
    rw [q, eu]
    rfl
theorem op_inKI (D : KInt X.K d kvs) : OpR X (compareOp .In) (rInKI d kvs false) := by
  intro pins s σ H x y v u Q I rx ry h
  obtain ⟨k, rfl, rfl, q⟩ := h
  obtain ⟨es, n, hl, hk, hd⟩ := D
  obtain ⟨t, rfl⟩ := rx
  cases ry
  refine wpAny_in_of (intKind_is X.prog X.w k t) hd (mapInt_K (prog := X.prog) (w := X.w) I.kIn hl hk) ?_
  exact ⟨.bl _, H, I.tok _, rfl, by rw [find_is hk]; exact q⟩
theorem op_notInKI (D : KInt X.K d kvs) : OpR X (compareOp .NotIn) (rInKI d kvs true) := by
  intro pins s σ H x y v u Q I rx ry h
  obtain ⟨k, rfl, rfl, q⟩ := h
  obtain ⟨es, n, hl, hk, hd⟩ := D
  obtain ⟨t, rfl⟩ := rx
  cases ry
  refine wpAny_notIn_of (intKind_is X.prog X.w k t) hd (mapInt_K (prog := X.prog) (w := X.w) I.kIn hl hk) ?_
  exact ⟨.bl _, H, I.tok _, rfl, by rw [find_is hk]; exact q⟩
/-- xs + ys, whatever kind of lists stand there (the script, too) -/
def rCatL (K : PySem.W.Frag) : R2 := fun x y H Q => ∃ l b xs zs, x = .ref l ∧ y = .ref b ∧ SqL K H l xs ∧ SqL K H b zs ∧ xs.length + zs.length ≤ sizeLine ∧ ∀ p, H p = none → Q (.ref p) (upd H p (.lst (xs ++ zs)))
theorem op_catL : OpR X (binaryOp .Add) (rCatL X.K) := by
  intro pins s σ H x y v u Q I rx ry h
  obtain ⟨l, b, xs, zs, rfl, rfl, hl, hb, hz, q⟩ := h
  cases rx
  cases ry
  obtain ⟨its, r, ⟨⟨cls, dd, data, sl⟩, n, ho, hc, hd, hs⟩, z1⟩ := I.list hl
  obtain ⟨its2, r2, ⟨⟨cls2, dd2, data2, sl2⟩, n2, ho2, hc2, hd2, hs2⟩, z2⟩ := I.list hb
  have e1 := r.length
  have e2 := r2.length
  simp only at hc hd hs hc2 hd2 hs2
  subst hc hd hs hc2 hd2 hs2
  have e : its.toArray ++ its2.toArray = (its ++ its2).toArray := by simp
  refine concat_meets ⟨_, ho, rfl⟩ ⟨_, ho2, rfl⟩ noFill_list_add seq_list_add PySem.F.slot_list_add PySem.F.entry_list_add (PySem.F.args_list_add_2 _ _) (list_addW l b its.toArray its2.toArray n n2 none none sl sl2 (by simp; omega)) ⟨ho, ho2, ?_⟩
  rw [e]
  exact ⟨.ref _, _, I.lnew (t' := s.toks) (r.append r2) (by rw [List.length_append]; omega), rfl, q _ I.fresh⟩
/-- name op= e, by the in-place operator's rule -/
theorem pip_of {op : Operator} {r : R2} (h : OpR X (inplaceOp op) r) : PIp X op r := h
end
end My

set_option Elab.async false
set_option linter.all false
set_option maxRecDepth 100000
set_option maxHeartbeats 4000000
/-! ### written tuples of ints, dicts of the module from ints to objects -/
namespace My
open PySem PySem.Spec PyProof.Rows L2
def intsB : List Value → List Int → Bool
  | [], [] => true
  | .int i _ :: vs, j :: xs => (i == j) && intsB vs xs
  | _, _ => false
def tupB (K : PySem.W.Frag) (a : Addr) (xs : List Int) : Bool :=
  match K.lookup a with
  | some ⟨.type s, _, .seq its _, _⟩ => s == "tuple" && Nat.ble its.size 1000 && intsB its.toList xs
  | _ => false
theorem intsB_ok : ∀ {vs : List Value} {xs : List Int}, intsB vs xs = true → Vals (xs.map V.int) vs
  | [], [], _ => .nil
  | .int i t :: vs, j :: xs, h => by
    have h' : ((i == j) && intsB vs xs) = true := h
    rw [Bool.and_eq_true] at h'
    have e : i = j := by simpa using h'.1
    subst e
    exact .cons ⟨t, rfl⟩ (intsB_ok h'.2)
theorem tupB_ok {K : PySem.W.Frag} {a : Addr} {xs : List Int} {H : Hp} (h : tupB K a xs = true) : SqT K H a (xs.map V.int) := by
  unfold tupB at h
  split at h
  · next s _ its n _ e =>
    rw [Bool.and_eq_true, Bool.and_eq_true] at h
    have es : s = "tuple" := by simpa using h.1.1
    subst es
    exact .inr ⟨_, its, n, e, rfl, rfl, Nat.le_trans (Nat.le_of_ble_eq_true h.1.2) (by decide), intsB_ok h.2⟩
  · cases h
inductive EntR : List DictEntry → List (Int × Addr) → Prop where
  | nil : EntR [] []
  | cons {k : Int} {v : Addr} {t : Tok} {es : List DictEntry} {kvs : List (Int × Addr)} (h : EntR es kvs) (hk : hashInt k = k := by decide +kernel) : EntR (⟨k, .int k t, .ref v⟩ :: es) ((k, v) :: kvs)
def KRef (K : PySem.W.Frag) (d : Addr) (kvs : List (Int × Addr)) : Prop :=
  ∃ (es : Array DictEntry) (n : Nat), K.lookup d = some ⟨.type "dict", none, .dict es n, #[]⟩ ∧ EntR es.toList kvs ∧ (d == sysModules) = false
theorem EntR.all {es : List DictEntry} {kvs : List (Int × Addr)} (h : EntR es kvs) : ∀ e ∈ es, ∃ k t, e.key = .int k t ∧ e.hash = hashInt k := by
  induction h with
  | nil => intro e he; cases he
  | cons h hk ih =>
    intro e he
    cases he with
    | head => exact ⟨_, _, rfl, hk.symm⟩
    | tail _ m => exact ih e m
def getA (k : Int) : List (Int × Addr) → Option Addr
  | [] => none
  | (k', v) :: r => if k' = k then some v else getA k r
theorem EntR.find {es : List DictEntry} {kvs : List (Int × Addr)} (h : EntR es kvs) (k : Int) :
    (getA k kvs = none → findBy Value.isInt es.toArray k = none) ∧ (∀ v, getA k kvs = some v → findBy Value.isInt es.toArray k = some (.ref v)) := by
  unfold findBy
  rw [List.find?_toArray]
  induction h with
  | nil => exact ⟨fun _ => rfl, fun v z => by cases z⟩
  | @cons k' v t es kvs h hk ih =>
    rw [List.find?_cons]
    by_cases e : k' = k
    · have q : Value.isInt k (Value.int k' t) = true := by show (k' == k) = true; simp [e]
      simp only [q]
      refine ⟨fun z => ?_, fun v' z => ?_⟩
      · unfold getA at z; rw [if_pos e] at z; cases z
      · unfold getA at z; rw [if_pos e] at z; cases z; rfl
    · have q : Value.isInt k (Value.int k' t) = false := by show (k' == k) = false; simp [e]
      simp only [q]
      unfold getA
      rw [if_neg e]
      exact ih
section
variable {X : Cx} {d : Addr} {kvs : List (Int × Addr)}
theorem mapInt_R {prog : Program} {w : World} {K : PySem.W.Frag} {h : Heap} {es : Array DictEntry} {n : Nat} (X : K.In h) (hl : K.lookup d = some ⟨.type "dict", none, .dict es n, #[]⟩) (hk : EntR es.toList kvs) :
    h.MapOf (intKind prog w) d (fun k => findBy Value.isInt es k) :=
  ⟨_, es, n, X _ _ hl, ⟨rfl, rfl, rfl⟩, rfl, fun e he => by
    obtain ⟨x, t, e1, e2⟩ := hk.all e (Array.mem_toList_iff.mpr he)
    exact ⟨x, by rw [e1]; exact intKind_is prog w x t, e2⟩, fun _ => rfl⟩
/-- d[k] -/
def rKR (d : Addr) (kvs : List (Int × Addr)) : R2 := fun x y H Q => ∃ k v, x = .ref d ∧ y = .int k ∧ getA k kvs = some v ∧ Q (.ref v) H
theorem ix_kref (D : KRef X.K d kvs) : IxR X (rKR d kvs) := by
  intro value slice pins s σ H x y v u Q I rx ry h hs
  obtain ⟨k, r, rfl, rfl, e, q⟩ := h
  obtain ⟨es, n, hl, hk, hd⟩ := D
  obtain rfl : v = Value.ref d := rx
  obtain ⟨t, rfl⟩ := ry
  have hm := mapInt_R (prog := X.prog) (w := X.w) I.kIn hl hk
  have eu := (hk.find k).2 r e
  exact tail_any hm.typeIs slot_dict_getitem.lookup (wpAny_getItem_of (intKind_is X.prog X.w k t) hm eu ⟨.ref r, H, I.tok _, rfl, q⟩) hs
end
end My

set_option Elab.async false
set_option linter.all false
set_option maxRecDepth 100000
set_option maxHeartbeats 4000000
namespace My
open PySem PySem.Spec PyProof.Rows L2
/-! ### bits of ints that are not negative -/
theorem bx (a b : Nat) : Builtin.bitXor (a : Int) (b : Int) = ((a ^^^ b : Nat) : Int) := by
  have h := Bits.bitXor_pp (x := (a : Int)) (y := (b : Int)) (by omega) (by omega)
  simpa using h
theorem band1 (a : Nat) : Builtin.bitAnd (a : Int) 1 = ((a % 2 : Nat) : Int) := by
  have h := Bits.bitAnd_mask (x := (a : Int)) 1 (by omega)
  simpa using h
/-! ### the field: words as natural numbers -/
def span (b : Nat) : Nat := cond (Nat.beq b 4) 16 256
def foldw (b : Nat) : Nat := cond (Nat.beq b 4) 9 113
def turn (b : Nat) : Nat := cond (Nat.beq b 4) 15 255
def dbl (b x : Nat) : Nat := cond (Nat.blt (2 * x) (span b)) (2 * x) ((2 * x - span b) ^^^ foldw b)
def mulF (b : Nat) : Nat → Nat → Nat → Nat
  | 0, _, _ => 0
  | n + 1, x, y => (cond (Nat.beq (y % 2) 1) x 0) ^^^ mulF b n (dbl b x) (y / 2)
def mul (b x y : Nat) : Nat := mulF b b x y
def pw (b : Nat) : Nat → Nat
  | 0 => 1
  | n + 1 => dbl b (pw b n)
def pws (b : Nat) : List Nat := (List.range (turn b)).map (pw b)
def Wd (b : Nat) : Prop := b = 4 ∨ b = 8
def allB (p : Nat → Nat → Bool) (n : Nat) : Bool := (List.range n).all fun x => (List.range n).all fun y => p x y
theorem allB_ok {p : Nat → Nat → Bool} {n : Nat} (h : allB p n = true) {x y : Nat} (hx : x < n) (hy : y < n) : p x y = true :=
  List.all_eq_true.mp (List.all_eq_true.mp h x (List.mem_range.mpr hx)) y (List.mem_range.mpr hy)
def linB (b : Nat) (x y : Nat) : Bool := Nat.beq (dbl b (x ^^^ y)) (dbl b x ^^^ dbl b y)
theorem lin4 : allB (linB 4) 16 = true := by decide +kernel
theorem lin8 : allB (linB 8) 256 = true := by decide +kernel
theorem dbl_lin {b x y : Nat} (hb : Wd b) (hx : x < span b) (hy : y < span b) : dbl b (x ^^^ y) = dbl b x ^^^ dbl b y := by
  rcases hb with rfl | rfl
  · exact Nat.eq_of_beq_eq_true (allB_ok lin4 hx hy)
  · exact Nat.eq_of_beq_eq_true (allB_ok lin8 hx hy)
theorem dbl_lt {b x : Nat} (hb : Wd b) (hx : x < span b) : dbl b x < span b := by
  rcases hb with rfl | rfl
  · exact (by decide +kernel : ∀ x, x < 16 → dbl 4 x < 16) x hx
  · exact (by decide +kernel : ∀ x, x < 256 → dbl 8 x < 256) x hx
theorem dbl_zero {b : Nat} (hb : Wd b) : dbl b 0 = 0 := by rcases hb with rfl | rfl <;> rfl
theorem span_pow {b : Nat} (hb : Wd b) : span b = 2 ^ b := by rcases hb with rfl | rfl <;> rfl
theorem xor_lt {b x y : Nat} (hb : Wd b) (hx : x < span b) (hy : y < span b) : x ^^^ y < span b := by
  rw [span_pow hb] at *
  exact Nat.xor_lt_two_pow hx hy
theorem mulF_lt {b : Nat} (hb : Wd b) : ∀ (n x y : Nat), x < span b → mulF b n x y < span b
  | 0, _, _, _ => by
    show 0 < span b
    rcases hb with rfl | rfl <;> decide
  | n + 1, x, y, hx => by
    refine xor_lt hb ?_ (mulF_lt hb n _ _ (dbl_lt hb hx))
    cases Nat.beq (y % 2) 1
    · show 0 < span b; rcases hb with rfl | rfl <;> decide
    · exact hx
theorem mulF_zero {b : Nat} (x : Nat) : ∀ n x, mulF b n x 0 = 0
  | 0, _ => rfl
  | n + 1, x => by
    show (0 : Nat) ^^^ mulF b n (dbl b x) 0 = 0
    rw [mulF_zero x n _]
    rfl
theorem zero_mulF {b : Nat} (hb : Wd b) : ∀ n y, mulF b n 0 y = 0
  | 0, _ => rfl
  | n + 1, y => by
    show (cond (Nat.beq (y % 2) 1) 0 0) ^^^ mulF b n (dbl b 0) (y / 2) = 0
    rw [dbl_zero hb, zero_mulF hb n]
    cases Nat.beq (y % 2) 1 <;> rfl
theorem mulF_lin {b : Nat} (hb : Wd b) : ∀ (n x z y : Nat), x < span b → z < span b → mulF b n (x ^^^ z) y = mulF b n x y ^^^ mulF b n z y
  | 0, _, _, _, _, _ => by
    show (0 : Nat) = 0 ^^^ 0
    rfl
  | n + 1, x, z, y, hx, hz => by
    show (cond (Nat.beq (y % 2) 1) (x ^^^ z) 0) ^^^ mulF b n (dbl b (x ^^^ z)) (y / 2) = ((cond (Nat.beq (y % 2) 1) x 0) ^^^ mulF b n (dbl b x) (y / 2)) ^^^ ((cond (Nat.beq (y % 2) 1) z 0) ^^^ mulF b n (dbl b z) (y / 2))
    rw [dbl_lin hb hx hz, mulF_lin hb n _ _ _ (dbl_lt hb hx) (dbl_lt hb hz)]
    cases Nat.beq (y % 2) 1
    · simp
    · show (x ^^^ z) ^^^ (_ ^^^ _) = (x ^^^ _) ^^^ (z ^^^ _)
      ac_rfl
theorem mulF_dbl {b : Nat} (hb : Wd b) : ∀ (n x y : Nat), x < span b → mulF b n (dbl b x) y = dbl b (mulF b n x y)
  | 0, _, _, _ => (dbl_zero hb).symm
  | n + 1, x, y, hx => by
    show (cond (Nat.beq (y % 2) 1) (dbl b x) 0) ^^^ mulF b n (dbl b (dbl b x)) (y / 2) = dbl b ((cond (Nat.beq (y % 2) 1) x 0) ^^^ mulF b n (dbl b x) (y / 2))
    rw [mulF_dbl hb n _ _ (dbl_lt hb hx)]
    cases Nat.beq (y % 2) 1
    · simp
    · show dbl b x ^^^ _ = dbl b (x ^^^ _)
      rw [dbl_lin hb hx (mulF_lt hb _ _ _ (dbl_lt hb hx))]
theorem one_mul {b y : Nat} (hb : Wd b) (hy : y < span b) : mul b 1 y = y := by
  rcases hb with rfl | rfl
  · exact (by decide +kernel : ∀ x, x < 16 → mul 4 1 x = x) y hy
  · exact (by decide +kernel : ∀ x, x < 256 → mul 8 1 x = x) y hy
theorem pw_lt {b : Nat} (hb : Wd b) : ∀ n, pw b n < span b
  | 0 => by rcases hb with rfl | rfl <;> decide
  | n + 1 => dbl_lt hb (pw_lt hb n)
theorem mul_lt {b x y : Nat} (hb : Wd b) (hx : x < span b) : mul b x y < span b := mulF_lt hb _ _ _ hx
theorem pw_mul {b : Nat} (hb : Wd b) (j : Nat) : ∀ i, mul b (pw b i) (pw b j) = pw b (i + j)
  | 0 => by rw [Nat.zero_add]; exact one_mul hb (pw_lt hb j)
  | i + 1 => by
    show mulF b b (dbl b (pw b i)) (pw b j) = _
    rw [mulF_dbl hb _ _ _ (pw_lt hb i)]
    have h := pw_mul hb j i
    unfold mul at h
    rw [h, show i + 1 + j = (i + j) + 1 by omega]
    rfl
theorem pw_turn {b : Nat} (hb : Wd b) : pw b (turn b) = 1 := by rcases hb with rfl | rfl <;> decide +kernel
theorem pw_add_turn {b : Nat} (hb : Wd b) (i : Nat) : pw b (i + turn b) = pw b i := by
  rw [← pw_mul hb, pw_turn hb]
  have h := pw_mul hb 0 i
  exact h
theorem pw_add_mul {b : Nat} (hb : Wd b) (i : Nat) : ∀ k, pw b (i + k * turn b) = pw b i
  | 0 => by rw [Nat.zero_mul, Nat.add_zero]
  | k + 1 => by
    rw [Nat.succ_mul, ← Nat.add_assoc, pw_add_turn hb, pw_add_mul hb i k]
theorem pw_mod {b : Nat} (hb : Wd b) (i : Nat) : pw b i = pw b (i % turn b) := by
  have h := pw_add_mul hb (i % turn b) (i / turn b)
  have e : i % turn b + i / turn b * turn b = i := by
    have := Nat.mod_add_div i (turn b)
    rw [Nat.mul_comm] at this
    exact this
  rw [e] at h
  exact h
def lg (b x : Nat) : Nat := (pws b).idxOf x
def memB (b : Nat) (x : Nat) : Bool := Nat.beq x 0 || (pws b).any fun y => Nat.beq x y
theorem mem_pws {b x : Nat} (hb : Wd b) (hx : x < span b) (h0 : x ≠ 0) : x ∈ pws b := by
  have q : memB b x = true := by
    rcases hb with rfl | rfl
    · exact List.all_eq_true.mp (by decide +kernel : ((List.range 16).all fun x => memB 4 x) = true) x (List.mem_range.mpr hx)
    · exact List.all_eq_true.mp (by decide +kernel : ((List.range 256).all fun x => memB 8 x) = true) x (List.mem_range.mpr hx)
  rcases (Bool.or_eq_true _ _).mp q with h | h
  · exact absurd (Nat.eq_of_beq_eq_true h) h0
  · obtain ⟨y, hy, e⟩ := List.any_eq_true.mp h
    rw [Nat.eq_of_beq_eq_true e]
    exact hy
theorem pws_len (b : Nat) : (pws b).length = turn b := by simp [pws]
theorem pws_at {b i : Nat} (h : i < turn b) : (pws b)[i]? = some (pw b i) := by
  simp [pws, h]
theorem lg_lt {b x : Nat} (hb : Wd b) (hx : x < span b) (h0 : x ≠ 0) : lg b x < turn b := by
  rw [← pws_len b]
  exact List.idxOf_lt_length_of_mem (mem_pws hb hx h0)
theorem pw_lg {b x : Nat} (hb : Wd b) (hx : x < span b) (h0 : x ≠ 0) : pw b (lg b x) = x := by
  have h := lg_lt hb hx h0
  have e := pws_at h
  have e2 : (pws b)[lg b x]? = some x := by
    unfold lg
    rw [List.getElem?_eq_getElem (List.idxOf_lt_length_of_mem (mem_pws hb hx h0)), List.getElem_idxOf]
  rw [e] at e2
  exact Option.some.inj e2
theorem pw_ne {b : Nat} (hb : Wd b) (i : Nat) : pw b i ≠ 0 := by
  intro h
  have e := pw_mul hb ((turn b - i % turn b)) (i % turn b)
  rw [← pw_mod hb i, h] at e
  have ht : i % turn b < turn b := Nat.mod_lt _ (by rcases hb with rfl | rfl <;> decide)
  rw [show i % turn b + (turn b - i % turn b) = turn b by omega, pw_turn hb] at e
  unfold mul at e
  rw [zero_mulF hb] at e
  cases e
/-- before its place a word does not stand in the list of powers -/
theorem lg_first {b x m z : Nat} (hm : m < lg b x) (hz : (pws b)[m]? = some z) : z ≠ x := by
  intro e
  subst e
  have := List.not_of_lt_findIdx (xs := pws b) (p := (· == z)) (i := m) hm
  obtain ⟨hl, he⟩ := List.getElem?_eq_some_iff.mp hz
  simp [he] at this
theorem mul_comm {b x y : Nat} (hb : Wd b) (hx : x < span b) (hy : y < span b) : mul b x y = mul b y x := by
  by_cases h1 : x = 0
  · subst h1
    unfold mul
    rw [zero_mulF hb, mulF_zero 0]
  · by_cases h2 : y = 0
    · subst h2
      unfold mul
      rw [zero_mulF hb, mulF_zero 0]
    · rw [← pw_lg hb hx h1, ← pw_lg hb hy h2, pw_mul hb, pw_mul hb, Nat.add_comm]
theorem mulF_more {b : Nat} : ∀ (n x y : Nat), y < 2 ^ n → ∀ m, n ≤ m → mulF b m x y = mulF b n x y
  | 0, x, y, h, m, _ => by
    have : y = 0 := by simpa using h
    subst this
    rw [mulF_zero 0]
    rfl
  | n + 1, x, y, h, m, hm => by
    cases m with
    | zero => omega
    | succ m =>
      show (cond (Nat.beq (y % 2) 1) x 0) ^^^ mulF b m (dbl b x) (y / 2) = (cond (Nat.beq (y % 2) 1) x 0) ^^^ mulF b n (dbl b x) (y / 2)
      rw [mulF_more n _ _ (by rw [Nat.pow_succ] at h; omega) m (by omega)]
end My

set_option Elab.async false
set_option linter.all false
set_option maxRecDepth 100000
set_option maxHeartbeats 4000000
/-! ### enumerate of a tuple -/
namespace EnT
open PySem PySem.Spec PyProof.Rows
theorem meets_enumerate_newT (l : Addr) (items : Array Value) (n : Nat) (dct : Option Addr) (sl : Array (Option Value)) :
    Meets (Builtin.«enumerate.__new__» ⟨[.type "enumerate", .ref l], []⟩) (fun _ R s => s.heap.get? l = some { cls := .type "tuple", dict := dct, data := .seq items n, slots := sl } ∧
      R (.ok (.ret (.ref (s.heap.push { cls := .type "tuple_iterator", data := .fields #[.ref l, .int 0 0] }).objs.size)))
        { s with heap := (s.heap.push { cls := .type "tuple_iterator", data := .fields #[.ref l, .int 0 0] }).push { cls := .type "enumerate", data := .fields #[.none, .bool false, .ref s.heap.objs.size, rawInt 0, .none, .none] } }) :=
  .of_wp fun prog w A R s h => by
    obtain ⟨hp, g, d, tk, os⟩ := s; obtain ⟨hl, h⟩ := h
    have hsub := sub_enumerate
    have hL : Heap.IsTuple (Shared.heap ⟨hp, g, d, tk, os⟩) l items := ⟨_, hl, rfl, n, rfl⟩
    wp_walk using wpAny_loadPart' hl
    refine wpAny_stack_any fun st => wpAny_pure ?_
    split
    · rename_i c _ _ _ _ _
      cases (c == Value.type "enumerate")
      · wp_walk using wpAny_loadPart' hl, wpAny_pyIter_tuple hL
        exact ⟨_, rfl, h⟩
      · wp_walk using wpAny_loadPart' hl, wpAny_pyIter_tuple hL
        exact ⟨_, rfl, h⟩
    · wp_walk using wpAny_loadPart' hl, wpAny_pyIter_tuple hL
      exact ⟨_, rfl, h⟩
theorem call_enumerate_tuple {prog : Program} {w : World} {A : Around} {E : Value → Shared → Prop} {s : Shared} {l : Addr} {items : Array Value} {Q : Value → Shared → Prop} (hL : s.heap.IsTuple l items)
    (h : ∀ h', IsEnum h' (s.heap.objs.size + 1) s.heap.objs.size 0 .none → h'.IsTupleIter s.heap.objs.size l 0 → h'.objs.size = s.heap.objs.size + 2 →
      (∀ b o, s.heap.get? b = some o → h'.get? b = some o) → Q (.ref (s.heap.objs.size + 1)) { s with heap := h' }) :
    wpAny (model prog w) A (call (.type "enumerate") [.ref l]) Q E s := by
  obtain ⟨⟨c, dct, dt, sl⟩, hl, hc, n, hd⟩ := hL
  replace hc : c = .type "tuple" := hc
  replace hd : dt = .seq items n := hd
  subst hc hd
  refine callType_new F.called_enumerate (by decide) (F.typeCall_enumerate_1 _) (F.newCall_enumerate_1 _) (fun obj => F.args_object_init_2 obj _) F.entry_enumerate_new
    (meets_enumerate_newT l items n dct sl) ⟨hl, ?_⟩
  have hz : (s.heap.push { cls := .type "tuple_iterator", data := .fields #[.ref l, .int 0 0] }).objs.size = s.heap.objs.size + 1 := Heap.size_push ..
  show _ ∧ _
  rw [hz]
  have he : IsEnum ((s.heap.push { cls := .type "tuple_iterator", data := .fields #[.ref l, .int 0 0] }).push
      { cls := .type "enumerate", data := .fields #[.none, .bool false, .ref s.heap.objs.size, rawInt 0, .none, .none] }) (s.heap.objs.size + 1) s.heap.objs.size 0 .none := by
    have := Heap.get?_push_size (s.heap.push { cls := .type "tuple_iterator", data := .fields #[.ref l, .int 0 0] })
      (o := { cls := .type "enumerate", data := .fields #[.none, .bool false, .ref s.heap.objs.size, rawInt 0, .none, .none] }) rfl
    rw [hz] at this; exact this
  refine ⟨⟨_, he, rfl⟩, h _ he ⟨_, Heap.get?_push_of_some _ (Heap.get?_push_size _ rfl), rfl, rfl⟩ (by rw [Heap.size_push, hz]) fun b o x => Heap.get?_push_of_some _ (Heap.get?_push_of_some _ x)⟩
open L2
def IteT (K : PySem.W.Frag) (a : Addr) : It :=
  ⟨fun i H => ∃ (xs : List V) (x : V), SqT K H a xs ∧ xs[i]? = some x, fun i H v H' => ∃ T x, v = .ref T ∧ H T = none ∧ H' = upd H T (.tup [.int (i : Nat), x]) ∧ ∀ xs, SqT K H a xs → xs[i]? = some x, fun i H => ∃ xs : List V, SqT K H a xs ∧ xs.length = i⟩
theorem turn_enumT {P : Program} {w : World} {K : PySem.W.Frag} {elts : List Expr} {kk : Nat} {tpos : Pos} (a e it : Addr) :
    Turn P w K (.Tuple elts kk tpos) (IteT K a) [e, it] e (fun i h => (∃ old, IsEnum h e it ((i : Nat) : Int) old) ∧ h.IsTupleIter it a i ∧ e ≠ it ∧ a ≠ it ∧ e ≠ a) where
  mem := by simp
  obj := fun i h st b hb => by
    obtain ⟨⟨old, he⟩, ⟨o, ho, hc, hd⟩, _⟩ := st
    have e' : b = e ∨ b = it := by simpa using hb
    rcases e' with z | z
    · rw [z]; exact ⟨_, he, fun v q => nomatch q⟩
    · rw [z]; exact ⟨o, ho, fun v q => by rw [hd] at q; cases q⟩
  keep := fun i h h' st k => let ⟨⟨old, he⟩, hi, hne⟩ := st; ⟨⟨old, k e (by simp) _ he⟩, hi.at fun o q => k it (by simp) o q, hne⟩
  item := by
    intro X hP hw hK hc i pins s σ H E I hf st hg
    subst hP hw hK
    obtain ⟨⟨old, he⟩, hit, hne, hai, hea⟩ := st
    obtain ⟨xs, x, hq, hx⟩ := hg
    obtain ⟨its, rv, p, hz⟩ := I.tuple hq
    obtain ⟨u, hu, ru⟩ := rv.get hx
    have hel : e < s.heap.objs.size := Heap.lt_size he
    have hil : it < s.heap.objs.size := by obtain ⟨_, q, _⟩ := hit; exact Heap.lt_size q
    have hin : i < its.toArray.size := by
      have := (List.getElem?_eq_some_iff.mp hu).1
      simpa using this
    have hd0 : X.A.in1.handled = none := I.ok.hd hc
    refine wpAny_pyNext_enum_itemC (Draws.tuple hd0 it a hai its.toArray) he ⟨hit, p⟩ hin hne (by simp [hne, hea]) fun y h' tk hy ho hst' hT hsz hk => ?_
    obtain rfl : y = u := by
      have : its.toArray[i]? = some y := hy
      simp at this
      rw [hu] at this
      exact (Option.some.inj this).symm
    have hit' := hst'.1
    refine ⟨_, rfl, wpAny_letOwnedTupleGo_enum (s := { s with heap := h', toks := tk + 1 }) ho fun h'' he' sb => ?_⟩
    have hT2 : h''.get? s.heap.objs.size = some { cls := .type "tuple", data := .seq #[.int i tk, y] } := (sb.2 _ (Nat.ne_of_gt hel)).trans hT
    have new : ObjOk X.prog X.w (upd H s.heap.objs.size (.tup [.int (i : Nat), x])) h'' s.heap.objs.size (.tup [.int (i : Nat), x]) :=
      ⟨by show 2 ≤ sizeLine; decide, [.int i tk, y], .cons ⟨_, rfl⟩ (.cons ru .nil), ⟨_, hT2, rfl, _, rfl⟩⟩
    have I1 : Inv X pins σ (upd H s.heap.objs.size (.tup [.int (i : Nat), x])) { s with heap := h'', toks := tk + 1 } :=
      I.turnedNew (ch := [e, it]) (fun b ob hb q => (sb.2 b (fun z => hb (by simp [z]))).trans (hk b ob (fun z => hb (by simp [z])) (fun z => hb (by simp [z])) q)) hf (Nat.le_refl _) new
    refine ⟨.ref s.heap.objs.size, _, I1, rfl, ⟨_, x, rfl, I.hok.fresh (Nat.le_refl _), rfl, fun ys hy => by rw [I.tuple_inj hy hq]; exact hx⟩, ⟨⟨y, ?_⟩, hit'.at fun o q => (sb.2 it (Ne.symm hne)).trans q, hne, hai, hea⟩, fun b hb => ?_⟩
    · have e1 : ((i + 1 : Nat) : Int) = (i : Int) + 1 := by omega
      rw [e1]; exact he'
    · have hb' : b < s.heap.objs.size := by
        have e' : b = e ∨ b = it := by simpa using hb
        rcases e' with z | z
        · rw [z]; exact hel
        · rw [z]; exact hil
      rw [upd_ne (Nat.ne_of_lt hb')]
      exact (hf b hb).1
  done := by
    intro X hP hw hK hc i pins s σ H E I hf st hg
    subst hP hw hK
    obtain ⟨⟨old, he⟩, hit, hne, hai, hea⟩ := st
    obtain ⟨xs, hq, hx⟩ := hg
    obtain ⟨its, rv, p, hz⟩ := I.tuple hq
    obtain ⟨f0, f1, f2, f3, f4, f5⟩ := hf it (by simp)
    have hl := rv.length
    have hd0 : X.A.in1.handled = none := I.ok.hd hc
    have en : its.toArray.size = i := by simp; omega
    have hst : s.heap.IsTupleIter it a its.toArray.size ∧ s.heap.IsTuple a its.toArray := ⟨by rw [en]; exact hit, p⟩
    exact wpAny_pyNext_enum_endD (Draws.tuple hd0 it a hai its.toArray) he hst fun h' eb => ⟨rfl, I.turned (t' := s.toks) (fun b o hb q => eb b o hb q) f0 f1 f3 f4 f5⟩
  self := fun A i s Q E st h => let ⟨⟨_, he⟩, _⟩ := st; wpAny_pyIter_enum he h
def iEnumT (K : PySem.W.Frag) (ta : TA) : TI := fun σ H R => ta σ H fun vs H1 => ∃ a xs, vs = [.ref a] ∧ SqT K H1 a xs ∧ R (IteT K a) H1
theorem pi_enumT {X : Cx} {e : Expr} {ta : TA} {p pos tpos : Pos} {elts : List Expr} {kk : Nat} (hg : Gl X "enumerate") (hm : X.mg "enumerate" = none) (ha : PA X [e] ta) (hs : starEach [e] X.env = [(false, eval e X.env)] := by rfl) :
    PI X (.Tuple elts kk tpos) (.Call (.Name "enumerate" p) [e] [] pos) (iEnumT X.K ta) := by
  refine ⟨fun pins s σ H R I h => ?_⟩
  refine Call_ (ld_blt I hg hm boot_enumerate (PyProof.Rows.callWith_type1 (thn (ha.run pos pins s σ H _ I h) fun us s1 ⟨vs, H1, I1, r1, q1⟩ => ?_) hs rfl))
  obtain ⟨a, xs, ex, hq, q⟩ := q1
  subst ex
  cases r1 with
  | cons r rr =>
    cases rr
    cases r
    obtain ⟨its, rv, p', hz⟩ := I1.tuple hq
    have hal : a < s1.heap.objs.size := by obtain ⟨_, q, _⟩ := p'; exact Heap.lt_size q
    refine call_enumerate_tuple p' fun h' he hit hsz hk => wpAny_pyIter_enum he ?_
    have I2 : Inv X pins σ H1 { s1 with heap := h' } := I1.kept (t' := s1.toks) hk
    refine ⟨s1.heap.objs.size + 1, [s1.heap.objs.size + 1, s1.heap.objs.size], _, _, H1, rfl, I2, turn_enumT a (s1.heap.objs.size + 1) s1.heap.objs.size, ⟨⟨.none, he⟩, hit, Nat.succ_ne_self _, Nat.ne_of_lt hal, Nat.ne_of_gt (Nat.lt_succ_of_lt hal)⟩, fun b hb => ?_, q⟩
    have e' : b = s1.heap.objs.size + 1 ∨ b = s1.heap.objs.size := by simpa using hb
    have hle : s1.heap.objs.size ≤ b := by
      rcases e' with z | z
      · rw [z]; exact Nat.le_add_right _ _
      · rw [z]; exact Nat.le_refl _
    exact I1.fpOk hle (I1.hok.fresh hle)
theorem walk_enumT {K : PySem.W.Frag} {a : Addr} {xs : List V} : Walk (IteT K a) xs.length (fun H => SqT K H a xs) (YPair (fun i => some (.int (i : Nat))) (fun i => xs[i]?)) where
  goes := fun i H hi h => ⟨xs, xs[i], h, List.getElem?_eq_getElem hi⟩
  stops := fun H h => ⟨xs, h, rfl⟩
  yields := fun i H x H' hi h y => by
    obtain ⟨T, z, e1, e2, e3, e4⟩ := y
    exact ⟨T, _, z, e1, e2, e3, rfl, e4 xs h⟩
end EnT

set_option Elab.async false
set_option linter.all false
set_option maxRecDepth 100000
set_option maxHeartbeats 4000000
/-! ### rows: lists (true) and tuples (false) in one -/
namespace My
open PySem PySem.Spec PyProof.Rows L2
def SqB (b : Bool) (K : PySem.W.Frag) (H : Hp) (a : Addr) (xs : List V) : Prop := if b = true then SqL K H a xs else SqT K H a xs
def ItB (b : Bool) (K : PySem.W.Frag) (a : Addr) : It := if b = true then Itl K a else Itt K a
def IteB (b : Bool) (K : PySem.W.Frag) (a : Addr) : It := if b = true then Ite K a else EnT.IteT K a
section
variable {b : Bool} {K : PySem.W.Frag} {H H' : Hp} {a : Addr} {xs : List V}
theorem SqB.or (h : SqB b K H a xs) : SqL K H a xs ∨ SqT K H a xs := by
  cases b
  · exact .inr h
  · exact .inl h
theorem Same.sqt (e : Same H H') (h : SqT K H a xs) : SqT K H' a xs := by
  rcases h with (h | ⟨o, h⟩) | h
  · exact .inl (.inl (e _ _ h))
  · exact .inl (.inr ⟨o, e _ _ h⟩)
  · exact .inr h
theorem Same.sqb (e : Same H H') (h : SqB b K H a xs) : SqB b K H' a xs := by
  cases b
  · exact Same.sqt e h
  · exact e.seq h
theorem SqB.lst (h : H a = some (.lst xs)) : SqB true K H a xs := .inl (.inl h)
theorem SqB.tup (h : H a = some (.tup xs)) : SqB false K H a xs := .inl (.inl h)
theorem SqB.ty (h : SqB b K H a xs) : TyX K H (.ref a) (.type (if b = true then "list" else "tuple")) := by
  cases b
  · rcases h with (h | ⟨o, h⟩) | ⟨o, its, n, hk, hc, _⟩
    · exact .base (.tup h)
    · exact .fTuple h
    · exact .kTuple hk hc
  · rcases h with (h | ⟨o, h⟩) | ⟨o, its, n, hk, hc, _⟩
    · exact .base (.lst h)
    · exact .base (.frz h)
    · exact .kList hk hc
theorem walk_seq : Walk (ItB b K a) xs.length (fun H => SqB b K H a xs) (YAt xs) := by
  cases b
  · exact walk_tup
  · exact walk_list
theorem walk_enumS : Walk (IteB b K a) xs.length (fun H => SqB b K H a xs) (YPair (fun i => some (.int (i : Nat))) (fun i => xs[i]?)) := by
  cases b
  · exact EnT.walk_enumT
  · exact walk_enum
end
section
variable {X : Cx} {tg : Expr}
def iSeq (K : PySem.W.Frag) (tl : TE) : TI := fun σ H R => tl σ H fun x H1 => ∃ a xs b, x = .ref a ∧ SqB b K H1 a xs ∧ R (ItB b K a) H1
theorem pi_seq {l : Expr} {tl : TE} (hl : PE X l tl) : PI X tg l (iSeq X.K tl) := by
  refine ⟨fun pins s σ H R I h => ?_⟩
  refine thn (hl.run pins s σ H _ I h) fun v s1 ⟨x, H1, I1, r1, q1⟩ => ?_
  obtain ⟨a, xs, b, e, hq, q⟩ := q1
  subst e
  cases r1
  cases b
  · obtain ⟨its, rv, p, hz⟩ := I1.tuple hq
    refine wpAny_pyIter_tuple (show s1.heap.IsTuple a its.toArray from p) ?_
    refine ⟨s1.heap.objs.size, [s1.heap.objs.size], _, _, H1, rfl, I1.kept (t' := s1.toks) fun b o e => Heap.get?_push_of_some _ e, turn_tuple a _, ⟨_, Heap.get?_push_size _ rfl, rfl, rfl⟩, fun b hb => ?_, q⟩
    have e : b = s1.heap.objs.size := by simpa using hb
    subst e
    exact I1.fpOk (Nat.le_refl _) (I1.hok.fresh (Nat.le_refl _))
  · obtain ⟨its, rv, p, hz⟩ := I1.list hq
    refine wpAny_pyIter_list p.isList ?_
    refine ⟨s1.heap.objs.size, [s1.heap.objs.size], _, _, H1, rfl, I1.kept (t' := s1.toks) fun b o e => Heap.get?_push_of_some _ e, turn_list a _, ⟨_, Heap.get?_push_size _ rfl, rfl, rfl⟩, fun b hb => ?_, q⟩
    have e : b = s1.heap.objs.size := by simpa using hb
    subst e
    exact I1.fpOk (Nat.le_refl _) (I1.hok.fresh (Nat.le_refl _))
def iEnumS (K : PySem.W.Frag) (ta : TA) : TI := fun σ H R => ta σ H fun vs H1 => ∃ a xs b, vs = [.ref a] ∧ SqB b K H1 a xs ∧ R (IteB b K a) H1
theorem pi_enumS {e : Expr} {ta : TA} {p pos tpos : Pos} {elts : List Expr} {kk : Nat} (hg : Gl X "enumerate") (hm : X.mg "enumerate" = none) (ha : PA X [e] ta) (hs : starEach [e] X.env = [(false, eval e X.env)] := by rfl) :
    PI X (.Tuple elts kk tpos) (.Call (.Name "enumerate" p) [e] [] pos) (iEnumS X.K ta) := by
  refine ⟨fun pins s σ H R I h => ?_⟩
  refine Call_ (ld_blt I hg hm boot_enumerate (PyProof.Rows.callWith_type1 (thn (ha.run pos pins s σ H _ I h) fun us s1 ⟨vs, H1, I1, r1, q1⟩ => ?_) hs rfl))
  obtain ⟨a, xs, b, ex, hq, q⟩ := q1
  subst ex
  cases r1 with
  | cons r rr =>
    cases rr
    cases r
    cases b
    · obtain ⟨its, rv, p', hz⟩ := I1.tuple hq
      have hal : a < s1.heap.objs.size := by obtain ⟨_, q, _⟩ := p'; exact Heap.lt_size q
      refine EnT.call_enumerate_tuple p' fun h' he hit hsz hk => wpAny_pyIter_enum he ?_
      have I2 : Inv X pins σ H1 { s1 with heap := h' } := I1.kept (t' := s1.toks) hk
      refine ⟨s1.heap.objs.size + 1, [s1.heap.objs.size + 1, s1.heap.objs.size], _, _, H1, rfl, I2, EnT.turn_enumT a (s1.heap.objs.size + 1) s1.heap.objs.size, ⟨⟨.none, he⟩, hit, Nat.succ_ne_self _, Nat.ne_of_lt hal, Nat.ne_of_gt (Nat.lt_succ_of_lt hal)⟩, fun b hb => ?_, q⟩
      have e' : b = s1.heap.objs.size + 1 ∨ b = s1.heap.objs.size := by simpa using hb
      have hle : s1.heap.objs.size ≤ b := by
        rcases e' with z | z
        · rw [z]; exact Nat.le_add_right _ _
        · rw [z]; exact Nat.le_refl _
      exact I1.fpOk hle (I1.hok.fresh hle)
    · obtain ⟨its, rv, p', hz⟩ := I1.list hq
      refine call_enumerate_list p'.isList fun h' he hit hsz hk => wpAny_pyIter_enum he ?_
      have I2 : Inv X pins σ H1 { s1 with heap := h' } := I1.kept (t' := s1.toks) hk
      refine ⟨s1.heap.objs.size + 1, [s1.heap.objs.size + 1, s1.heap.objs.size], _, _, H1, rfl, I2, turn_enum a (s1.heap.objs.size + 1) s1.heap.objs.size, ⟨⟨.none, he⟩, hit, Nat.succ_ne_self _⟩, fun b hb => ?_, q⟩
      have e' : b = s1.heap.objs.size + 1 ∨ b = s1.heap.objs.size := by simpa using hb
      have hle : s1.heap.objs.size ≤ b := by
        rcases e' with z | z
        · rw [z]; exact Nat.le_add_right _ _
        · rw [z]; exact Nat.le_refl _
      exact I1.fpOk hle (I1.hok.fresh hle)
/-- xs[i] of a list or a tuple -/
def rIxB (K : PySem.W.Frag) : R2 := fun x y H Q => ∃ p xs i v b, x = .ref p ∧ y = .int i ∧ SqB b K H p xs ∧ atI xs i = some v ∧ Q v H
theorem ix_rowB : IxR X (rIxB X.K) := by
  intro value slice pins s σ H x y v u Q I rx ry h hs
  obtain ⟨p, xs, i, z, b, rfl, rfl, hq, ha, q⟩ := h
  refine ix_seq value slice pins s σ H _ _ v u Q I rx ry ?_ hs
  cases b
  · exact .inr (.inl ⟨p, xs, i, z, rfl, rfl, hq, ha, q⟩)
  · exact .inl ⟨p, xs, i, z, rfl, rfl, hq, ha, q⟩
end
end My

set_option Elab.async false
set_option linter.all false
set_option maxRecDepth 100000
set_option maxHeartbeats 4000000
namespace My
open PySem PySem.Spec PyProof.Rows L2
section
variable {X : Cx}
/-- xs[i] of a list, by the item's own rule (for xs[i] op= e) -/
def rGetL (K : PySem.W.Frag) : V → V → Hp → VK → Prop := fun x y H Q => ∃ p xs v, ∃ j : Nat, x = .ref p ∧ y = .int (j : Int) ∧ SqL K H p xs ∧ xs[j]? = some v ∧ Q v H
theorem get_list : PGet X (rGetL X.K) := by
  intro pins s σ H x y v u Q I rx ry h
  obtain ⟨p, xs, z, j, rfl, rfl, hq, he, q⟩ := h
  cases rx
  obtain ⟨t, rfl⟩ := ry
  obtain ⟨its, r, pl, hz⟩ := I.list hq
  obtain ⟨w, ew, rw'⟩ := r.get he
  have hl := r.length
  have hn := line63
  have hj : j < xs.length := (List.getElem?_eq_some_iff.mp he).1
  exact wpAny_getItem_list pl.isList (by omega) (by omega) (by simpa using ew) ⟨z, H, I, rw', q⟩
end
end My

set_option Elab.async false
set_option linter.all false
set_option maxRecDepth 100000
set_option maxHeartbeats 4000000
/-! ### polynomials over the field -/
namespace My
theorem span_eq' {b : Nat} (hb : Wd b) : span b = turn b + 1 := by rcases hb with rfl | rfl <;> rfl
theorem turn_pos {b : Nat} (hb : Wd b) : 0 < turn b := by rcases hb with rfl | rfl <;> decide
/-- the quotient: the word whose product with y is x -/
def quo (b x y : Nat) : Nat := mul b x (pw b (lg b y * (turn b - 1)))
theorem quo_mul {b x y : Nat} (hb : Wd b) (hx : x < span b) (hy : y < span b) (h1 : y ≠ 0) : quo b (mul b x y) y = x := by
  unfold quo
  by_cases h0 : x = 0
  · subst h0
    have e : mul b 0 y = 0 := zero_mulF hb _ _
    rw [e]
    exact zero_mulF hb _ _
  · have ex := pw_lg hb hx h0
    have ey := pw_lg hb hy h1
    have e : mul b x y = pw b (lg b x + lg b y) := by rw [← pw_mul hb, ex, ey]
    rw [e, pw_mul hb]
    have h := pw_add_mul hb (lg b x) (lg b y)
    have e2 : lg b x + lg b y + lg b y * (turn b - 1) = lg b x + lg b y * turn b := by
      have ht := turn_pos hb
      have : lg b y * turn b = lg b y * (turn b - 1) + lg b y := by
        rw [← Nat.mul_succ]
        rw [show (turn b - 1).succ = turn b by omega]
      omega
    rw [e2, h, ex]
theorem mul_quo {b x y : Nat} (hb : Wd b) (hx : x < span b) (hy : y < span b) (h1 : y ≠ 0) : mul b (quo b x y) y = x := by
  unfold quo
  by_cases h0 : x = 0
  · subst h0
    have e : mul b 0 (pw b (lg b y * (turn b - 1))) = 0 := zero_mulF hb _ _
    rw [e]
    exact zero_mulF hb _ _
  · have ex := pw_lg hb hx h0
    have ey := pw_lg hb hy h1
    have e : mul b x (pw b (lg b y * (turn b - 1))) = pw b (lg b x + lg b y * (turn b - 1)) := by rw [← pw_mul hb, ex]
    have e3 : mul b (pw b (lg b x + lg b y * (turn b - 1))) y = pw b (lg b x + lg b y * (turn b - 1) + lg b y) := by
      rw [← pw_mul hb _ (lg b x + lg b y * (turn b - 1)), ey]
    rw [e, e3]
    have h := pw_add_mul hb (lg b x) (lg b y)
    have e2 : lg b x + lg b y * (turn b - 1) + lg b y = lg b x + lg b y * turn b := by
      have ht := turn_pos hb
      have : lg b y * turn b = lg b y * (turn b - 1) + lg b y := by
        rw [← Nat.mul_succ]
        rw [show (turn b - 1).succ = turn b by omega]
      omega
    rw [e2, h, ex]
theorem mul_zero {b x : Nat} : mul b x 0 = 0 := mulF_zero 0 _ _
theorem zero_mul {b y : Nat} (hb : Wd b) : mul b 0 y = 0 := zero_mulF hb _ _
theorem span_pos {b : Nat} (hb : Wd b) : 1 < span b := by rcases hb with rfl | rfl <;> decide
theorem mul_one {b x : Nat} (hb : Wd b) (hx : x < span b) : mul b x 1 = x := by
  rw [mul_comm hb hx (span_pos hb)]
  exact one_mul hb hx
theorem mul_xor_l {b x z y : Nat} (hb : Wd b) (hx : x < span b) (hz : z < span b) : mul b (x ^^^ z) y = mul b x y ^^^ mul b z y := mulF_lin hb _ _ _ _ hx hz
theorem mul_xor_r {b x z y : Nat} (hb : Wd b) (hx : x < span b) (hz : z < span b) (hy : y < span b) : mul b y (x ^^^ z) = mul b y x ^^^ mul b y z := by
  rw [mul_comm hb hy (xor_lt hb hx hz), mul_xor_l hb hx hz, mul_comm hb hx hy, mul_comm hb hz hy]
theorem mul_assoc {b x y z : Nat} (hb : Wd b) (hx : x < span b) (hy : y < span b) (hz : z < span b) : mul b (mul b x y) z = mul b x (mul b y z) := by
  by_cases h1 : x = 0
  · subst h1
    rw [zero_mul hb, zero_mul hb, zero_mul hb]
  · by_cases h2 : y = 0
    · subst h2
      rw [mul_zero, zero_mul hb, mul_zero]
    · by_cases h3 : z = 0
      · subst h3
        rw [mul_zero, mul_zero, mul_zero]
      · rw [← pw_lg hb hx h1, ← pw_lg hb hy h2, ← pw_lg hb hz h3, pw_mul hb, pw_mul hb, pw_mul hb, pw_mul hb, Nat.add_assoc]
/-- a row of words of so many bits -/
def Ws (b : Nat) (ws : List Nat) : Prop := ∀ w ∈ ws, w < span b
def evF (b t : Nat) (acc : Nat) (ws : List Nat) : Nat := ws.foldl (fun acc w => mul b acc t ^^^ w) acc
def evl (b t : Nat) (ws : List Nat) : Nat := evF b t 0 ws
def powT (b t : Nat) : Nat → Nat
  | 0 => 1
  | n + 1 => mul b (powT b t n) t
theorem powT_lt {b t : Nat} (hb : Wd b) : ∀ n, powT b t n < span b
  | 0 => span_pos hb
  | n + 1 => mul_lt hb (powT_lt hb n)
theorem evF_lt {b t : Nat} (hb : Wd b) : ∀ (ws : List Nat) (acc : Nat), acc < span b → Ws b ws → evF b t acc ws < span b
  | [], _, h, _ => h
  | w :: r, acc, h, hw => evF_lt hb r _ (xor_lt hb (mul_lt hb h) (hw w (List.mem_cons_self ..))) fun x hx => hw x (List.mem_cons_of_mem _ hx)
theorem evl_lt {b t : Nat} {ws : List Nat} (hb : Wd b) (h : Ws b ws) : evl b t ws < span b := evF_lt hb ws 0 (by have := span_pos hb; omega) h
theorem evF_xor {b t : Nat} (hb : Wd b) (ht : t < span b) : ∀ (ws : List Nat) (acc : Nat), acc < span b → Ws b ws → evF b t acc ws = mul b acc (powT b t ws.length) ^^^ evl b t ws
  | [], acc, h, _ => by
    show acc = mul b acc 1 ^^^ 0
    rw [mul_one hb h, Nat.xor_zero]
  | w :: r, acc, h, hw => by
    have hr : Ws b r := fun x hx => hw x (List.mem_cons_of_mem _ hx)
    have hw0 := hw w (List.mem_cons_self ..)
    have hz : (0 : Nat) < span b := by have := span_pos hb; omega
    show evF b t (mul b acc t ^^^ w) r = mul b acc (mul b (powT b t r.length) t) ^^^ evF b t (mul b 0 t ^^^ w) r
    rw [evF_xor hb ht r _ (xor_lt hb (mul_lt hb h) hw0) hr, evF_xor hb ht r _ (xor_lt hb (mul_lt hb hz) hw0) hr, zero_mul hb, Nat.zero_xor, mul_xor_l hb (mul_lt hb h) hw0,
      mul_assoc hb h ht (powT_lt hb _), mul_comm hb ht (powT_lt hb _), Nat.xor_assoc]
theorem evl_cons {b t w : Nat} {r : List Nat} (hb : Wd b) (ht : t < span b) (hw : w < span b) (hr : Ws b r) : evl b t (w :: r) = mul b w (powT b t r.length) ^^^ evl b t r := by
  show evF b t (mul b 0 t ^^^ w) r = _
  rw [zero_mul hb, Nat.zero_xor]
  exact evF_xor hb ht r w hw hr
theorem evl_snoc {b t w : Nat} {r : List Nat} : evl b t (r ++ [w]) = mul b (evl b t r) t ^^^ w := by
  show (r ++ [w]).foldl _ 0 = _
  rw [List.foldl_append]
  rfl
theorem evl_zeros {b t : Nat} (hb : Wd b) : ∀ n, evl b t (List.replicate n 0) = 0
  | 0 => rfl
  | n + 1 => by
    rw [List.replicate_succ', evl_snoc, evl_zeros hb n, zero_mul hb]
    rfl
theorem evl_pad {b t : Nat} (hb : Wd b) (n : Nat) (ws : List Nat) : evl b t (List.replicate n 0 ++ ws) = evl b t ws := by
  show (List.replicate n 0 ++ ws).foldl _ 0 = _
  rw [List.foldl_append]
  have h := evl_zeros (t := t) hb n
  unfold evl evF at h
  rw [h]
  rfl
/-- sums, word by word, by the places below n -/
def xsum (n : Nat) (f : Nat → Nat) : Nat := (List.range n).foldl (fun acc i => acc ^^^ f i) 0
theorem xsum_succ (n : Nat) (f : Nat → Nat) : xsum (n + 1) f = xsum n f ^^^ f n := by
  unfold xsum
  rw [List.range_succ, List.foldl_append]
  rfl
theorem xsum_congr {n : Nat} {f g : Nat → Nat} (h : ∀ i, i < n → f i = g i) : xsum n f = xsum n g := by
  induction n with
  | zero => rfl
  | succ n ih => rw [xsum_succ, xsum_succ, ih fun i hi => h i (by omega), h n (by omega)]
theorem xsum_lt {b n : Nat} {f : Nat → Nat} (hb : Wd b) (h : ∀ i, i < n → f i < span b) : xsum n f < span b := by
  induction n with
  | zero => have := span_pos hb; show 0 < span b; omega
  | succ n ih =>
    rw [xsum_succ]
    exact xor_lt hb (ih fun i hi => h i (by omega)) (h n (by omega))
/-- the i-th word times the (k - i)-th word of the other -/
def term (b : Nat) (f g : Nat → Nat) (k i : Nat) : Nat := if i ≤ k then mul b (f i) (g (k - i)) else 0
def gd (ws : List Nat) (i : Nat) : Nat := ws.getD i 0
theorem gd_lt {b : Nat} {ws : List Nat} (hb : Wd b) (h : Ws b ws) (i : Nat) : gd ws i < span b := by
  unfold gd
  by_cases hi : i < ws.length
  · rw [List.getD_eq_getElem?_getD, List.getElem?_eq_getElem hi]
    exact h _ (List.getElem_mem hi)
  · rw [List.getD_eq_getElem?_getD, List.getElem?_eq_none (by omega)]
    have := span_pos hb
    show 0 < span b
    omega
theorem gd_out {ws : List Nat} {i : Nat} (h : ws.length ≤ i) : gd ws i = 0 := by
  unfold gd
  rw [List.getD_eq_getElem?_getD, List.getElem?_eq_none h]
  rfl
theorem gd_in {ws : List Nat} {i : Nat} (h : i < ws.length) : ws[i]? = some (gd ws i) := by
  unfold gd
  rw [List.getD_eq_getElem?_getD, List.getElem?_eq_getElem h]
  rfl
theorem gd_list (ws : List Nat) : (List.range ws.length).map (gd ws) = ws := by
  refine List.ext_getElem? fun i => ?_
  by_cases h : i < ws.length
  · rw [gd_in h]
    simp [h]
  · rw [List.getElem?_eq_none (by simp; omega), List.getElem?_eq_none (by omega)]
def cf (b : Nat) (xs ys : List Nat) (k : Nat) : Nat := xsum xs.length (term b (gd xs) (gd ys) k)
/-- the product -/
def conv (b : Nat) (xs ys : List Nat) : List Nat := if xs = [] ∨ ys = [] then [] else (List.range (xs.length + ys.length - 1)).map (cf b xs ys)
theorem term_lt {b : Nat} {f g : Nat → Nat} {k i : Nat} (hb : Wd b) (h : f i < span b) : term b f g k i < span b := by
  unfold term
  split
  · exact mul_lt hb h
  · have := span_pos hb; omega
theorem cf_lt {b k : Nat} {xs ys : List Nat} (hb : Wd b) (hx : Ws b xs) : cf b xs ys k < span b := xsum_lt hb fun i _ => term_lt hb (gd_lt hb hx i)
theorem conv_ws {b : Nat} {xs ys : List Nat} (hb : Wd b) (hx : Ws b xs) : Ws b (conv b xs ys) := by
  intro w hw
  unfold conv at hw
  split at hw
  · cases hw
  · obtain ⟨k, _, rfl⟩ := List.mem_map.mp hw
    exact cf_lt hb hx
/-- sums of two rows of one length -/
def zx (xs ys : List Nat) : List Nat := (List.range xs.length).map fun k => gd xs k ^^^ gd ys k
theorem evl_fn {b t : Nat} (hb : Wd b) (ht : t < span b) (f g : Nat → Nat) (hf : ∀ i, f i < span b) (hg : ∀ i, g i < span b) : ∀ n, evl b t ((List.range n).map fun k => f k ^^^ g k) = evl b t ((List.range n).map f) ^^^ evl b t ((List.range n).map g)
  | 0 => by
    show (0 : Nat) = 0 ^^^ 0
    rfl
  | n + 1 => by
    have w1 : Ws b ((List.range n).map f) := fun w hw => by obtain ⟨k, _, rfl⟩ := List.mem_map.mp hw; exact hf k
    have w2 : Ws b ((List.range n).map g) := fun w hw => by obtain ⟨k, _, rfl⟩ := List.mem_map.mp hw; exact hg k
    rw [List.range_succ, List.map_append, List.map_append, List.map_append]
    show evl b t (_ ++ [f n ^^^ g n]) = evl b t (_ ++ [_]) ^^^ evl b t (_ ++ [_])
    rw [evl_snoc, evl_snoc, evl_snoc, evl_fn hb ht f g hf hg n, mul_xor_l hb (evl_lt hb w1) (evl_lt hb w2)]
    generalize mul b (evl b t (List.map f (List.range n))) t = u
    generalize mul b (evl b t (List.map g (List.range n))) t = v
    generalize f n = c
    generalize g n = d
    ac_rfl
theorem evl_scale {b t x : Nat} (hb : Wd b) (ht : t < span b) (hx : x < span b) (g : Nat → Nat) (hg : ∀ i, g i < span b) : ∀ n, evl b t ((List.range n).map fun k => mul b x (g k)) = mul b x (evl b t ((List.range n).map g))
  | 0 => mul_zero.symm
  | n + 1 => by
    have w2 : Ws b ((List.range n).map g) := fun w hw => by obtain ⟨k, _, rfl⟩ := List.mem_map.mp hw; exact hg k
    rw [List.range_succ, List.map_append, List.map_append]
    show evl b t (_ ++ [_]) = mul b x (evl b t (_ ++ [_]))
    rw [evl_snoc, evl_snoc, evl_scale hb ht hx g hg n, mul_xor_r hb (mul_lt hb (evl_lt hb w2)) (hg n) hx, mul_assoc hb hx (evl_lt hb w2) ht]
/-- the value of a product -/
theorem evl_sum {b t : Nat} (hb : Wd b) (ht : t < span b) (f g : Nat → Nat) (hf : ∀ i, f i < span b) (hg : ∀ i, g i < span b) (m : Nat) (hm : 0 < m) (hout : ∀ i, m ≤ i → g i = 0) :
    ∀ n, evl b t ((List.range (n + m - 1)).map fun k => xsum n (term b f g k)) = mul b (evl b t ((List.range n).map f)) (evl b t ((List.range m).map g))
  | 0 => by
    show evl b t ((List.range (0 + m - 1)).map fun k => 0) = mul b 0 _
    rw [zero_mul hb]
    have e : (List.range (0 + m - 1)).map (fun _ => 0) = List.replicate (0 + m - 1) 0 := by
      rw [List.map_const', List.length_range]
    rw [e, evl_zeros hb]
  | n + 1 => by
    have ih := evl_sum hb ht f g hf hg m hm hout n
    have w1 : Ws b ((List.range n).map f) := fun w hw => by obtain ⟨k, _, rfl⟩ := List.mem_map.mp hw; exact hf k
    have w2 : Ws b ((List.range m).map g) := fun w hw => by obtain ⟨k, _, rfl⟩ := List.mem_map.mp hw; exact hg k
    have e1 : (List.range (n + 1 + m - 1)).map (fun k => xsum (n + 1) (term b f g k)) = (List.range (n + 1 + m - 1)).map fun k => xsum n (term b f g k) ^^^ term b f g k n := by
      refine List.map_congr_left fun k _ => xsum_succ _ _
    have t1 : ∀ k, xsum n (term b f g k) < span b := fun k => xsum_lt hb fun i _ => term_lt hb (hf i)
    rw [e1, evl_fn hb ht _ _ t1 (fun k => term_lt hb (hf n))]
    have e2 : evl b t ((List.range (n + 1 + m - 1)).map fun k => xsum n (term b f g k)) = mul b (mul b (evl b t ((List.range n).map f)) (evl b t ((List.range m).map g))) t := by
      rw [show n + 1 + m - 1 = (n + m - 1) + 1 by omega, List.range_succ, List.map_append]
      show evl b t (_ ++ [_]) = _
      rw [evl_snoc, ih]
      show _ ^^^ xsum n (term b f g (n + m - 1)) = _
      have z : xsum n (term b f g (n + m - 1)) = 0 := by
        have : xsum n (term b f g (n + m - 1)) = xsum n fun _ => 0 := by
          refine xsum_congr fun i hi => ?_
          unfold term
          rw [if_pos (by omega), hout _ (by omega), mul_zero]
        rw [this]
        clear this ih e1 w1 t1
        induction n with
        | zero => rfl
        | succ n ih => rw [xsum_succ, ih]; rfl
      rw [z, Nat.xor_zero]
    have e3 : evl b t ((List.range (n + 1 + m - 1)).map fun k => term b f g k n) = mul b (f n) (evl b t ((List.range m).map g)) := by
      rw [show n + 1 + m - 1 = n + m by omega, List.range_add, List.map_append]
      have z : (List.range n).map (fun k => term b f g k n) = List.replicate n 0 := by
        refine List.ext_getElem? fun i => ?_
        by_cases h : i < n
        · simp [h, term]
          omega
        · rw [List.getElem?_eq_none (by simp; omega), List.getElem?_eq_none (by simp; omega)]
      rw [z, evl_pad hb, List.map_map]
      have z2 : (List.range m).map ((fun k => term b f g k n) ∘ (n + ·)) = (List.range m).map fun k => mul b (f n) (g k) := by
        refine List.map_congr_left fun k _ => ?_
        show term b f g (n + k) n = _
        unfold term
        rw [if_pos (by omega), show n + k - n = k by omega]
      rw [z2, evl_scale hb ht (hf n) g hg]
    rw [e2, e3, List.range_succ, List.map_append]
    show _ = mul b (evl b t (_ ++ [f n])) _
    rw [evl_snoc, mul_xor_l hb (mul_lt hb (evl_lt hb w1)) (hf n)]
    congr 1
    rw [mul_assoc hb (evl_lt hb w1) (evl_lt hb w2) ht, mul_comm hb (evl_lt hb w2) ht, ← mul_assoc hb (evl_lt hb w1) ht (evl_lt hb w2)]
theorem evl_conv {b t : Nat} {xs ys : List Nat} (hb : Wd b) (ht : t < span b) (hx : Ws b xs) (hy : Ws b ys) (h0 : xs ≠ []) (h1 : ys ≠ []) : evl b t (conv b xs ys) = mul b (evl b t xs) (evl b t ys) := by
  have hl : 0 < ys.length := by cases ys with | nil => exact absurd rfl h1 | cons _ _ => simp
  unfold conv
  rw [if_neg (by simp [h0, h1])]
  have h := evl_sum hb ht (gd xs) (gd ys) (gd_lt hb hx) (gd_lt hb hy) ys.length hl (fun i hi => gd_out hi) xs.length
  rw [gd_list, gd_list] at h
  exact h
/-! ### the quotient and the remainder -/
def divStep (b : Nat) (c : Nat → Nat) (m : Nat) (r : Nat → Nat) (s : Nat) : Nat → Nat := fun k => if k = s then quo b (r s) (c 0) else if s < k ∧ k < s + m then r k ^^^ mul b (quo b (r s) (c 0)) (c (k - s)) else r k
def dvN (b : Nat) (c : Nat → Nat) (m : Nat) (w : Nat → Nat) : Nat → Nat → Nat
  | 0 => w
  | s + 1 => divStep b c m (dvN b c m w s) s
theorem quo_lt' {b x y : Nat} (hb : Wd b) (hx : x < span b) : quo b x y < span b := mul_lt hb hx
theorem dvN_lt {b : Nat} {c w : Nat → Nat} {m : Nat} (hb : Wd b) (hw : ∀ k, w k < span b) : ∀ s k, dvN b c m w s k < span b
  | 0, k => hw k
  | s + 1, k => by
    show divStep b c m (dvN b c m w s) s k < span b
    unfold divStep
    have h := dvN_lt (c := c) (m := m) hb hw s
    split
    · exact quo_lt' hb (h s)
    · split
      · exact xor_lt hb (h k) (mul_lt hb (quo_lt' hb (h s)))
      · exact h k
theorem dvN_keep {b : Nat} {c w : Nat → Nat} {m : Nat} {i : Nat} : ∀ s j, i < s → dvN b c m w (s + j) i = dvN b c m w s i
  | s, 0, _ => rfl
  | s, j + 1, h => by
    show divStep b c m (dvN b c m w (s + j)) (s + j) i = _
    unfold divStep
    rw [if_neg (by omega), if_neg (by omega)]
    exact dvN_keep s j h
theorem div_spec {b : Nat} {c w : Nat → Nat} {m : Nat} (hb : Wd b) (hw : ∀ k, w k < span b) (hc : ∀ k, c k < span b) (h0 : c 0 ≠ 0) (hout : ∀ k, m ≤ k → c k = 0) :
    ∀ s k, w k = xsum s (term b (dvN b c m w s) c k) ^^^ (if k < s then 0 else dvN b c m w s k)
  | 0, k => by
    show w k = 0 ^^^ w k
    rw [Nat.zero_xor]
  | s + 1, k => by
    have ih := div_spec hb hw hc h0 hout s k
    have e1 : xsum s (term b (dvN b c m w (s + 1)) c k) = xsum s (term b (dvN b c m w s) c k) := by
      refine xsum_congr fun i hi => ?_
      unfold term
      rw [dvN_keep s 1 hi]
    rw [xsum_succ, e1]
    have hr := dvN_lt (c := c) (m := m) hb hw s
    have eq : dvN b c m w (s + 1) s = quo b (dvN b c m w s s) (c 0) := by
      show divStep b c m (dvN b c m w s) s s = _
      unfold divStep
      rw [if_pos rfl]
    by_cases h1 : k < s
    · rw [if_pos h1, Nat.xor_zero] at ih
      rw [if_pos (by omega), Nat.xor_zero, ← ih]
      unfold term
      rw [if_neg (by omega), Nat.xor_zero]
    · rw [if_neg h1] at ih
      by_cases h2 : k = s
      · subst h2
        rw [if_pos (by omega), Nat.xor_zero, ih]
        unfold term
        rw [if_pos (Nat.le_refl _), eq, Nat.sub_self, mul_quo hb (hr _) (hc 0) h0]
      · rw [if_neg (by omega), ih]
        have et : term b (dvN b c m w (s + 1)) c k s = mul b (quo b (dvN b c m w s s) (c 0)) (c (k - s)) := by
          unfold term
          rw [if_pos (by omega), eq]
        have ed : dvN b c m w (s + 1) k = dvN b c m w s k ^^^ mul b (quo b (dvN b c m w s s) (c 0)) (c (k - s)) := by
          show divStep b c m (dvN b c m w s) s k = _
          unfold divStep
          rw [if_neg h2]
          by_cases h3 : k < s + m
          · rw [if_pos ⟨by omega, h3⟩]
          · rw [if_neg (by omega), hout (k - s) (by omega), mul_zero, Nat.xor_zero]
        rw [et, ed]
        generalize xsum s (term b (dvN b c m w s) c k) = u
        generalize dvN b c m w s k = v
        generalize mul b (quo b (dvN b c m w s s) (c 0)) (c (k - s)) = z
        rw [Nat.xor_assoc, ← Nat.xor_assoc z v z, Nat.xor_comm z v, Nat.xor_assoc v z z, Nat.xor_self, Nat.xor_zero]
/-- quotient and remainder, as lists -/
def steps (ws os : List Nat) : Nat := ws.length + 1 - os.length
def quoL (b : Nat) (ws os : List Nat) : List Nat := (List.range (steps ws os)).map (dvN b (gd os) os.length (gd ws) (steps ws os))
def remL (b : Nat) (ws os : List Nat) : List Nat := (List.range (ws.length - steps ws os)).map fun j => dvN b (gd os) os.length (gd ws) (steps ws os) (steps ws os + j)
/-- what lies behind the law's sum: other * quotient and the remainder, padded -/
def pad (n : Nat) (ws : List Nat) : List Nat := List.replicate n 0 ++ ws
theorem gd_pad {n k : Nat} {ws : List Nat} : gd (pad n ws) k = if k < n then 0 else gd ws (k - n) := by
  unfold gd pad
  rw [List.getD_eq_getElem?_getD, List.getD_eq_getElem?_getD, List.getElem?_append]
  by_cases h : k < n
  · simp [h]
  · simp [h]
theorem gd_map {n k : Nat} {f : Nat → Nat} : gd ((List.range n).map f) k = if k < n then f k else 0 := by
  unfold gd
  rw [List.getD_eq_getElem?_getD]
  by_cases h : k < n
  · simp [h]
  · simp [h]
theorem div_lists {b : Nat} {ws os : List Nat} (hb : Wd b) (hw : Ws b ws) (ho : Ws b os) (h0 : gd os 0 ≠ 0) (hl : os.length ≤ ws.length) (hp : 0 < os.length) :
    (List.range ws.length).map (fun k => gd (conv b (quoL b ws os) os) k ^^^ gd (pad (steps ws os) (remL b ws os)) k) = ws := by
  have hs : 0 < steps ws os := by unfold steps; omega
  have hs2 : steps ws os + os.length - 1 = ws.length := by unfold steps; omega
  have hq : quoL b ws os ≠ [] := by
    intro z
    have := congrArg List.length z
    unfold quoL at this
    simp at this
    omega
  have hon : os ≠ [] := by intro z; rw [z] at hp; simp at hp
  have hql : (quoL b ws os).length = steps ws os := by unfold quoL; simp
  refine Eq.trans (List.map_congr_left fun k hk => ?_) (gd_list ws)
  have hk' : k < ws.length := List.mem_range.mp hk
  have spec := div_spec (c := gd os) (w := gd ws) (m := os.length) hb (gd_lt hb hw) (gd_lt hb ho) h0 (fun i hi => gd_out hi) (steps ws os) k
  refine Eq.trans ?_ spec.symm
  have e1 : gd (conv b (quoL b ws os) os) k = xsum (steps ws os) (term b (dvN b (gd os) os.length (gd ws) (steps ws os)) (gd os) k) := by
    unfold conv
    rw [if_neg (by simp [hq, hon]), gd_map, hql, if_pos (by omega)]
    unfold cf
    rw [hql]
    refine xsum_congr fun i hi => ?_
    unfold term
    have : gd (quoL b ws os) i = dvN b (gd os) os.length (gd ws) (steps ws os) i := by
      unfold quoL
      rw [gd_map, if_pos hi]
    rw [this]
  have e2 : gd (pad (steps ws os) (remL b ws os)) k = if k < steps ws os then 0 else dvN b (gd os) os.length (gd ws) (steps ws os) k := by
    rw [gd_pad]
    by_cases h : k < steps ws os
    · rw [if_pos h, if_pos h]
    · rw [if_neg h, if_neg h]
      unfold remL
      rw [gd_map, if_pos (by omega), show steps ws os + (k - steps ws os) = k by omega]
  rw [e1, e2]
end My

set_option Elab.async false
set_option linter.all false
set_option maxRecDepth 100000
set_option maxHeartbeats 4000000
/-! ### f(k = v, ..) without positional arguments -/
namespace My
open PySem PySem.Spec PyProof.Rows L2
def tCallZ (m : Nat) (sp : Sp) (gV : List V → List V) (E : XK) (tk : TA) : TE := fun σ H Q => tk σ H fun zs H2 => zs.length = m ∧ sp (gV zs) H2 Q E
section
variable {X : Cx} {CX : CXT} {k : Nat} {f : Addr} {fd : FuncData} {ps ks : List Str} {sp : Sp} {E : XK} {x : Str} {p pos : Pos} {kws : List Keyword} {tk : TA} {g : List Value → List Value} {gV : List V → List V}
theorem pe_callZ (F : FnOk X.prog X.w X.K X.mg X.base CX k f fd ps sp) (hr : Room k X.A) (hg : Gl X x) (hm : X.mg x = some (.ref f)) (hk : PySem.W.keepIn X.K (.ref f) = true) (hb : KBn X.K fd ps 0 ks (fun _ ws => g ws) (fun _ zs => gV zs)) (hx : Passes CX X E)
    (hkw : PK X kws tk) (hall : (backToKw pos (keywordEach kws X.env)).all (·.1.isSome) = true := by rfl) (hks : (backToKw pos (keywordEach kws X.env)).filterMap (·.1) = ks := by rfl)
    (hdb : (x == ("__debug__" : Str)) = false := by decide)
    (hpl : ((backTo pos (starEach [] X.env)).any (·.1) || (backToKw pos (keywordEach kws X.env)).any (·.1.isNone)) = false := by rfl) :
    PE X (.Call (.Name x p) [] kws pos) (tCallZ ks.length sp gV E tk) := by
  refine ⟨fun pins s σ H Q I h => ?_⟩
  refine wpAny_Call_Name_kw (ld_glob I hg hm ?_ hdb)
  refine PySem.W.callWith_KW0 (h₀ := X.base) I.ok.mod.kin hk hall (thn (hkw.run pos pins s σ H _ I h) fun ws s2 ⟨zs, H2, I2, rz, l2, q2⟩ => ⟨I2.kIn, ?_⟩) hpl
  rw [hks]
  exact run_fnN (us := []) (vs := []) F hr hb hx I2 .nil rz rfl l2 q2
end
theorem kb0 {K : PySem.W.Frag} {x qual : Str} {st : Stmt} {f : Addr} {fd : FuncData} {ps ks : List Str} (F : Fun K x qual st f fd) (g : {α : Type} → List α → List α)
    (hrel : ∀ {zs : List V} {ws : List Value}, Vals zs ws → Vals (g zs) (g ws))
    (h : ∀ (kV doc pm : Value) (an : Option Addr) (cdv ct : Value) (ws : List Value), ws.length = ks.length → bindArgs (PySem.W.fnOf x qual (defArgs st) (defBody st) (defScope st) .none kV doc pm an cdv ct) ⟨[], ks.zip ws⟩ = pure (ps.zip (g ws))) :
    KBn K fd ps 0 ks (fun _ ws => g ws) (fun _ zs => g zs) := by
  obtain ⟨oc, od, kV, doc, pm, an, cdv, ct, osl, rfl, lk, hcd⟩ := F.ex
  refine ⟨fun s us ws X l1 l2 => ?_, fun _ r2 => hrel r2⟩
  have e : us = [] := List.length_eq_zero_iff.mp l1
  subst e
  exact .of_eq (h kV doc pm an cdv ct ws l2)
/-- three values the other way round -/
def rev3 {α : Type} : List α → List α
  | [a, b, c] => [c, b, a]
  | l => l
theorem rev3_rel {zs : List V} {ws : List Value} (r : Vals zs ws) : Vals (rev3 zs) (rev3 ws) := by
  cases r with
  | nil => exact .nil
  | cons r1 r =>
    cases r with
    | nil => exact .cons r1 .nil
    | cons r2 r =>
      cases r with
      | nil => exact .cons r1 (.cons r2 .nil)
      | cons r3 r =>
        cases r with
        | nil => exact .cons r3 (.cons r2 (.cons r1 .nil))
        | cons r4 r => exact .cons r1 (.cons r2 (.cons r3 (.cons r4 r)))
end My

set_option Elab.async false
set_option linter.all false
set_option maxRecDepth 100000
set_option maxHeartbeats 4000000
/-! ### lists of words, compared -/
namespace My
open PySem PySem.Spec PyProof.Rows L2
theorem same_upd {H : Hp} {p : Addr} {o : HO} (h : H p = none) : Same H (upd H p o) := fun b x e => by
  rw [upd_ne (ne_of_none e h)]
  exact e
/-- a word as a value -/
def vN (n : Nat) : V := .int (n : Int)
def dI (n : Nat) : PyData := .int (n : Int)
def dN (ws : List Nat) : PyData := .list (ws.map dI)
theorem lay_all : ∀ ws : List Nat, PyData.canLayAll0 (ws.map dI) = true
  | [] => rfl
  | w :: r => by
    show (PyData.canLay0 (dI w) && PyData.canLayAll0 (r.map dI)) = true
    rw [lay_all r]
    rfl
theorem depth_all : ∀ ws : List Nat, PyData.depthAll (ws.map dI) = 0
  | [] => rfl
  | w :: r => by
    show max (PyData.depth (dI w)) (PyData.depthAll (r.map dI)) = 0
    rw [depth_all r]
    rfl
theorem dN_lay (ws : List Nat) : (dN ws).canLay0 = true := lay_all ws
theorem dN_depth (ws : List Nat) : (dN ws).depth = 1 := by
  show PyData.depthAll (ws.map dI) + 1 = 1
  rw [depth_all]
theorem dN_shaped (ws : List Nat) : SeqAt.shaped (dN ws) = true := by
  unfold SeqAt.shaped
  rw [dN_lay, dN_depth]
  rfl
theorem eqv_all : ∀ xs ys : List Nat, PyData.eqvAll (xs.map dI) (ys.map dI) = decide (xs = ys)
  | [], [] => rfl
  | [], _ :: _ => by simp [PyData.eqvAll]
  | _ :: _, [] => by simp [PyData.eqvAll]
  | x :: r, y :: t => by
    show (PyData.eqv (dI x) (dI y) && PyData.eqvAll (r.map dI) (t.map dI)) = decide (x :: r = y :: t)
    rw [eqv_all r t]
    have e : PyData.eqv (dI x) (dI y) = decide (x = y) := by
      show ((x : Int) == (y : Int)) = decide (x = y)
      by_cases h : x = y
      · subst h; simp
      · simp [h]
        omega
    rw [e]
    by_cases h : x = y
    · by_cases h2 : r = t
      · simp [h, h2]
      · simp [h, h2]
    · simp [h]
theorem dN_eqv (xs ys : List Nat) : PyData.eqv (dN xs) (dN ys) = decide (xs = ys) := eqv_all xs ys
theorem dp_all {K : PySem.W.Frag} {H : Hp} : ∀ ws : List Nat, DpAll K H (ws.map vN) (ws.map dI)
  | [] => .nil
  | w :: r => .cons (.int _) (dp_all r)
theorem dN_dp {K : PySem.W.Frag} {H : Hp} {a : Addr} {ws : List Nat} (h : SqL K H a (ws.map vN)) : Dp K H (.ref a) (dN ws) := .lst h (dp_all ws)
end My

set_option Elab.async false
set_option linter.all false
set_option maxRecDepth 100000
set_option maxHeartbeats 4000000
/-! ### the program's tables of powers and exponents -/
namespace My
open PySem PySem.Spec PyProof.Rows L2
def E4 : List Int := [0, 0, 1, 12, 2, 9, 13, 7, 3, 4, 10, 5, 14, 11, 8, 6]
def E8 : List Int := [0, 0, 1, 231, 2, 207, 232, 59, 3, 35, 208, 154, 233, 20, 60, 183, 4, 159, 36, 66, 209, 118, 155, 251, 234, 245, 21, 11, 61, 130, 184, 146, 5, 122, 160, 79, 37, 113, 67, 106, 210, 224, 119, 221, 156, 242, 252, 32, 235, 213, 246, 135, 22, 42, 12, 140, 62, 227, 131, 75, 185, 191, 147, 94, 6, 70, 123, 195, 161, 53, 80, 167, 38, 109, 114, 203, 68, 51, 107, 49, 211, 40, 225, 189, 120, 111, 222, 240, 157, 116, 243, 128, 253, 205, 33, 18, 236, 163, 214, 98, 247, 55, 136, 102, 23, 82, 43, 177, 13, 169, 141, 89, 63, 8, 228, 151, 132, 72, 76, 218, 186, 125, 192, 200, 148, 197, 95, 174, 7, 150, 71, 217, 124, 199, 196, 173, 162, 97, 54, 101, 81, 176, 168, 88, 39, 188, 110, 239, 115, 127, 204, 17, 69, 194, 52, 166, 108, 202, 50, 48, 212, 134, 41, 139, 226, 74, 190, 93, 121, 78, 112, 105, 223, 220, 241, 31, 158, 65, 117, 250, 244, 10, 129, 145, 254, 230, 206, 58, 34, 153, 19, 182, 237, 15, 164, 46, 215, 171, 99, 86, 248, 143, 56, 180, 137, 91, 103, 29, 24, 25, 83, 26, 44, 84, 178, 27, 14, 45, 170, 85, 142, 179, 90, 28, 64, 249, 9, 144, 229, 57, 152, 181, 133, 138, 73, 92, 77, 104, 219, 30, 187, 238, 126, 16, 193, 165, 201, 47, 149, 216, 198, 172, 96, 100, 175, 87]
def P4 : List Int := [1, 2, 4, 8, 9, 11, 15, 7, 14, 5, 10, 13, 3, 6, 12]
def P8 : List Int := [1, 2, 4, 8, 16, 32, 64, 128, 113, 226, 181, 27, 54, 108, 216, 193, 243, 151, 95, 190, 13, 26, 52, 104, 208, 209, 211, 215, 223, 207, 239, 175, 47, 94, 188, 9, 18, 36, 72, 144, 81, 162, 53, 106, 212, 217, 195, 247, 159, 79, 158, 77, 154, 69, 138, 101, 202, 229, 187, 7, 14, 28, 56, 112, 224, 177, 19, 38, 76, 152, 65, 130, 117, 234, 165, 59, 118, 236, 169, 35, 70, 140, 105, 210, 213, 219, 199, 255, 143, 111, 222, 205, 235, 167, 63, 126, 252, 137, 99, 198, 253, 139, 103, 206, 237, 171, 39, 78, 156, 73, 146, 85, 170, 37, 74, 148, 89, 178, 21, 42, 84, 168, 33, 66, 132, 121, 242, 149, 91, 182, 29, 58, 116, 232, 161, 51, 102, 204, 233, 163, 55, 110, 220, 201, 227, 183, 31, 62, 124, 248, 129, 115, 230, 189, 11, 22, 44, 88, 176, 17, 34, 68, 136, 97, 194, 245, 155, 71, 142, 109, 218, 197, 251, 135, 127, 254, 141, 107, 214, 221, 203, 231, 191, 15, 30, 60, 120, 240, 145, 83, 166, 61, 122, 244, 153, 67, 134, 125, 250, 133, 123, 246, 157, 75, 150, 93, 186, 5, 10, 20, 40, 80, 160, 49, 98, 196, 249, 131, 119, 238, 173, 43, 86, 172, 41, 82, 164, 57, 114, 228, 185, 3, 6, 12, 24, 48, 96, 192, 241, 147, 87, 174, 45, 90, 180, 25, 50, 100, 200, 225, 179, 23, 46, 92, 184]
def tabE (b : Nat) : List Int := cond (Nat.beq b 4) E4 E8
def tabP (b : Nat) : List Int := cond (Nat.beq b 4) P4 P8
theorem lgpw' {b i : Nat} (hb : Wd b) (h : i < turn b) : lg b (pw b i) = i := by
  have q : ((List.range (turn b)).all fun i => Nat.beq (lg b (pw b i)) i) = true := by rcases hb with rfl | rfl <;> decide +kernel
  exact Nat.eq_of_beq_eq_true (List.all_eq_true.mp q i (List.mem_range.mpr h))
def goodE (b : Nat) (x : Nat) : Bool := match (tabE b)[x]? with
  | some (Int.ofNat e) => Nat.beq x 0 || (Nat.blt e (turn b) && Nat.beq (pw b e) x)
  | _ => false
theorem goodE_all {b : Nat} (hb : Wd b) : ((List.range (span b)).all (goodE b)) = true := by rcases hb with rfl | rfl <;> decide +kernel
theorem tabE_at {b x : Nat} (hb : Wd b) (hx : x < span b) (h0 : x ≠ 0) : (tabE b)[x]? = some (lg b x : Int) := by
  have h := List.all_eq_true.mp (goodE_all hb) x (List.mem_range.mpr hx)
  unfold goodE at h
  split at h
  · next e he =>
    rcases (Bool.or_eq_true _ _).mp h with z | z
    · exact absurd (Nat.eq_of_beq_eq_true z) h0
    · rw [Bool.and_eq_true] at z
      have h1 : e < turn b := by
        have := z.1
        rw [Nat.blt_eq] at this
        exact this
      have h2 := Nat.eq_of_beq_eq_true z.2
      rw [he, ← h2, lgpw' hb h1]
      rfl
  · cases h
theorem tabE_len {b : Nat} (hb : Wd b) : (tabE b).length = span b := by rcases hb with rfl | rfl <;> decide +kernel
theorem tabP_is {b : Nat} (hb : Wd b) : tabP b = (pws b).map (fun n : Nat => (n : Int)) := by rcases hb with rfl | rfl <;> decide +kernel
theorem tabP_len {b : Nat} (hb : Wd b) : (tabP b).length = turn b := by rw [tabP_is hb, List.length_map, pws_len]
theorem tabP_at {b i : Nat} (hb : Wd b) (h : i < turn b) : (tabP b)[i]? = some (pw b i : Int) := by
  rw [tabP_is hb, List.getElem?_map, pws_at h]
  rfl
end My

set_option Elab.async false
set_option linter.all false
set_option maxRecDepth 100000
set_option maxHeartbeats 4000000
/-! ### slices of rows, lists (true) or tuples (false); the powers twice -/
namespace My
open PySem PySem.Spec PyProof.Rows L2
section
variable {X : Cx}
def rSlB (K : PySem.W.Frag) : V → Option Int → Option Int → Hp → VK → Prop := fun x lo hi H Q => ∃ a xs k, x = .ref a ∧ SqB k K H a xs ∧ ∀ p H', Same H H' → SqB k K H' p (cutV xs lo hi) → Q (.ref p) H'
theorem sl_rowB : SlR X (rSlB X.K) := by
  intro pins s σ H x v vl vu lo hi sl Q I rx hs pl pu h
  obtain ⟨a, xs, k, rfl, hx, q⟩ := h
  cases k
  · refine sl_tupA pins s σ H _ v vl vu lo hi sl Q I rx hs pl pu ⟨a, xs, rfl, hx, fun hw => q a H (Same.refl _) ?_, fun _ p hp => q p _ (same_upd hp) (.inl (.inl upd_same))⟩
    have e : cutV xs lo hi = xs := by
      unfold cutV
      rw [hw.1, hw.2]
      simp
    rw [e]
    exact hx
  · exact sl_list pins s σ H _ v vl vu lo hi sl Q I rx hs pl pu ⟨a, xs, rfl, hx, fun p hp => q p _ (same_upd hp) (.inl (.inl upd_same))⟩
end
theorem turn_pos' {b : Nat} (hb : Wd b) : 0 < turn b := by rcases hb with rfl | rfl <;> decide
/-- the powers, twice -/
def PP (b : Nat) : List V := (List.replicate (2 : Int).toNat ((tabP b).map V.int)).flatten
theorem PP_is (b : Nat) : PP b = (tabP b).map V.int ++ (tabP b).map V.int := by
  unfold PP
  show (List.replicate 2 _).flatten = _
  simp [List.replicate]
theorem PP_at {b i : Nat} (hb : Wd b) (h : i < 2 * turn b) : (PP b)[i]? = some (V.int (pw b i : Int)) := by
  have hl : ((tabP b).map V.int).length = turn b := by rw [List.length_map, tabP_len hb]
  rw [PP_is]
  by_cases h1 : i < turn b
  · rw [List.getElem?_append_left (by rw [hl]; exact h1), List.getElem?_map, tabP_at hb h1]
    rfl
  · rw [List.getElem?_append_right (by rw [hl]; omega), hl, List.getElem?_map, tabP_at hb (by omega)]
    have e : pw b i = pw b (i - turn b) := by
      rw [← pw_add_turn hb (i - turn b), show i - turn b + turn b = i by omega]
    rw [e]
    rfl
theorem PP_len {b : Nat} (hb : Wd b) : (PP b).length = 2 * turn b := by
  rw [PP_is, List.length_append, List.length_map, tabP_len hb]
  omega
theorem tabP_small {b : Nat} (hb : Wd b) : ((tabP b).map V.int).length ≤ 1000 ∧ (tabP b).map V.int ≠ [] := by
  have e := tabP_len hb
  have t := turn_pos' hb
  refine ⟨?_, fun z => ?_⟩
  · rw [List.length_map, e]
    rcases hb with rfl | rfl <;> decide
  · have := congrArg List.length z
    rw [List.length_map, e] at this
    simp at this
    omega
theorem sum_at {b x y : Nat} (hb : Wd b) (hx : x < span b) (hy : y < span b) (h0 : x ≠ 0) (h1 : y ≠ 0) : atI (PP b) ((lg b x : Int) + (lg b y : Int)) = some (V.int (mul b x y : Int)) := by
  have l1 := lg_lt hb hx h0
  have l2 := lg_lt hb hy h1
  rw [show (lg b x : Int) + (lg b y : Int) = ((lg b x + lg b y : Nat) : Int) by omega]
  refine atI_nat ?_
  rw [PP_at hb (by omega), ← pw_mul hb, pw_lg hb hx h0, pw_lg hb hy h1]
theorem diff_at {b x y : Nat} (hb : Wd b) (hx : x < span b) (hy : y < span b) (h0 : x ≠ 0) (h1 : y ≠ 0) : atI (PP b) ((lg b x : Int) - (lg b y : Int) + (turn b : Int)) = some (V.int (quo b x y : Int)) := by
  have l1 := lg_lt hb hx h0
  have l2 := lg_lt hb hy h1
  rw [show (lg b x : Int) - (lg b y : Int) + (turn b : Int) = ((lg b x + (turn b - lg b y) : Nat) : Int) by omega]
  refine atI_nat ?_
  rw [PP_at hb (by omega)]
  unfold quo
  have e : pw b (lg b y * (turn b - 1)) = pw b (turn b - lg b y) := by
    have h := pw_add_mul hb (turn b - lg b y) (lg b y)
    have h2 := pw_add_turn hb (lg b y * (turn b - 1))
    have h3 : turn b - lg b y + lg b y * turn b = lg b y * (turn b - 1) + turn b := by
      have h4 : lg b y * turn b = lg b y * (turn b - 1) + lg b y := by
        rw [← Nat.mul_succ]
        rw [show (turn b - 1).succ = turn b by omega]
      omega
    rw [h3] at h
    rw [← h2, h]
  rw [e, ← pw_mul hb, pw_lg hb hx h0]
end My
namespace My
open PySem PySem.Spec PyProof.Rows L2
theorem ix_rowBK {X : Cx} {K : PySem.W.Frag} (h : X.K = K) : IxR X (rIxB K) := by
  subst h
  exact ix_rowB
end My
namespace My
open PySem PySem.Spec PyProof.Rows L2
theorem pe_ifName {X : Cx} {K : PySem.W.Frag} {x : Str} {p : Pos} {a b : Expr} {pos : Pos} {tc ta tb : TE} (h : X.K = K) (hc : PE X (.Name x p) tc) (ha : PE X a ta) (hb : PE X b tb) :
    PE X (.IfExp (.Name x p) a b pos) (tIf (fun σ H Q => tc σ H fun x H' => ∃ k, TruV K x H' k ∧ Q k H') ta tb) := by
  subst h
  exact pe_ifExp (pt_truth hc (fun _ => rfl)) ha hb
end My

set_option Elab.async false
set_option linter.all false
set_option maxRecDepth 100000
set_option maxHeartbeats 4000000
/-! ### rows of plain words; values of polynomials by exponents -/
namespace My
open PySem PySem.Spec PyProof.Rows L2
theorem pt_truthK {X : Cx} {K : PySem.W.Frag} {a : Expr} {ta : TE} (h : X.K = K) (ha : PE X a ta) (he : ∀ whole, isTrue a X.env whole = (do let v ← whole; standAt a.pos; holding [v] (truthy v))) :
    PT X a (fun σ H Q => ta σ H fun x H' => ∃ k, TruV K x H' k ∧ Q k H') := by
  subst h
  exact pt_truth ha he
theorem SqB.truB {b : Bool} {K : PySem.W.Frag} {H : Hp} {a : Addr} {xs : List V} (h : SqB b K H a xs) : TruV K (.ref a) H (!xs.isEmpty) := by
  cases b
  · exact .inr (.inl ⟨xs, h, rfl⟩)
  · exact .inl ⟨xs, h, rfl⟩
theorem word_shr {b x : Nat} (hb : Wd b) (hx : x < span b) : ((x : Int) / 2 ^ ((b : Int)).toNat != 0) = false := by
  have e : ((x : Int) / 2 ^ ((b : Int)).toNat) = ((x / 2 ^ b : Nat) : Int) := by
    rw [Int.toNat_natCast]
    norm_cast
  rw [e, Nat.div_eq_of_lt (by rw [← span_pow hb]; exact hx)]
  rfl
theorem evl_at0 {b : Nat} (ws : List Nat) : evl b 0 ws = ws.getLastD 0 := by
  rcases List.eq_nil_or_concat ws with rfl | ⟨r, w, rfl⟩
  · rfl
  · rw [List.concat_eq_append, evl_snoc, mul_zero, Nat.zero_xor]
    simp
end My

set_option Elab.async false
set_option linter.all false
set_option maxRecDepth 100000
set_option maxHeartbeats 4000000
namespace My
open PySem PySem.Spec PyProof.Rows L2
def topS (i : Nat) : Stmt := PySem.Challenge.pw_dotquilts_k02_whole_polynomials.main.body.getD i (.Pass ⟨0, 0, 0, 0⟩)
abbrev s_is_number : Stmt := topS 2
theorem sc_is_number : FnScope ["thing"] ["thing"] (defScope s_is_number) := ⟨rfl, rfl, rfl, by decide +kernel, rfl, by decide +kernel, by decide +kernel⟩
abbrev s_is_number_to : Stmt := topS 3
theorem sc_is_number_to : FnScope ["thing", "least", "most"] ["thing", "least", "most"] (defScope s_is_number_to) := ⟨rfl, rfl, rfl, by decide +kernel, rfl, by decide +kernel, by decide +kernel⟩
abbrev s_is_word : Stmt := topS 15
theorem sc_is_word : FnScope ["bits", "thing"] ["bits", "thing"] (defScope s_is_word) := ⟨rfl, rfl, rfl, by decide +kernel, rfl, by decide +kernel, by decide +kernel⟩
abbrev s_need_field : Stmt := topS 16
theorem sc_need_field : FnScope ["bits"] ["bits"] (defScope s_need_field) := ⟨rfl, rfl, rfl, by decide +kernel, rfl, by decide +kernel, by decide +kernel⟩
abbrev s_need_word : Stmt := topS 17
theorem sc_need_word : FnScope ["bits", "part", "thing"] ["bits", "part", "thing"] (defScope s_need_word) := ⟨rfl, rfl, rfl, by decide +kernel, rfl, by decide +kernel, by decide +kernel⟩
abbrev s_is_row : Stmt := topS 5
theorem sc_is_row : FnScope ["thing"] ["thing"] (defScope s_is_row) := ⟨rfl, rfl, rfl, by decide +kernel, rfl, by decide +kernel, by decide +kernel⟩
abbrev s_are_plain_words : Stmt := topS 4
theorem sc_are_plain_words : FnScope ["bits", "things", "thing"] ["bits", "things"] (defScope s_are_plain_words) := ⟨rfl, rfl, rfl, by decide +kernel, rfl, by decide +kernel, by decide +kernel⟩
abbrev s_need_words : Stmt := topS 18
theorem sc_need_words : FnScope ["bits", "part", "words", "at", "word"] ["bits", "part", "words"] (defScope s_need_words) := ⟨rfl, rfl, rfl, by decide +kernel, rfl, by decide +kernel, by decide +kernel⟩
abbrev s_need_polynomial : Stmt := topS 19
theorem sc_need_polynomial : FnScope ["bits", "part", "words"] ["bits", "part", "words"] (defScope s_need_polynomial) := ⟨rfl, rfl, rfl, by decide +kernel, rfl, by decide +kernel, by decide +kernel⟩
abbrev s_Field___init__ : Stmt := inClass (topS 14) 0
theorem sc_Field___init__ : FnScope ["self", "bits"] ["self", "bits"] (defScope s_Field___init__) := ⟨rfl, rfl, rfl, by decide +kernel, rfl, by decide +kernel, by decide +kernel⟩
abbrev s_Field_times : Stmt := inClass (topS 14) 2
theorem sc_Field_times : FnScope ["self", "one", "other"] ["self", "one", "other"] (defScope s_Field_times) := ⟨rfl, rfl, rfl, by decide +kernel, rfl, by decide +kernel, by decide +kernel⟩
abbrev s_Field_over : Stmt := inClass (topS 14) 3
theorem sc_Field_over : FnScope ["self", "one", "other"] ["self", "one", "other"] (defScope s_Field_over) := ⟨rfl, rfl, rfl, by decide +kernel, rfl, by decide +kernel, by decide +kernel⟩
abbrev s_Field_multiple : Stmt := inClass (topS 14) 4
theorem sc_Field_multiple : FnScope ["self", "words", "factor", "powers", "exponents", "shift", "word"] ["self", "words", "factor"] (defScope s_Field_multiple) := ⟨rfl, rfl, rfl, by decide +kernel, rfl, by decide +kernel, by decide +kernel⟩
abbrev s_value_at : Stmt := topS 20
theorem sc_value_at : FnScope ["field", "words", "at", "powers", "exponents", "shift", "total", "word"] ["field", "words", "at"] (defScope s_value_at) := ⟨rfl, rfl, rfl, by decide +kernel, rfl, by decide +kernel, by decide +kernel⟩
abbrev s_all_products : Stmt := topS 21
theorem sc_all_products : FnScope ["field", "one", "other", "total", "shift", "factor", "at", "word"] ["field", "one", "other"] (defScope s_all_products) := ⟨rfl, rfl, rfl, by decide +kernel, rfl, by decide +kernel, by decide +kernel⟩
abbrev s_long_division : Stmt := topS 22
theorem sc_long_division : FnScope ["field", "words", "other", "rest", "steps", "shift", "at", "word"] ["field", "words", "other"] (defScope s_long_division) := ⟨rfl, rfl, rfl, by decide +kernel, rfl, by decide +kernel, by decide +kernel⟩
abbrev s_value : Stmt := topS 23
theorem sc_value : FnScope ["bits", "words", "at"] ["bits", "words", "at"] (defScope s_value) := ⟨rfl, rfl, rfl, by decide +kernel, rfl, by decide +kernel, by decide +kernel⟩
abbrev s_poly_product : Stmt := topS 24
theorem sc_poly_product : FnScope ["bits", "one", "other"] ["bits", "one", "other"] (defScope s_poly_product) := ⟨rfl, rfl, rfl, by decide +kernel, rfl, by decide +kernel, by decide +kernel⟩
abbrev s_divided : Stmt := topS 25
theorem sc_divided : FnScope ["bits", "words", "other"] ["bits", "words", "other"] (defScope s_divided) := ⟨rfl, rfl, rfl, by decide +kernel, rfl, by decide +kernel, by decide +kernel⟩
abbrev s__law_draw : Stmt := topS 27
theorem sc__law_draw : FnScope ["_law_well", "_law_many", "_law_found", "_law_number"] ["_law_well", "_law_many"] (defScope s__law_draw) := ⟨rfl, rfl, rfl, by decide +kernel, rfl, by decide +kernel, by decide +kernel⟩
abbrev s__law_one : Stmt := topS 28
theorem sc__law_one : FnScope ["_law_well", "_law_some"] ["_law_well", "_law_some"] (defScope s__law_one) := ⟨rfl, rfl, rfl, by decide +kernel, rfl, by decide +kernel, by decide +kernel⟩
abbrev s__law_doubled : Stmt := topS 29
theorem sc__law_doubled : FnScope ["_law_wide", "_law_one_so", "_law_tail"] ["_law_wide", "_law_one_so"] (defScope s__law_doubled) := ⟨rfl, rfl, rfl, by decide +kernel, rfl, by decide +kernel, by decide +kernel⟩
abbrev s__law_product : Stmt := topS 30
theorem sc__law_product : FnScope ["_law_wide", "_law_one_so", "_law_other_so", "_law_found", "_law_factor", "_law_place"] ["_law_wide", "_law_one_so", "_law_other_so"] (defScope s__law_product) := ⟨rfl, rfl, rfl, by decide +kernel, rfl, by decide +kernel, by decide +kernel⟩
abbrev s__law_word : Stmt := topS 33
theorem sc__law_word : FnScope ["_law_well", "_law_wide", "_law_most"] ["_law_well", "_law_wide"] (defScope s__law_word) := ⟨rfl, rfl, rfl, by decide +kernel, rfl, by decide +kernel, by decide +kernel⟩
abbrev s__law_value : Stmt := topS 32
theorem sc__law_value : FnScope ["_law_wide", "_law_words", "_law_at", "_law_found", "_law_factor", "_law_word_here"] ["_law_wide", "_law_words", "_law_at"] (defScope s__law_value) := ⟨rfl, rfl, rfl, by decide +kernel, rfl, by decide +kernel, by decide +kernel⟩
abbrev s__law_row : Stmt := topS 34
theorem sc__law_row : FnScope ["_law_well", "_law_wide", "_law_most", "_law_turn"] ["_law_well", "_law_wide", "_law_most"] (defScope s__law_row) := ⟨rfl, rfl, rfl, by decide +kernel, rfl, by decide +kernel, by decide +kernel⟩
abbrev s__law_times : Stmt := topS 35
theorem sc__law_times : FnScope ["_law_wide", "_law_one_so", "_law_other_so", "_law_found", "_law_place", "_law_word_here", "_law_index", "_law_factor"] ["_law_wide", "_law_one_so", "_law_other_so"] (defScope s__law_times) := ⟨rfl, rfl, rfl, by decide +kernel, rfl, by decide +kernel, by decide +kernel⟩
abbrev s__law_plus : Stmt := topS 36
theorem sc__law_plus : FnScope ["_law_one_so", "_law_other_so", "_law_many", "_law_first", "_law_second", "_law_mine", "_law_its"] ["_law_one_so", "_law_other_so"] (defScope s__law_plus) := ⟨rfl, rfl, rfl, by decide +kernel, rfl, by decide +kernel, by decide +kernel⟩
abbrev s__law_divided_right : Stmt := topS 37
theorem sc__law_divided_right : FnScope ["_law_well", "_law_wide", "_law_some", "_law_other_so", "_law_part", "_law_rest"] ["_law_well", "_law_wide", "_law_some"] (defScope s__law_divided_right) := ⟨rfl, rfl, rfl, by decide +kernel, rfl, by decide +kernel, by decide +kernel⟩
abbrev s__law_long_right : Stmt := topS 38
theorem sc__law_long_right : FnScope ["_law_well", "_law_many", "_law_last", "_law_some", "_law_found", "_law_rest"] ["_law_well"] (defScope s__law_long_right) := ⟨rfl, rfl, rfl, by decide +kernel, rfl, by decide +kernel, by decide +kernel⟩
abbrev s__law_right : Stmt := topS 39
theorem sc__law_right : FnScope ["_law_well", "_law_wide", "_law_some", "_law_more", "_law_points", "_law_at", "_law_rest", "_law_found"] ["_law_well"] (defScope s__law_right) := ⟨rfl, rfl, rfl, by decide +kernel, rfl, by decide +kernel, by decide +kernel⟩
abbrev s_law : Stmt := topS 40
theorem sc_law : FnScope ["_law_script", "_law_k", "_law_cell", "_law_well"] ["_law_script"] (defScope s_law) := ⟨rfl, rfl, rfl, by decide +kernel, rfl, by decide +kernel, by decide +kernel⟩
structure Txt (K : PySem.W.Frag) (mg : Str → Option Value) where
  f_is_number : Addr
  d_is_number : FuncData
  F_is_number : Fun K "is_number" "is_number" s_is_number f_is_number d_is_number
  g_is_number : mg "is_number" = some (.ref f_is_number)
  b_is_number : Binds K d_is_number ["thing"] []
  f_is_number_to : Addr
  d_is_number_to : FuncData
  F_is_number_to : Fun K "is_number_to" "is_number_to" s_is_number_to f_is_number_to d_is_number_to
  g_is_number_to : mg "is_number_to" = some (.ref f_is_number_to)
  b_is_number_to : Binds K d_is_number_to ["thing", "least", "most"] []
  f_is_word : Addr
  d_is_word : FuncData
  F_is_word : Fun K "is_word" "is_word" s_is_word f_is_word d_is_word
  g_is_word : mg "is_word" = some (.ref f_is_word)
  b_is_word : Binds K d_is_word ["bits", "thing"] []
  f_need_field : Addr
  d_need_field : FuncData
  F_need_field : Fun K "need_field" "need_field" s_need_field f_need_field d_need_field
  g_need_field : mg "need_field" = some (.ref f_need_field)
  b_need_field : Binds K d_need_field ["bits"] []
  f_need_word : Addr
  d_need_word : FuncData
  F_need_word : Fun K "need_word" "need_word" s_need_word f_need_word d_need_word
  g_need_word : mg "need_word" = some (.ref f_need_word)
  b_need_word : Binds K d_need_word ["bits", "part", "thing"] []
  f_is_row : Addr
  d_is_row : FuncData
  F_is_row : Fun K "is_row" "is_row" s_is_row f_is_row d_is_row
  g_is_row : mg "is_row" = some (.ref f_is_row)
  b_is_row : Binds K d_is_row ["thing"] []
  f_are_plain_words : Addr
  d_are_plain_words : FuncData
  F_are_plain_words : Fun K "are_plain_words" "are_plain_words" s_are_plain_words f_are_plain_words d_are_plain_words
  g_are_plain_words : mg "are_plain_words" = some (.ref f_are_plain_words)
  b_are_plain_words : Binds K d_are_plain_words ["bits", "things"] []
  f_need_words : Addr
  d_need_words : FuncData
  F_need_words : Fun K "need_words" "need_words" s_need_words f_need_words d_need_words
  g_need_words : mg "need_words" = some (.ref f_need_words)
  b_need_words : Binds K d_need_words ["bits", "part", "words"] []
  f_need_polynomial : Addr
  d_need_polynomial : FuncData
  F_need_polynomial : Fun K "need_polynomial" "need_polynomial" s_need_polynomial f_need_polynomial d_need_polynomial
  g_need_polynomial : mg "need_polynomial" = some (.ref f_need_polynomial)
  b_need_polynomial : Binds K d_need_polynomial ["bits", "part", "words"] []
  f_Field___init__ : Addr
  d_Field___init__ : FuncData
  F_Field___init__ : Fun K "__init__" "Field.__init__" s_Field___init__ f_Field___init__ d_Field___init__
  b_Field___init__ : Binds K d_Field___init__ ["self", "bits"] []
  f_Field_times : Addr
  d_Field_times : FuncData
  F_Field_times : Fun K "times" "Field.times" s_Field_times f_Field_times d_Field_times
  b_Field_times : Binds K d_Field_times ["self", "one", "other"] []
  f_Field_over : Addr
  d_Field_over : FuncData
  F_Field_over : Fun K "over" "Field.over" s_Field_over f_Field_over d_Field_over
  b_Field_over : Binds K d_Field_over ["self", "one", "other"] []
  f_Field_multiple : Addr
  d_Field_multiple : FuncData
  F_Field_multiple : Fun K "multiple" "Field.multiple" s_Field_multiple f_Field_multiple d_Field_multiple
  b_Field_multiple : Binds K d_Field_multiple ["self", "words", "factor"] []
  f_value_at : Addr
  d_value_at : FuncData
  F_value_at : Fun K "value_at" "value_at" s_value_at f_value_at d_value_at
  g_value_at : mg "value_at" = some (.ref f_value_at)
  b_value_at : Binds K d_value_at ["field", "words", "at"] []
  f_all_products : Addr
  d_all_products : FuncData
  F_all_products : Fun K "all_products" "all_products" s_all_products f_all_products d_all_products
  g_all_products : mg "all_products" = some (.ref f_all_products)
  b_all_products : Binds K d_all_products ["field", "one", "other"] []
  f_long_division : Addr
  d_long_division : FuncData
  F_long_division : Fun K "long_division" "long_division" s_long_division f_long_division d_long_division
  g_long_division : mg "long_division" = some (.ref f_long_division)
  b_long_division : Binds K d_long_division ["field", "words", "other"] []
  f_value : Addr
  d_value : FuncData
  F_value : Fun K "value" "value" s_value f_value d_value
  g_value : mg "value" = some (.ref f_value)
  b_value : Binds K d_value ["bits", "words", "at"] []
  f_poly_product : Addr
  d_poly_product : FuncData
  F_poly_product : Fun K "poly_product" "poly_product" s_poly_product f_poly_product d_poly_product
  g_poly_product : mg "poly_product" = some (.ref f_poly_product)
  b_poly_product : Binds K d_poly_product ["bits", "one", "other"] []
  f_divided : Addr
  d_divided : FuncData
  F_divided : Fun K "divided" "divided" s_divided f_divided d_divided
  g_divided : mg "divided" = some (.ref f_divided)
  b_divided : Binds K d_divided ["bits", "words", "other"] []
  f__law_draw : Addr
  d__law_draw : FuncData
  F__law_draw : Fun K "_law_draw" "_law_draw" s__law_draw f__law_draw d__law_draw
  g__law_draw : mg "_law_draw" = some (.ref f__law_draw)
  b__law_draw : Binds K d__law_draw ["_law_well", "_law_many"] []
  f__law_one : Addr
  d__law_one : FuncData
  F__law_one : Fun K "_law_one" "_law_one" s__law_one f__law_one d__law_one
  g__law_one : mg "_law_one" = some (.ref f__law_one)
  b__law_one : Binds K d__law_one ["_law_well", "_law_some"] []
  f__law_doubled : Addr
  d__law_doubled : FuncData
  F__law_doubled : Fun K "_law_doubled" "_law_doubled" s__law_doubled f__law_doubled d__law_doubled
  g__law_doubled : mg "_law_doubled" = some (.ref f__law_doubled)
  b__law_doubled : Binds K d__law_doubled ["_law_wide", "_law_one_so"] []
  f__law_product : Addr
  d__law_product : FuncData
  F__law_product : Fun K "_law_product" "_law_product" s__law_product f__law_product d__law_product
  g__law_product : mg "_law_product" = some (.ref f__law_product)
  b__law_product : Binds K d__law_product ["_law_wide", "_law_one_so", "_law_other_so"] []
  f__law_word : Addr
  d__law_word : FuncData
  F__law_word : Fun K "_law_word" "_law_word" s__law_word f__law_word d__law_word
  g__law_word : mg "_law_word" = some (.ref f__law_word)
  b__law_word : Binds K d__law_word ["_law_well", "_law_wide"] []
  f__law_value : Addr
  d__law_value : FuncData
  F__law_value : Fun K "_law_value" "_law_value" s__law_value f__law_value d__law_value
  g__law_value : mg "_law_value" = some (.ref f__law_value)
  b__law_value : Binds K d__law_value ["_law_wide", "_law_words", "_law_at"] []
  f__law_row : Addr
  d__law_row : FuncData
  F__law_row : Fun K "_law_row" "_law_row" s__law_row f__law_row d__law_row
  g__law_row : mg "_law_row" = some (.ref f__law_row)
  b__law_row : Binds K d__law_row ["_law_well", "_law_wide", "_law_most"] []
  f__law_times : Addr
  d__law_times : FuncData
  F__law_times : Fun K "_law_times" "_law_times" s__law_times f__law_times d__law_times
  g__law_times : mg "_law_times" = some (.ref f__law_times)
  b__law_times : Binds K d__law_times ["_law_wide", "_law_one_so", "_law_other_so"] []
  f__law_plus : Addr
  d__law_plus : FuncData
  F__law_plus : Fun K "_law_plus" "_law_plus" s__law_plus f__law_plus d__law_plus
  g__law_plus : mg "_law_plus" = some (.ref f__law_plus)
  b__law_plus : Binds K d__law_plus ["_law_one_so", "_law_other_so"] []
  f__law_divided_right : Addr
  d__law_divided_right : FuncData
  F__law_divided_right : Fun K "_law_divided_right" "_law_divided_right" s__law_divided_right f__law_divided_right d__law_divided_right
  g__law_divided_right : mg "_law_divided_right" = some (.ref f__law_divided_right)
  b__law_divided_right : Binds K d__law_divided_right ["_law_well", "_law_wide", "_law_some"] []
  f__law_long_right : Addr
  d__law_long_right : FuncData
  F__law_long_right : Fun K "_law_long_right" "_law_long_right" s__law_long_right f__law_long_right d__law_long_right
  g__law_long_right : mg "_law_long_right" = some (.ref f__law_long_right)
  b__law_long_right : Binds K d__law_long_right ["_law_well"] []
  f__law_right : Addr
  d__law_right : FuncData
  F__law_right : Fun K "_law_right" "_law_right" s__law_right f__law_right d__law_right
  g__law_right : mg "_law_right" = some (.ref f__law_right)
  b__law_right : Binds K d__law_right ["_law_well"] []
  f_law : Addr
  d_law : FuncData
  F_law : Fun K "law" "law" s_law f_law d_law
  g_law : mg "law" = some (.ref f_law)
  b_law : Binds K d_law ["_law_script"] []
  C_Field : Addr
  g_Field : mg "Field" = some (.ref C_Field)
  cl_Field : Cls K C_Field
  m_Field___init__ : Meth K C_Field "__init__" f_Field___init__
  m_Field_times : Meth K C_Field "times" f_Field_times
  m_Field_over : Meth K C_Field "over" f_Field_over
  m_Field_multiple : Meth K C_Field "multiple" f_Field_multiple
  mk_Field : Mk K C_Field f_Field___init__
  a_Field_bits : NoAttr K C_Field "bits"
  a_Field_span : NoAttr K C_Field "span"
  a_Field_turn : NoAttr K C_Field "turn"
  a_Field_powers : NoAttr K C_Field "powers"
  a_Field_exponents : NoAttr K C_Field "exponents"
  n_bool : mg "bool" = none
  n_enumerate : mg "enumerate" = none
  n_int : mg "int" = none
  n_isinstance : mg "isinstance" = none
  n_len : mg "len" = none
  n_list : mg "list" = none
  n_max : mg "max" = none
  n_range : mg "range" = none
  n_reversed : mg "reversed" = none
  n_tuple : mg "tuple" = none
  n_type : mg "type" = none
  n_zip : mg "zip" = none
  c_EXPONENTS0 : Addr
  t_EXPONENTS0 : tupB K c_EXPONENTS0 [0, 0, 1, 12, 2, 9, 13, 7, 3, 4, 10, 5, 14, 11, 8, 6] = true
  c_EXPONENTS1 : Addr
  t_EXPONENTS1 : tupB K c_EXPONENTS1 [0, 0, 1, 231, 2, 207, 232, 59, 3, 35, 208, 154, 233, 20, 60, 183, 4, 159, 36, 66, 209, 118, 155, 251, 234, 245, 21, 11, 61, 130, 184, 146, 5, 122, 160, 79, 37, 113, 67, 106, 210, 224, 119, 221, 156, 242, 252, 32, 235, 213, 246, 135, 22, 42, 12, 140, 62, 227, 131, 75, 185, 191, 147, 94, 6, 70, 123, 195, 161, 53, 80, 167, 38, 109, 114, 203, 68, 51, 107, 49, 211, 40, 225, 189, 120, 111, 222, 240, 157, 116, 243, 128, 253, 205, 33, 18, 236, 163, 214, 98, 247, 55, 136, 102, 23, 82, 43, 177, 13, 169, 141, 89, 63, 8, 228, 151, 132, 72, 76, 218, 186, 125, 192, 200, 148, 197, 95, 174, 7, 150, 71, 217, 124, 199, 196, 173, 162, 97, 54, 101, 81, 176, 168, 88, 39, 188, 110, 239, 115, 127, 204, 17, 69, 194, 52, 166, 108, 202, 50, 48, 212, 134, 41, 139, 226, 74, 190, 93, 121, 78, 112, 105, 223, 220, 241, 31, 158, 65, 117, 250, 244, 10, 129, 145, 254, 230, 206, 58, 34, 153, 19, 182, 237, 15, 164, 46, 215, 171, 99, 86, 248, 143, 56, 180, 137, 91, 103, 29, 24, 25, 83, 26, 44, 84, 178, 27, 14, 45, 170, 85, 142, 179, 90, 28, 64, 249, 9, 144, 229, 57, 152, 181, 133, 138, 73, 92, 77, 104, 219, 30, 187, 238, 126, 16, 193, 165, 201, 47, 149, 216, 198, 172, 96, 100, 175, 87] = true
  a_EXPONENTS : Addr
  g_EXPONENTS : mg "EXPONENTS" = some (.ref a_EXPONENTS)
  l_EXPONENTS : KRef K a_EXPONENTS [(4, c_EXPONENTS0), (8, c_EXPONENTS1)]
  c_POWERS0 : Addr
  t_POWERS0 : tupB K c_POWERS0 [1, 2, 4, 8, 9, 11, 15, 7, 14, 5, 10, 13, 3, 6, 12] = true
  c_POWERS1 : Addr
  t_POWERS1 : tupB K c_POWERS1 [1, 2, 4, 8, 16, 32, 64, 128, 113, 226, 181, 27, 54, 108, 216, 193, 243, 151, 95, 190, 13, 26, 52, 104, 208, 209, 211, 215, 223, 207, 239, 175, 47, 94, 188, 9, 18, 36, 72, 144, 81, 162, 53, 106, 212, 217, 195, 247, 159, 79, 158, 77, 154, 69, 138, 101, 202, 229, 187, 7, 14, 28, 56, 112, 224, 177, 19, 38, 76, 152, 65, 130, 117, 234, 165, 59, 118, 236, 169, 35, 70, 140, 105, 210, 213, 219, 199, 255, 143, 111, 222, 205, 235, 167, 63, 126, 252, 137, 99, 198, 253, 139, 103, 206, 237, 171, 39, 78, 156, 73, 146, 85, 170, 37, 74, 148, 89, 178, 21, 42, 84, 168, 33, 66, 132, 121, 242, 149, 91, 182, 29, 58, 116, 232, 161, 51, 102, 204, 233, 163, 55, 110, 220, 201, 227, 183, 31, 62, 124, 248, 129, 115, 230, 189, 11, 22, 44, 88, 176, 17, 34, 68, 136, 97, 194, 245, 155, 71, 142, 109, 218, 197, 251, 135, 127, 254, 141, 107, 214, 221, 203, 231, 191, 15, 30, 60, 120, 240, 145, 83, 166, 61, 122, 244, 153, 67, 134, 125, 250, 133, 123, 246, 157, 75, 150, 93, 186, 5, 10, 20, 40, 80, 160, 49, 98, 196, 249, 131, 119, 238, 173, 43, 86, 172, 41, 82, 164, 57, 114, 228, 185, 3, 6, 12, 24, 48, 96, 192, 241, 147, 87, 174, 45, 90, 180, 25, 50, 100, 200, 225, 179, 23, 46, 92, 184] = true
  a_POWERS : Addr
  g_POWERS : mg "POWERS" = some (.ref a_POWERS)
  l_POWERS : KRef K a_POWERS [(4, c_POWERS0), (8, c_POWERS1)]
  a_SPANS : Addr
  g_SPANS : mg "SPANS" = some (.ref a_SPANS)
  l_SPANS : KInt K a_SPANS [(4, 16), (8, 256)]
theorem getI_span {b : Nat} (hb : Wd b) : getI (b : Int) [(4, 16), (8, 256)] = some (span b : Int) := by rcases hb with rfl | rfl <;> rfl
theorem span_eq {b : Nat} (hb : Wd b) : span b = turn b + 1 := by rcases hb with rfl | rfl <;> rfl
theorem span_small {b : Nat} (hb : Wd b) : span b ≤ 256 := by rcases hb with rfl | rfl <;> decide
section
variable {P : Program} {w : World} {K : PySem.W.Frag} {mg : Str → Option Value} {base : Heap}
/-! ### the program's defs -/
def sp_is_number : Sp := fun vs H Q _ => ∃ i : Int, vs = [.int i] ∧ Q (.bl true) H
theorem ok_is_number (T : Txt K mg) : FnOk P w K mg base CX0 1 T.f_is_number T.d_is_number ["thing"] sp_is_number := by
  refine T.F_is_number.ok sc_is_number (fun vs H Q E h => ?_) (fun cdv A outer s H vs Q E hr h => ?_)
  · obtain ⟨i, rfl, _⟩ := h
    rfl
  · obtain ⟨i, rfl, q⟩ := h
    refine ⟨_, (pss_one (ps_ret (pe_and (pe_callB call_isi (by rfl) T.n_isinstance (by decide +kernel) (pa_cons (pv 0) (pa_cons (pe_bltn (v := .ty "int") (by rfl) T.n_int (by decide +kernel) rfl) pa_nil))) (pe_one (pe_not (pe_callB call_isi (by rfl) T.n_isinstance (by decide +kernel) (pa_cons (pv 0) (pa_cons (pe_bltn (v := .ty "bool") (by rfl) T.n_bool (by decide +kernel) rfl) pa_nil)))))))), ?_⟩
    refine ⟨_, rfl, .int i, .ty "int", .type "int", .type "int", true, rfl, .ty _, .base (.int i), kit_ty (by decide +kernel), true, rfl, ?_⟩
    exact ⟨_, rfl, .int i, .ty "bool", .type "int", .type "bool", false, rfl, .ty _, .base (.int i), kit_ty (by decide +kernel), _, rfl, q⟩
def sp_is_number_to : Sp := fun vs H Q _ => ∃ i l m : Int, vs = [.int i, .int l, .int m] ∧ Q (.bl (decide (l ≤ i) && decide (i ≤ m))) H
theorem ok_is_number_to (T : Txt K mg) : FnOk P w K mg base CX0 2 T.f_is_number_to T.d_is_number_to ["thing", "least", "most"] sp_is_number_to := by
  refine T.F_is_number_to.ok sc_is_number_to (fun vs H Q E h => ?_) (fun cdv A outer s H vs Q E hr h => ?_)
  · obtain ⟨i, l, m, rfl, _⟩ := h
    rfl
  · obtain ⟨i, l, m, rfl, q⟩ := h
    refine ⟨_, (pss_one (ps_ret (pe_and (pe_callB call_isi (by rfl) T.n_isinstance (by decide +kernel) (pa_cons (pv 0) (pa_cons (pe_bltn (v := .ty "int") (by rfl) T.n_int (by decide +kernel) rfl) pa_nil))) (pe_and (pe_not (pe_callB call_isi (by rfl) T.n_isinstance (by decide +kernel) (pa_cons (pv 0) (pa_cons (pe_bltn (v := .ty "bool") (by rfl) T.n_bool (by decide +kernel) rfl) pa_nil)))) (pe_one (pe_chain op_le op_le (pv 1) (pv 0) (pv 2))))))), ?_⟩
    refine ⟨_, rfl, .int i, .ty "int", .type "int", .type "int", true, rfl, .ty _, .base (.int i), kit_ty (by decide +kernel), true, rfl, ?_⟩
    refine ⟨_, rfl, .int i, .ty "bool", .type "int", .type "bool", false, rfl, .ty _, .base (.int i), kit_ty (by decide +kernel), _, rfl, true, rfl, ?_⟩
    refine ⟨_, rfl, _, rfl, _, _, rfl, rfl, _, rfl, ?_⟩
    refine ite2 (fun c => ?_) (fun c => ?_)
    · refine ⟨_, rfl, _, _, rfl, rfl, ?_⟩
      rw [show decide (l ≤ i) = true from c, Bool.true_and] at q
      exact q
    · rw [show decide (l ≤ i) = false by simpa using c, Bool.false_and] at q
      exact q
def sp_is_word : Sp := fun vs H Q _ => ∃ b x : Nat, vs = [vN b, vN x] ∧ Wd b ∧ x < span b ∧ Q (.bl true) H
theorem ok_is_word (T : Txt K mg) : FnOk P w K mg base CX0 3 T.f_is_word T.d_is_word ["bits", "thing"] sp_is_word := by
  refine T.F_is_word.ok sc_is_word (fun vs H Q E h => ?_) (fun cdv A outer s H vs Q E hr h => ?_)
  · obtain ⟨b, x, rfl, _⟩ := h
    rfl
  · obtain ⟨b, x, rfl, hb, hx, q⟩ := h
    refine ⟨_, (pss_one (ps_ret (pe_call (ok_is_number_to T) (hr.mono (by decide)) (by rfl) T.g_is_number_to T.F_is_number_to.kp T.b_is_number_to .nil pass0 (pa_cons (pv 1) (pa_cons pe_int (pa_cons (pe_op op_sub (pe_ix (ix_kint T.l_SPANS) (pe_glob (v := .ref T.a_SPANS) (by rfl) T.g_SPANS rfl) (pv 0) (fun _ _ => rfl)) pe_int) pa_nil)))))), ?_⟩
    refine ⟨_, rfl, _, rfl, _, _, rfl, rfl, getI_span hb, _, _, rfl, rfl, _, _, _, rfl, ?_⟩
    have e : (decide ((0 : Int) ≤ (x : Int)) && decide ((x : Int) ≤ (span b : Int) - 1)) = true := by
      simp
      omega
    rw [e]
    exact q
def sp_need_field : Sp := fun vs H Q _ => ∃ b : Nat, vs = [vN b] ∧ Wd b ∧ Q .non H
theorem ok_need_field (T : Txt K mg) : FnOk P w K mg base CX0 2 T.f_need_field T.d_need_field ["bits"] sp_need_field := by
  refine T.F_need_field.ok sc_need_field (fun vs H Q E h => ?_) (fun cdv A outer s H vs Q E hr h => ?_)
  · obtain ⟨b, rfl, _⟩ := h
    rfl
  · obtain ⟨b, rfl, hb, q⟩ := h
    refine ⟨_, (pss_one (ps_if (PW.pt (pw_or (pt_not (pt_val (pe_call (ok_is_number T) (hr.mono (by decide)) (by rfl) T.g_is_number T.F_is_number.kp T.b_is_number .nil pass0 (pa_cons (pv 0) pa_nil)))) (pw_or1 (pt_cmpR (op_notInKI T.l_SPANS) (pv 0) (pe_glob (v := .ref T.a_SPANS) (by rfl) T.g_SPANS rfl) (by rfl))))) (pss_one ps_never) pss_nil)), ?_⟩
    refine ⟨_, rfl, _, rfl, _, rfl, iteF ?_⟩
    refine ⟨_, rfl, _, rfl, rfl, _, rfl, ?_⟩
    rw [getI_span hb]
    exact iteF q
def sp_need_word : Sp := fun vs H Q _ => ∃ (b x : Nat) (p : Str), vs = [vN b, .str p, vN x] ∧ Wd b ∧ x < span b ∧ Q .non H
theorem ok_need_word (T : Txt K mg) : FnOk P w K mg base CX0 4 T.f_need_word T.d_need_word ["bits", "part", "thing"] sp_need_word := by
  refine T.F_need_word.ok sc_need_word (fun vs H Q E h => ?_) (fun cdv A outer s H vs Q E hr h => ?_)
  · obtain ⟨b, x, p, rfl, _⟩ := h
    rfl
  · obtain ⟨b, x, p, rfl, hb, hx, q⟩ := h
    refine ⟨_, (pss_one (ps_if (pt_not (pt_val (pe_call (ok_is_word T) (hr.mono (by decide)) (by rfl) T.g_is_word T.F_is_word.kp T.b_is_word .nil pass0 (pa_cons (pv 0) (pa_cons (pv 2) pa_nil))))) (pss_one ps_never) pss_nil)), ?_⟩
    exact ⟨_, rfl, _, rfl, b, x, rfl, hb, hx, _, rfl, iteF q⟩
def sp_is_row (K : PySem.W.Frag) : Sp := fun vs H Q _ => ∃ (a : Addr) (k : Bool) (xs : List V), vs = [.ref a] ∧ SqB k K H a xs ∧ ∀ H', Same H H' → Q (.bl true) H'
theorem ok_is_row (T : Txt K mg) : FnOk P w K mg base CX0 1 T.f_is_row T.d_is_row ["thing"] (sp_is_row K) := by
  refine T.F_is_row.ok sc_is_row (fun vs H Q E h => ?_) (fun cdv A outer s H vs Q E hr h => ?_)
  · obtain ⟨a, k, xs, rfl, _⟩ := h
    rfl
  · obtain ⟨a, k, xs, rfl, hq, q⟩ := h
    refine ⟨_, (pss_one (ps_ret (pe_callB call_isiT (by rfl) T.n_isinstance (by decide +kernel) (pa_cons (pv 0) (pa_cons (pe_tup (pa_cons (pe_bltn (v := .ty "list") (by rfl) T.n_list (by decide +kernel) rfl) (pa_cons (pe_bltn (v := .ty "tuple") (by rfl) T.n_tuple (by decide +kernel) rfl) pa_nil))) pa_nil))))), ?_⟩
    refine ⟨_, rfl, (by show 2 ≤ sizeLine; decide), fun tp htp => ?_⟩
    have hq2 := Same.sqb (same_upd (o := .tup [.ty "list", .ty "tuple"]) htp) hq
    refine ⟨.ref a, tp, [.ty "list", .ty "tuple"], .type (if k = true then "list" else "tuple"), [.type "list", .type "tuple"], true, rfl, upd_same, .cons (.ty _) (.cons (.ty _) .nil), hq2.ty, ?_, q _ (same_upd htp)⟩
    cases k
    · exact kitAny_cons (kit_ty (r := false) (by decide +kernel)) (fun _ => kitAny_cons (kit_ty (r := true) (by decide +kernel)) (fun z => by cases z) (fun _ => rfl)) (fun z => by cases z)
    · exact kitAny_cons (kit_ty (r := true) (by decide +kernel)) (fun z => by cases z) (fun _ => rfl)
def sp_plain (K : PySem.W.Frag) : Sp := fun vs H Q _ => ∃ (b : Nat) (a : Addr) (k : Bool) (ws : List Nat), vs = [vN b, .ref a] ∧ Wd b ∧ SqB k K H a (ws.map vN) ∧ Ws b ws ∧ ∀ H', Same H H' → Q (.bl true) H'
theorem ok_are_plain_words (T : Txt K mg) : FnOk P w K mg base CX0 1 T.f_are_plain_words T.d_are_plain_words ["bits", "things"] (sp_plain K) := by
  refine T.F_are_plain_words.ok sc_are_plain_words (fun vs H Q E h => ?_) (fun cdv A outer s H vs Q E hr h => ?_)
  · obtain ⟨b, a, k, ws, rfl, _⟩ := h
    rfl
  · obtain ⟨b, a, k, ws, rfl, hb, hq, hw, q⟩ := h
    refine ⟨_, (pss_one (ps_ret (pe_notT (pe_lc (own := [("thing", 2)]) rfl sc_are_plain_words.nd (pi_seq (pv 1)) (blkOk_by (N := ["bits", "things", "thing"]) (sc := defScope s_are_plain_words) (by decide +kernel)) (fun _ _ _ _ _ => by exact (pg_name (i := 2) sc_are_plain_words.nd rfl (.inl rfl))) (fun _ _ _ _ _ => by exact (pts_one (PW.pt (pw_or (pt_cmpR op_isNotTy (pe_callTy RZ.call_type4 (by rfl) T.n_type (by decide +kernel) (pa_cons (pv 2) pa_nil)) (pe_bltn (v := .ty "int") (by rfl) T.n_int (by decide +kernel) rfl) (nomark _)) (pw_or1 (pt_truthK (K := K) rfl (pe_op op_shr (pv 2) (pv 0)) (fun _ => rfl))))))) (fun _ _ _ _ _ => by exact (pv 2)))))), ?_⟩
    refine ⟨_, rfl, a, _, k, rfl, hq, fun D hD => ?_⟩
    refine lc_it (walk_seq (b := k) (K := K) (a := a) (xs := ws.map vN)) (fun i H' => Same H H' ∧ H' D = some (.lst [])) ⟨same_upd hD, upd_same⟩ (fun i H' _ h => Same.sqb h.1 hq) ?_ ?_
    · rintro i v H1 H2 hi ⟨sm, g⟩ ⟨rfl, e2⟩
      rw [List.length_map] at hi
      have ey : v = vN (gd ws i) := by
        rw [List.getElem?_map, gd_in hi] at e2
        exact (Option.some.inj e2).symm
      subst ey
      refine ⟨rfl, ?_⟩
      refine ⟨_, rfl, _, "int", rfl, .int _, "int", "int", rfl, rfl, _, rfl, iteF ?_⟩
      refine ⟨_, rfl, _, rfl, _, _, rfl, rfl, by omega, _, rfl, ?_⟩
      rw [word_shr hb (gd_lt hb hw i)]
      exact iteF ⟨sm, g⟩
    · rintro H1 ⟨sm, g⟩
      exact ⟨_, SqB.truB (b := true) (.inl (.inl g)), q H1 sm⟩
def sp_need_words (K : PySem.W.Frag) : Sp := fun vs H Q _ => ∃ (b : Nat) (p : Str) (a : Addr) (k : Bool) (ws : List Nat), vs = [vN b, .str p, .ref a] ∧ Wd b ∧ SqB k K H a (ws.map vN) ∧ Ws b ws ∧ ∀ H', Same H H' → Q .non H'
theorem ok_need_words (T : Txt K mg) : FnOk P w K mg base CX0 4 T.f_need_words T.d_need_words ["bits", "part", "words"] (sp_need_words K) := by
  refine T.F_need_words.ok sc_need_words (fun vs H Q E h => ?_) (fun cdv A outer s H vs Q E hr h => ?_)
  · obtain ⟨b, p, a, k, ws, rfl, _⟩ := h
    rfl
  · obtain ⟨b, p, a, k, ws, rfl, hb, hq, hw, q⟩ := h
    refine ⟨_, (pss_cons (ps_if (pt_val (pe_call (ok_are_plain_words T) (hr.mono (by decide)) (by rfl) T.g_are_plain_words T.F_are_plain_words.kp T.b_are_plain_words .nil pass0 (pa_cons (pv 0) (pa_cons (pv 2) pa_nil)))) (pss_one ps_retN) pss_nil)
      (pss_one (ps_for PassesOwn.never rfl (pi_enumS (by rfl) T.n_enumerate (pa_cons (pv 2) pa_nil)) (pg_tup rfl (pgs_cons (pg_name (i := 3) sc_need_words.nd rfl (.inl rfl)) (pgs_cons (pg_name (i := 4) sc_need_words.nd rfl (.inl rfl)) pgs_nil))) (pss_one (ps_if (pt_not (pt_val (pe_call (ok_is_word T) (hr.mono (by decide)) (by rfl) T.g_is_word T.F_is_word.kp T.b_is_word .nil pass0 (pa_cons (pv 0) (pa_cons (pv 4) pa_nil))))) (pss_one ps_never) pss_nil))))), ?_⟩
    exact ⟨_, rfl, _, rfl, b, a, k, ws, rfl, hb, hq, hw, fun H1 s1 => ⟨_, rfl, iteT (q H1 s1)⟩⟩
def sp_need_polynomial (K : PySem.W.Frag) : Sp := fun vs H Q _ => ∃ (b : Nat) (p : Str) (a : Addr) (k : Bool) (ws : List Nat), vs = [vN b, .str p, .ref a] ∧ Wd b ∧ SqB k K H a (ws.map vN) ∧ Ws b ws ∧ ∀ H', Same H H' → Q .non H'
theorem ok_need_polynomial (T : Txt K mg) : FnOk P w K mg base CX0 5 T.f_need_polynomial T.d_need_polynomial ["bits", "part", "words"] (sp_need_polynomial K) := by
  refine T.F_need_polynomial.ok sc_need_polynomial (fun vs H Q E h => ?_) (fun cdv A outer s H vs Q E hr h => ?_)
  · obtain ⟨b, p, a, k, ws, rfl, _⟩ := h
    rfl
  · obtain ⟨b, p, a, k, ws, rfl, hb, hq, hw, q⟩ := h
    refine ⟨_, (pss_cons (ps_if (pt_not (pt_val (pe_call (ok_is_row T) (hr.mono (by decide)) (by rfl) T.g_is_row T.F_is_row.kp T.b_is_row .nil pass0 (pa_cons (pv 2) pa_nil)))) (pss_one ps_never) pss_nil)
      (pss_one (ps_expr (pe_call (ok_need_words T) (hr.mono (by decide)) (by rfl) T.g_need_words T.F_need_words.kp T.b_need_words .nil pass0 (pa_cons (pv 0) (pa_cons (pv 1) (pa_cons (pv 2) pa_nil))))))), ?_⟩
    refine ⟨_, rfl, a, k, _, rfl, hq, fun H1 s1 => ⟨_, rfl, iteF ?_⟩⟩
    exact ⟨_, rfl, _, rfl, _, rfl, b, p, a, k, ws, rfl, hb, (Same.sqb s1 hq), hw, fun H2 s2 => q H2 (s1.trans s2)⟩
/-! ### the class Field -/
def fl (b : Nat) (q r : Addr) : List (Str × V) := putF "exponents" (.ref r) (putF "powers" (.ref q) (putF "turn" (vN (turn b)) (putF "span" (vN (span b)) (putF "bits" (vN b) []))))
theorem fl_exponents (b : Nat) (q r : Addr) : (fl b q r).lookup ("exponents" : Str) = some (.ref r) := by
  unfold fl
  rw [lookup_putF, if_pos rfl]
theorem fl_powers (b : Nat) (q r : Addr) : (fl b q r).lookup ("powers" : Str) = some (.ref q) := by
  unfold fl
  rw [lookup_putF, if_neg (by decide +kernel), lookup_putF, if_pos rfl]
theorem fl_turn (b : Nat) (q r : Addr) : (fl b q r).lookup ("turn" : Str) = some (vN (turn b)) := by
  unfold fl
  rw [lookup_putF, if_neg (by decide +kernel), lookup_putF, if_neg (by decide +kernel), lookup_putF, if_pos rfl]
theorem fl_span (b : Nat) (q r : Addr) : (fl b q r).lookup ("span" : Str) = some (vN (span b)) := by
  unfold fl
  rw [lookup_putF, if_neg (by decide +kernel), lookup_putF, if_neg (by decide +kernel), lookup_putF, if_neg (by decide +kernel), lookup_putF, if_pos rfl]
theorem fl_no (b : Nat) (q r : Addr) {m : Str} (h1 : ¬ m = "exponents") (h2 : ¬ m = "powers") (h3 : ¬ m = "turn") (h4 : ¬ m = "span") (h5 : ¬ m = "bits" := by decide +kernel) : (fl b q r).lookup m = none := by
  unfold fl
  rw [lookup_putF, if_neg h1, lookup_putF, if_neg h2, lookup_putF, if_neg h3, lookup_putF, if_neg h4, lookup_putF, if_neg h5]
  rfl
structure FieldAt (K : PySem.W.Frag) (C : Addr) (H : Hp) (p : Addr) (b : Nat) : Prop where
  ex : ∃ dx q r, H p = some (.ins C dx (fl b q r)) ∧ H q = some (.tup (PP b)) ∧ SqT K H r ((tabE b).map V.int)
theorem FieldAt.same {C p : Addr} {H H' : Hp} {b : Nat} (F : FieldAt K C H p b) (s : Same H H') : FieldAt K C H' p b := by
  obtain ⟨dx, q, r, h1, h2, h3⟩ := F.ex
  exact ⟨⟨dx, q, r, s _ _ h1, s _ _ h2, Same.sqt s h3⟩⟩
theorem lg_pw {b i : Nat} (hb : Wd b) (h : i < turn b) : lg b (pw b i) = i := by
  have q : ((List.range (turn b)).all fun i => Nat.beq (lg b (pw b i)) i) = true := by rcases hb with rfl | rfl <;> decide +kernel
  exact Nat.eq_of_beq_eq_true (List.all_eq_true.mp q i (List.mem_range.mpr h))
theorem ixN_nat {n j : Nat} (h : j < n) : ixN n (j : Int) = some j := by
  unfold ixN
  rw [if_pos (by omega), if_pos (by omega), Int.toNat_natCast]
def expA (T : Txt K mg) (b : Nat) : Addr := cond (Nat.beq b 4) T.c_EXPONENTS0 T.c_EXPONENTS1
theorem tab_of (T : Txt K mg) {b : Nat} (hb : Wd b) : getA (b : Int) [(4, T.c_EXPONENTS0), (8, T.c_EXPONENTS1)] = some (expA T b) ∧ ∀ H, SqT K H (expA T b) ((tabE b).map V.int) := by
  rcases hb with rfl | rfl
  · exact ⟨rfl, fun H => tupB_ok (xs := E4) T.t_EXPONENTS0⟩
  · exact ⟨rfl, fun H => tupB_ok (xs := E8) T.t_EXPONENTS1⟩
def powA (T : Txt K mg) (b : Nat) : Addr := cond (Nat.beq b 4) T.c_POWERS0 T.c_POWERS1
theorem pow_of (T : Txt K mg) {b : Nat} (hb : Wd b) : getA (b : Int) [(4, T.c_POWERS0), (8, T.c_POWERS1)] = some (powA T b) ∧ ∀ H, SqT K H (powA T b) ((tabP b).map V.int) := by
  rcases hb with rfl | rfl
  · exact ⟨rfl, fun H => tupB_ok (xs := P4) T.t_POWERS0⟩
  · exact ⟨rfl, fun H => tupB_ok (xs := P8) T.t_POWERS1⟩
def sp_init (K : PySem.W.Frag) (C : Addr) : Sp := fun vs H Q _ => ∃ (p dx : Addr) (b : Nat), vs = [.ref p, vN b] ∧ Wd b ∧ H p = some (.ins C dx []) ∧ ∀ H', (∀ c o, H c = some o → c ≠ p → H' c = some o) → FieldAt K C H' p b → Q .non H'
theorem ok_Field___init__ (T : Txt K mg) : FnOk P w K mg base CX0 3 T.f_Field___init__ T.d_Field___init__ ["self", "bits"] (sp_init K T.C_Field) := by
  refine T.F_Field___init__.ok sc_Field___init__ (fun vs H Q E h => ?_) (fun cdv A outer s H vs Q E hr h => ?_)
  · obtain ⟨p, dx, b, rfl, _⟩ := h
    rfl
  · obtain ⟨p, dx, b, rfl, hb, hp, q⟩ := h
    refine ⟨_, (pss_cons (ps_fld (pv 0) (pv 1) rfl)
      (pss_cons (ps_fld (pv 0) (pe_ix (ix_kint T.l_SPANS) (pe_glob (v := .ref T.a_SPANS) (by rfl) T.g_SPANS rfl) (pv 1) (fun _ _ => rfl)) rfl)
      (pss_cons (ps_fld (pv 0) (pe_op op_sub (pe_fld (pv 0) rfl) pe_int) rfl)
      (pss_cons (ps_fld (pv 0) (pe_op op_repT (pe_ix (ix_kref T.l_POWERS) (pe_glob (v := .ref T.a_POWERS) (by rfl) T.g_POWERS rfl) (pv 1) (fun _ _ => rfl)) pe_int) rfl)
      (pss_one (ps_fld (pv 0) (pe_ix (ix_kref T.l_EXPONENTS) (pe_glob (v := .ref T.a_EXPONENTS) (by rfl) T.g_EXPONENTS rfl) (pv 1) (fun _ _ => rfl)) rfl)))))), ?_⟩
    have hcl := T.cl_Field
    have hse := span_eq hb
    refine ⟨_, rfl, _, rfl, p, T.C_Field, dx, _, rfl, hp, hcl, T.a_Field_bits, (by show 0 < 1000; decide), ?_⟩
    refine ⟨_, rfl, _, _, rfl, rfl, getI_span hb, _, rfl, p, T.C_Field, dx, _, rfl, upd_same, hcl, T.a_Field_span, (by show 1 < 1000; decide), ?_⟩
    refine ⟨_, rfl, p, T.C_Field, dx, _, _, rfl, upd_same, hcl, T.a_Field_span, (by rw [lookup_putF, if_pos rfl]), _, _, rfl, rfl, _, rfl, p, T.C_Field, dx, _, rfl, upd_same, hcl, T.a_Field_turn, (by show 2 < 1000; decide), ?_⟩
    refine ⟨_, rfl, _, _, rfl, rfl, (pow_of T hb).1, _, 2, _, rfl, rfl, (pow_of T hb).2 _, (tabP_small hb).2, by decide, by decide, (tabP_small hb).1, fun q1 hq1 => ?_⟩
    have npq : p ≠ q1 := ne_of_none upd_same hq1
    refine ⟨_, rfl, p, T.C_Field, dx, _, rfl, by rw [upd_ne npq]; exact upd_same, hcl, T.a_Field_powers, (by show 3 < 1000; decide), ?_⟩
    refine ⟨_, rfl, _, _, rfl, rfl, (tab_of T hb).1, _, rfl, p, T.C_Field, dx, _, rfl, upd_same, hcl, T.a_Field_exponents, (by show 4 < 1000; decide), ?_⟩
    refine q _ (fun c o hc hcp => ?_) ⟨⟨dx, q1, expA T b, ?_, ?_, (tab_of T hb).2 _⟩⟩
    · have hcq : c ≠ q1 := ne_of_none (by rw [upd_ne hcp, upd_ne hcp, upd_ne hcp]; exact hc) hq1
      rw [upd_ne hcp, upd_ne hcp, upd_ne hcq, upd_ne hcp, upd_ne hcp, upd_ne hcp]
      exact hc
    · rw [upd_same]
      unfold fl
      rw [show vN (turn b) = V.int ((span b : Int) - 1) from congrArg V.int (by omega)]
      rfl
    · rw [upd_ne npq.symm, upd_ne npq.symm, upd_same]
      rfl
def sp_times (K : PySem.W.Frag) (C : Addr) : Sp := fun vs H Q _ => ∃ (p : Addr) (b x y : Nat), vs = [.ref p, vN x, vN y] ∧ Wd b ∧ FieldAt K C H p b ∧ x < span b ∧ y < span b ∧ Q (vN (mul b x y)) H
theorem ok_Field_times (T : Txt K mg) : FnOk P w K mg base CX0 1 T.f_Field_times T.d_Field_times ["self", "one", "other"] (sp_times K T.C_Field) := by
  refine T.F_Field_times.ok sc_Field_times (fun vs H Q E h => ?_) (fun cdv A outer s H vs Q E hr h => ?_)
  · obtain ⟨p, b, x, y, rfl, _⟩ := h
    rfl
  · obtain ⟨p, b, x, y, rfl, hb, hF, hx, hy, q⟩ := h
    obtain ⟨dx, q1, r, g1, g2, g3⟩ := hF.ex
    refine ⟨_, (pss_cons (ps_if (PW.pt (pw_or (pt_cmpR op_eq (pv 1) pe_int (nomark _)) (pw_or1 (pt_cmpR op_eq (pv 2) pe_int (nomark _))))) (pss_one (ps_ret pe_int)) pss_nil)
      (pss_one (ps_ret (pe_ix ix_rowB (pe_fld (pv 0) rfl) (pe_op op_add (pe_ix ix_rowB (pe_fld (pv 0) rfl) (pv 1) (fun _ _ => rfl)) (pe_ix ix_rowB (pe_fld (pv 0) rfl) (pv 2) (fun _ _ => rfl))) (fun _ _ => rfl))))), ?_⟩
    have hcl := T.cl_Field
    refine ⟨_, rfl, rfl, _, rfl, ?_⟩
    refine ite2 (fun c => ?_) (fun c => ?_)
    · have e : x = 0 := by have := V.int.inj (of_decide_eq_true c); omega
      subst e
      rw [zero_mul hb] at q
      exact q
    · have h0 : x ≠ 0 := fun z => c (by rw [z]; rfl)
      refine ⟨_, rfl, rfl, _, rfl, ?_⟩
      refine ite2 (fun c2 => ?_) (fun c2 => ?_)
      · have e : y = 0 := by have := V.int.inj (of_decide_eq_true c2); omega
        subst e
        rw [mul_zero] at q
        exact q
      · have h1 : y ≠ 0 := fun z => c2 (by rw [z]; rfl)
        refine ⟨_, rfl, p, _, dx, _, _, rfl, g1, hcl, T.a_Field_powers, fl_powers b q1 r, ?_⟩
        refine ⟨_, rfl, p, _, dx, _, _, rfl, g1, hcl, T.a_Field_exponents, fl_exponents b q1 r, _, rfl, r, _, _, _, false, rfl, rfl, g3, atI_nat (by rw [List.getElem?_map, tabE_at hb hx h0]; rfl), ?_⟩
        refine ⟨_, rfl, p, _, dx, _, _, rfl, g1, hcl, T.a_Field_exponents, fl_exponents b q1 r, _, rfl, r, _, _, _, false, rfl, rfl, g3, atI_nat (by rw [List.getElem?_map, tabE_at hb hy h1]; rfl), _, _, rfl, rfl, ?_⟩
        exact ⟨q1, _, _, _, false, rfl, rfl, .tup g2, sum_at hb hx hy h0 h1, q⟩
def sp_over (K : PySem.W.Frag) (C : Addr) : Sp := fun vs H Q _ => ∃ (p : Addr) (b x y : Nat), vs = [.ref p, vN x, vN y] ∧ Wd b ∧ FieldAt K C H p b ∧ x < span b ∧ y < span b ∧ y ≠ 0 ∧ Q (vN (quo b x y)) H
theorem ok_Field_over (T : Txt K mg) : FnOk P w K mg base CX0 1 T.f_Field_over T.d_Field_over ["self", "one", "other"] (sp_over K T.C_Field) := by
  refine T.F_Field_over.ok sc_Field_over (fun vs H Q E h => ?_) (fun cdv A outer s H vs Q E hr h => ?_)
  · obtain ⟨p, b, x, y, rfl, _⟩ := h
    rfl
  · obtain ⟨p, b, x, y, rfl, hb, hF, hx, hy, h1, q⟩ := h
    obtain ⟨dx, q1, r, g1, g2, g3⟩ := hF.ex
    refine ⟨_, (pss_cons (ps_if (pt_cmpR op_eq (pv 1) pe_int (nomark _)) (pss_one (ps_ret pe_int)) pss_nil)
      (pss_one (ps_ret (pe_ix ix_rowB (pe_fld (pv 0) rfl) (pe_op op_add (pe_op op_sub (pe_ix ix_rowB (pe_fld (pv 0) rfl) (pv 1) (fun _ _ => rfl)) (pe_ix ix_rowB (pe_fld (pv 0) rfl) (pv 2) (fun _ _ => rfl))) (pe_fld (pv 0) rfl)) (fun _ _ => rfl))))), ?_⟩
    have hcl := T.cl_Field
    refine ⟨_, rfl, rfl, _, rfl, ?_⟩
    refine ite2 (fun c => ?_) (fun c => ?_)
    · have e : x = 0 := by have := V.int.inj (of_decide_eq_true c); omega
      subst e
      have e2 : quo b 0 y = 0 := zero_mul hb
      rw [e2] at q
      exact q
    · have h0 : x ≠ 0 := fun z => c (by rw [z]; rfl)
      refine ⟨_, rfl, p, _, dx, _, _, rfl, g1, hcl, T.a_Field_powers, fl_powers b q1 r, ?_⟩
      refine ⟨_, rfl, p, _, dx, _, _, rfl, g1, hcl, T.a_Field_exponents, fl_exponents b q1 r, _, rfl, r, _, _, _, false, rfl, rfl, g3, atI_nat (by rw [List.getElem?_map, tabE_at hb hx h0]; rfl), ?_⟩
      refine ⟨_, rfl, p, _, dx, _, _, rfl, g1, hcl, T.a_Field_exponents, fl_exponents b q1 r, _, rfl, r, _, _, _, false, rfl, rfl, g3, atI_nat (by rw [List.getElem?_map, tabE_at hb hy h1]; rfl), _, _, rfl, rfl, ?_⟩
      exact ⟨_, rfl, p, _, dx, _, _, rfl, g1, hcl, T.a_Field_turn, fl_turn b q1 r, _, _, rfl, rfl, q1, _, _, _, false, rfl, rfl, .tup g2, diff_at hb hx hy h0 h1, q⟩
def sp_multiple (K : PySem.W.Frag) (C : Addr) : Sp := fun vs H Q _ => ∃ (p a : Addr) (k : Bool) (b y : Nat) (ws : List Nat), vs = [.ref p, .ref a, vN y] ∧ Wd b ∧ FieldAt K C H p b ∧ SqB k K H a (ws.map vN) ∧ Ws b ws ∧ y < span b ∧ ws.length ≤ 1000 ∧
  ∀ l H', Same H H' → H l = none → H' l = some (.lst ((ws.map fun x => mul b x y).map vN)) → Q (.ref l) H'
theorem flat_nought (n : Nat) : (List.replicate n [V.int 0]).flatten = List.replicate n (vN 0) := by
  induction n with
  | zero => rfl
  | succ n ih =>
    rw [List.replicate_succ, List.flatten_cons, ih, List.replicate_succ]
    rfl
theorem ok_Field_multiple (T : Txt K mg) : FnOk P w K mg base CX0 1 T.f_Field_multiple T.d_Field_multiple ["self", "words", "factor"] (sp_multiple K T.C_Field) := by
  refine T.F_Field_multiple.ok sc_Field_multiple (fun vs H Q E h => ?_) (fun cdv A outer s H vs Q E hr h => ?_)
  · obtain ⟨p, a, k, b, y, ws, rfl, _⟩ := h
    rfl
  · obtain ⟨p, a, k, b, y, ws, rfl, hb, hF, hq, hw, hy, hl, q⟩ := h
    obtain ⟨dx, q1, r, g1, g2, g3⟩ := hF.ex
    refine ⟨_, (pss_cons (ps_if (pt_cmpR op_eq (pv 2) pe_int (nomark _)) (pss_one (ps_ret (pe_op op_rep (pe_lst (pa_cons pe_int pa_nil)) (pe_callB call_len_seq (by rfl) T.n_len (by decide +kernel) (pa_cons (pv 1) pa_nil))))) pss_nil)
      (pss_cons (ps_set (i := 3) sc_Field_multiple.nd rfl (.inr rfl) (pe_fld (pv 0) rfl))
      (pss_cons (ps_set (i := 4) sc_Field_multiple.nd rfl (.inr rfl) (pe_fld (pv 0) rfl))
      (pss_cons (ps_set (i := 5) sc_Field_multiple.nd rfl (.inr rfl) (pe_ix ix_rowB (pv 4) (pv 2) (fun _ _ => rfl)))
      (pss_one (ps_ret (pe_lc (own := [("word", 6)]) rfl sc_Field_multiple.nd (pi_seq (pv 1)) (blkOk_by (N := ["self", "words", "factor", "powers", "exponents", "shift", "word"]) (sc := defScope s_Field_multiple) (by decide +kernel)) (fun _ _ _ _ _ => by exact (pg_name (i := 6) sc_Field_multiple.nd rfl (.inl rfl))) (fun _ _ _ _ _ => by exact pts_nil) (fun _ _ _ _ _ => by exact (pe_ifName (K := K) rfl (pv 6) (pe_ix (ix_rowBK (K := K) rfl) (pv 3) (pe_op op_add (pe_ix (ix_rowBK (K := K) rfl) (pv 4) (pv 6) (fun _ _ => rfl)) (pv 5)) (fun _ _ => rfl)) pe_int))))))))), ?_⟩
    have hcl := T.cl_Field
    refine ⟨_, rfl, rfl, _, rfl, ?_⟩
    refine ite2 (fun c => ?_) (fun c => ?_)
    · have e : y = 0 := by have := V.int.inj (of_decide_eq_true c); omega
      subst e
      refine ⟨(by show 1 ≤ sizeLine; decide), fun z hz => ?_⟩
      have sz := same_upd (o := .lst [.int 0]) hz
      refine ⟨_, rfl, a, _, rfl, (Same.sqb sz hq).or, z, _, _, rfl, rfl, upd_same, by omega, by simp; omega, ?_, fun l hl2 => ?_⟩
      · simp only [List.length_map, List.length_singleton]
        exact Nat.le_of_lt (small1000 (by omega))
      refine q l _ (sz.trans (same_upd hl2)) (Same.free sz hl2) ?_
      rw [upd_same, List.length_map, Int.toNat_natCast, flat_nought, List.map_map]
      refine congrArg (fun l => some (HO.lst l)) ?_
      refine (List.ext_getElem? fun i => ?_)
      rw [List.getElem?_replicate, List.getElem?_map]
      by_cases hi : i < ws.length
      · rw [if_pos hi, List.getElem?_eq_getElem hi]
        show _ = some (vN (mul b _ 0))
        rw [mul_zero]
      · rw [if_neg hi, List.getElem?_eq_none (by omega)]
        rfl
    · have h1 : y ≠ 0 := fun z => c (by rw [z]; rfl)
      refine ⟨_, rfl, p, _, dx, _, _, rfl, g1, hcl, T.a_Field_powers, fl_powers b q1 r, ?_⟩
      refine ⟨_, rfl, p, _, dx, _, _, rfl, g1, hcl, T.a_Field_exponents, fl_exponents b q1 r, ?_⟩
      refine ⟨_, rfl, _, rfl, r, _, _, _, false, rfl, rfl, g3, atI_nat (by rw [List.getElem?_map, tabE_at hb hy h1]; rfl), ?_⟩
      refine ⟨_, rfl, a, _, k, rfl, hq, fun D hD => ?_⟩
      refine lc_it (walk_seq (b := k) (K := K) (a := a) (xs := ws.map vN)) (fun i H' => Same H H' ∧ H' D = some (.lst (((ws.take i).map fun x => mul b x y).map vN)))
        ⟨same_upd hD, upd_same⟩ (fun i H' _ h => Same.sqb h.1 hq) ?_ ?_
      · rintro i v H1 H2 hi ⟨sm, g⟩ ⟨rfl, e2⟩
        rw [List.length_map] at hi
        have ey : v = vN (gd ws i) := by
          rw [List.getElem?_map, gd_in hi] at e2
          exact (Option.some.inj e2).symm
        subst ey
        have hx := gd_lt hb hw i
        have tk : ws.take (i + 1) = ws.take i ++ [gd ws i] := by
          rw [List.take_add_one, gd_in hi]
          rfl
        have fin : ∀ z : V, z = vN (mul b (gd ws i) y) → ∃ acc, H2 D = some (.lst acc) ∧ acc.length < sizeLine ∧ Same H (upd H2 D (.lst (acc ++ [z]))) ∧ (upd H2 D (.lst (acc ++ [z]))) D = some (.lst (((ws.take (i + 1)).map fun x => mul b x y).map vN)) := by
          rintro z rfl
          refine ⟨_, g, ?_, fun c o hc => ?_, ?_⟩
          · simp only [List.length_map, List.length_take]
            exact small1000 (by omega)
          · rw [upd_ne (ne_of_none hc hD)]
            exact sm _ _ hc
          · rw [upd_same, tk, List.map_append, List.map_append]
            rfl
        refine ⟨rfl, ?_⟩
        refine ⟨_, rfl, _, rfl, ?_⟩
        by_cases h0 : gd ws i = 0
        · have e : (((gd ws i : Nat) : Int) != 0) = false := by rw [h0]; rfl
          rw [e]
          refine iteF (fin _ ?_)
          rw [h0, zero_mul hb]
          rfl
        · have e : (((gd ws i : Nat) : Int) != 0) = true := by simp; omega
          rw [e]
          refine iteT ?_
          refine ⟨_, rfl, _, rfl, _, rfl, r, _, _, _, false, rfl, rfl, Same.sqt sm g3, atI_nat (by rw [List.getElem?_map, tabE_at hb hx h0]; rfl), ?_⟩
          exact ⟨_, rfl, _, _, rfl, rfl, q1, _, _, _, false, rfl, rfl, .tup (sm _ _ g2), sum_at hb hx hy h0 h1, fin _ rfl⟩
      · rintro H1 ⟨sm, g⟩
        rw [List.length_map, List.take_length] at g
        exact q D H1 sm hD g
theorem take_one {ws : List Nat} {i : Nat} (h : i < ws.length) : ws.take (i + 1) = ws.take i ++ [gd ws i] := by
  rw [List.take_add_one, gd_in h]
  rfl
def sp_value_at (K : PySem.W.Frag) (C : Addr) : Sp := fun vs H Q _ => ∃ (p a : Addr) (k : Bool) (b t : Nat) (ws : List Nat), vs = [.ref p, .ref a, vN t] ∧ Wd b ∧ FieldAt K C H p b ∧ SqB k K H a (ws.map vN) ∧ Ws b ws ∧ t < span b ∧ Q (vN (evl b t ws)) H
theorem ok_value_at (T : Txt K mg) : FnOk P w K mg base CX0 2 T.f_value_at T.d_value_at ["field", "words", "at"] (sp_value_at K T.C_Field) := by
  refine T.F_value_at.ok sc_value_at (fun vs H Q E h => ?_) (fun cdv A outer s H vs Q E hr h => ?_)
  · obtain ⟨p, a, k, b, t, ws, rfl, _⟩ := h
    rfl
  · obtain ⟨p, a, k, b, t, ws, rfl, hb, hF, hq, hw, ht, q⟩ := h
    refine ⟨_, (pss_cons (ps_if (pt_cmpR op_eq (pv 2) pe_int (nomark _)) (pss_one (ps_ret (pe_ifExp (pt_truth (pv 1) (by intro _; rfl)) (pe_ix ix_rowB (pv 1) (pe_un un_neg pe_int) (fun _ _ => rfl)) pe_int))) pss_nil)
      (pss_cons (ps_set (i := 3) sc_value_at.nd rfl (.inl rfl) (pe_fld (pv 0) rfl))
      (pss_cons (ps_set (i := 4) sc_value_at.nd rfl (.inl rfl) (pe_fld (pv 0) rfl))
      (pss_cons (ps_set (i := 5) sc_value_at.nd rfl (.inl rfl) (pe_ix ix_rowB (pv 4) (pv 2) (fun _ _ => rfl)))
      (pss_cons (ps_set (i := 6) sc_value_at.nd rfl (.inl rfl) pe_int)
      (pss_cons (ps_for PassesOwn.never rfl (pi_seq (pv 1)) (pg_name (i := 7) sc_value_at.nd rfl (.inl rfl)) (pss_one (ps_set (i := 6) sc_value_at.nd rfl (.inl rfl) (pe_ifExp (pt_truth (pv 6) (by intro _; rfl)) (pe_op op_xor (pe_ix ix_rowB (pv 3) (pe_op op_add (pe_ix ix_rowB (pv 4) (pv 6) (fun _ _ => rfl)) (pv 5)) (fun _ _ => rfl)) (pv 7)) (pv 7)))))
      (pss_one (ps_ret (pv 6))))))))), ?_⟩
    obtain ⟨dx, q1, r, g1, g2, g3⟩ := hF.ex
    have hcl := T.cl_Field
    refine ⟨_, rfl, rfl, _, rfl, ?_⟩
    refine ite2 (fun c => ?_) (fun c => ?_)
    · have e : t = 0 := by have := V.int.inj (of_decide_eq_true c); omega
      subst e
      rw [evl_at0] at q
      refine ⟨_, rfl, _, hq.truB, ?_⟩
      rcases List.eq_nil_or_concat ws with rfl | ⟨u, x, rfl⟩
      · exact iteF q
      · rw [List.concat_eq_append] at hq q ⊢
        have e : (!((u ++ [x]).map vN).isEmpty) = true := by simp
        rw [e]
        refine iteT ?_
        refine ⟨_, rfl, _, rfl, a, _, -1, vN x, k, rfl, rfl, hq, ?_, ?_⟩
        · rw [List.map_append]
          exact atI_last (u.map vN) (vN x)
        · simpa using q
    · have h1 : t ≠ 0 := fun z => c (by rw [z]; rfl)
      refine ⟨_, rfl, p, _, dx, _, _, rfl, g1, hcl, T.a_Field_powers, fl_powers b q1 r, ?_⟩
      refine ⟨_, rfl, p, _, dx, _, _, rfl, g1, hcl, T.a_Field_exponents, fl_exponents b q1 r, ?_⟩
      refine ⟨_, rfl, _, rfl, r, _, _, _, false, rfl, rfl, g3, atI_nat (by rw [List.getElem?_map, tabE_at hb ht h1]; rfl), ?_⟩
      refine ⟨_, rfl, a, _, k, rfl, hq, ?_⟩
      refine for_it (walk_seq (b := k) (K := K) (a := a) (xs := ws.map vN)) (fun i σ H' => ∃ z : Option V, σ = [some (.ref p), some (.ref a), some (vN t), some (.ref q1), some (.ref r), some (vN (lg b t)), some (vN (evl b t (ws.take i))), z] ∧ H' = H) ⟨_, rfl, rfl⟩ (fun i σ H' _ ⟨_, _, e⟩ => by rw [e]; exact hq) ?_ ?_
      · rintro i x σ H1 H2 hi ⟨z, rfl, rfl⟩ ⟨rfl, e2⟩
        rw [List.length_map] at hi
        have ey : x = vN (gd ws i) := by
          rw [List.getElem?_map, gd_in hi] at e2
          exact (Option.some.inj e2).symm
        subst ey
        have w1 : Ws b (ws.take i) := fun y hy => hw y (List.mem_of_mem_take hy)
        have l1 := evl_lt (t := t) hb w1
        have tk := take_one hi
        have sn := evl_snoc (b := b) (t := t) (w := gd ws i) (r := ws.take i)
        refine ⟨_, rfl, _, rfl, ?_⟩
        by_cases h0 : evl b t (ws.take i) = 0
        · have e : (((evl b t (ws.take i) : Nat) : Int) != 0) = false := by rw [h0]; rfl
          rw [e]
          refine iteF ⟨_, rfl, ?_⟩
          refine ⟨some (vN (gd ws i)), ?_, rfl⟩
          rw [tk, sn, h0, zero_mul hb, Nat.zero_xor]
          rfl
        · have e : (((evl b t (ws.take i) : Nat) : Int) != 0) = true := by simp; omega
          rw [e]
          refine iteT ?_
          refine ⟨_, rfl, _, rfl, _, rfl, r, _, _, _, false, rfl, rfl, g3, atI_nat (by rw [List.getElem?_map, tabE_at hb l1 h0]; rfl), ?_⟩
          refine ⟨_, rfl, _, _, rfl, rfl, q1, _, _, _, false, rfl, rfl, .tup g2, sum_at hb l1 ht h0 h1, _, rfl, _, _, rfl, rfl, ?_⟩
          refine ⟨some (vN (gd ws i)), ?_, rfl⟩
          show [_, _, _, _, _, _, some (V.int (Builtin.bitXor _ _)), _] = _
          rw [bx, tk, sn]
          rfl
      · rintro σ H' ⟨z, rfl, rfl⟩
        rw [List.length_map, List.take_length]
        exact ⟨_, rfl, q⟩
/-- the row of the product while it is made -/
def tot (b : Nat) (xs ys : List Nat) (s a k : Nat) : Nat := xsum s (term b (gd xs) (gd ys) k) ^^^ (if s ≤ k ∧ k < s + a then mul b (gd xs s) (gd ys (k - s)) else 0)
def totL (b : Nat) (xs ys : List Nat) (s a : Nat) : List V := (List.range (xs.length + ys.length - 1)).map fun k => vN (tot b xs ys s a k)
theorem tot_start (b : Nat) (xs ys : List Nat) : totL b xs ys 0 0 = List.replicate (xs.length + ys.length - 1) (vN 0) := by
  unfold totL
  have : (fun k => vN (tot b xs ys 0 0 k)) = fun _ => vN 0 := by
    funext k
    unfold tot
    rw [if_neg (by omega), Nat.xor_zero]
    rfl
  rw [this, List.map_const', List.length_range]
theorem tot_next {b : Nat} {xs ys : List Nat} {s : Nat} : totL b xs ys s ys.length = totL b xs ys (s + 1) 0 := by
  unfold totL
  refine List.map_congr_left fun k _ => ?_
  unfold tot
  rw [xsum_succ, if_neg (show ¬ (s + 1 ≤ k ∧ k < s + 1 + 0) by omega), Nat.xor_zero]
  unfold term
  by_cases h : s ≤ k
  · rw [if_pos h]
    by_cases h2 : k < s + ys.length
    · rw [if_pos ⟨h, h2⟩]
    · rw [if_neg (by omega), gd_out (show ys.length ≤ k - s by omega), mul_zero]
  · rw [if_neg (by omega), if_neg h]
theorem tot_end {b : Nat} {xs ys : List Nat} (h0 : xs ≠ []) (h1 : ys ≠ []) : totL b xs ys xs.length 0 = (conv b xs ys).map vN := by
  unfold totL conv
  rw [if_neg (by simp [h0, h1]), List.map_map]
  refine List.map_congr_left fun k _ => ?_
  unfold tot
  rw [if_neg (by omega), Nat.xor_zero]
  rfl
theorem tot_at {b : Nat} {xs ys : List Nat} {s a k : Nat} (h : k < xs.length + ys.length - 1) : (totL b xs ys s a)[k]? = some (vN (tot b xs ys s a k)) := by
  unfold totL
  simp [h]
theorem tot_set {b : Nat} {xs ys : List Nat} {s a : Nat} (h : s + a < xs.length + ys.length - 1) : (totL b xs ys s a).set (s + a) (vN (tot b xs ys s a (s + a) ^^^ mul b (gd xs s) (gd ys a))) = totL b xs ys s (a + 1) := by
  refine List.ext_getElem? fun k => ?_
  rw [List.getElem?_set]
  by_cases hk : k < xs.length + ys.length - 1
  · by_cases h2 : s + a = k
    · subst h2
      rw [if_pos rfl, if_pos (by unfold totL; simpa using h), tot_at h]
      unfold tot
      rw [if_neg (show ¬ (s ≤ s + a ∧ s + a < s + a) by omega), if_pos (show s ≤ s + a ∧ s + a < s + (a + 1) by omega), Nat.xor_zero, show s + a - s = a by omega]
    · rw [if_neg h2, tot_at hk, tot_at hk]
      unfold tot
      by_cases h3 : s ≤ k ∧ k < s + a
      · rw [if_pos h3, if_pos (by omega)]
      · rw [if_neg h3, if_neg (by omega)]
  · rw [if_neg (by omega)]
    unfold totL
    rw [List.getElem?_eq_none (by simp; omega), List.getElem?_eq_none (by simp; omega)]
theorem flat_one (n : Nat) : (List.replicate n [V.int 0]).flatten = List.replicate n (vN 0) := by
  induction n with
  | zero => rfl
  | succ n ih =>
    rw [List.replicate_succ, List.flatten_cons, ih, List.replicate_succ]
    rfl
theorem isEmpty_map (ws : List Nat) : (ws.map vN).isEmpty = ws.isEmpty := by cases ws <;> rfl
theorem SqB.tru {k : Bool} {H : Hp} {a : Addr} {ws : List Nat} (h : SqB k K H a (ws.map vN)) : TruV K (.ref a) H (!ws.isEmpty) := by
  cases k
  · exact .inr (.inl ⟨_, h, by rw [isEmpty_map]⟩)
  · exact .inl ⟨_, h, by rw [isEmpty_map]⟩
def sp_all_products (K : PySem.W.Frag) (C : Addr) : Sp := fun vs H Q _ => ∃ (p a a2 : Addr) (k k2 : Bool) (b : Nat) (xs ys : List Nat), vs = [.ref p, .ref a, .ref a2] ∧ Wd b ∧ FieldAt K C H p b ∧ SqB k K H a (xs.map vN) ∧ SqB k2 K H a2 (ys.map vN) ∧ Ws b xs ∧ Ws b ys ∧ xs.length + ys.length ≤ 1000 ∧
  ∀ l H', Same H H' → H l = none → H' l = some (.lst ((conv b xs ys).map vN)) → Q (.ref l) H'
theorem ok_all_products (T : Txt K mg) : FnOk P w K mg base CX0 2 T.f_all_products T.d_all_products ["field", "one", "other"] (sp_all_products K T.C_Field) := by
  refine T.F_all_products.ok sc_all_products (fun vs H Q E h => ?_) (fun cdv A outer s H vs Q E hr h => ?_)
  · obtain ⟨p, a, a2, k, k2, b, xs, ys, rfl, _⟩ := h
    rfl
  · obtain ⟨p, a, a2, k, k2, b, xs, ys, rfl, hb, hF, hq, hq2, hx, hy, hlen, q⟩ := h
    refine ⟨_, (pss_cons (ps_if (PW.pt (pw_or (pt_not (pt_truth (pv 1) (by intro _; rfl))) (pw_or1 (pt_not (pt_truth (pv 2) (by intro _; rfl)))))) (pss_one (ps_ret (pe_lst pa_nil))) pss_nil)
      (pss_cons (ps_set (i := 3) sc_all_products.nd rfl (.inl rfl) (pe_op op_rep (pe_lst (pa_cons pe_int pa_nil)) (pe_op op_sub (pe_op op_add (pe_callB call_len_seq (by rfl) T.n_len (by decide +kernel) (pa_cons (pv 1) pa_nil)) (pe_callB call_len_seq (by rfl) T.n_len (by decide +kernel) (pa_cons (pv 2) pa_nil))) pe_int)))
      (pss_cons (ps_for PassesOwn.never rfl (pi_enumS (by rfl) T.n_enumerate (pa_cons (pv 1) pa_nil)) (pg_tup rfl (pgs_cons (pg_name (i := 4) sc_all_products.nd rfl (.inl rfl)) (pgs_cons (pg_name (i := 5) sc_all_products.nd rfl (.inl rfl)) pgs_nil))) (pss_one (ps_for PassesOwn.never rfl (pi_enum (by rfl) T.n_enumerate (pa_cons (pe_meth (pv 0) T.cl_Field T.m_Field_multiple (ok_Field_multiple T) (hr.mono (by decide)) T.b_Field_multiple .nil pass0 (pa_cons (pv 2) (pa_cons (pv 5) pa_nil))) pa_nil)) (pg_tup rfl (pgs_cons (pg_name (i := 6) sc_all_products.nd rfl (.inl rfl)) (pgs_cons (pg_name (i := 7) sc_all_products.nd rfl (.inl rfl)) pgs_nil))) (pss_one (ps_augS (pv 3) (pe_op op_add (pv 4) (pv 6)) get_list (pv 7) (pip_of iop_xor) set_list)))))
      (pss_one (ps_ret (pv 3)))))), ?_⟩
    refine ⟨_, rfl, _, hq.tru, ?_⟩
    by_cases h0 : xs = []
    · subst h0
      refine iteT ?_
      refine iteT ⟨Nat.zero_le _, fun l hl => q l _ (same_upd hl) hl upd_same⟩
    have hx0 : xs.isEmpty = false := by cases xs with | nil => exact absurd rfl h0 | cons _ _ => rfl
    rw [hx0]
    refine iteF ?_
    refine ⟨_, rfl, _, hq2.tru, ?_⟩
    by_cases h1 : ys = []
    · subst h1
      have e : conv b xs [] = [] := by
        unfold conv
        rw [if_pos (.inr rfl)]
      rw [e] at q
      refine iteT ⟨Nat.zero_le _, fun l hl => q l _ (same_upd hl) hl upd_same⟩
    have hy0 : ys.isEmpty = false := by cases ys with | nil => exact absurd rfl h1 | cons _ _ => rfl
    rw [hy0]
    refine iteF ?_
    have lx : 0 < xs.length := by cases xs with | nil => exact absurd rfl h0 | cons _ _ => simp
    have ly : 0 < ys.length := by cases ys with | nil => exact absurd rfl h1 | cons _ _ => simp
    -- total
    refine ⟨(by show 1 ≤ sizeLine; decide), fun z hz => ?_⟩
    have sz := same_upd (o := .lst [.int 0]) hz
    refine ⟨_, rfl, a, _, rfl, (Same.sqb sz hq).or, _, rfl, a2, _, rfl, (Same.sqb sz hq2).or, _, _, rfl, rfl, _, _, rfl, rfl, z, _, _, rfl, rfl, upd_same, by simp; omega, by simp; omega, ?_, fun l hl => ?_⟩
    · simp only [List.length_map, List.length_singleton]
      exact Nat.le_of_lt (small1000 (by omega))
    have hn : (((xs.map vN).length : Int) + ((ys.map vN).length : Int) - 1).toNat = xs.length + ys.length - 1 := by
      simp only [List.length_map]
      omega
    have sl : Same H (upd (upd H z (.lst [.int 0])) l (.lst (List.replicate (((xs.map vN).length : Int) + ((ys.map vN).length : Int) - 1).toNat [V.int 0]).flatten)) := sz.trans (same_upd hl)
    have hlH : H l = none := Same.free sz hl
    refine ⟨_, rfl, a, _, k, rfl, Same.sqb sl hq, ?_⟩
    refine for_it (walk_enumS (b := k) (K := K) (a := a) (xs := xs.map vN)) (fun i σ H' => ∃ z4 z5 z6 z7 : Option V, σ = [some (.ref p), some (.ref a), some (.ref a2), some (.ref l), z4, z5, z6, z7] ∧ Same H H' ∧ H' l = some (.lst (totL b xs ys i 0)))
      ⟨_, _, _, _, rfl, sl, by rw [upd_same, hn, flat_one, tot_start]⟩ (fun i σ H' _ ⟨_, _, _, _, _, sm, _⟩ => Same.sqb sm hq) ?_ ?_
    · rintro i x σ H3 H4 hi ⟨z4, z5, z6, z7, rfl, sm, hL⟩ ⟨T1, x1, y1, rfl, hT, rfl, e1, e2⟩
      rw [List.length_map] at hi
      have ex1 : x1 = .int (i : Int) := (Option.some.inj e1).symm
      subst ex1
      have ey : y1 = vN (gd xs i) := by
        have e3 : (xs.map vN)[i]? = some y1 := e2
        rw [List.getElem?_map, gd_in hi] at e3
        exact (Option.some.inj e3).symm
      subst ey
      have sT := same_upd (o := .tup [.int (i : Int), vN (gd xs i)]) hT
      refine ⟨T1, [.int (i : Int), vN (gd xs i)], rfl, .inl (.inl upd_same), rfl, .int (i : Int), [vN (gd xs i)], rfl, vN (gd xs i), [], rfl, rfl, ?_⟩
      obtain ⟨dx, q1, r, g1, _⟩ := (hF.same (sm.trans sT)).ex
      refine ⟨_, rfl, p, dx, _, rfl, g1, fl_no b q1 r (by decide +kernel) (by decide +kernel) (by decide +kernel) (by decide +kernel), _, rfl, _, rfl, p, a2, k2, b, _, ys, rfl, hb, hF.same (sm.trans sT), Same.sqb (sm.trans sT) hq2, hy, gd_lt hb hx i, by omega, fun l2 H5 s5 n5 e5 => ?_⟩
      have hL5 := s5 _ _ (sT _ _ hL)
      have nll : l2 ≠ l := (ne_of_none (sT _ _ hL) n5).symm
      refine ⟨l2, _, rfl, .inl (.inl e5), ?_⟩
      refine for_it (walk_enum (K := K) (a := l2) (xs := (ys.map fun x => mul b x (gd xs i)).map vN)) (fun j σ H' => ∃ z6 z7 : Option V, σ = [some (.ref p), some (.ref a), some (.ref a2), some (.ref l), some (.int (i : Int)), some (vN (gd xs i)), z6, z7] ∧ Same H H' ∧ H' l = some (.lst (totL b xs ys i j)) ∧ H' l2 = some (.lst ((ys.map fun x => mul b x (gd xs i)).map vN)))
        ⟨_, _, rfl, (sm.trans sT).trans s5, hL5, e5⟩ (fun i σ H' _ ⟨_, _, _, _, _, h⟩ => .inl (.inl h)) ?_ ?_
      · rintro j x σ H6 H7 hj ⟨z6, z7, rfl, sm6, hL6, hM6⟩ ⟨T2, x2, y2, rfl, hT2, rfl, e3, e4⟩
        rw [List.length_map, List.length_map] at hj
        have ex2 : x2 = .int (j : Int) := (Option.some.inj e3).symm
        subst ex2
        have ey2 : y2 = vN (mul b (gd ys j) (gd xs i)) := by
          have e5 : ((ys.map fun x => mul b x (gd xs i)).map vN)[j]? = some y2 := e4
          rw [List.getElem?_map, List.getElem?_map, gd_in hj] at e5
          exact (Option.some.inj e5).symm
        subst ey2
        have sT2 := same_upd (o := .tup [.int (j : Int), vN (mul b (gd ys j) (gd xs i))]) hT2
        have sm7 := sm6.trans sT2
        have hL7 := sT2 _ _ hL6
        have hM7 := sT2 _ _ hM6
        have hij : i + j < xs.length + ys.length - 1 := by omega
        refine ⟨T2, [.int (j : Int), vN (mul b (gd ys j) (gd xs i))], rfl, .inl (.inl upd_same), rfl, .int (j : Int), [vN (mul b (gd ys j) (gd xs i))], rfl, vN (mul b (gd ys j) (gd xs i)), [], rfl, rfl, ?_⟩
        refine ⟨_, rfl, _, rfl, _, rfl, _, _, rfl, rfl, l, _, _, i + j, rfl, (by show V.int ((i : Int) + (j : Int)) = V.int ((i + j : Nat) : Int); rw [Int.natCast_add]), .inl (.inl hL7), tot_at hij, ?_⟩
        refine ⟨_, rfl, _, _, rfl, rfl, ?_⟩
        refine ⟨l, _, (i : Int) + (j : Int), i + j, rfl, rfl, hL7, ?_, ?_⟩
        · rw [← Int.natCast_add]
          exact ixN_nat (by unfold totL; simpa using hij)
        · refine ⟨_, _, rfl, fun c o hc => ?_, ?_, ?_⟩
          · rw [upd_ne (ne_of_none hc hlH)]
            exact sm7 _ _ hc
          · rw [upd_same]
            refine congrArg (fun l => some (HO.lst l)) ?_
            show (totL b xs ys i j).set (i + j) (V.int (Builtin.bitXor _ _)) = _
            rw [bx, mul_comm hb (gd_lt hb hy j) (gd_lt hb hx i)]
            exact tot_set hij
          · rw [upd_ne nll]
            exact hM7
      · rintro σ H' ⟨z6, z7, rfl, sm', hL', _⟩
        rw [List.length_map, List.length_map, tot_next] at hL'
        exact ⟨_, _, _, _, rfl, sm', hL'⟩
    · rintro σ H' ⟨z4, z5, z6, z7, rfl, sm, hL⟩
      rw [List.length_map, tot_end h0 h1] at hL
      exact ⟨_, rfl, q l H' sm hlH hL⟩
/-! ### the division -/
theorem cut_to (xs : List V) (k : Nat) (h : k ≤ xs.length) : cutV xs none (some (k : Int)) = xs.take k := by
  unfold cutV
  rw [HT.sIx_none, HT.sIx_nat, Nat.min_eq_left h]
  rfl
theorem cut_from (xs : List V) (k : Nat) (h : k ≤ xs.length) : cutV xs (some (k : Int)) none = xs.drop k := by
  unfold cutV
  rw [HT.sIx_none, HT.sIx_nat, Nat.min_eq_left h]
  exact List.take_of_length_le (by rw [List.length_drop]; omega)
/-- the row while its s-th word is spread -/
def dvI (b : Nat) (ws os : List Nat) (s a : Nat) : Nat → Nat := fun k => if k = s then quo b (dvN b (gd os) os.length (gd ws) s s) (gd os 0) else
  if s < k ∧ k < s + a then dvN b (gd os) os.length (gd ws) s k ^^^ mul b (quo b (dvN b (gd os) os.length (gd ws) s s) (gd os 0)) (gd os (k - s)) else dvN b (gd os) os.length (gd ws) s k
def rowL (n : Nat) (f : Nat → Nat) : List V := (List.range n).map fun k => vN (f k)
theorem rowL_at {n k : Nat} {f : Nat → Nat} (h : k < n) : (rowL n f)[k]? = some (vN (f k)) := by
  unfold rowL
  simp [h]
theorem rowL_len (n : Nat) (f : Nat → Nat) : (rowL n f).length = n := by unfold rowL; simp
theorem rowL_set {n k v : Nat} {f g : Nat → Nat} (h : k < n) (hk : g k = v) (ho : ∀ i, i ≠ k → g i = f i) : (rowL n f).set k (vN v) = rowL n g := by
  refine List.ext_getElem? fun i => ?_
  rw [List.getElem?_set]
  by_cases hi : i < n
  · by_cases h2 : k = i
    · subst h2
      rw [if_pos rfl, if_pos (by rw [rowL_len]; exact h), rowL_at hi, hk]
    · rw [if_neg h2, rowL_at hi, rowL_at hi, ho i (fun z => h2 z.symm)]
  · rw [if_neg (by omega)]
    rw [List.getElem?_eq_none (by rw [rowL_len]; omega), List.getElem?_eq_none (by rw [rowL_len]; omega)]
theorem rowL_ws (ws : List Nat) : ws.map vN = rowL ws.length (gd ws) := by
  unfold rowL
  have h := congrArg (List.map vN) (gd_list ws)
  rw [List.map_map] at h
  exact h.symm
theorem quoL_row (b : Nat) (ws os : List Nat) : (quoL b ws os).map vN = rowL (steps ws os) (dvN b (gd os) os.length (gd ws) (steps ws os)) := by
  unfold quoL rowL
  rw [List.map_map]
  rfl
theorem row_take {n k : Nat} {f : Nat → Nat} (h : k ≤ n) : (rowL n f).take k = rowL k f := by
  unfold rowL
  rw [← List.map_take, List.take_range, Nat.min_eq_left h]
theorem row_drop {n k : Nat} {f : Nat → Nat} (h : k ≤ n) : (rowL n f).drop k = rowL (n - k) fun j => f (k + j) := by
  unfold rowL
  refine List.ext_getElem? fun i => ?_
  rw [List.getElem?_drop]
  by_cases hi : i < n - k
  · rw [List.getElem?_map, List.getElem?_range (by omega), List.getElem?_map, List.getElem?_range hi]
    rfl
  · rw [List.getElem?_eq_none (by simp; omega), List.getElem?_eq_none (by simp; omega)]
theorem remL_row (b : Nat) (ws os : List Nat) : (remL b ws os).map vN = rowL (ws.length - steps ws os) fun j => dvN b (gd os) os.length (gd ws) (steps ws os) (steps ws os + j) := by
  unfold remL rowL
  rw [List.map_map]
  rfl
theorem dvI_end (b : Nat) (ws os : List Nat) (s : Nat) : dvI b ws os s os.length = dvN b (gd os) os.length (gd ws) (s + 1) := rfl
def sp_long_division (K : PySem.W.Frag) (C : Addr) : Sp := fun vs H Q _ => ∃ (p a a2 : Addr) (k k2 : Bool) (b : Nat) (ws os : List Nat), vs = [.ref p, .ref a, .ref a2] ∧ Wd b ∧ FieldAt K C H p b ∧ SqB k K H a (ws.map vN) ∧ SqB k2 K H a2 (os.map vN) ∧ Ws b ws ∧ Ws b os ∧ gd os 0 ≠ 0 ∧ ws.length ≤ 1000 ∧ os.length ≤ 1000 ∧
  ∀ t l1 l2 H', Same H H' → H t = none → H l1 = none → H l2 = none → l1 ≠ l2 → H' t = some (.tup [.ref l1, .ref l2]) → H' l1 = some (.lst ((quoL b ws os).map vN)) → H' l2 = some (.lst ((remL b ws os).map vN)) → Q (.ref t) H'
theorem ok_long_division (T : Txt K mg) : FnOk P w K mg base CX0 2 T.f_long_division T.d_long_division ["field", "words", "other"] (sp_long_division K T.C_Field) := by
  refine T.F_long_division.ok sc_long_division (fun vs H Q E h => ?_) (fun cdv A outer s H vs Q E hr h => ?_)
  · obtain ⟨p, a, a2, k, k2, b, ws, os, rfl, _⟩ := h
    rfl
  · obtain ⟨p, a, a2, k, k2, b, ws, os, rfl, hb, hF, hq, hq2, hw, ho, h0, hl1, hl2, q⟩ := h
    refine ⟨_, (pss_cons (ps_set (i := 3) sc_long_division.nd rfl (.inl rfl) (pe_callTy call_list_of (by rfl) T.n_list (by decide +kernel) (pa_cons (pv 1) pa_nil)))
      (Evl.pss_cut (ps_set (i := 4) sc_long_division.nd rfl (.inl rfl) (pe_callB (call_max2 rfl) (by rfl) T.n_max (by decide +kernel) (pa_cons (pe_op op_add (pe_op op_sub (pe_callB call_len_seq (by rfl) T.n_len (by decide +kernel) (pa_cons (pv 1) pa_nil)) (pe_callB call_len_seq (by rfl) T.n_len (by decide +kernel) (pa_cons (pv 2) pa_nil))) pe_int) (pa_cons pe_int pa_nil))))
      (pss_cons (ps_for PassesOwn.never rfl (pi_range1 (by rfl) T.n_range (pa_cons (pv 4) pa_nil)) (pg_name (i := 5) sc_long_division.nd rfl (.inl rfl)) (pss_cons (ps_asg (pe_meth (pv 0) T.cl_Field T.m_Field_over (ok_Field_over T) (hr.mono (by decide)) T.b_Field_over .nil pass0 (pa_cons (pe_ix ix_list (pv 3) (pv 5) (fun _ _ => rfl)) (pa_cons (pe_ix ix_rowB (pv 2) pe_int (fun _ _ => rfl)) pa_nil))) (pg_sub (pv 3) (pv 5) set_list))
      (pss_one (ps_for PassesOwn.never rfl (pi_enum (by rfl) T.n_enumerate (pa_cons (pe_meth (pv 0) T.cl_Field T.m_Field_multiple (ok_Field_multiple T) (hr.mono (by decide)) T.b_Field_multiple .nil pass0 (pa_cons (pe_slice sl_rowB (pv 2) (po_some pe_int) po_none) (pa_cons (pe_ix ix_list (pv 3) (pv 5) (fun _ _ => rfl)) pa_nil))) pa_nil)) (pg_tup rfl (pgs_cons (pg_name (i := 6) sc_long_division.nd rfl (.inl rfl)) (pgs_cons (pg_name (i := 7) sc_long_division.nd rfl (.inl rfl)) pgs_nil))) (pss_one (ps_augS (pv 3) (pe_op op_add (pe_op op_add (pv 5) pe_int) (pv 6)) get_list (pv 7) (pip_of iop_xor) set_list))))))
      (pss_one (ps_ret (pe_tup (pa_cons (pe_slice sl_list (pv 3) po_none (po_some (pv 4))) (pa_cons (pe_slice sl_list (pv 3) (po_some (pv 4)) po_none) pa_nil)))))))), ?_⟩
    have lo : 0 < os.length := by
      cases os with
      | nil => exact absurd rfl h0
      | cons _ _ => simp
    -- rest, steps
    refine ⟨_, rfl, a, _, rfl, hq.or, fun l hl => ?_⟩
    have sl := same_upd (o := .lst (ws.map vN)) hl
    have hst : (if (0 : Int) > ((ws.map vN).length : Int) - ((os.map vN).length : Int) + 1 then (0 : Int) else ((ws.map vN).length : Int) - ((os.map vN).length : Int) + 1) = ((steps ws os : Nat) : Int) := by
      simp only [List.length_map]
      unfold steps
      split <;> omega
    refine ⟨fun σ' H' => σ' = [some (.ref p), some (.ref a), some (.ref a2), some (.ref l), some (vN (steps ws os)), none, none, none] ∧ H' = upd H l (.lst (ws.map vN)), ?_, ?_⟩
    · refine ⟨_, rfl, a, _, rfl, (Same.sqb sl hq).or, _, rfl, a2, _, rfl, (Same.sqb sl hq2).or, _, _, rfl, rfl, _, _, rfl, rfl, _, _, rfl, ?_⟩
      have e := congrArg (fun z : Int => ([some (V.ref p), some (V.ref a), some (V.ref a2), some (V.ref l), some (V.int z), none, none, none] : L2.St)) hst
      exact ⟨e, rfl⟩
    · rintro σ' H' ⟨rfl, rfl⟩
      have hlt := dvN_lt (c := gd os) (m := os.length) hb (gd_lt hb hw)
      have hsn : steps ws os ≤ ws.length := by unfold steps; omega
      have hqlt : ∀ s, quo b (dvN b (gd os) os.length (gd ws) s s) (gd os 0) < span b := fun s => quo_lt' hb (hlt s s)
      refine ⟨_, rfl, _, rfl, by omega, by omega, ?_⟩
      refine for_range (fun s σ H' => ∃ z5 z6 z7 : Option V, σ = [some (.ref p), some (.ref a), some (.ref a2), some (.ref l), some (vN (steps ws os)), z5, z6, z7] ∧ Same H H' ∧ H' l = some (.lst (rowL ws.length (dvN b (gd os) os.length (gd ws) s))))
        ⟨none, none, none, rfl, sl, by rw [upd_same, rowL_ws]; rfl⟩ ?_ ?_
      · rintro s σ H1 hs ⟨z5, z6, z7, rfl, sm, hL⟩
        have hs' : s < steps ws os := by simpa using hs
        have hs2 : s + os.length ≤ ws.length := by unfold steps at hs'; omega
        obtain ⟨dx, q1, r, g1, _⟩ := (hF.same sm).ex
        refine ⟨_, rfl, p, dx, _, rfl, g1, fl_no b q1 r (by decide +kernel) (by decide +kernel) (by decide +kernel) (by decide +kernel), ?_⟩
        refine ⟨_, rfl, _, rfl, l, _, _, _, rfl, rfl, .inl (.inl hL), (by rw [Int.zero_add]; exact atI_nat (rowL_at (k := s) (by omega))), ?_⟩
        refine ⟨_, rfl, a2, _, _, _, k2, rfl, rfl, Same.sqb sm hq2, atI_nat (j := 0) (by rw [List.getElem?_map, gd_in lo]; rfl), ?_⟩
        refine ⟨p, b, _, _, rfl, hb, hF.same sm, hlt s s, gd_lt hb ho 0, h0, ?_⟩
        refine ⟨_, rfl, _, rfl, l, _, _, s, rfl, rfl, hL, (by rw [Int.zero_add]; exact ixN_nat (by rw [rowL_len]; omega)), ?_⟩
        have e1 : (rowL ws.length (dvN b (gd os) os.length (gd ws) s)).set s (vN (quo b (dvN b (gd os) os.length (gd ws) s s) (gd os 0))) = rowL ws.length (dvI b ws os s 1) := by
          refine rowL_set (by omega) ?_ fun i hi => ?_
          · unfold dvI
            rw [if_pos rfl]
          · unfold dvI
            rw [if_neg hi, if_neg (by omega)]
        have sm1 : Same H (upd H1 l (.lst ((rowL ws.length (dvN b (gd os) os.length (gd ws) s)).set s (vN (quo b (dvN b (gd os) os.length (gd ws) s s) (gd os 0)))))) := fun c o hc => by
          rw [upd_ne (ne_of_none hc hl)]
          exact sm _ _ hc
        have hL1 : (upd H1 l (.lst ((rowL ws.length (dvN b (gd os) os.length (gd ws) s)).set s (vN (quo b (dvN b (gd os) os.length (gd ws) s s) (gd os 0)))))) l = some (.lst (rowL ws.length (dvI b ws os s 1))) := by rw [upd_same, e1]
        generalize upd H1 l (.lst ((rowL ws.length (dvN b (gd os) os.length (gd ws) s)).set s (vN (quo b (dvN b (gd os) os.length (gd ws) s s) (gd os 0))))) = H1' at sm1 hL1 ⊢
        obtain ⟨dx2, q2, r2, g2, _⟩ := (hF.same sm1).ex
        have hq3 : dvI b ws os s 1 s = quo b (dvN b (gd os) os.length (gd ws) s s) (gd os 0) := by
          unfold dvI
          rw [if_pos rfl]
        refine ⟨_, rfl, p, dx2, _, rfl, g2, fl_no b q2 r2 (by decide +kernel) (by decide +kernel) (by decide +kernel) (by decide +kernel), ?_⟩
        refine ⟨_, rfl, 1, rfl, a2, _, k2, rfl, Same.sqb sm1 hq2, fun o2 H3 s3 ho2 => ?_⟩
        have ho3 : SqB k2 K H3 o2 ((os.drop 1).map vN) := by
          have e := cut_from (os.map vN) 1 (by rw [List.length_map]; omega)
          rw [← List.map_drop] at e
          rw [← e]
          exact ho2
        have sm3 := sm1.trans s3
        have wo : Ws b (os.drop 1) := fun x hx => ho x (List.mem_of_mem_drop hx)
        refine ⟨_, rfl, _, rfl, l, _, _, _, rfl, rfl, .inl (.inl (s3 _ _ hL1)), (by rw [Int.zero_add]; exact atI_nat (rowL_at (k := s) (by omega))), ?_⟩
        rw [hq3]
        refine ⟨p, o2, k2, b, _, os.drop 1, rfl, hb, hF.same sm3, ho3, wo, hqlt s, by rw [List.length_drop]; omega, fun l2 H4 s4 n4 e4 => ?_⟩
        have sm4 := sm3.trans s4
        have hL4 := s4 _ _ (s3 _ _ hL1)
        have nll : l2 ≠ l := (ne_of_none (s3 _ _ hL1) n4).symm
        refine ⟨l2, _, rfl, .inl (.inl e4), ?_⟩
        generalize hQ : quo b (dvN b (gd os) os.length (gd ws) s s) (gd os 0) = qv at e4 hq3 ⊢
        have hqv : qv < span b := by rw [← hQ]; exact hqlt s
        refine for_it (walk_enum (K := K) (a := l2) (xs := ((os.drop 1).map fun x => mul b x qv).map vN)) (fun j σ H' => ∃ z6 z7 : Option V, σ = [some (.ref p), some (.ref a), some (.ref a2), some (.ref l), some (vN (steps ws os)), some (.int (0 + (s : Int))), z6, z7] ∧ Same H H' ∧ H' l = some (.lst (rowL ws.length (dvI b ws os s (j + 1)))) ∧ H' l2 = some (.lst (((os.drop 1).map fun x => mul b x qv).map vN)))
          ⟨_, _, rfl, sm4, hL4, e4⟩ (fun i σ H' _ ⟨_, _, _, _, _, h⟩ => .inl (.inl h)) ?_ ?_
        · rintro j x σ H6 H7 hj ⟨z6, z7, rfl, sm6, hL6, hM6⟩ ⟨T2, x2, y2, rfl, hT2, rfl, e5, e6⟩
          rw [List.length_map, List.length_map, List.length_drop] at hj
          have ex2 : x2 = .int (j : Int) := (Option.some.inj e5).symm
          subst ex2
          have ey2 : y2 = vN (mul b (gd os (j + 1)) qv) := by
            have e7 : (((os.drop 1).map fun x => mul b x qv).map vN)[j]? = some y2 := e6
            rw [List.getElem?_map, List.getElem?_map, List.getElem?_drop, Nat.add_comm 1 j, gd_in (by omega)] at e7
            exact (Option.some.inj e7).symm
          subst ey2
          have sT2 := same_upd (o := .tup [.int (j : Int), vN (mul b (gd os (j + 1)) qv)]) hT2
          have sm2 := sm6.trans sT2
          have hL2 := sT2 _ _ hL6
          have hM2 := sT2 _ _ hM6
          have hij : s + (j + 1) < ws.length := by omega
          have hd3 : dvI b ws os s (j + 1) (s + (j + 1)) = dvN b (gd os) os.length (gd ws) s (s + (j + 1)) := by
            unfold dvI
            rw [if_neg (by omega), if_neg (by omega)]
          refine ⟨T2, [.int (j : Int), vN (mul b (gd os (j + 1)) qv)], rfl, .inl (.inl upd_same), rfl, .int (j : Int), [vN (mul b (gd os (j + 1)) qv)], rfl, vN (mul b (gd os (j + 1)) qv), [], rfl, rfl, ?_⟩
          refine ⟨_, rfl, _, rfl, _, _, rfl, rfl, _, rfl, _, _, rfl, rfl, l, _, _, s + (j + 1), rfl, (by show V.int (0 + (s : Int) + 1 + (j : Int)) = V.int ((s + (j + 1) : Nat) : Int); congr 1; omega), .inl (.inl hL2), rowL_at hij, ?_⟩
          refine ⟨_, rfl, _, _, rfl, rfl, ?_⟩
          refine ⟨l, _, _, s + (j + 1), rfl, rfl, hL2, ?_, ?_⟩
          · rw [show (0 : Int) + (s : Int) + 1 + (j : Int) = ((s + (j + 1) : Nat) : Int) by omega]
            exact ixN_nat (by rw [rowL_len]; exact hij)
          · refine ⟨_, _, rfl, fun c o hc => ?_, ?_, ?_⟩
            · rw [upd_ne (ne_of_none hc hl)]
              exact sm2 _ _ hc
            · rw [upd_same]
              refine congrArg (fun l => some (HO.lst l)) ?_
              show (rowL ws.length (dvI b ws os s (j + 1))).set (s + (j + 1)) (V.int (Builtin.bitXor _ _)) = _
              rw [bx]
              refine rowL_set hij ?_ fun i hi => ?_
              · rw [hd3]
                unfold dvI
                rw [if_neg (by omega), if_pos (by omega), show s + (j + 1) - s = j + 1 by omega, hQ, mul_comm hb (gd_lt hb ho _) hqv]
              · unfold dvI
                by_cases h1 : i = s
                · rw [if_pos h1, if_pos h1]
                · rw [if_neg h1, if_neg h1]
                  by_cases h2 : s < i ∧ i < s + (j + 1)
                  · rw [if_pos h2, if_pos (by omega)]
                  · rw [if_neg h2, if_neg (by omega)]
            · rw [upd_ne nll]
              exact hM2
        · rintro σ H2 ⟨z6, z7, rfl, sm2, hL2, _⟩
          rw [List.length_map, List.length_map, List.length_drop, show os.length - 1 + 1 = os.length by omega, dvI_end] at hL2
          exact ⟨_, _, _, rfl, sm2, hL2⟩
      · rintro σ H2 ⟨z5, z6, z7, rfl, sm2, hL2⟩
        rw [show (((steps ws os : Nat) : Int)).toNat = steps ws os from Int.toNat_natCast _] at hL2
        refine ⟨_, rfl, _, rfl, _, rfl, l, _, rfl, .inl (.inl hL2), fun l1 hl1 => ?_⟩
        have s1 := same_upd (o := .lst (cutV (rowL ws.length (dvN b (gd os) os.length (gd ws) (steps ws os))) none (some ((steps ws os : Nat) : Int)))) hl1
        refine ⟨_, rfl, _, rfl, _, rfl, l, _, rfl, .inl (.inl (s1 _ _ hL2)), fun l2 hl2 => ⟨(by show 2 ≤ sizeLine; decide), fun t ht => ?_⟩⟩
        have s2 := same_upd (o := .lst (cutV (rowL ws.length (dvN b (gd os) os.length (gd ws) (steps ws os))) (some ((steps ws os : Nat) : Int)) none)) hl2
        have s3 := same_upd (o := .tup [.ref l1, .ref l2]) ht
        have f1 : H l1 = none := Same.free sm2 hl1
        have f2 : H l2 = none := Same.free (sm2.trans s1) hl2
        have f3 : H t = none := Same.free ((sm2.trans s1).trans s2) ht
        have ne12 : l1 ≠ l2 := ne_of_none upd_same hl2
        refine q t l1 l2 _ (((sm2.trans s1).trans s2).trans s3) f3 f1 f2 ne12 upd_same ?_ ?_
        · refine s3 _ _ (s2 _ _ (Eq.trans upd_same ?_))
          rw [cut_to _ _ (by rw [rowL_len]; exact hsn), row_take hsn, quoL_row]
        · refine s3 _ _ (Eq.trans upd_same ?_)
          rw [cut_from _ _ (by rw [rowL_len]; exact hsn), row_drop hsn, remL_row]
/-- a fresh Field -/
theorem keep_same {H H' : Hp} {x dx C : Addr} (hx : H x = none) (hdx : H dx = none) (k : ∀ c o, (upd (upd H dx (.own x)) x (.ins C dx [])) c = some o → c ≠ x → H' c = some o) : Same H H' := fun c o hc =>
  k c o (by rw [upd_ne (ne_of_none hc hx), upd_ne (ne_of_none hc hdx)]; exact hc) (ne_of_none hc hx)
def sp_value (K : PySem.W.Frag) : Sp := fun vs H Q _ => ∃ (a : Addr) (k : Bool) (b t : Nat) (ws : List Nat), vs = [vN b, .ref a, vN t] ∧ Wd b ∧ SqB k K H a (ws.map vN) ∧ Ws b ws ∧ t < span b ∧ ∀ H', Same H H' → Q (vN (evl b t ws)) H'
theorem ok_value (T : Txt K mg) : FnOk P w K mg base CX0 6 T.f_value T.d_value ["bits", "words", "at"] (sp_value K) := by
  refine T.F_value.ok sc_value (fun vs H Q E h => ?_) (fun cdv A outer s H vs Q E hr h => ?_)
  · obtain ⟨a, k, b, t, ws, rfl, _⟩ := h
    rfl
  · obtain ⟨a, k, b, t, ws, rfl, hb, hq, hw, ht, q⟩ := h
    refine ⟨_, (pss_cons (ps_expr (pe_call (ok_need_field T) (hr.mono (by decide)) (by rfl) T.g_need_field T.F_need_field.kp T.b_need_field .nil pass0 (pa_cons (pv 0) pa_nil)))
      (pss_cons (ps_expr (pe_call (ok_need_polynomial T) (hr.mono (by decide)) (by rfl) T.g_need_polynomial T.F_need_polynomial.kp T.b_need_polynomial .nil pass0 (pa_cons (pv 0) (pa_cons pe_str (pa_cons (pv 1) pa_nil)))))
      (pss_cons (ps_expr (pe_call (ok_need_word T) (hr.mono (by decide)) (by rfl) T.g_need_word T.F_need_word.kp T.b_need_word .nil pass0 (pa_cons (pv 0) (pa_cons pe_str (pa_cons (pv 2) pa_nil)))))
      (pss_one (ps_ret (pe_call (ok_value_at T) (hr.mono (by decide)) (by rfl) T.g_value_at T.F_value_at.kp T.b_value_at .nil pass0 (pa_cons (pe_make T.mk_Field (ok_Field___init__ T) (hr.mono (by decide)) (by rfl) T.g_Field T.b_Field___init__ .nil pass0 (pa_cons (pv 0) pa_nil)) (pa_cons (pv 1) (pa_cons (pv 2) pa_nil))))))))), ?_⟩
    refine ⟨_, rfl, b, rfl, hb, _, rfl, _, rfl, b, _, a, k, ws, rfl, hb, hq, hw, fun H1 s1 => ?_⟩
    refine ⟨_, rfl, _, rfl, b, t, _, rfl, hb, ht, ?_⟩
    refine ⟨_, rfl, fun x dx hx hdx ne => ⟨x, dx, b, rfl, hb, upd_same, fun H2 hk hF => ⟨rfl, ?_⟩⟩⟩
    have s2 := keep_same hx hdx hk
    exact ⟨_, rfl, _, rfl, x, a, k, b, t, ws, rfl, hb, hF, Same.sqb (s1.trans s2) hq, hw, ht, q _ (s1.trans s2)⟩
def sp_poly_product (K : PySem.W.Frag) : Sp := fun vs H Q _ => ∃ (a a2 : Addr) (k k2 : Bool) (b : Nat) (xs ys : List Nat), vs = [vN b, .ref a, .ref a2] ∧ Wd b ∧ SqB k K H a (xs.map vN) ∧ SqB k2 K H a2 (ys.map vN) ∧ Ws b xs ∧ Ws b ys ∧ xs.length + ys.length ≤ 1000 ∧
  ∀ l H', Same H H' → H l = none → H' l = some (.lst ((conv b xs ys).map vN)) → Q (.ref l) H'
theorem ok_poly_product (T : Txt K mg) : FnOk P w K mg base CX0 6 T.f_poly_product T.d_poly_product ["bits", "one", "other"] (sp_poly_product K) := by
  refine T.F_poly_product.ok sc_poly_product (fun vs H Q E h => ?_) (fun cdv A outer s H vs Q E hr h => ?_)
  · obtain ⟨a, a2, k, k2, b, xs, ys, rfl, _⟩ := h
    rfl
  · obtain ⟨a, a2, k, k2, b, xs, ys, rfl, hb, hq, hq2, hx, hy, hl, q⟩ := h
    refine ⟨_, (pss_cons (ps_expr (pe_call (ok_need_field T) (hr.mono (by decide)) (by rfl) T.g_need_field T.F_need_field.kp T.b_need_field .nil pass0 (pa_cons (pv 0) pa_nil)))
      (pss_cons (ps_expr (pe_call (ok_need_polynomial T) (hr.mono (by decide)) (by rfl) T.g_need_polynomial T.F_need_polynomial.kp T.b_need_polynomial .nil pass0 (pa_cons (pv 0) (pa_cons pe_str (pa_cons (pv 1) pa_nil)))))
      (pss_cons (ps_expr (pe_call (ok_need_polynomial T) (hr.mono (by decide)) (by rfl) T.g_need_polynomial T.F_need_polynomial.kp T.b_need_polynomial .nil pass0 (pa_cons (pv 0) (pa_cons pe_str (pa_cons (pv 2) pa_nil)))))
      (pss_one (ps_ret (pe_call (ok_all_products T) (hr.mono (by decide)) (by rfl) T.g_all_products T.F_all_products.kp T.b_all_products .nil pass0 (pa_cons (pe_make T.mk_Field (ok_Field___init__ T) (hr.mono (by decide)) (by rfl) T.g_Field T.b_Field___init__ .nil pass0 (pa_cons (pv 0) pa_nil)) (pa_cons (pv 1) (pa_cons (pv 2) pa_nil))))))))), ?_⟩
    refine ⟨_, rfl, b, rfl, hb, _, rfl, _, rfl, b, _, a, k, xs, rfl, hb, hq, hx, fun H1 s1 => ?_⟩
    refine ⟨_, rfl, _, rfl, b, _, a2, k2, ys, rfl, hb, Same.sqb s1 hq2, hy, fun H2 s2 => ?_⟩
    refine ⟨_, rfl, fun x dx hx' hdx ne => ⟨x, dx, b, rfl, hb, upd_same, fun H3 hk hF => ⟨rfl, ?_⟩⟩⟩
    have s3 := (s1.trans s2).trans (keep_same hx' hdx hk)
    exact ⟨_, rfl, _, rfl, x, a, a2, k, k2, b, xs, ys, rfl, hb, hF, Same.sqb s3 hq, Same.sqb s3 hq2, hx, hy, hl, fun l H4 s4 hn he => q l H4 (s3.trans s4) (Same.free s3 hn) he⟩
def sp_divided (K : PySem.W.Frag) : Sp := fun vs H Q _ => ∃ (a a2 : Addr) (k k2 : Bool) (b : Nat) (ws os : List Nat), vs = [vN b, .ref a, .ref a2] ∧ Wd b ∧ SqB k K H a (ws.map vN) ∧ SqB k2 K H a2 (os.map vN) ∧ Ws b ws ∧ Ws b os ∧ gd os 0 ≠ 0 ∧ ws.length ≤ 1000 ∧ os.length ≤ 1000 ∧
  ∀ t l1 l2 H', Same H H' → H t = none → H l1 = none → H l2 = none → l1 ≠ l2 → H' t = some (.tup [.ref l1, .ref l2]) → H' l1 = some (.lst ((quoL b ws os).map vN)) → H' l2 = some (.lst ((remL b ws os).map vN)) → Q (.ref t) H'
theorem ok_divided (T : Txt K mg) : FnOk P w K mg base CX0 6 T.f_divided T.d_divided ["bits", "words", "other"] (sp_divided K) := by
  refine T.F_divided.ok sc_divided (fun vs H Q E h => ?_) (fun cdv A outer s H vs Q E hr h => ?_)
  · obtain ⟨a, a2, k, k2, b, xs, ys, rfl, _⟩ := h
    rfl
  · obtain ⟨a, a2, k, k2, b, xs, ys, rfl, hb, hq, hq2, hx, hy, h0, hl1, hl2, q⟩ := h
    refine ⟨_, (pss_cons (ps_expr (pe_call (ok_need_field T) (hr.mono (by decide)) (by rfl) T.g_need_field T.F_need_field.kp T.b_need_field .nil pass0 (pa_cons (pv 0) pa_nil)))
      (pss_cons (ps_expr (pe_call (ok_need_polynomial T) (hr.mono (by decide)) (by rfl) T.g_need_polynomial T.F_need_polynomial.kp T.b_need_polynomial .nil pass0 (pa_cons (pv 0) (pa_cons pe_str (pa_cons (pv 1) pa_nil)))))
      (pss_cons (ps_expr (pe_call (ok_need_polynomial T) (hr.mono (by decide)) (by rfl) T.g_need_polynomial T.F_need_polynomial.kp T.b_need_polynomial .nil pass0 (pa_cons (pv 0) (pa_cons pe_str (pa_cons (pv 2) pa_nil)))))
      (pss_cons (ps_if (PW.pt (pw_or (pt_not (pt_truth (pv 2) (by intro _; rfl))) (pw_or1 (pt_cmpR op_eq (pe_ix ix_rowB (pv 2) pe_int (fun _ _ => rfl)) pe_int (nomark _))))) (pss_one ps_never) pss_nil)
      (pss_one (ps_ret (pe_call (ok_long_division T) (hr.mono (by decide)) (by rfl) T.g_long_division T.F_long_division.kp T.b_long_division .nil pass0 (pa_cons (pe_make T.mk_Field (ok_Field___init__ T) (hr.mono (by decide)) (by rfl) T.g_Field T.b_Field___init__ .nil pass0 (pa_cons (pv 0) pa_nil)) (pa_cons (pv 1) (pa_cons (pv 2) pa_nil)))))))))), ?_⟩
    have lo : 0 < ys.length := by
      cases ys with
      | nil => exact absurd rfl h0
      | cons _ _ => simp
    refine ⟨_, rfl, b, rfl, hb, _, rfl, _, rfl, b, _, a, k, xs, rfl, hb, hq, hx, fun H1 s1 => ?_⟩
    refine ⟨_, rfl, _, rfl, b, _, a2, k2, ys, rfl, hb, Same.sqb s1 hq2, hy, fun H2 s2 => ?_⟩
    have hq3 := Same.sqb (s1.trans s2) hq2
    have hy0 : ys.isEmpty = false := by cases ys with | nil => exact absurd rfl h0 | cons _ _ => rfl
    refine ⟨_, rfl, _, hq3.tru, ?_⟩
    rw [hy0]
    refine iteF ?_
    refine ⟨_, rfl, a2, _, 0, vN (gd ys 0), k2, rfl, rfl, hq3, atI_nat (j := 0) (by rw [List.getElem?_map, gd_in lo]; rfl), rfl, _, rfl, ?_⟩
    refine ite2 (fun c => ?_) (fun c => ?_)
    · have := V.int.inj (of_decide_eq_true c)
      omega
    refine ⟨_, rfl, fun x dx hx' hdx ne => ⟨x, dx, b, rfl, hb, upd_same, fun H3 hk hF => ⟨rfl, ?_⟩⟩⟩
    have s3 := (s1.trans s2).trans (keep_same hx' hdx hk)
    exact ⟨_, rfl, _, rfl, x, a, a2, k, k2, b, xs, ys, rfl, hb, hF, Same.sqb s3 hq, Same.sqb s3 hq2, hx, hy, h0, hl1, hl2, fun t l1 l2 H4 s4 n1 n2 n3 ne e1 e2 e3 => q t l1 l2 H4 (s3.trans s4) (Same.free s3 n1) (Same.free s3 n2) (Same.free s3 n3) ne e1 e2 e3⟩
/-! CUT -/
/-! ### the law's own defs -/
def WellL (a b c : Int) : HO := .lst [.int a, .int b, .int c]
def sp_draw : Sp := fun vs H Q _ => ∃ (p : Addr) (a b c m : Int), vs = [.ref p, .int m] ∧ H p = some (WellL a b c) ∧ 0 < m ∧ m < 1073741824 ∧ ∀ n a' c' : Int, 0 ≤ n → n < m → Q (.int n) (upd H p (WellL a' b c'))
theorem ok__law_draw (T : Txt K mg) : FnOk P w K mg base CX0 1 T.f__law_draw T.d__law_draw ["_law_well", "_law_many"] sp_draw := by
  refine T.F__law_draw.ok sc__law_draw (fun vs H Q E h => ?_) (fun cdv A outer s H vs Q E hr h => ?_)
  · obtain ⟨p, a, b, c, m, rfl, _⟩ := h
    rfl
  · obtain ⟨p, a, b, c, m, rfl, hp, m0, m1, q⟩ := h
    refine ⟨_, (pss_cons (ps_if (pt_cmpR op_gt (pe_ix ix_list (pv 0) pe_int (fun _ _ => rfl)) pe_int (nomark _)) (pss_cons (ps_set (i := 2) sc__law_draw.nd rfl (.inl rfl) (pe_op op_mod (pe_callTy call_int1 (by rfl) T.n_int (by decide +kernel) (pa_cons (pe_ix ix_list (pv 0) pe_int (fun _ _ => rfl)) pa_nil)) (pv 1)))
      (pss_cons (ps_asg (pe_op op_fdiv (pe_ix ix_list (pv 0) pe_int (fun _ _ => rfl)) (pv 1)) (pg_sub (pv 0) pe_int set_list))
      (pss_one (ps_ret (pv 2))))) pss_nil)
      (pss_cons (ps_asg (pe_op op_add (pe_ix ix_list (pv 0) pe_int (fun _ _ => rfl)) pe_int) (pg_sub (pv 0) pe_int set_list))
      (pss_cons (ps_set (i := 3) sc__law_draw.nd rfl (.inl rfl) (pe_op op_mod (pe_callTy call_int1 (by rfl) T.n_int (by decide +kernel) (pa_cons (pe_op op_mul (pe_op op_add (pe_op op_add (pe_ix ix_list (pv 0) pe_int (fun _ _ => rfl)) (pe_op op_mul pe_int (pe_ix ix_list (pv 0) pe_int (fun _ _ => rfl)))) pe_int) pe_int) pa_nil)) pe_int))
      (pss_cons (ps_set (i := 3) sc__law_draw.nd rfl (.inl rfl) (pe_op op_mod (pe_callTy call_int1 (by rfl) T.n_int (by decide +kernel) (pa_cons (pe_op op_mul (pv 3) (pe_op op_add (pe_op op_fdiv (pv 3) pe_int) pe_int)) pa_nil)) pe_int))
      (pss_one (ps_ret (pe_op op_mod (pe_callTy call_int1 (by rfl) T.n_int (by decide +kernel) (pa_cons (pe_op op_mod (pe_callTy call_int1 (by rfl) T.n_int (by decide +kernel) (pa_cons (pe_op op_mul (pv 3) (pe_op op_add (pe_op op_fdiv (pv 3) pe_int) pe_int)) pa_nil)) pe_int) pa_nil)) (pv 1)))))))), ?_⟩
    have hw : ∀ {H' : Hp} {xs : List V}, H' p = some (.lst xs) → SqL K H' p xs := fun h => .inl (.inl h)
    refine ⟨_, rfl, p, _, 0, _, rfl, rfl, hw hp, rfl, _, _, rfl, rfl, _, rfl, ?_⟩
    refine ite2 (fun cc => ?_) (fun cc => ?_)
    · refine ⟨_, rfl, p, _, 0, _, rfl, rfl, hw hp, rfl, .inl ⟨_, rfl, _, rfl, _, _, rfl, rfl, m0, ?_⟩⟩
      refine ⟨_, rfl, p, _, 0, _, rfl, rfl, hw hp, rfl, _, rfl, _, _, rfl, rfl, ⟨m0, m1⟩, ?_⟩
      refine ⟨_, rfl, p, _, 0, 0, rfl, rfl, hp, rfl, ?_⟩
      exact ⟨_, rfl, q _ _ _ (Int.emod_nonneg _ (by omega)) (Int.emod_lt_of_pos _ m0)⟩
    · refine ⟨_, rfl, p, _, 2, _, rfl, rfl, hw hp, rfl, _, _, rfl, rfl, _, rfl, p, _, 2, 2, rfl, rfl, hp, rfl, ?_⟩
      have hs : (upd H p (.lst ([V.int a, V.int b, V.int c].set 2 (.int (c + 1))))) p = some (WellL a b (c + 1)) := upd_same
      refine ⟨_, rfl, p, _, 1, _, rfl, rfl, hw hs, rfl, _, rfl, p, _, 2, _, rfl, rfl, hw hs, rfl, _, _, rfl, rfl, .inl (by decide), _, _, rfl, rfl, _, _, rfl, rfl, _, _, rfl, rfl, .inr (by decide), .inl ⟨_, rfl, _, _, rfl, rfl, (show (0 : Int) < 2147483647 by decide), ?_⟩⟩
      generalize hz : ((b + 104729 * (c + 1) + 1) * 48271) % 2147483647 = z
      have z0 : 0 ≤ z := by rw [← hz]; exact Int.emod_nonneg _ (by decide)
      have z1 : z < 2147483647 := by rw [← hz]; exact Int.emod_lt_of_pos _ (by decide)
      refine ⟨_, rfl, _, rfl, _, _, rfl, rfl, ⟨by decide, by decide⟩, _, _, rfl, rfl, _, _, rfl, rfl, .inl ⟨by omega, by omega⟩, .inl ⟨_, rfl, _, _, rfl, rfl, (show (0 : Int) < 2147483647 by decide), ?_⟩⟩
      generalize hy : (z * (z / 1009 + 69621)) % 2147483647 = y
      have y0 : 0 ≤ y := by rw [← hy]; exact Int.emod_nonneg _ (by decide)
      have y1 : y < 2147483647 := by rw [← hy]; exact Int.emod_lt_of_pos _ (by decide)
      refine ⟨_, rfl, _, rfl, _, _, rfl, rfl, ⟨by decide, by decide⟩, _, _, rfl, rfl, _, _, rfl, rfl, .inl ⟨by omega, by omega⟩, .inl ⟨_, rfl, _, _, rfl, rfl, (show (0 : Int) < 2147483399 by decide), .inl ⟨_, rfl, _, rfl, _, _, rfl, rfl, m0, ?_⟩⟩⟩
      exact q _ _ _ (Int.emod_nonneg _ (by omega)) (Int.emod_lt_of_pos _ m0)
def sp_one : Sp := fun vs H Q _ => ∃ (p l : Addr) (a b c : Int) (xs : List V), vs = [.ref p, .ref l] ∧ p ≠ l ∧ H p = some (WellL a b c) ∧ H l = some (.lst xs) ∧ 0 < xs.length ∧ xs.length ≤ 1000 ∧ ∀ (i : Nat) (v : V) (a' c' : Int), xs[i]? = some v → Q v (upd H p (WellL a' b c'))
theorem ok__law_one (T : Txt K mg) : FnOk P w K mg base CX0 2 T.f__law_one T.d__law_one ["_law_well", "_law_some"] sp_one := by
  refine T.F__law_one.ok sc__law_one (fun vs H Q E h => ?_) (fun cdv A outer s H vs Q E hr h => ?_)
  · obtain ⟨p, l, a, b, c, xs, rfl, _⟩ := h
    rfl
  · obtain ⟨p, l, a, b, c, xs, rfl, hpl, hp, hl, l0, l1, q⟩ := h
    refine ⟨_, (pss_one (ps_ret (pe_ix ix_list (pv 1) (pe_call (ok__law_draw T) (hr.mono (by decide)) (by rfl) T.g__law_draw T.F__law_draw.kp T.b__law_draw .nil pass0 (pa_cons (pv 0) (pa_cons (pe_callB call_len_seq (by rfl) T.n_len (by decide +kernel) (pa_cons (pv 1) pa_nil)) pa_nil))) (fun _ _ => rfl)))), ?_⟩
    refine ⟨_, rfl, _, rfl, _, rfl, l, xs, rfl, .inl (.inl (.inl hl)), p, a, b, c, _, rfl, hp, by omega, by omega, fun n a' c' n0 n1 => ?_⟩
    obtain ⟨k, rfl⟩ := Int.eq_ofNat_of_zero_le n0
    have hk : k < xs.length := by omega
    exact ⟨l, xs, (k : Int), xs[k], rfl, rfl, .inl (.inl (by rw [upd_ne hpl.symm]; exact hl)), atI_nat (List.getElem?_eq_getElem hk), q k _ a' c' (List.getElem?_eq_getElem hk)⟩
/-- 1 << b -/
theorem shl_span {b : Nat} (hb : Wd b) : (1 : Int) * 2 ^ ((b : Int)).toNat = (span b : Int) := by rcases hb with rfl | rfl <;> rfl
theorem shl_ok {b : Nat} (hb : Wd b) : CPow 1 (b : Int) := by rcases hb with rfl | rfl <;> exact ⟨by decide, by decide, by decide⟩
def sp_ldoubled : Sp := fun vs H Q _ => ∃ b x : Nat, vs = [vN b, vN x] ∧ Wd b ∧ x < span b ∧ Q (vN (dbl b x)) H
theorem ok__law_doubled (T : Txt K mg) : FnOk P w K mg base CX0 1 T.f__law_doubled T.d__law_doubled ["_law_wide", "_law_one_so"] sp_ldoubled := by
  refine T.F__law_doubled.ok sc__law_doubled (fun vs H Q E h => ?_) (fun cdv A outer s H vs Q E hr h => ?_)
  · obtain ⟨b, x, rfl, _⟩ := h
    rfl
  · obtain ⟨b, x, rfl, hb, hx, q⟩ := h
    refine ⟨_, (pss_cons (ps_set (i := 2) sc__law_doubled.nd rfl (.inl rfl) (pe_ifExp (pt_cmpR op_eq (pv 0) pe_int (nomark _)) pe_int pe_int))
      (pss_one (ps_ret (pe_ifExp (pt_cmpR op_lt (pe_op op_mul (pv 1) pe_int) (pe_op op_shl pe_int (pv 0)) (nomark _)) (pe_op op_mul (pv 1) pe_int) (pe_op op_xor (pe_op op_sub (pe_op op_mul (pv 1) pe_int) (pe_op op_shl pe_int (pv 0))) (pv 2)))))), ?_⟩
    have key : ∀ z : V, z = vN (foldw b) → (tRet (tIf (tTest (tOp (rI0 fun i j => .bl (decide (i < j))) (tOp (rI CMul fun i j => .int (i * j)) (tVar 1) (tC (.int 2))) (tOp (rI CPow fun i j => .int (i * 2 ^ j.toNat)) (tC (.int 1)) (tVar 0))))
        (tOp (rI CMul fun i j => .int (i * j)) (tVar 1) (tC (.int 2))) (tOp (rI0 fun i j => .int (Builtin.bitXor i j)) (tOp (rI0 fun i j => .int (i - j)) (tOp (rI CMul fun i j => .int (i * j)) (tVar 1) (tC (.int 2))) (tOp (rI CPow fun i j => .int (i * 2 ^ j.toNat)) (tC (.int 1)) (tVar 0))) (tVar 2)))) { nx := fun _ H' => Q .non H', rt := Q } [some (vN b), some (vN x), some z] H := by
      rintro z rfl
      refine ⟨_, rfl, _, _, rfl, rfl, .inr (by decide), _, rfl, _, _, rfl, rfl, shl_ok hb, _, _, rfl, rfl, _, rfl, ?_⟩
      rw [shl_span hb]
      refine ite2 (fun c => ?_) (fun c => ?_)
      · refine ⟨_, rfl, _, _, rfl, rfl, .inr (by decide), ?_⟩
        have c' : (x : Int) * 2 < (span b : Int) := of_decide_eq_true c
        have e : dbl b x = x * 2 := by
          unfold dbl
          rw [show Nat.blt (2 * x) (span b) = true by rw [Nat.blt_eq]; omega]
          exact Nat.mul_comm 2 x
        rw [e] at q
        show Q (.int ((x : Int) * 2)) H
        rw [show (x : Int) * 2 = ((x * 2 : Nat) : Int) by omega]
        exact q
      · have c' : ¬ (x : Int) * 2 < (span b : Int) := fun z => c (decide_eq_true z)
        refine ⟨_, rfl, _, _, rfl, rfl, .inr (by decide), _, rfl, _, _, rfl, rfl, shl_ok hb, _, _, rfl, rfl, _, rfl, _, _, rfl, rfl, ?_⟩
        have e : dbl b x = (2 * x - span b) ^^^ foldw b := by
          unfold dbl
          rw [show Nat.blt (2 * x) (span b) = false by rw [← Bool.not_eq_true, Nat.blt_eq]; omega]
          rfl
        rw [e] at q
        show Q (.int (Builtin.bitXor ((x : Int) * 2 - 1 * 2 ^ ((b : Int)).toNat) (foldw b : Int))) H
        rw [shl_span hb, show (x : Int) * 2 - (span b : Int) = ((2 * x - span b : Nat) : Int) by omega, bx]
        exact q
    refine ⟨_, rfl, rfl, _, rfl, ?_⟩
    refine ite2 (fun c => ?_) (fun c => ?_)
    · have e4 : b = 4 := by have := V.int.inj (of_decide_eq_true c); omega
      exact key _ (by rw [e4]; rfl)
    · have e8 : b = 8 := by
        rcases hb with rfl | rfl
        · exact absurd (decide_eq_true rfl) c
        · rfl
      exact key _ (by rw [e8]; rfl)
def sp_lproduct : Sp := fun vs H Q _ => ∃ b x y : Nat, vs = [vN b, vN x, vN y] ∧ Wd b ∧ x < span b ∧ y < span b ∧ Q (vN (mul b x y)) H
theorem ok__law_product (T : Txt K mg) : FnOk P w K mg base CX0 2 T.f__law_product T.d__law_product ["_law_wide", "_law_one_so", "_law_other_so"] sp_lproduct := by
  refine T.F__law_product.ok sc__law_product (fun vs H Q E h => ?_) (fun cdv A outer s H vs Q E hr h => ?_)
  · obtain ⟨b, x, y, rfl, _⟩ := h
    rfl
  · obtain ⟨b, x, y, rfl, hb, hx, hy, q⟩ := h
    refine ⟨_, (pss_cons (ps_par (i := 3) (j := 4) (by rfl) sc__law_product.nd rfl rfl (by decide) rfl rfl (pa_cons pe_int (pa_cons (pv 1) pa_nil)) (by rfl))
      (pss_cons (ps_for PassesOwn.never rfl (pi_range1 (by rfl) T.n_range (pa_cons (pv 0) pa_nil)) (pg_name (i := 5) sc__law_product.nd rfl (.inl rfl)) (pss_cons (ps_if (pt_cmpR op_eq (pe_op op_mod (pe_callTy call_int1 (by rfl) T.n_int (by decide +kernel) (pa_cons (pe_op op_shr (pv 2) (pv 5)) pa_nil)) pe_int) pe_int (nomark _)) (pss_one (ps_set (i := 3) sc__law_product.nd rfl (.inl rfl) (pe_op op_xor (pv 3) (pv 4)))) pss_nil)
      (pss_one (ps_set (i := 4) sc__law_product.nd rfl (.inl rfl) (pe_call (ok__law_doubled T) (hr.mono (by decide)) (by rfl) T.g__law_doubled T.F__law_doubled.kp T.b__law_doubled .nil pass0 (pa_cons (pv 0) (pa_cons (pv 4) pa_nil)))))))
      (pss_one (ps_ret (pv 3))))), ?_⟩
    have hb8 : b ≤ 8 := by rcases hb with rfl | rfl <;> decide
    refine ⟨_, rfl, _, _, rfl, _, rfl, _, rfl, by omega, by omega, ?_⟩
    refine for_range (fun i σ H' => ∃ (t o : Nat) (z : Option V), σ = [some (vN b), some (vN x), some (vN y), some (vN t), some (vN o), z] ∧ o < span b ∧ t ^^^ mulF b (b - i) o (y / 2 ^ i) = mul b x y ∧ H' = H) ?_ ?_ ?_
    · exact ⟨0, x, none, rfl, hx, by simp [mul], rfl⟩
    · rintro i σ H' hi ⟨t, o, z, rfl, ho, he, rfl⟩
      have hi' : i < b := by simpa using hi
      have hm : t ^^^ ((cond (Nat.beq ((y / 2 ^ i) % 2) 1) o 0) ^^^ mulF b (b - (i + 1)) (dbl b o) (y / 2 ^ (i + 1))) = mul b x y := by
        rw [show b - i = (b - (i + 1)) + 1 by omega] at he
        rw [Nat.pow_succ, ← Nat.div_div_eq_div_mul]
        exact he
      refine ⟨_, rfl, _, rfl, _, _, rfl, rfl, by omega, .inl ⟨_, rfl, _, _, rfl, rfl, (show (0 : Int) < 2 by decide), rfl, _, rfl, ?_⟩⟩
      have ev : (y : Int) / 2 ^ ((0 : Int) + (i : Int)).toNat % 2 = ((y / 2 ^ i % 2 : Nat) : Int) := by
        rw [show ((0 : Int) + (i : Int)).toNat = i by omega]
        simp
      refine ite2 (fun c => ?_) (fun c => ?_)
      · have hodd : y / 2 ^ i % 2 = 1 := by
          have e1 : (y : Int) / 2 ^ ((0 : Int) + (i : Int)).toNat % 2 = 1 := V.int.inj (of_decide_eq_true c)
          rw [ev] at e1
          omega
        rw [hodd] at hm
        refine ⟨_, rfl, _, rfl, _, _, rfl, rfl, _, rfl, _, rfl, b, o, rfl, hb, ho, ?_⟩
        refine ⟨t ^^^ o, dbl b o, some (.int (0 + (i : Int))), ?_, dbl_lt hb ho, ?_, rfl⟩
        · show [some (vN b), some (vN x), some (vN y), some (V.int _), some (vN (dbl b o)), _] = _
          rw [bx]
          rfl
        · rw [Nat.xor_assoc]
          exact hm
      · have hz : y / 2 ^ i % 2 = 0 := by
          have e1 : ¬ (y : Int) / 2 ^ ((0 : Int) + (i : Int)).toNat % 2 = 1 := fun z => c (decide_eq_true (congrArg V.int z))
          rw [ev] at e1
          omega
        rw [hz] at hm
        refine ⟨_, rfl, _, rfl, b, o, rfl, hb, ho, ?_⟩
        refine ⟨t, dbl b o, some (.int (0 + (i : Int))), rfl, dbl_lt hb ho, ?_, rfl⟩
        have e : (cond (Nat.beq 0 1) o 0) ^^^ mulF b (b - (i + 1)) (dbl b o) (y / 2 ^ (i + 1)) = mulF b (b - (i + 1)) (dbl b o) (y / 2 ^ (i + 1)) := Nat.zero_xor _
        rw [e] at hm
        exact hm
    · rintro σ H' ⟨t, o, z, rfl, ho, he, rfl⟩
      have e0 : b - ((b : Int)).toNat = 0 := by omega
      rw [e0] at he
      have e1 : t = mul b x y := by
        rw [← he]
        exact (Nat.xor_zero t).symm
      rw [← e1] at q
      exact ⟨_, rfl, q⟩
/-- what stands but for p stays -/
def Kp (p : Addr) (H H' : Hp) : Prop := ∀ b o, H b = some o → b ≠ p → H' b = some o
theorem Kp.upd {p : Addr} {H : Hp} {o : HO} : Kp p H (upd H p o) := fun b u e n => by
  rw [upd_ne n]
  exact e
theorem Kp.trans {p : Addr} {H H1 H2 : Hp} (a : Kp p H H1) (b : Kp p H1 H2) : Kp p H H2 := fun c o e n => b c o (a c o e n) n
theorem Same.kp {p : Addr} {H H1 : Hp} (a : Same H H1) : Kp p H H1 := fun c o e _ => a c o e
def sp_word : Sp := fun vs H Q _ => ∃ (p : Addr) (a b c : Int) (w : Nat), vs = [.ref p, vN w] ∧ Wd w ∧ H p = some (WellL a b c) ∧ ∀ (x : Nat) (a' c' : Int) (H' : Hp), x < span w → Kp p H H' → H' p = some (WellL a' b c') → Q (vN x) H'
theorem ok__law_word (T : Txt K mg) : FnOk P w K mg base CX0 2 T.f__law_word T.d__law_word ["_law_well", "_law_wide"] sp_word := by
  refine T.F__law_word.ok sc__law_word (fun vs H Q E h => ?_) (fun cdv A outer s H vs Q E hr h => ?_)
  · obtain ⟨p, a, b, c, w, rfl, _⟩ := h
    rfl
  · obtain ⟨p, a, b, c, w, rfl, hw, hp, q⟩ := h
    refine ⟨_, (pss_cons (ps_set (i := 2) sc__law_word.nd rfl (.inl rfl) (pe_op op_shl pe_int (pv 1)))
      (pss_one (ps_ret (pe_ix ix_list (pe_lst (pa_cons pe_int (pa_cons pe_int (pa_cons pe_int (pa_cons (pe_op op_sub (pv 2) pe_int) (pa_cons (pe_op op_fdiv (pv 2) pe_int) (pa_cons (pe_call (ok__law_draw T) (hr.mono (by decide)) (by rfl) T.g__law_draw T.F__law_draw.kp T.b__law_draw .nil pass0 (pa_cons (pv 0) (pa_cons (pv 2) pa_nil))) (pa_cons (pe_call (ok__law_draw T) (hr.mono (by decide)) (by rfl) T.g__law_draw T.F__law_draw.kp T.b__law_draw .nil pass0 (pa_cons (pv 0) (pa_cons (pv 2) pa_nil))) pa_nil)))))))) (pe_call (ok__law_draw T) (hr.mono (by decide)) (by rfl) T.g__law_draw T.F__law_draw.kp T.b__law_draw .nil pass0 (pa_cons (pv 0) (pa_cons pe_int pa_nil))) (fun _ _ => rfl))))), ?_⟩
    have hs0 : 0 < span w := by rcases hw with rfl | rfl <;> decide
    have hs1 := span_small hw
    have hs2 : 16 ≤ span w := by rcases hw with rfl | rfl <;> decide
    refine ⟨_, rfl, _, _, rfl, rfl, shl_ok hw, ?_⟩
    have e := shl_span hw
    have key : ∀ m : Int, m = (span w : Int) → (tRet (tOp (rIxL K) (tLst (tCons (tC (.int 0)) (tCons (tC (.int 1)) (tCons (tC (.int 2)) (tCons (tOp (rI0 fun i j => .int (i - j)) (tVar 2) (tC (.int 1))) (tCons (tOp (rI CDiv fun i j => .int (i / j)) (tVar 2) (tC (.int 2)))
        (tCons (tCall sp_draw [] E0 (tCons (tVar 0) (tCons (tVar 2) tNil))) (tCons (tCall sp_draw [] E0 (tCons (tVar 0) (tCons (tVar 2) tNil))) tNil)))))))) (tCall sp_draw [] E0 (tCons (tVar 0) (tCons (tC (.int 7)) tNil))))) { nx := fun _ H' => Q .non H', rt := Q } [some (.ref p), some (vN w), some (.int m)] H := by
      rintro m rfl
      refine ⟨_, rfl, _, _, rfl, rfl, _, rfl, _, _, rfl, rfl, ⟨by decide, by decide⟩, ?_⟩
      refine ⟨_, rfl, _, rfl, p, a, b, c, _, rfl, hp, by omega, by omega, fun n1 a1 c1 n10 n11 => ?_⟩
      refine ⟨_, rfl, _, rfl, p, a1, b, c1, _, rfl, upd_same, by omega, by omega, fun n2 a2 c2 n20 n21 => ?_⟩
      refine ⟨(by show 7 ≤ sizeLine; decide), fun l hl => ?_⟩
      have hpl : p ≠ l := ne_of_none upd_same hl
      have hlH : H l = none := by
        rw [upd_ne hpl.symm, upd_ne hpl.symm] at hl
        exact hl
      refine ⟨_, rfl, p, a2, b, c2, 7, rfl, by rw [upd_ne hpl]; exact upd_same, by decide, by decide, fun k a3 c3 k0 k1 => ?_⟩
      obtain ⟨k, rfl⟩ := Int.eq_ofNat_of_zero_le k0
      obtain ⟨n1, rfl⟩ := Int.eq_ofNat_of_zero_le n10
      obtain ⟨n2, rfl⟩ := Int.eq_ofNat_of_zero_le n20
      have hk : k < 7 := by omega
      have hx : ∃ x : Nat, ([V.int 0, V.int 1, V.int 2, V.int ((span w : Int) - 1), V.int ((span w : Int) / 2), V.int (n1 : Int), V.int (n2 : Int)] : List V)[k]? = some (vN x) ∧ x < span w := by
        match k, hk with
        | 0, _ => exact ⟨0, rfl, by omega⟩
        | 1, _ => exact ⟨1, rfl, by omega⟩
        | 2, _ => exact ⟨2, rfl, by omega⟩
        | 3, _ => exact ⟨span w - 1, by show some (V.int ((span w : Int) - 1)) = some (V.int ((span w - 1 : Nat) : Int)); rw [show (span w : Int) - 1 = ((span w - 1 : Nat) : Int) by omega], by omega⟩
        | 4, _ => exact ⟨span w / 2, by show some (V.int ((span w : Int) / 2)) = some (V.int ((span w / 2 : Nat) : Int)); rw [show (span w : Int) / 2 = ((span w / 2 : Nat) : Int) by omega], by omega⟩
        | 5, _ => exact ⟨n1, rfl, by omega⟩
        | 6, _ => exact ⟨n2, rfl, by omega⟩
      obtain ⟨x, ex, hx⟩ := hx
      refine ⟨l, _, (k : Int), _, rfl, rfl, .inl (.inl (by rw [upd_ne hpl.symm]; exact upd_same)), atI_nat ex, q x a3 c3 _ hx ?_ upd_same⟩
      intro d o ed nd
      rw [upd_ne nd, upd_ne (ne_of_none ed hlH), upd_ne nd, upd_ne nd]
      exact ed
    exact key _ e
theorem eqT {x y : V} {Q : VK} {H : Hp} (h : x = y) (q : Q (.bl true) H) : Q (.bl (decide (x = y))) H := by
  rw [decide_eq_true h]
  exact q
theorem Kp.sqb {k : Bool} {p a : Addr} {H H' : Hp} {xs : List V} (h : Kp p H H') (hq : SqB k K H a xs) (hp : ∃ ys, H p = some (.lst ys)) (hn : p ≠ a) : SqB k K H' a xs := by
  cases k
  · rcases hq with (h1 | ⟨o, h1⟩) | h1
    · exact .inl (.inl (h _ _ h1 hn.symm))
    · exact .inl (.inr ⟨o, h _ _ h1 hn.symm⟩)
    · exact .inr h1
  · rcases hq with (h1 | ⟨o, h1⟩) | h1
    · exact .inl (.inl (h _ _ h1 hn.symm))
    · exact .inl (.inr ⟨o, h _ _ h1 hn.symm⟩)
    · exact .inr h1
/-- the law's own value -/
def sp_lvalue (K : PySem.W.Frag) : Sp := fun vs H Q _ => ∃ (a : Addr) (k : Bool) (b t : Nat) (ws : List Nat), vs = [vN b, .ref a, vN t] ∧ Wd b ∧ SqB k K H a (ws.map vN) ∧ Ws b ws ∧ t < span b ∧ ∀ H', Same H H' → Q (vN (evl b t ws)) H'
theorem ok__law_value (T : Txt K mg) : FnOk P w K mg base CX0 3 T.f__law_value T.d__law_value ["_law_wide", "_law_words", "_law_at"] (sp_lvalue K) := by
  refine T.F__law_value.ok sc__law_value (fun vs H Q E h => ?_) (fun cdv A outer s H vs Q E hr h => ?_)
  · obtain ⟨a, k, b, t, ws, rfl, _⟩ := h
    rfl
  · obtain ⟨a, k, b, t, ws, rfl, hb, hq, hw, ht, q⟩ := h
    refine ⟨_, (pss_cons (ps_asg (pe_tup (pa_cons pe_int (pa_cons pe_int pa_nil))) (pg_tup rfl (pgs_cons (pg_name (i := 3) sc__law_value.nd rfl (.inl rfl)) (pgs_cons (pg_name (i := 4) sc__law_value.nd rfl (.inl rfl)) pgs_nil))))
      (pss_cons (ps_for PassesOwn.never rfl (RT.pi_revA (by rfl) T.n_reversed (pe_callTy call_list_of (by rfl) T.n_list (by decide +kernel) (pa_cons (pv 1) pa_nil))) (pg_name (i := 5) sc__law_value.nd rfl (.inl rfl)) (pss_cons (ps_set (i := 3) sc__law_value.nd rfl (.inl rfl) (pe_op op_xor (pv 3) (pe_call (ok__law_product T) (hr.mono (by decide)) (by rfl) T.g__law_product T.F__law_product.kp T.b__law_product .nil pass0 (pa_cons (pv 0) (pa_cons (pv 5) (pa_cons (pv 4) pa_nil))))))
      (pss_one (ps_set (i := 4) sc__law_value.nd rfl (.inl rfl) (pe_call (ok__law_product T) (hr.mono (by decide)) (by rfl) T.g__law_product T.F__law_product.kp T.b__law_product .nil pass0 (pa_cons (pv 0) (pa_cons (pv 4) (pa_cons (pv 2) pa_nil))))))))
      (pss_one (ps_ret (pv 3))))), ?_⟩
    refine ⟨(by show 2 ≤ sizeLine; decide), fun T0 hT0 => ?_⟩
    have s0 := same_upd (o := .tup [.int 0, .int 1]) hT0
    refine ⟨T0, [.int 0, .int 1], rfl, .inl (.inl upd_same), rfl, .int 0, [.int 1], rfl, .int 1, [], rfl, rfl, ?_⟩
    refine ⟨_, rfl, a, _, rfl, (Same.sqb s0 hq).or, fun l hl => ?_⟩
    have sl := s0.trans (same_upd (o := .lst (ws.map vN)) hl)
    refine ⟨l, _, rfl, .inl ⟨.inl (.inl upd_same), ?_⟩⟩
    refine for_it (walk_rev (K := K) (a := l) (xs := ws.map vN)) (fun i σ H' => ∃ z : Option V, σ = [some (vN b), some (.ref a), some (vN t), some (vN (evl b t (ws.drop (ws.length - i)))), some (vN (powT b t i)), z] ∧ H' = upd (upd H T0 (.tup [.int 0, .int 1])) l (.lst (ws.map vN))) ?_ ?_ ?_ ?_
    · refine ⟨none, ?_, rfl⟩
      rw [Nat.sub_zero, List.drop_length]
      rfl
    · rintro i σ H' _ ⟨z, rfl, rfl⟩
      exact .inl (.inl upd_same)
    · rintro i x σ H1 H2 hi ⟨z, rfl, rfl⟩ ⟨rfl, e2⟩
      rw [List.length_map] at hi e2
      have hj : ws.length - 1 - i < ws.length := by omega
      have ey : x = vN (gd ws (ws.length - 1 - i)) := by
        rw [List.getElem?_map, gd_in hj] at e2
        exact (Option.some.inj e2).symm
      subst ey
      have wd : Ws b (ws.drop (ws.length - i)) := fun y hy => hw y (List.mem_of_mem_drop hy)
      have ed : ws.drop (ws.length - (i + 1)) = gd ws (ws.length - 1 - i) :: ws.drop (ws.length - i) := by
        rw [show ws.length - (i + 1) = ws.length - 1 - i by omega, List.drop_eq_getElem_cons hj, show ws.length - 1 - i + 1 = ws.length - i by omega]
        congr 1
        have := gd_in hj
        rw [List.getElem?_eq_getElem hj] at this
        exact Option.some.inj this
      have hlen : (ws.drop (ws.length - i)).length = i := by rw [List.length_drop]; omega
      refine ⟨_, rfl, _, rfl, _, rfl, _, rfl, b, _, _, rfl, hb, gd_lt hb hw _, powT_lt hb i, _, _, rfl, rfl, ?_⟩
      refine ⟨_, rfl, _, rfl, _, rfl, b, _, t, rfl, hb, powT_lt hb i, ht, ?_⟩
      refine ⟨some (vN (gd ws (ws.length - 1 - i))), ?_, rfl⟩
      show [_, _, _, some (V.int (Builtin.bitXor _ _)), _, _] = _
      rw [bx, ed, evl_cons hb ht (gd_lt hb hw _) wd, hlen, Nat.xor_comm]
      rfl
    · rintro σ H' ⟨z, rfl, rfl⟩
      rw [List.length_map, Nat.sub_self]
      exact ⟨_, rfl, q _ sl⟩
/-! CUT -/
def sp_row (K : PySem.W.Frag) : Sp := fun vs H Q _ => ∃ (p : Addr) (a b0 c : Int) (w m : Nat), vs = [.ref p, vN w, vN m] ∧ Wd w ∧ H p = some (WellL a b0 c) ∧ m ≤ 100 ∧
  ∀ (ws : List Nat) (a' c' : Int) (l : Addr) (H' : Hp), Ws w ws → ws.length ≤ m → Kp p H H' → H' p = some (WellL a' b0 c') → H l = none → H' l = some (.lst (ws.map vN)) → Q (.ref l) H'
theorem ok__law_row (T : Txt K mg) : FnOk P w K mg base CX0 3 T.f__law_row T.d__law_row ["_law_well", "_law_wide", "_law_most"] (sp_row K) := by
  refine T.F__law_row.ok sc__law_row (fun vs H Q E h => ?_) (fun cdv A outer s H vs Q E hr h => ?_)
  · obtain ⟨p, a, b, c, w, m, rfl, _⟩ := h
    rfl
  · obtain ⟨p, a, b, c, w, m, rfl, hw, hp, hm, q⟩ := h
    refine ⟨_, (pss_one (ps_ret (pe_lc (own := [("_law_turn", 3)]) rfl sc__law_row.nd (pi_range1 (by rfl) T.n_range (pa_cons (pe_call (ok__law_draw T) (hr.mono (by decide)) (by rfl) T.g__law_draw T.F__law_draw.kp T.b__law_draw .nil pass0 (pa_cons (pv 0) (pa_cons (pe_op op_add (pv 2) pe_int) pa_nil))) pa_nil)) (blkOk_by (N := ["_law_well", "_law_wide", "_law_most", "_law_turn"]) (sc := defScope s__law_row) (by decide +kernel)) (fun _ _ _ _ _ => by exact (pg_name (i := 3) sc__law_row.nd rfl (.inl rfl))) (fun _ _ _ _ _ => by exact pts_nil) (fun _ _ _ _ _ => by exact (pe_call (ok__law_word T) (hr.mono (by decide)) (by rfl) T.g__law_word T.F__law_word.kp T.b__law_word .nil pass0 (pa_cons (pv 0) (pa_cons (pv 1) pa_nil))))))), ?_⟩
    refine ⟨_, rfl, _, rfl, _, _, rfl, rfl, p, a, b, c, _, rfl, hp, by omega, by omega, fun n a1 c1 n0 n1 => ⟨n, rfl, by omega, by omega, fun D hD => ?_⟩⟩
    have hpD : p ≠ D := ne_of_none upd_same hD
    have hDH : H D = none := by
      rw [upd_ne hpD.symm] at hD
      exact hD
    refine lc_range (lo := 0) (n := n.toNat) (fun i H' => ∃ (ws : List Nat) (a' c' : Int), Ws w ws ∧ ws.length = i ∧ Kp p H H' ∧ H' p = some (WellL a' b c') ∧ H' D = some (.lst (ws.map vN))) ?_ ?_ ?_
    · refine ⟨[], a1, c1, (fun x hx => nomatch hx), rfl, fun d o hd nd => ?_, by rw [upd_ne hpD]; exact upd_same, upd_same⟩
      rw [upd_ne (ne_of_none hd hDH), upd_ne nd]
      exact hd
    · rintro i H' hi ⟨ws, a2, c2, hws, hl, kp, hp2, hD2⟩
      refine ⟨rfl, ?_⟩
      refine ⟨_, rfl, _, rfl, p, a2, b, c2, w, rfl, hw, hp2, fun x a3 c3 H3 hx k3 hp3 => ?_⟩
      have hD3 := k3 _ _ hD2 hpD.symm
      refine ⟨_, hD3, ?_, ws ++ [x], a3, c3, fun y hy => ?_, ?_, fun d o hd nd => ?_, ?_, ?_⟩
      · rw [List.length_map]
        exact small1000 (by omega)
      · rcases List.mem_append.mp hy with h | h
        · exact hws y h
        · rw [List.mem_singleton.mp h]
          exact hx
      · rw [List.length_append, hl]
        rfl
      · rw [upd_ne (ne_of_none hd hDH)]
        exact k3 _ _ (kp _ _ hd nd) nd
      · rw [upd_ne hpD]
        exact hp3
      · rw [upd_same, List.map_append]
        rfl
    · rintro H' ⟨ws, a2, c2, hws, hl, kp, hp2, hD2⟩
      exact q ws a2 c2 D H' hws (by omega) kp hp2 hDH hD2
def sp_ltimes (K : PySem.W.Frag) : Sp := fun vs H Q _ => ∃ (a a2 : Addr) (b : Nat) (xs ys : List Nat), vs = [vN b, .ref a, .ref a2] ∧ Wd b ∧ SqL K H a (xs.map vN) ∧ SqL K H a2 (ys.map vN) ∧ Ws b xs ∧ Ws b ys ∧ xs.length + ys.length ≤ 1000 ∧
  ∀ l H', Same H H' → H l = none → H' l = some (.lst ((conv b xs ys).map vN)) → Q (.ref l) H'
theorem ok__law_times (T : Txt K mg) : FnOk P w K mg base CX0 3 T.f__law_times T.d__law_times ["_law_wide", "_law_one_so", "_law_other_so"] (sp_ltimes K) := by
  refine T.F__law_times.ok sc__law_times (fun vs H Q E h => ?_) (fun cdv A outer s H vs Q E hr h => ?_)
  · obtain ⟨a, a2, b, xs, ys, rfl, _⟩ := h
    rfl
  · obtain ⟨a, a2, b, xs, ys, rfl, hb, hq, hq2, hx, hy, hlen, q⟩ := h
    refine ⟨_, (pss_cons (ps_if (PW.pt (pw_or (pt_cmpR (op_eqD hr.units) (pv 1) (pe_lst pa_nil) (nomark _)) (pw_or1 (pt_cmpR (op_eqD hr.units) (pv 2) (pe_lst pa_nil) (nomark _))))) (pss_one (ps_ret (pe_lst pa_nil))) pss_nil)
      (pss_cons (ps_set (i := 3) sc__law_times.nd rfl (.inl rfl) (pe_op op_rep (pe_lst (pa_cons pe_int pa_nil)) (pe_op op_sub (pe_op op_add (pe_callB call_len_seq (by rfl) T.n_len (by decide +kernel) (pa_cons (pv 1) pa_nil)) (pe_callB call_len_seq (by rfl) T.n_len (by decide +kernel) (pa_cons (pv 2) pa_nil))) pe_int)))
      (pss_cons (ps_for PassesOwn.never rfl (pi_enum (by rfl) T.n_enumerate (pa_cons (pv 1) pa_nil)) (pg_tup rfl (pgs_cons (pg_name (i := 4) sc__law_times.nd rfl (.inl rfl)) (pgs_cons (pg_name (i := 5) sc__law_times.nd rfl (.inl rfl)) pgs_nil))) (pss_one (ps_for PassesOwn.never rfl (pi_enum (by rfl) T.n_enumerate (pa_cons (pv 2) pa_nil)) (pg_tup rfl (pgs_cons (pg_name (i := 6) sc__law_times.nd rfl (.inl rfl)) (pgs_cons (pg_name (i := 7) sc__law_times.nd rfl (.inl rfl)) pgs_nil))) (pss_one (ps_asg (pe_op op_xor (pe_ix ix_list (pv 3) (pe_op op_add (pv 4) (pv 6)) (fun _ _ => rfl)) (pe_call (ok__law_product T) (hr.mono (by decide)) (by rfl) T.g__law_product T.F__law_product.kp T.b__law_product .nil pass0 (pa_cons (pv 0) (pa_cons (pv 5) (pa_cons (pv 7) pa_nil))))) (pg_sub (pv 3) (pe_op op_add (pv 4) (pv 6)) set_list))))))
      (pss_one (ps_ret (pv 3)))))), ?_⟩
    refine ⟨_, rfl, Nat.zero_le _, fun e1 he1 => ?_⟩
    have s1 := same_upd (o := .lst []) he1
    refine ⟨dN xs, dN [], dN_dp (s1.seq hq), dN_dp (.inl (.inl upd_same)), dN_shaped _, dN_shaped _, _, rfl, ?_⟩
    rw [dN_eqv]
    by_cases h0 : xs = []
    · subst h0
      refine iteT ?_
      refine iteT ⟨Nat.zero_le _, fun l hl => q l _ (s1.trans (same_upd hl)) (Same.free s1 hl) upd_same⟩
    rw [decide_eq_false h0]
    refine iteF ?_
    refine ⟨_, rfl, Nat.zero_le _, fun e2 he2 => ?_⟩
    have s2 := s1.trans (same_upd (o := .lst []) he2)
    refine ⟨dN ys, dN [], dN_dp (s2.seq hq2), dN_dp (.inl (.inl upd_same)), dN_shaped _, dN_shaped _, _, rfl, ?_⟩
    rw [dN_eqv]
    by_cases h1 : ys = []
    · subst h1
      have e : conv b xs [] = [] := by
        unfold conv
        rw [if_pos (.inr rfl)]
      rw [e] at q
      refine iteT ⟨Nat.zero_le _, fun l hl => q l _ (s2.trans (same_upd hl)) (Same.free s2 hl) upd_same⟩
    rw [decide_eq_false h1]
    refine iteF ?_
    have lx : 0 < xs.length := by cases xs with | nil => exact absurd rfl h0 | cons _ _ => simp
    have ly : 0 < ys.length := by cases ys with | nil => exact absurd rfl h1 | cons _ _ => simp
    refine ⟨(by show 1 ≤ sizeLine; decide), fun z hz => ?_⟩
    have sz := s2.trans (same_upd (o := .lst [.int 0]) hz)
    refine ⟨_, rfl, a, _, rfl, .inl (sz.seq hq), _, rfl, a2, _, rfl, .inl (sz.seq hq2), _, _, rfl, rfl, _, _, rfl, rfl, z, _, _, rfl, rfl, upd_same, by simp; omega, by simp; omega, ?_, fun l hl => ?_⟩
    · simp only [List.length_map, List.length_singleton]
      exact Nat.le_of_lt (small1000 (by omega))
    have hn : (((xs.map vN).length : Int) + ((ys.map vN).length : Int) - 1).toNat = xs.length + ys.length - 1 := by
      simp only [List.length_map]
      omega
    have sl := sz.trans (same_upd (o := .lst (List.replicate (((xs.map vN).length : Int) + ((ys.map vN).length : Int) - 1).toNat [V.int 0]).flatten) hl)
    have hlH : H l = none := Same.free sz hl
    refine ⟨_, rfl, a, _, rfl, sl.seq hq, ?_⟩
    refine for_it (walk_enum (K := K) (a := a) (xs := xs.map vN)) (fun i σ H' => ∃ z4 z5 z6 z7 : Option V, σ = [some (vN b), some (.ref a), some (.ref a2), some (.ref l), z4, z5, z6, z7] ∧ Same H H' ∧ H' l = some (.lst (totL b xs ys i 0)))
      ⟨_, _, _, _, rfl, sl, by rw [upd_same, hn, flat_one, tot_start]⟩ (fun i σ H' _ ⟨_, _, _, _, _, sm, _⟩ => sm.seq hq) ?_ ?_
    · rintro i x σ H3 H4 hi ⟨z4, z5, z6, z7, rfl, sm, hL⟩ ⟨T1, x1, y1, rfl, hT, rfl, e1, e2⟩
      rw [List.length_map] at hi
      have ex1 : x1 = .int (i : Int) := (Option.some.inj e1).symm
      subst ex1
      have ey : y1 = vN (gd xs i) := by
        have e3 : (xs.map vN)[i]? = some y1 := e2
        rw [List.getElem?_map, gd_in hi] at e3
        exact (Option.some.inj e3).symm
      subst ey
      have sT := same_upd (o := .tup [.int (i : Int), vN (gd xs i)]) hT
      refine ⟨T1, [.int (i : Int), vN (gd xs i)], rfl, .inl (.inl upd_same), rfl, .int (i : Int), [vN (gd xs i)], rfl, vN (gd xs i), [], rfl, rfl, ?_⟩
      refine ⟨_, rfl, a2, _, rfl, (sm.trans sT).seq hq2, ?_⟩
      refine for_it (walk_enum (K := K) (a := a2) (xs := ys.map vN)) (fun j σ H' => ∃ z6 z7 : Option V, σ = [some (vN b), some (.ref a), some (.ref a2), some (.ref l), some (.int (i : Int)), some (vN (gd xs i)), z6, z7] ∧ Same H H' ∧ H' l = some (.lst (totL b xs ys i j)))
        ⟨_, _, rfl, sm.trans sT, sT _ _ hL⟩ (fun i σ H' _ ⟨_, _, _, sm, _⟩ => sm.seq hq2) ?_ ?_
      · rintro j x σ H5 H6 hj ⟨z6, z7, rfl, sm5, hL5⟩ ⟨T2, x2, y2, rfl, hT2, rfl, e3, e4⟩
        rw [List.length_map] at hj
        have ex2 : x2 = .int (j : Int) := (Option.some.inj e3).symm
        subst ex2
        have ey2 : y2 = vN (gd ys j) := by
          have e5 : (ys.map vN)[j]? = some y2 := e4
          rw [List.getElem?_map, gd_in hj] at e5
          exact (Option.some.inj e5).symm
        subst ey2
        have sT2 := same_upd (o := .tup [.int (j : Int), vN (gd ys j)]) hT2
        have sm6 := sm5.trans sT2
        have hL6 := sT2 _ _ hL5
        have hij : i + j < xs.length + ys.length - 1 := by omega
        have eij : (i : Int) + (j : Int) = ((i + j : Nat) : Int) := by rw [Int.natCast_add]
        refine ⟨T2, [.int (j : Int), vN (gd ys j)], rfl, .inl (.inl upd_same), rfl, .int (j : Int), [vN (gd ys j)], rfl, vN (gd ys j), [], rfl, rfl, ?_⟩
        refine ⟨_, rfl, _, rfl, _, rfl, _, _, rfl, rfl, l, _, _, _, rfl, rfl, .inl (.inl hL6), by rw [eij]; exact atI_nat (tot_at hij), ?_⟩
        refine ⟨_, rfl, _, rfl, _, rfl, b, _, _, rfl, hb, gd_lt hb hx i, gd_lt hb hy j, _, _, rfl, rfl, ?_⟩
        refine ⟨_, rfl, _, rfl, _, rfl, _, _, rfl, rfl, l, _, _, i + j, rfl, rfl, hL6, ?_, ?_⟩
        · rw [eij]
          exact ixN_nat (by unfold totL; simpa using hij)
        · refine ⟨_, _, rfl, fun c o hc => ?_, ?_⟩
          · rw [upd_ne (ne_of_none hc hlH)]
            exact sm6 _ _ hc
          · rw [upd_same]
            refine congrArg (fun l => some (HO.lst l)) ?_
            show (totL b xs ys i j).set (i + j) (V.int (Builtin.bitXor _ _)) = _
            rw [bx]
            exact tot_set hij
      · rintro σ H' ⟨z6, z7, rfl, sm', hL'⟩
        rw [List.length_map, tot_next] at hL'
        exact ⟨_, _, _, _, rfl, sm', hL'⟩
    · rintro σ H' ⟨z4, z5, z6, z7, rfl, sm, hL⟩
      rw [List.length_map, tot_end h0 h1] at hL
      exact ⟨_, rfl, q l H' sm hlH hL⟩
/-! CUT -/
/-- the remainder by (1, t) is the value at t -/
theorem rem_one {b t : Nat} {ws : List Nat} (hb : Wd b) (ht : t < span b) (hw : Ws b ws) (h0 : ws ≠ []) : remL b ws [1, t] = [evl b t ws] := by
  have h1 := span_pos hb
  have lw : 0 < ws.length := by cases ws with | nil => exact absurd rfl h0 | cons _ _ => simp
  by_cases hl : ws.length = 1
  · obtain ⟨w0, rfl⟩ : ∃ w0, ws = [w0] := by
      match ws, hl with
      | [w0], _ => exact ⟨w0, rfl⟩
    have e : evl b t [w0] = w0 := by
      show mul b 0 t ^^^ w0 = w0
      rw [zero_mul hb, Nat.zero_xor]
    rw [e]
    rfl
  · have ho : Ws b [1, t] := fun x hx => by
      simp at hx
      rcases hx with rfl | rfl
      · exact h1
      · exact ht
    have hs : ws.length - steps ws [1, t] = 1 := by unfold steps; simp; omega
    have hs2 : steps ws [1, t] + 1 = ws.length := by unfold steps; simp; omega
    obtain ⟨r, er⟩ : ∃ r, remL b ws [1, t] = [r] := by
      unfold remL
      rw [hs]
      exact ⟨_, rfl⟩
    have hd := div_lists hb hw ho (by show (1 : Nat) ≠ 0; decide) (by simp; omega) (by simp)
    have hq : Ws b (quoL b ws [1, t]) := fun x hx => by
      unfold quoL at hx
      obtain ⟨k, _, rfl⟩ := List.mem_map.mp hx
      exact dvN_lt hb (gd_lt hb hw) _ _
    have hr : r < span b := by
      have : r ∈ remL b ws [1, t] := by rw [er]; simp
      unfold remL at this
      obtain ⟨k, _, rfl⟩ := List.mem_map.mp this
      exact dvN_lt hb (gd_lt hb hw) _ _
    have hql : (quoL b ws [1, t]).length = steps ws [1, t] := by unfold quoL; simp
    have hqn : quoL b ws [1, t] ≠ [] := by
      intro z
      rw [z] at hql
      simp at hql
      omega
    have hcl : (conv b (quoL b ws [1, t]) [1, t]).length = ws.length := by
      unfold conv
      rw [if_neg (by simp [hqn])]
      simp [hql]
      omega
    have hpl : (pad (steps ws [1, t]) [r]).length = ws.length := by
      unfold pad
      simp
      exact hs2
    rw [er] at hd
    have wp : Ws b (pad (steps ws [1, t]) [r]) := fun x hx => by
      unfold pad at hx
      rcases List.mem_append.mp hx with h | h
      · have := List.eq_of_mem_replicate h
        omega
      · rw [List.mem_singleton.mp h]
        exact hr
    have e1 : evl b t ws = evl b t (conv b (quoL b ws [1, t]) [1, t]) ^^^ evl b t (pad (steps ws [1, t]) [r]) := by
      have e := evl_fn hb ht (gd (conv b (quoL b ws [1, t]) [1, t])) (gd (pad (steps ws [1, t]) [r])) (gd_lt hb (conv_ws hb hq)) (gd_lt hb wp) ws.length
      rw [hd] at e
      rw [e]
      congr 2
      · rw [← hcl]
        exact gd_list _
      · rw [← hpl]
        exact gd_list _
    have e2 : evl b t [1, t] = 0 := by
      show mul b (mul b 0 t ^^^ 1) t ^^^ t = 0
      rw [zero_mul hb, Nat.zero_xor, one_mul hb ht, Nat.xor_self]
    have e3 : evl b t (pad (steps ws [1, t]) [r]) = r := by
      unfold pad
      rw [evl_pad hb]
      show mul b 0 t ^^^ r = r
      rw [zero_mul hb, Nat.zero_xor]
    rw [er, e1, evl_conv hb ht hq ho hqn (by simp), e2, mul_zero, Nat.zero_xor, e3]
theorem quo_short {b : Nat} {ws os : List Nat} (h : ws.length < os.length) : quoL b ws os = [] ∧ remL b ws os = ws := by
  have hs : steps ws os = 0 := by unfold steps; omega
  constructor
  · unfold quoL
    rw [hs]
    rfl
  · unfold remL
    rw [hs, Nat.sub_zero]
    have e : (fun j => dvN b (gd os) os.length (gd ws) 0 (0 + j)) = gd ws := by
      funext j
      rw [Nat.zero_add]
      rfl
    rw [e, gd_list]
def plusL (xs ys : List Nat) : List Nat := (List.range (max xs.length ys.length)).map fun k => gd (pad (max xs.length ys.length - xs.length) xs) k ^^^ gd (pad (max xs.length ys.length - ys.length) ys) k
def sp_plus (K : PySem.W.Frag) : Sp := fun vs H Q _ => ∃ (a a2 : Addr) (xs ys : List Nat), vs = [.ref a, .ref a2] ∧ SqL K H a (xs.map vN) ∧ SqL K H a2 (ys.map vN) ∧ xs.length ≤ 1000 ∧ ys.length ≤ 1000 ∧
  ∀ l H', Same H H' → H l = none → H' l = some (.lst ((plusL xs ys).map vN)) → Q (.ref l) H'
theorem ok__law_plus (T : Txt K mg) : FnOk P w K mg base CX0 1 T.f__law_plus T.d__law_plus ["_law_one_so", "_law_other_so"] (sp_plus K) := by
  refine T.F__law_plus.ok sc__law_plus (fun vs H Q E h => ?_) (fun cdv A outer s H vs Q E hr h => ?_)
  · obtain ⟨a, a2, xs, ys, rfl, _⟩ := h
    rfl
  · obtain ⟨a, a2, xs, ys, rfl, hq, hq2, hl1, hl2, q⟩ := h
    refine ⟨_, (pss_cons (ps_set (i := 2) sc__law_plus.nd rfl (.inl rfl) (pe_callB (call_max2 rfl) (by rfl) T.n_max (by decide +kernel) (pa_cons (pe_callB call_len_seq (by rfl) T.n_len (by decide +kernel) (pa_cons (pv 0) pa_nil)) (pa_cons (pe_callB call_len_seq (by rfl) T.n_len (by decide +kernel) (pa_cons (pv 1) pa_nil)) pa_nil))))
      (pss_cons (ps_set (i := 3) sc__law_plus.nd rfl (.inl rfl) (pe_op op_cat (pe_op op_rep (pe_lst (pa_cons pe_int pa_nil)) (pe_op op_sub (pv 2) (pe_callB call_len_seq (by rfl) T.n_len (by decide +kernel) (pa_cons (pv 0) pa_nil)))) (pe_callTy call_list_of (by rfl) T.n_list (by decide +kernel) (pa_cons (pv 0) pa_nil))))
      (pss_cons (ps_set (i := 4) sc__law_plus.nd rfl (.inl rfl) (pe_op op_cat (pe_op op_rep (pe_lst (pa_cons pe_int pa_nil)) (pe_op op_sub (pv 2) (pe_callB call_len_seq (by rfl) T.n_len (by decide +kernel) (pa_cons (pv 1) pa_nil)))) (pe_callTy call_list_of (by rfl) T.n_list (by decide +kernel) (pa_cons (pv 1) pa_nil))))
      (pss_one (ps_ret (pe_lc (own := [("_law_mine", 5), ("_law_its", 6)]) (g := gTup K 2 (gCons (gName 5) (gCons (gName 6) gNil))) rfl sc__law_plus.nd (pi_zip (by rfl) T.n_zip (pa_cons (pv 3) (pa_cons (pv 4) pa_nil))) (blkOk_by (N := ["_law_one_so", "_law_other_so", "_law_many", "_law_first", "_law_second", "_law_mine", "_law_its"]) (sc := defScope s__law_plus) (by decide +kernel)) (fun _ _ _ _ _ => by (refine pg_tup ?_ ?_); (exact rfl); (refine pgs_cons ?_ ?_); (exact (pg_name (i := 5) sc__law_plus.nd rfl (.inl rfl))); (refine pgs_cons ?_ ?_); (exact (pg_name (i := 6) sc__law_plus.nd rfl (.inl rfl))); (exact pgs_nil)) (fun _ _ _ _ _ => by exact pts_nil) (fun _ _ _ _ _ => by exact (pe_op op_xor (pv 5) (pv 6))))))))), ?_⟩
    refine ⟨_, rfl, a, _, rfl, .inl hq, _, rfl, a2, _, rfl, .inl hq2, _, _, rfl, ?_⟩
    have hmx : (if ((ys.map vN).length : Int) > ((xs.map vN).length : Int) then ((ys.map vN).length : Int) else ((xs.map vN).length : Int)) = ((max xs.length ys.length : Nat) : Int) := by
      simp only [List.length_map]
      split <;> omega
    rw [hmx]
    generalize hM : max xs.length ys.length = M
    have hM1 : xs.length ≤ M := by omega
    have hM2 : ys.length ≤ M := by omega
    have hM3 : M ≤ 1000 := by omega
    -- first
    refine ⟨(by show 1 ≤ sizeLine; decide), fun z hz => ?_⟩
    have s1 := same_upd (o := .lst [.int 0]) hz
    refine ⟨_, rfl, _, rfl, a, _, rfl, .inl (s1.seq hq), _, _, rfl, rfl, z, _, _, rfl, rfl, upd_same, by simp only [List.length_map]; omega, by simp only [List.length_map]; omega, ?_, fun r1 hr1 => ?_⟩
    · simp only [List.length_map, List.length_singleton]
      exact Nat.le_of_lt (small1000 (by omega))
    have s2 := s1.trans (same_upd (o := .lst (List.replicate ((M : Int) - ((xs.map vN).length : Int)).toNat [V.int 0]).flatten) hr1)
    refine ⟨_, rfl, a, _, rfl, .inl (s2.seq hq), fun c1 hc1 => ?_⟩
    have s3 := s2.trans (same_upd (o := .lst (xs.map vN)) hc1)
    have n1 : r1 ≠ c1 := ne_of_none upd_same hc1
    refine ⟨r1, c1, _, _, rfl, rfl, by rw [upd_ne n1]; exact upd_same, upd_same, ?_, fun fst hfst => ?_⟩
    · rw [flat_one]
      simp only [List.length_map, List.length_replicate]
      exact Nat.le_of_lt (small1000 (by omega))
    have e1 : (List.replicate ((M : Int) - ((xs.map vN).length : Int)).toNat [V.int 0]).flatten ++ xs.map vN = (pad (M - xs.length) xs).map vN := by
      rw [flat_one]
      unfold pad
      rw [List.map_append, List.map_replicate, List.length_map, show ((M : Int) - (xs.length : Int)).toNat = M - xs.length by omega]
    rw [e1]
    have s4 := s3.trans (same_upd (o := .lst ((pad (M - xs.length) xs).map vN)) hfst)
    -- second
    refine ⟨(by show 1 ≤ sizeLine; decide), fun z2 hz2 => ?_⟩
    have s5 := s4.trans (same_upd (o := .lst [.int 0]) hz2)
    refine ⟨_, rfl, _, rfl, a2, _, rfl, .inl (s5.seq hq2), _, _, rfl, rfl, z2, _, _, rfl, rfl, upd_same, by simp only [List.length_map]; omega, by simp only [List.length_map]; omega, ?_, fun r2 hr2 => ?_⟩
    · simp only [List.length_map, List.length_singleton]
      exact Nat.le_of_lt (small1000 (by omega))
    have s6 := s5.trans (same_upd (o := .lst (List.replicate ((M : Int) - ((ys.map vN).length : Int)).toNat [V.int 0]).flatten) hr2)
    refine ⟨_, rfl, a2, _, rfl, .inl (s6.seq hq2), fun c2 hc2 => ?_⟩
    have s7 := s6.trans (same_upd (o := .lst (ys.map vN)) hc2)
    have n2 : r2 ≠ c2 := ne_of_none upd_same hc2
    refine ⟨r2, c2, _, _, rfl, rfl, by rw [upd_ne n2]; exact upd_same, upd_same, ?_, fun snd hsnd => ?_⟩
    · rw [flat_one]
      simp only [List.length_map, List.length_replicate]
      exact Nat.le_of_lt (small1000 (by omega))
    have e2 : (List.replicate ((M : Int) - ((ys.map vN).length : Int)).toNat [V.int 0]).flatten ++ ys.map vN = (pad (M - ys.length) ys).map vN := by
      rw [flat_one]
      unfold pad
      rw [List.map_append, List.map_replicate, List.length_map, show ((M : Int) - (ys.length : Int)).toNat = M - ys.length by omega]
    rw [e2]
    have s8 := s7.trans (same_upd (o := .lst ((pad (M - ys.length) ys).map vN)) hsnd)
    have l1' : (pad (M - xs.length) xs).length = M := by unfold pad; simp; omega
    have l2' : (pad (M - ys.length) ys).length = M := by unfold pad; simp; omega
    have hF : (upd (upd (upd (upd (upd (upd (upd (upd H z (.lst [.int 0])) r1 (.lst (List.replicate ((M : Int) - ((xs.map vN).length : Int)).toNat [V.int 0]).flatten)) c1 (.lst (xs.map vN))) fst (.lst ((pad (M - xs.length) xs).map vN))) z2 (.lst [.int 0])) r2 (.lst (List.replicate ((M : Int) - ((ys.map vN).length : Int)).toNat [V.int 0]).flatten)) c2 (.lst (ys.map vN))) snd (.lst ((pad (M - ys.length) ys).map vN))) fst = some (.lst ((pad (M - xs.length) xs).map vN)) :=
      (same_upd hsnd) _ _ ((same_upd hc2) _ _ ((same_upd hr2) _ _ ((same_upd hz2) _ _ upd_same)))
    refine ⟨_, rfl, _, rfl, fst, snd, _, _, rfl, .inl (.inl hF), .inl (.inl upd_same), fun D hD => ?_⟩
    have hDH : H D = none := Same.free s8 hD
    have sD := same_upd (o := .lst []) hD
    refine lc_it (walk_zip (K := K) (a := fst) (b := snd) (xs := (pad (M - xs.length) xs).map vN) (ys := (pad (M - ys.length) ys).map vN) (n := M) (by rw [List.length_map, List.length_map, l1', l2']; omega))
      (fun i H' => Same H H' ∧ H' fst = some (.lst ((pad (M - xs.length) xs).map vN)) ∧ H' snd = some (.lst ((pad (M - ys.length) ys).map vN)) ∧ H' D = some (.lst (((List.range i).map fun k => gd (pad (M - xs.length) xs) k ^^^ gd (pad (M - ys.length) ys) k).map vN)))
      ⟨s8.trans sD, sD _ _ hF, sD _ _ upd_same, upd_same⟩ (fun i H' _ h => ⟨.inl (.inl h.2.1), .inl (.inl h.2.2.1)⟩) ?_ ?_
    · rintro i x H1 H2 hi ⟨sm, g1, g2, g3⟩ ⟨T1, x1, y1, rfl, hT, rfl, e3, e4⟩
      have ex : x1 = vN (gd (pad (M - xs.length) xs) i) := by
        have e5 : ((pad (M - xs.length) xs).map vN)[i]? = some x1 := e3
        rw [List.getElem?_map, gd_in (by rw [l1']; exact hi)] at e5
        exact (Option.some.inj e5).symm
      have ey : y1 = vN (gd (pad (M - ys.length) ys) i) := by
        have e5 : ((pad (M - ys.length) ys).map vN)[i]? = some y1 := e4
        rw [List.getElem?_map, gd_in (by rw [l2']; exact hi)] at e5
        exact (Option.some.inj e5).symm
      subst ex
      subst ey
      have sT := same_upd (o := .tup [vN (gd (pad (M - xs.length) xs) i), vN (gd (pad (M - ys.length) ys) i)]) hT
      refine ⟨T1, [_, _], rfl, .inl (.inl upd_same), rfl, _, [_], rfl, _, [], rfl, rfl, rfl, ?_⟩
      refine ⟨_, rfl, _, rfl, _, _, rfl, rfl, _, sT _ _ g3, ?_, fun c o hc => ?_, ?_, ?_, ?_⟩
      · simp only [List.length_map, List.length_range]
        exact small1000 (by omega)
      · rw [upd_ne (ne_of_none hc hDH)]
        exact sT _ _ (sm _ _ hc)
      · rw [upd_ne (ne_of_none hF hD)]
        exact sT _ _ g1
      · rw [upd_ne (ne_of_none upd_same hD)]
        exact sT _ _ g2
      · rw [upd_same, List.range_succ, List.map_append, List.map_append]
        show some (HO.lst (_ ++ [V.int (Builtin.bitXor _ _)])) = _
        rw [bx]
        rfl
    · rintro H' ⟨sm, g1, g2, g3⟩
      refine q D H' sm hDH ?_
      rw [g3]
      unfold plusL
      rw [hM]
theorem plus_div {b : Nat} {ws os : List Nat} (hb : Wd b) (hw : Ws b ws) (ho : Ws b os) (h0 : gd os 0 ≠ 0) (hl : os.length ≤ ws.length) (hp : 0 < os.length) : plusL (conv b (quoL b ws os) os) (remL b ws os) = ws := by
  have hs2 : steps ws os + os.length - 1 = ws.length := by unfold steps; omega
  have hql : (quoL b ws os).length = steps ws os := by unfold quoL; simp
  have hs1 : 0 < steps ws os := by unfold steps; omega
  have hqn : quoL b ws os ≠ [] := by
    intro z
    rw [z] at hql
    simp at hql
    omega
  have hon : os ≠ [] := by intro z; rw [z] at hp; simp at hp
  have hcl : (conv b (quoL b ws os) os).length = ws.length := by
    unfold conv
    rw [if_neg (by simp [hqn, hon])]
    simp [hql]
    omega
  have hrl : (remL b ws os).length = ws.length - steps ws os := by unfold remL; simp
  have hM : max (conv b (quoL b ws os) os).length (remL b ws os).length = ws.length := by omega
  unfold plusL
  rw [hM, hcl, hrl, Nat.sub_self, show ws.length - (ws.length - steps ws os) = steps ws os by unfold steps; omega]
  exact div_lists hb hw ho h0 hl hp
theorem draw_pos (n : Nat) : V.int (1 + (n : Int)) = vN (n + 1) := by
  unfold vN
  rw [show (1 : Int) + (n : Int) = ((n + 1 : Nat) : Int) by omega]
def dPair (x y : PyData) : PyData := .tuple [x, y]
theorem dPair_shaped (xs ys : List Nat) : SeqAt.shaped (dPair (dN xs) (dN ys)) = true := by
  unfold SeqAt.shaped
  have h1 : (dPair (dN xs) (dN ys)).canLay0 = true := by
    show ((dN xs).canLay0 && ((dN ys).canLay0 && true)) = true
    rw [dN_lay, dN_lay]
    rfl
  have h2 : (dPair (dN xs) (dN ys)).depth = 2 := by
    show max (dN xs).depth (max (dN ys).depth 0) + 1 = 2
    rw [dN_depth, dN_depth]
    rfl
  rw [h1, h2]
  rfl
theorem dPair_eqv (xs ys : List Nat) : PyData.eqv (dPair (dN xs) (dN ys)) (dPair (dN xs) (dN ys)) = true := by
  show (PyData.eqv (dN xs) (dN xs) && (PyData.eqv (dN ys) (dN ys) && true)) = true
  rw [dN_eqv, dN_eqv]
  simp
def sp_divided_right (K : PySem.W.Frag) : Sp := fun vs H Q _ => ∃ (p as : Addr) (a b0 c : Int) (w : Nat) (ws : List Nat), vs = [.ref p, vN w, .ref as] ∧ p ≠ as ∧ Wd w ∧ H p = some (WellL a b0 c) ∧ SqL K H as (ws.map vN) ∧ Ws w ws ∧ ws.length ≤ 100 ∧
  ∀ (a' c' : Int) (H' : Hp), Kp p H H' → H' p = some (WellL a' b0 c') → Q (.bl true) H'
theorem kp_seq {p a : Addr} {H H' : Hp} {xs : List V} (h : Kp p H H') (hq : SqL K H a xs) (hn : p ≠ a) : SqL K H' a xs := by
  rcases hq with (h1 | ⟨o, h1⟩) | h1
  · exact .inl (.inl (h _ _ h1 hn.symm))
  · exact .inl (.inr ⟨o, h _ _ h1 hn.symm⟩)
  · exact .inr h1
theorem ok__law_divided_right (T : Txt K mg) : FnOk P w K mg base CX0 7 T.f__law_divided_right T.d__law_divided_right ["_law_well", "_law_wide", "_law_some"] (sp_divided_right K) := by
  refine T.F__law_divided_right.ok sc__law_divided_right (fun vs H Q E h => ?_) (fun cdv A outer s H vs Q E hr h => ?_)
  · obtain ⟨p, as, a, b0, c, w, ws, rfl, _⟩ := h
    rfl
  · obtain ⟨p, as, a, b0, c, w, ws, rfl, hpa, hw, hp, hS, hws, hlen, q⟩ := h
    refine ⟨_, (pss_cons (ps_set (i := 3) sc__law_divided_right.nd rfl (.inl rfl) (pe_op op_cat (pe_lst (pa_cons (pe_op op_add pe_int (pe_call (ok__law_draw T) (hr.mono (by decide)) (by rfl) T.g__law_draw T.F__law_draw.kp T.b__law_draw .nil pass0 (pa_cons (pv 0) (pa_cons (pe_op op_sub (pe_op op_shl pe_int (pv 1)) pe_int) pa_nil)))) pa_nil)) (pe_call (ok__law_row T) (hr.mono (by decide)) (by rfl) T.g__law_row T.F__law_row.kp T.b__law_row .nil pass0 (pa_cons (pv 0) (pa_cons (pv 1) (pa_cons pe_int pa_nil))))))
      (pss_cons (ps_asg (pe_call (ok_divided T) (hr.mono (by decide)) (by rfl) T.g_divided T.F_divided.kp T.b_divided .nil pass0 (pa_cons (pv 1) (pa_cons (pv 2) (pa_cons (pe_tupleOf (by rfl) T.n_tuple (pv 3)) pa_nil)))) (pg_tup rfl (pgs_cons (pg_name (i := 4) sc__law_divided_right.nd rfl (.inl rfl)) (pgs_cons (pg_name (i := 5) sc__law_divided_right.nd rfl (.inl rfl)) pgs_nil))))
      (pss_cons (ps_if (pt_cmpR op_lt (pe_callB call_len_seq (by rfl) T.n_len (by decide +kernel) (pa_cons (pv 2) pa_nil)) (pe_callB call_len_seq (by rfl) T.n_len (by decide +kernel) (pa_cons (pv 3) pa_nil)) (nomark _)) (pss_one (ps_ret (pe_cmpR (op_eqD hr.units) (pe_tup (pa_cons (pv 4) (pa_cons (pv 5) pa_nil))) (pe_tup (pa_cons (pe_lst pa_nil) (pa_cons (pv 2) pa_nil))) (nomark _)))) pss_nil)
      (pss_cons (ps_if (PW.pt (pw_or (pt_cmpR op_ne (pe_callB call_len_seq (by rfl) T.n_len (by decide +kernel) (pa_cons (pv 4) pa_nil)) (pe_op op_add (pe_op op_sub (pe_callB call_len_seq (by rfl) T.n_len (by decide +kernel) (pa_cons (pv 2) pa_nil)) (pe_callB call_len_seq (by rfl) T.n_len (by decide +kernel) (pa_cons (pv 3) pa_nil))) pe_int) (nomark _)) (pw_or1 (pt_cmpR op_ne (pe_callB call_len_seq (by rfl) T.n_len (by decide +kernel) (pa_cons (pv 5) pa_nil)) (pe_op op_sub (pe_callB call_len_seq (by rfl) T.n_len (by decide +kernel) (pa_cons (pv 3) pa_nil)) pe_int) (nomark _))))) (pss_one (ps_ret pe_bl)) pss_nil)
      (pss_cons (ps_if (PW.pt (pw_or (pt_not (pt_val (pe_callB call_isi (by rfl) T.n_isinstance (by decide +kernel) (pa_cons (pv 4) (pa_cons (pe_bltn (v := .ty "list") (by rfl) T.n_list (by decide +kernel) rfl) pa_nil))))) (pw_or1 (pt_not (pt_val (pe_callB call_isi (by rfl) T.n_isinstance (by decide +kernel) (pa_cons (pv 5) (pa_cons (pe_bltn (v := .ty "list") (by rfl) T.n_list (by decide +kernel) rfl) pa_nil)))))))) (pss_one (ps_ret pe_bl)) pss_nil)
      (pss_one (ps_ret (pe_cmpR (op_eqD hr.units) (pe_call (ok__law_plus T) (hr.mono (by decide)) (by rfl) T.g__law_plus T.F__law_plus.kp T.b__law_plus .nil pass0 (pa_cons (pe_call (ok__law_times T) (hr.mono (by decide)) (by rfl) T.g__law_times T.F__law_times.kp T.b__law_times .nil pass0 (pa_cons (pv 1) (pa_cons (pv 4) (pa_cons (pv 3) pa_nil)))) (pa_cons (pv 5) pa_nil))) (pv 2) (nomark _))))))))), ?_⟩
    have hs1 := span_pos hw
    have hs2 := span_small hw
    have e := shl_span hw
    -- the divisor
    refine ⟨_, rfl, _, rfl, _, _, rfl, rfl, shl_ok hw, _, _, rfl, rfl, p, a, b0, c, _, rfl, hp, by rw [e]; omega, by rw [e]; omega, fun n a1 c1 n0 n1 => ⟨_, _, rfl, rfl, (by show 1 ≤ sizeLine; decide), fun l1 hl1 => ?_⟩⟩
    obtain ⟨n, rfl⟩ := Int.eq_ofNat_of_zero_le n0
    have hx : n + 1 < span w := by rw [e] at n1; omega
    have np1 : p ≠ l1 := ne_of_none upd_same hl1
    have hl1H : H l1 = none := by rw [upd_ne np1.symm] at hl1; exact hl1
    have k1 : Kp p H (upd (upd H p (WellL a1 b0 c1)) l1 (.lst [.int (1 + (n : Int))])) := Kp.upd.trans (Same.kp (same_upd hl1))
    refine ⟨_, rfl, _, rfl, p, a1, b0, c1, w, 6, rfl, hw, by rw [upd_ne np1]; exact upd_same, by decide, fun os a2 c2 l2 H2 hos hol k2 hp2 hl2 hL2 => ?_⟩
    have hL1 : H2 l1 = some (.lst [.int (1 + (n : Int))]) := k2 _ _ upd_same np1.symm
    refine ⟨l1, l2, _, _, rfl, rfl, hL1, hL2, ?_, fun lo hlo => ?_⟩
    · rw [List.length_map]
      exact Nat.le_of_lt (small1000 (by show 1 + os.length ≤ 1000; omega))
    have eo : [V.int (1 + (n : Int))] ++ os.map vN = ((n + 1) :: os).map vN := by
      rw [draw_pos]
      rfl
    rw [eo]
    have k3 : Kp p H (upd H2 lo (.lst (((n + 1) :: os).map vN))) := (k1.trans k2).trans (Same.kp (same_upd hlo))
    have npo : p ≠ lo := ne_of_none hp2 hlo
    have hoW : Ws w ((n + 1) :: os) := fun y hy => by
      rcases List.mem_cons.mp hy with rfl | h
      · exact hx
      · exact hos y h
    have hlo2 : (upd H2 lo (.lst (((n + 1) :: os).map vN))) p = some (WellL a2 b0 c2) := by rw [upd_ne npo]; exact hp2
    generalize hH3 : upd H2 lo (.lst (((n + 1) :: os).map vN)) = H3 at k3 hlo2 ⊢
    have hL3 : H3 lo = some (.lst (((n + 1) :: os).map vN)) := by rw [← hH3]; exact upd_same
    clear hH3
    have hol1 : ((n + 1) :: os).length ≤ 7 := by simpa using hol
    refine ⟨_, rfl, _, rfl, _, rfl, .inl ⟨lo, _, rfl, .inl (.inl hL3), fun tt htt => ?_⟩⟩
    have s4 := same_upd (o := .tup (((n + 1) :: os).map vN)) htt
    have k4 := k3.trans (Same.kp s4)
    have hS4 := kp_seq k4 hS hpa
    have hp4 := s4 _ _ hlo2
    refine ⟨as, tt, true, false, w, ws, (n + 1) :: os, rfl, hw, hS4, .inl (.inl upd_same), hws, hoW, Nat.succ_ne_zero n, by omega, by omega, fun t l3 l4 H5 s5 n1 n2 n3 ne e1 e2 e3 => ?_⟩
    have k5 := k4.trans (Same.kp s5)
    have hS5 := kp_seq k5 hS hpa
    have hp5 := s5 _ _ hp4
    have hL5 := s5 _ _ (s4 _ _ hL3)
    refine ⟨t, [_, _], rfl, .inl (.inl e1), rfl, _, [_], rfl, _, [], rfl, rfl, ?_⟩
    refine ⟨_, rfl, as, _, rfl, .inl hS5, _, rfl, lo, _, rfl, .inl (.inl (.inl hL5)), _, _, rfl, rfl, _, rfl, ?_⟩
    refine ite2 (fun c => ?_) (fun c => ?_)
    · have c1 : ws.length < ((n + 1) :: os).length := by
        have c2 := of_decide_eq_true c
        simp only [List.length_map] at c2
        omega
      obtain ⟨q1, q2⟩ := quo_short (b := w) c1
      rw [q1] at e2
      rw [q2] at e3
      refine ⟨_, rfl, _, rfl, (by show 2 ≤ sizeLine; decide), fun t1 ht1 => ?_⟩
      have s6 := same_upd (o := .tup [.ref l3, .ref l4]) ht1
      refine ⟨Nat.zero_le _, fun z1 hz1 => ?_⟩
      have s7 := s6.trans (same_upd (o := .lst []) hz1)
      refine ⟨_, rfl, (by show 2 ≤ sizeLine; decide), fun t2 ht2 => ?_⟩
      have s8 := s7.trans (same_upd (o := .tup [.ref z1, .ref as]) ht2)
      refine ⟨dPair (dN []) (dN ws), dPair (dN []) (dN ws), .tup (.inl (.inl ((same_upd ht2) _ _ ((same_upd hz1) _ _ upd_same)))) (.cons (dN_dp (.inl (.inl (s8 _ _ e2)))) (.cons (dN_dp (.inl (.inl (s8 _ _ e3)))) .nil)), .tup (.inl (.inl upd_same)) (.cons (dN_dp (.inl (.inl ((same_upd ht2) _ _ upd_same)))) (.cons (dN_dp (s8.seq hS5)) .nil)), dPair_shaped _ _, dPair_shaped _ _, ?_⟩
      rw [dPair_eqv]
      exact q a2 c2 _ (k5.trans (Same.kp s8)) (s8 _ _ hp5)
    · have c1 : ((n + 1) :: os).length ≤ ws.length := by
        have c2 : ¬ (((ws.map vN).length : Int) < ((((n + 1) :: os).map vN).length : Int)) := fun h => c (decide_eq_true h)
        simp only [List.length_map] at c2
        omega
      have lq : (quoL w ws ((n + 1) :: os)).length = ws.length + 1 - ((n + 1) :: os).length := by unfold quoL steps; simp
      have lr : (remL w ws ((n + 1) :: os)).length = ((n + 1) :: os).length - 1 := by
        unfold remL steps
        simp only [List.length_map, List.length_range]
        simp only [List.length_cons] at c1 ⊢
        omega
      have lp : 0 < ((n + 1) :: os).length := by simp
      refine ⟨_, rfl, l3, _, rfl, .inl (.inl (.inl e2)), _, rfl, as, _, rfl, .inl hS5, _, rfl, lo, _, rfl, .inl (.inl (.inl hL5)), _, _, rfl, rfl, _, _, rfl, rfl, rfl, _, rfl, ?_⟩
      have t1 : (!decide (V.int (((quoL w ws ((n + 1) :: os)).map vN).length : Int) = V.int (((ws.map vN).length : Int) - ((((n + 1) :: os).map vN).length : Int) + 1))) = false := by
        simp only [List.length_map, lq]
        rw [decide_eq_true (congrArg V.int (by omega))]
        rfl
      refine ite2 (fun c => absurd (t1.symm.trans c) (by decide)) (fun _ => ?_)
      refine ⟨_, rfl, l4, _, rfl, .inl (.inl (.inl e3)), _, rfl, lo, _, rfl, .inl (.inl (.inl hL5)), _, _, rfl, rfl, rfl, _, rfl, ?_⟩
      have t2 : (!decide (V.int (((remL w ws ((n + 1) :: os)).map vN).length : Int) = V.int (((((n + 1) :: os).map vN).length : Int) - 1))) = false := by
        simp only [List.length_map, lr]
        rw [decide_eq_true (congrArg V.int (by omega))]
        rfl
      refine ite2 (fun c => absurd (t2.symm.trans c) (by decide)) (fun _ => ?_)
      refine ⟨_, rfl, .ref l3, .ty "list", .type "list", .type "list", true, rfl, .ty _, .base (.lst e2), kit_ty (by decide +kernel), true, rfl, ?_⟩
      refine iteF ?_
      refine ⟨_, rfl, .ref l4, .ty "list", .type "list", .type "list", true, rfl, .ty _, .base (.lst e3), kit_ty (by decide +kernel), true, rfl, ?_⟩
      refine iteF ?_
      refine ⟨_, rfl, _, rfl, _, rfl, l3, lo, w, _, _, rfl, hw, .inl (.inl e2), .inl (.inl hL5), fun x hx => ?_, hoW, by omega, fun l5 H6 s6 n5 e5 => ?_⟩
      · unfold quoL at hx
        obtain ⟨k, _, rfl⟩ := List.mem_map.mp hx
        exact dvN_lt hw (gd_lt hw hws) _ _
      have hcl : (conv w (quoL w ws ((n + 1) :: os)) ((n + 1) :: os)).length ≤ 1000 := by
        unfold conv
        split
        · simp
        · simp only [List.length_map, List.length_range]
          omega
      refine ⟨_, rfl, l5, l4, _, _, rfl, .inl (.inl e5), .inl (.inl (s6 _ _ e3)), hcl, by omega, fun l6 H7 s7 n6 e6 => ?_⟩
      have s67 := s6.trans s7
      refine ⟨_, rfl, dN _, dN ws, dN_dp (.inl (.inl e6)), dN_dp (s67.seq hS5), dN_shaped _, dN_shaped _, ?_⟩
      rw [dN_eqv, plus_div hw hws hoW (Nat.succ_ne_zero n) c1 lp, decide_eq_true rfl]
      exact q a2 c2 _ (k5.trans (Same.kp s67)) (s67 _ _ hp5)
/-! CUT -/
theorem ifNe {A B : Prop} {v : V} (h : B) : if (!decide (v = v)) = true then A else B := by
  have e : (!decide (v = v)) = false := by simp
  rw [e]
  exact h
theorem evl_one_zeros {x : Nat} (hx : x < span 8) : ∀ m, evl 8 1 (x :: List.replicate m 0) = x
  | 0 => by
    show mul 8 0 1 ^^^ x = x
    rw [zero_mul (.inr rfl), Nat.zero_xor]
  | m + 1 => by
    have e : x :: List.replicate (m + 1) 0 = (x :: List.replicate m 0) ++ [0] := by
      rw [List.replicate_succ']
      rfl
    rw [e, evl_snoc, evl_one_zeros hx m, mul_one (.inr rfl) hx, Nat.xor_zero]
def longL (x m y : Nat) : List Nat := (x :: List.replicate m 0) ++ [y]
theorem long_zero {x m y : Nat} : evl 8 0 (longL x m y) = y := by
  unfold longL
  rw [evl_snoc, mul_zero, Nat.zero_xor]
theorem long_one {x m y : Nat} (hx : x < span 8) : evl 8 1 (longL x m y) = x ^^^ y := by
  unfold longL
  rw [evl_snoc, evl_one_zeros hx, mul_one (.inr rfl) hx]
theorem long_len {x m y : Nat} : (longL x m y).length = m + 2 := by
  unfold longL
  simp
theorem long_ws {x m y : Nat} (hx : x < span 8) (hy : y < span 8) : Ws 8 (longL x m y) := fun z hz => by
  unfold longL at hz
  rcases List.mem_append.mp hz with h | h
  · rcases List.mem_cons.mp h with h | h
    · rw [h]; exact hx
    · rw [List.eq_of_mem_replicate h]
      decide
  · rw [List.mem_singleton.mp h]
    exact hy
def sp_right : Sp := fun vs H Q _ => ∃ (p : Addr) (a b0 c : Int), vs = [.ref p] ∧ H p = some (WellL a b0 c) ∧
  ∀ (a' c' : Int) (H' : Hp), Kp p H H' → H' p = some (WellL a' b0 c') → Q (.bl true) H'
theorem ok__law_long_right (T : Txt K mg) : FnOk P w K mg base CX0 7 T.f__law_long_right T.d__law_long_right ["_law_well"] sp_right := by
  refine T.F__law_long_right.ok sc__law_long_right (fun vs H Q E h => ?_) (fun cdv A outer s H vs Q E hr h => ?_)
  · obtain ⟨p, a, b0, c, rfl, _⟩ := h
    rfl
  · obtain ⟨p, a, b0, c, rfl, hp, q⟩ := h
    refine ⟨_, (pss_cons (ps_par (i := 1) (j := 2) (by rfl) sc__law_long_right.nd rfl rfl (by decide) rfl rfl (pa_cons (pe_op op_add pe_int (pe_call (ok__law_draw T) (hr.mono (by decide)) (by rfl) T.g__law_draw T.F__law_draw.kp T.b__law_draw .nil pass0 (pa_cons (pv 0) (pa_cons pe_int pa_nil)))) (pa_cons (pe_call (ok__law_draw T) (hr.mono (by decide)) (by rfl) T.g__law_draw T.F__law_draw.kp T.b__law_draw .nil pass0 (pa_cons (pv 0) (pa_cons pe_int pa_nil))) pa_nil)) (by rfl))
      (pss_cons (ps_set (i := 3) sc__law_long_right.nd rfl (.inl rfl) (pe_op op_cat (pe_op op_cat (pe_lst (pa_cons (pe_op op_add pe_int (pe_call (ok__law_draw T) (hr.mono (by decide)) (by rfl) T.g__law_draw T.F__law_draw.kp T.b__law_draw .nil pass0 (pa_cons (pv 0) (pa_cons pe_int pa_nil)))) pa_nil)) (pe_op op_rep (pe_lst (pa_cons pe_int pa_nil)) (pv 1))) (pe_lst (pa_cons (pv 2) pa_nil))))
      (pss_cons (ps_if (PW.pt (pw_or (pt_cmpR op_ne (pe_call (ok_value T) (hr.mono (by decide)) (by rfl) T.g_value T.F_value.kp T.b_value .nil pass0 (pa_cons pe_int (pa_cons (pv 3) (pa_cons pe_int pa_nil)))) (pv 2) (nomark _)) (pw_or1 (pt_cmpR op_ne (pe_call (ok_value T) (hr.mono (by decide)) (by rfl) T.g_value T.F_value.kp T.b_value .nil pass0 (pa_cons pe_int (pa_cons (pv 3) (pa_cons pe_int pa_nil)))) (pe_op op_xor (pe_ix ix_list (pv 3) pe_int (fun _ _ => rfl)) (pv 2)) (nomark _))))) (pss_one (ps_ret pe_bl)) pss_nil)
      (pss_cons (ps_asg (pe_call (ok_divided T) (hr.mono (by decide)) (by rfl) T.g_divided T.F_divided.kp T.b_divided .nil pass0 (pa_cons pe_int (pa_cons (pv 3) (pa_cons (pe_lst (pa_cons pe_int (pa_cons pe_int pa_nil))) pa_nil)))) (pg_tup rfl (pgs_cons (pg_name (i := 4) sc__law_long_right.nd rfl (.inl rfl)) (pgs_cons (pg_name (i := 5) sc__law_long_right.nd rfl (.inl rfl)) pgs_nil))))
      (pss_one (ps_ret (pe_and (pe_cmpR op_eq (pe_callB call_len_seq (by rfl) T.n_len (by decide +kernel) (pa_cons (pv 4) pa_nil)) (pe_op op_add (pv 1) pe_int) (nomark _)) (pe_one (pe_cmpR (op_eqD hr.units) (pv 5) (pe_lst (pa_cons (pe_op op_xor (pe_ix ix_list (pv 3) pe_int (fun _ _ => rfl)) (pv 2)) pa_nil)) (nomark _)))))))))), ?_⟩
    have h8 : Wd 8 := .inr rfl
    have sp8 : span 8 = 256 := rfl
    refine ⟨_, rfl, p, a, b0, c, _, rfl, hp, by decide, by decide, fun n1 a1 c1 n10 n11 => ⟨_, _, rfl, rfl, ?_⟩⟩
    refine ⟨_, rfl, p, a1, b0, c1, _, rfl, upd_same, by decide, by decide, fun n2 a2 c2 n20 n21 => ⟨_, _, rfl, ?_⟩⟩
    refine ⟨_, rfl, p, a2, b0, c2, _, rfl, upd_same, by decide, by decide, fun n3 a3 c3 n30 n31 => ⟨_, _, rfl, rfl, (by show 1 ≤ sizeLine; decide), fun l1 hl1 => ?_⟩⟩
    obtain ⟨N1, rfl⟩ := Int.eq_ofNat_of_zero_le n10
    obtain ⟨N2, rfl⟩ := Int.eq_ofNat_of_zero_le n20
    obtain ⟨N3, rfl⟩ := Int.eq_ofNat_of_zero_le n30
    have k1 : Kp p H (upd (upd (upd H p (WellL a1 b0 c1)) p (WellL a2 b0 c2)) p (WellL a3 b0 c3)) := Kp.upd.trans (Kp.upd.trans Kp.upd)
    have hp1 : (upd (upd (upd H p (WellL a1 b0 c1)) p (WellL a2 b0 c2)) p (WellL a3 b0 c3)) p = some (WellL a3 b0 c3) := upd_same
    generalize (upd (upd (upd H p (WellL a1 b0 c1)) p (WellL a2 b0 c2)) p (WellL a3 b0 c3)) = H1 at k1 hp1 hl1 ⊢
    have s1 := same_upd (o := .lst [.int (1 + (N3 : Int))]) hl1
    refine ⟨(by show 1 ≤ sizeLine; decide), fun z hz => ?_⟩
    have sz := same_upd (o := .lst [.int 0]) hz
    have em : (250 + (N1 : Int)).toNat = 250 + N1 := by omega
    refine ⟨_, rfl, z, _, _, rfl, rfl, upd_same, by omega, by omega, ?_, fun r hr => ?_⟩
    · rw [em]
      simp only [List.length_singleton]
      exact Nat.le_of_lt (small1000 (by omega))
    have sr := same_upd (o := .lst (List.replicate (250 + (N1 : Int)).toNat [V.int 0]).flatten) hr
    refine ⟨l1, r, _, _, rfl, rfl, sr _ _ (sz _ _ upd_same), upd_same, ?_, fun c1 hc1 => ?_⟩
    · rw [em, flat_one]
      simp only [List.length_replicate, List.length_singleton]
      exact Nat.le_of_lt (small1000 (by omega))
    have sc1 := same_upd (o := .lst ([V.int (1 + (N3 : Int))] ++ (List.replicate (250 + (N1 : Int)).toNat [V.int 0]).flatten)) hc1
    refine ⟨_, rfl, (by show 1 ≤ sizeLine; decide), fun y hy => ?_⟩
    have sy := same_upd (o := .lst [.int (N2 : Int)]) hy
    refine ⟨c1, y, _, _, rfl, rfl, sy _ _ upd_same, upd_same, ?_, fun S hS => ?_⟩
    · rw [em, flat_one]
      simp only [List.length_append, List.length_replicate, List.length_singleton]
      exact Nat.le_of_lt (small1000 (by omega))
    have eL : ([V.int (1 + (N3 : Int))] ++ (List.replicate (250 + (N1 : Int)).toNat [V.int 0]).flatten) ++ [V.int (N2 : Int)] = (longL (N3 + 1) (250 + N1) N2).map vN := by
      rw [em, flat_one, draw_pos]
      unfold longL
      rw [List.map_append, List.map_cons, List.map_replicate]
      rfl
    rw [eL]
    have sS := same_upd (o := .lst ((longL (N3 + 1) (250 + N1) N2).map vN)) hS
    have sA := s1.trans (sz.trans (sr.trans (sc1.trans (sy.trans sS))))
    have hx : N3 + 1 < span 8 := by omega
    have hy2 : N2 < span 8 := by omega
    have hW := long_ws (m := 250 + N1) hx hy2
    have hlen : (longL (N3 + 1) (250 + N1) N2).length = 250 + N1 + 2 := long_len
    refine ⟨_, rfl, S, true, 8, 0, _, rfl, h8, .lst upd_same, hW, by decide, fun H2 s2 => ?_⟩
    rw [long_zero]
    refine ⟨_, rfl, rfl, _, rfl, ifNe ?_⟩
    refine ⟨_, rfl, S, true, 8, 1, _, rfl, h8, .lst (s2 _ _ upd_same), hW, by decide, fun H3 s3 => ?_⟩
    have hS3 := s3 _ _ (s2 _ _ upd_same)
    rw [long_one hx]
    refine ⟨_, rfl, S, _, 0, vN (N3 + 1), rfl, rfl, .inl (.inl hS3), atI_nat (j := 0) rfl, _, rfl, _, _, rfl, rfl, rfl, _, rfl, ?_⟩
    have t0 : (!decide (vN ((N3 + 1) ^^^ N2) = V.int (Builtin.bitXor ((N3 + 1 : Nat) : Int) (N2 : Int)))) = false := by
      rw [bx]
      simp [vN]
    refine ite2 (fun c => absurd (t0.symm.trans c) (by decide)) (fun _ => ?_)
    refine ⟨_, rfl, (by show 2 ≤ sizeLine; decide), fun o ho => ?_⟩
    have so := same_upd (o := .lst [.int 1, .int 1]) ho
    have wo : Ws 8 [1, 1] := fun x hx => by
      simp at hx
      rw [hx]
      decide
    refine ⟨S, o, true, true, 8, _, [1, 1], rfl, h8, .lst (so _ _ hS3), .lst upd_same, hW, wo, by decide, by omega, by decide, fun t l3 l4 H4 s4 m1 m2 m3 ne e1 e2 e3 => ?_⟩
    have hne : longL (N3 + 1) (250 + N1) N2 ≠ [] := by
      intro z
      rw [z] at hlen
      simp at hlen
    rw [rem_one h8 (by decide) hW hne, long_one hx] at e3
    have lq : (quoL 8 (longL (N3 + 1) (250 + N1) N2) [1, 1]).length = 250 + N1 + 1 := by
      unfold quoL steps
      simp [hlen]
    refine ⟨t, [_, _], rfl, .inl (.inl e1), rfl, _, [_], rfl, _, [], rfl, rfl, ?_⟩
    refine ⟨_, rfl, l3, _, rfl, .inl (.inl (.inl e2)), _, rfl, _, _, rfl, rfl, rfl, _, rfl, ?_⟩
    have t1 : decide (V.int (((quoL 8 (longL (N3 + 1) (250 + N1) N2) [1, 1]).map vN).length : Int) = V.int (250 + (N1 : Int) + 1)) = true := by
      rw [List.length_map, lq]
      exact decide_eq_true (congrArg V.int (by omega))
    refine ite2 (fun _ => ?_) (fun c => absurd t1 c)
    have hS4 := s4 _ _ (so _ _ hS3)
    refine ⟨_, rfl, _, rfl, S, _, 0, vN (N3 + 1), rfl, rfl, .inl (.inl hS4), atI_nat (j := 0) rfl, _, rfl, _, _, rfl, rfl, (by show 1 ≤ sizeLine; decide), fun f hf => ?_⟩
    have sf := same_upd (o := .lst [.int (Builtin.bitXor ((N3 + 1 : Nat) : Int) (N2 : Int))]) hf
    have sAll := sA.trans (s2.trans (s3.trans (so.trans (s4.trans sf))))
    refine ⟨dN [(N3 + 1) ^^^ N2], dN [(N3 + 1) ^^^ N2], dN_dp (.inl (.inl (sf _ _ e3))), dN_dp (.inl (.inl ?_)), dN_shaped _, dN_shaped _, ?_⟩
    · rw [upd_same]
      show some (HO.lst [V.int (Builtin.bitXor _ _)]) = _
      rw [bx]
      rfl
    rw [dN_eqv, decide_eq_true rfl]
    exact q a3 c3 _ (k1.trans (Same.kp sAll)) (sAll _ _ hp1)
/-! CUT -/
theorem long_none {w t : Nat} : evl w t [] = 0 := rfl
theorem evl_conv2 {b t : Nat} {xs ys : List Nat} (hb : Wd b) (ht : t < span b) (hx : Ws b xs) (hy : Ws b ys) : evl b t (conv b xs ys) = mul b (evl b t xs) (evl b t ys) := by
  by_cases h0 : xs = []
  · subst h0
    unfold conv
    rw [if_pos (.inl rfl)]
    show 0 = mul b 0 _
    rw [zero_mul hb]
  · by_cases h1 : ys = []
    · subst h1
      unfold conv
      rw [if_pos (.inr rfl)]
      show 0 = mul b _ 0
      rw [mul_zero]
    · exact evl_conv hb ht hx hy h0 h1
theorem conv_len {b : Nat} {xs ys : List Nat} : (conv b xs ys).length ≤ xs.length + ys.length := by
  unfold conv
  split
  · simp
  · simp only [List.length_map, List.length_range]
    omega
theorem same_one {e : Nat} : (!decide (V.bl (decide (vN e = V.int 0)) = V.bl (decide ([e] = [0])))) = false := by
  have h : decide (vN e = V.int 0) = decide ([e] = [0]) := by
    by_cases h0 : e = 0
    · subst h0
      rfl
    · rw [decide_eq_false (fun z => h0 (by have := V.int.inj z; omega)), decide_eq_false (fun z => h0 (List.cons.inj z).1)]
  rw [h]
  simp
theorem ok__law_right (T : Txt K mg) : FnOk P w K mg base CX0 8 T.f__law_right T.d__law_right ["_law_well"] sp_right := by
  refine T.F__law_right.ok sc__law_right (fun vs H Q E h => ?_) (fun cdv A outer s H vs Q E hr h => ?_)
  · obtain ⟨p, a, b0, c, rfl, _⟩ := h
    rfl
  · obtain ⟨p, a, b0, c, rfl, hp, q⟩ := h
    refine ⟨_, (pss_cons (ps_set (i := 1) sc__law_right.nd rfl (.inr rfl) (pe_call (ok__law_one T) (hr.mono (by decide)) (by rfl) T.g__law_one T.F__law_one.kp T.b__law_one .nil pass0 (pa_cons (pv 0) (pa_cons (pe_lst (pa_cons pe_int (pa_cons pe_int pa_nil))) pa_nil))))
      (pss_cons (ps_asg (pe_tup (pa_cons (pe_call (ok__law_row T) (hr.mono (by decide)) (by rfl) T.g__law_row T.F__law_row.kp T.b__law_row .nil pass0 (pa_cons (pv 0) (pa_cons (pv 1) (pa_cons pe_int pa_nil)))) (pa_cons (pe_call (ok__law_row T) (hr.mono (by decide)) (by rfl) T.g__law_row T.F__law_row.kp T.b__law_row .nil pass0 (pa_cons (pv 0) (pa_cons (pv 1) (pa_cons pe_int pa_nil)))) pa_nil))) (pg_tup rfl (pgs_cons (pg_name (i := 2) sc__law_right.nd rfl (.inr rfl)) (pgs_cons (pg_name (i := 3) sc__law_right.nd rfl (.inr rfl)) pgs_nil))))
      (pss_cons (ps_set (i := 4) sc__law_right.nd rfl (.inl rfl) (pe_lst (pa_cons pe_int (pa_cons pe_int (pa_cons pe_int (pa_cons (pe_call (ok__law_word T) (hr.mono (by decide)) (by rfl) T.g__law_word T.F__law_word.kp T.b__law_word .nil pass0 (pa_cons (pv 0) (pa_cons (pv 1) pa_nil))) (pa_cons (pe_call (ok__law_word T) (hr.mono (by decide)) (by rfl) T.g__law_word T.F__law_word.kp T.b__law_word .nil pass0 (pa_cons (pv 0) (pa_cons (pv 1) pa_nil))) pa_nil)))))))
      (pss_cons (ps_for PassesOwn.never rfl (pi_list (pv 4)) (pg_name (i := 5) sc__law_right.nd rfl (.inl rfl)) (pss_cons (ps_if (PW.pt (pw_or (pt_cmpR op_ne (pe_call (ok_value T) (hr.mono (by decide)) (by rfl) T.g_value T.F_value.kp T.b_value .nil pass0 (pa_cons (pv 1) (pa_cons (pv 2) (pa_cons (pv 5) pa_nil)))) (pe_call (ok__law_value T) (hr.mono (by decide)) (by rfl) T.g__law_value T.F__law_value.kp T.b__law_value .nil pass0 (pa_cons (pv 1) (pa_cons (pv 2) (pa_cons (pv 5) pa_nil)))) (nomark _)) (pw_or1 (pt_cmpR op_ne (pe_call (ok_value T) (hr.mono (by decide)) (by rfl) T.g_value T.F_value.kp T.b_value .nil pass0 (pa_cons (pv 1) (pa_cons (pe_tupleOf (by rfl) T.n_tuple (pv 2)) (pa_cons (pv 5) pa_nil)))) (pe_call (ok_value T) (hr.mono (by decide)) (by rfl) T.g_value T.F_value.kp T.b_value .nil pass0 (pa_cons (pv 1) (pa_cons (pv 2) (pa_cons (pv 5) pa_nil)))) (nomark _))))) (pss_one (ps_ret pe_bl)) pss_nil)
      (pss_cons (ps_set (i := 6) sc__law_right.nd rfl (.inl rfl) (pe_ix ix_rowB (pe_call (ok_divided T) (hr.mono (by decide)) (by rfl) T.g_divided T.F_divided.kp T.b_divided .nil pass0 (pa_cons (pv 1) (pa_cons (pv 2) (pa_cons (pe_tup (pa_cons pe_int (pa_cons (pv 5) pa_nil))) pa_nil)))) pe_int (fun _ _ => rfl)))
      (pss_cons (ps_if (PW.pt (pw_and (pt_cmpR (op_neD hr.units) (pv 2) (pe_lst pa_nil) (nomark _)) (pw_and1 (pt_cmpR op_ne (pe_cmpR op_eq (pe_call (ok_value T) (hr.mono (by decide)) (by rfl) T.g_value T.F_value.kp T.b_value .nil pass0 (pa_cons (pv 1) (pa_cons (pv 2) (pa_cons (pv 5) pa_nil)))) pe_int (nomark _)) (pe_cmpR (op_eqD hr.units) (pv 6) (pe_lst (pa_cons pe_int pa_nil)) (nomark _)) (nomark _))))) (pss_one (ps_ret pe_bl)) pss_nil)
      (pss_one (ps_if (PW.pt (pw_and (pt_cmpR (op_neD hr.units) (pv 2) (pe_lst pa_nil) (nomark _)) (pw_and (pt_cmpR op_gt (pe_callB call_len_seq (by rfl) T.n_len (by decide +kernel) (pa_cons (pv 2) pa_nil)) pe_int (nomark _)) (pw_and1 (pt_cmpR (op_neD hr.units) (pe_ix ix_rowB (pe_call (ok_divided T) (hr.mono (by decide)) (by rfl) T.g_divided T.F_divided.kp T.b_divided .nil pass0 (pa_cons (pv 1) (pa_cons (pv 2) (pa_cons (pe_lst (pa_cons pe_int (pa_cons (pv 5) pa_nil))) pa_nil)))) pe_int (fun _ _ => rfl)) (pe_lst (pa_cons (pe_call (ok_value T) (hr.mono (by decide)) (by rfl) T.g_value T.F_value.kp T.b_value .nil pass0 (pa_cons (pv 1) (pa_cons (pv 2) (pa_cons (pv 5) pa_nil)))) pa_nil)) (nomark _)))))) (pss_one (ps_ret pe_bl)) pss_nil))))))
      (pss_cons (ps_set (i := 7) sc__law_right.nd rfl (.inl rfl) (pe_call (ok_poly_product T) (hr.mono (by decide)) (by rfl) T.g_poly_product T.F_poly_product.kp T.b_poly_product .nil pass0 (pa_cons (pv 1) (pa_cons (pv 2) (pa_cons (pe_tupleOf (by rfl) T.n_tuple (pv 3)) pa_nil)))))
      (pss_cons (ps_if (pt_cmpR (op_neD hr.units) (pv 7) (pe_call (ok__law_times T) (hr.mono (by decide)) (by rfl) T.g__law_times T.F__law_times.kp T.b__law_times .nil pass0 (pa_cons (pv 1) (pa_cons (pv 2) (pa_cons (pv 3) pa_nil)))) (nomark _)) (pss_one (ps_ret pe_bl)) pss_nil)
      (pss_cons (ps_expr (pe_bm PySem.F.plainAttrs_list PySem.F.slot_list_append PySem.F.type_list_append mt_append (pv 7) (pa_cons pe_non pa_nil)))
      (pss_cons (ps_if (pt_cmpR (op_neD hr.units) (pe_callZ (ok_poly_product T) (hr.mono (by decide)) (by rfl) T.g_poly_product T.F_poly_product.kp (kb0 (ks := ["other", "one", "bits"]) T.F_poly_product rev3 rev3_rel (fun _ _ _ _ _ _ ws hl => match ws, hl with | [_, _, _], _ => rfl)) pass0 (pk_cons (pv 2) (pk_cons (pv 3) (pk_cons (pv 1) pk_nil)))) (pe_call (ok__law_times T) (hr.mono (by decide)) (by rfl) T.g__law_times T.F__law_times.kp T.b__law_times .nil pass0 (pa_cons (pv 1) (pa_cons (pv 3) (pa_cons (pv 2) pa_nil)))) (nomark _)) (pss_one (ps_ret pe_bl)) pss_nil)
      (pss_cons (ps_if (pt_cmpR (op_neD hr.units) (pe_lc (own := [("_law_at", 5)]) rfl sc__law_right.nd (pi_list (pv 4)) (blkOk_by (N := ["_law_well", "_law_wide", "_law_some", "_law_more", "_law_points", "_law_at", "_law_rest", "_law_found"]) (sc := defScope s__law_right) (by decide +kernel)) (fun _ _ _ _ _ => by exact (pg_name (i := 5) sc__law_right.nd rfl (.inl rfl))) (fun _ _ _ _ _ => by exact (pts_one (pt_cmpR op_ne (pe_call (ok_value T) (hr.mono (by decide)) (by rfl) T.g_value T.F_value.kp T.b_value .nil pass0 (pa_cons (pv 1) (pa_cons (pe_call (ok__law_times T) (hr.mono (by decide)) (by rfl) T.g__law_times T.F__law_times.kp T.b__law_times .nil pass0 (pa_cons (pv 1) (pa_cons (pv 2) (pa_cons (pv 3) pa_nil)))) (pa_cons (pv 5) pa_nil)))) (pe_call (ok__law_product T) (hr.mono (by decide)) (by rfl) T.g__law_product T.F__law_product.kp T.b__law_product .nil pass0 (pa_cons (pv 1) (pa_cons (pe_call (ok__law_value T) (hr.mono (by decide)) (by rfl) T.g__law_value T.F__law_value.kp T.b__law_value .nil pass0 (pa_cons (pv 1) (pa_cons (pv 2) (pa_cons (pv 5) pa_nil)))) (pa_cons (pe_call (ok__law_value T) (hr.mono (by decide)) (by rfl) T.g__law_value T.F__law_value.kp T.b__law_value .nil pass0 (pa_cons (pv 1) (pa_cons (pv 3) (pa_cons (pv 5) pa_nil)))) pa_nil)))) (nomark _)))) (fun _ _ _ _ _ => by exact (pv 5))) (pe_lst pa_nil) (nomark _)) (pss_one (ps_ret pe_bl)) pss_nil)
      (pss_one (ps_ret (pe_and (pe_call (ok__law_divided_right T) (hr.mono (by decide)) (by rfl) T.g__law_divided_right T.F__law_divided_right.kp T.b__law_divided_right .nil pass0 (pa_cons (pv 0) (pa_cons (pv 1) (pa_cons (pv 2) pa_nil)))) (pe_one (pe_call (ok__law_divided_right T) (hr.mono (by decide)) (by rfl) T.g__law_divided_right T.F__law_divided_right.kp T.b__law_divided_right .nil pass0 (pa_cons (pv 0) (pa_cons (pv 1) (pa_cons (pe_call (ok__law_times T) (hr.mono (by decide)) (by rfl) T.g__law_times T.F__law_times.kp T.b__law_times .nil pass0 (pa_cons (pv 1) (pa_cons (pv 2) (pa_cons (pv 3) pa_nil)))) pa_nil))))))))))))))))), ?_⟩
    refine ⟨_, rfl, (by show 2 ≤ sizeLine; decide), fun l hl => ?_⟩
    have npl : p ≠ l := ne_of_none hp hl
    refine ⟨p, l, a, b0, c, _, rfl, npl, (same_upd hl) _ _ hp, upd_same, (by show 0 < 2; decide), (by show 2 ≤ 1000; decide), fun i v a1 c1 hv => ?_⟩
    obtain ⟨w, hw, rfl⟩ : ∃ w, Wd w ∧ v = vN w := by
      have hm := List.mem_of_getElem? hv
      simp at hm
      rcases hm with rfl | rfl
      · exact ⟨4, .inl rfl, rfl⟩
      · exact ⟨8, .inr rfl, rfl⟩
    have k1 : Kp p H (upd (upd H l (.lst [.int 4, .int 8])) p (WellL a1 b0 c1)) := (Same.kp (same_upd hl)).trans Kp.upd
    have hp1 : (upd (upd H l (.lst [.int 4, .int 8])) p (WellL a1 b0 c1)) p = some (WellL a1 b0 c1) := upd_same
    generalize (upd (upd H l (.lst [.int 4, .int 8])) p (WellL a1 b0 c1)) = H1 at k1 hp1 ⊢
    have hs1 := span_pos hw
    refine ⟨_, rfl, _, rfl, p, a1, b0, c1, w, 12, rfl, hw, hp1, by decide, fun ws a2 c2 ls H2 hws hwl k2 hp2 hls1 hls => ?_⟩
    refine ⟨_, rfl, _, rfl, p, a2, b0, c2, w, 7, rfl, hw, hp2, by decide, fun os a3 c3 lm H3 hos hol k3 hp3 hlm1 hlm => ⟨(by show 2 ≤ sizeLine; decide), fun tu htu => ?_⟩⟩
    have stu := same_upd (o := .tup [.ref ls, .ref lm]) htu
    refine ⟨tu, [_, _], rfl, .inl (.inl upd_same), rfl, _, [_], rfl, _, [], rfl, rfl, ?_⟩
    replace hp3 := stu _ _ hp3
    replace k3 := k3.trans (Same.kp stu)
    replace hlm := stu _ _ hlm
    have npls : p ≠ ls := ne_of_none hp1 hls1
    have nplm : p ≠ lm := ne_of_none hp2 hlm1
    refine ⟨_, rfl, _, rfl, p, a3, b0, c3, w, rfl, hw, hp3, fun x a4 c4 H4 hx k4 hp4 => ?_⟩
    refine ⟨_, rfl, _, rfl, p, a4, b0, c4, w, rfl, hw, hp4, fun y a5 c5 H5 hy k5 hp5 => ⟨(by show 5 ≤ sizeLine; decide), fun lp hlp => ?_⟩⟩
    have s6 := same_upd (o := .lst [.int 0, .int 1, .int 2, vN x, vN y]) hlp
    have k6 : Kp p H (upd H5 lp (.lst [.int 0, .int 1, .int 2, vN x, vN y])) := k1.trans (k2.trans (k3.trans (k4.trans (k5.trans (Same.kp s6)))))
    have hp6 := s6 _ _ hp5
    have hS6 : (upd H5 lp (.lst [.int 0, .int 1, .int 2, vN x, vN y])) ls = some (.lst (ws.map vN)) := s6 _ _ (k5 _ _ (k4 _ _ (k3 _ _ hls npls.symm) npls.symm) npls.symm)
    have hM6 : (upd H5 lp (.lst [.int 0, .int 1, .int 2, vN x, vN y])) lm = some (.lst (os.map vN)) := s6 _ _ (k5 _ _ (k4 _ _ hlm nplm.symm) nplm.symm)
    have hP6 : (upd H5 lp (.lst [.int 0, .int 1, .int 2, vN x, vN y])) lp = some (.lst ([0, 1, 2, x, y].map vN)) := upd_same
    generalize (upd H5 lp (.lst [.int 0, .int 1, .int 2, vN x, vN y])) = H6 at k6 hp6 hS6 hM6 hP6 ⊢
    have h3 : 3 ≤ span w := by rcases hw with rfl | rfl <;> decide
    have hts : ∀ t ∈ [0, 1, 2, x, y], t < span w := fun t ht => by
      simp at ht
      rcases ht with rfl | rfl | rfl | rfl | rfl <;> omega
    have pt_at : ∀ {i : Nat} {v : V}, ([0, 1, 2, x, y].map vN)[i]? = some v → ∃ t, t < span w ∧ v = vN t := fun {i v} e => by
      obtain ⟨t, ht, rfl⟩ := List.mem_map.mp (List.mem_of_getElem? e)
      exact ⟨t, hts t ht, rfl⟩
    refine ⟨_, rfl, lp, rfl, ⟨_, .inl (.inl hP6)⟩, ?_⟩
    refine for_it (walk_list (K := K) (a := lp) (xs := [0, 1, 2, x, y].map vN)) (fun i σ H' => ∃ z5 z6 z7 : Option V, σ = [some (.ref p), some (vN w), some (.ref ls), some (.ref lm), some (.ref lp), z5, z6, z7] ∧ Same H6 H')
      ⟨_, _, _, rfl, Same.refl _⟩ (fun i σ H' _ ⟨_, _, _, _, sm⟩ => .inl (.inl (sm _ _ hP6))) ?_ ?_
    · rintro i v σ H7 H7' hi ⟨z5, z6, z7, rfl, sm⟩ ⟨rfl, hv7⟩
      obtain ⟨t, ht, rfl⟩ := pt_at hv7
      have hS7 := sm _ _ hS6
      refine ⟨_, rfl, _, rfl, _, rfl, ls, true, w, t, ws, rfl, hw, .lst hS7, hws, ht, fun H8 s8 => ?_⟩
      have hS8 := s8 _ _ hS7
      refine ⟨_, rfl, _, rfl, _, rfl, ls, true, w, t, ws, rfl, hw, .lst hS8, hws, ht, fun H9 s9 => ⟨rfl, _, rfl, ifNe ?_⟩⟩
      have hS9 := s9 _ _ hS8
      refine ⟨_, rfl, _, rfl, .inl ⟨ls, _, rfl, .inl (.inl hS9), fun tt htt => ?_⟩⟩
      have st := same_upd (o := .tup (ws.map vN)) htt
      refine ⟨_, rfl, tt, false, w, t, ws, rfl, hw, .tup upd_same, hws, ht, fun H10 s10 => ?_⟩
      have hS10 := s10 _ _ (st _ _ hS9)
      refine ⟨_, rfl, _, rfl, _, rfl, ls, true, w, t, ws, rfl, hw, .lst hS10, hws, ht, fun H11 s11 => ⟨rfl, _, rfl, ifNe ?_⟩⟩
      have hS11 := s11 _ _ hS10
      have sm11 : Same H6 H11 := sm.trans (s8.trans (s9.trans (st.trans (s10.trans s11))))
      have ho1 : Ws w [1, t] := fun z hz => by
        simp at hz
        rcases hz with rfl | rfl
        · exact hs1
        · exact ht
      refine ⟨_, rfl, _, rfl, _, rfl, (by show 2 ≤ sizeLine; decide), fun tq htq => ?_⟩
      have stq := same_upd (o := .tup [.int 1, vN t]) htq
      refine ⟨ls, tq, true, false, w, ws, [1, t], rfl, hw, .lst (stq _ _ hS11), .tup upd_same, hws, ho1, by show (1 : Nat) ≠ 0; decide, by omega, by show 2 ≤ 1000; decide, fun T1 l1 l2 H12 s12 m1 m2 m3 ne e1 e2 e3 => ?_⟩
      have sm12 := sm11.trans (stq.trans s12)
      have hS12 := sm12 _ _ hS6
      refine ⟨T1, _, 1, .ref l2, false, rfl, rfl, .tup e1, rfl, ?_⟩
      refine ⟨_, rfl, Nat.zero_le _, fun z hz => ?_⟩
      have sz := same_upd (o := .lst []) hz
      refine ⟨dN ws, dN [], dN_dp (.inl (.inl (sz _ _ hS12))), dN_dp (.inl (.inl upd_same)), dN_shaped _, dN_shaped _, _, rfl, ?_⟩
      rw [dN_eqv]
      by_cases h0 : ws = []
      · subst h0
        refine iteF (iteF ?_)
        refine ⟨_, rfl, Nat.zero_le _, fun z2 hz2 => ?_⟩
        have sz2 := same_upd (o := .lst []) hz2
        refine ⟨dN [], dN [], dN_dp (.inl (.inl (sz2 _ _ (sz _ _ hS12)))), dN_dp (.inl (.inl upd_same)), dN_shaped _, dN_shaped _, _, rfl, ?_⟩
        rw [dN_eqv]
        refine iteF (iteF ?_)
        exact ⟨_, _, _, rfl, sm12.trans (sz.trans sz2)⟩
      · rw [decide_eq_false h0]
        refine iteT ?_
        rw [rem_one hw ht hws h0] at e3
        refine ⟨_, rfl, _, rfl, _, rfl, ls, true, w, t, ws, rfl, hw, .lst (sz _ _ hS12), hws, ht, fun H13 s13 => ⟨rfl, _, rfl, (by show 1 ≤ sizeLine; decide), fun z3 hz3 => ?_⟩⟩
        have sz3 := same_upd (o := .lst [.int 0]) hz3
        refine ⟨dN [evl w t ws], dN [0], dN_dp (.inl (.inl (sz3 _ _ (s13 _ _ (sz _ _ e3))))), dN_dp (.inl (.inl upd_same)), dN_shaped _, dN_shaped _, rfl, _, rfl, ?_⟩
        rw [dN_eqv]
        refine ite2 (fun c => absurd (same_one.symm.trans c) (by decide)) (fun _ => ?_)
        have sm13 := sm12.trans (sz.trans (s13.trans sz3))
        have hS13 := sm13 _ _ hS6
        refine ⟨_, rfl, Nat.zero_le _, fun z4 hz4 => ?_⟩
        have sz4 := same_upd (o := .lst []) hz4
        refine ⟨dN ws, dN [], dN_dp (.inl (.inl (sz4 _ _ hS13))), dN_dp (.inl (.inl upd_same)), dN_shaped _, dN_shaped _, _, rfl, ?_⟩
        rw [dN_eqv, decide_eq_false h0]
        refine iteT ?_
        have sm14 := sm13.trans sz4
        have hS14 := sm14 _ _ hS6
        refine ⟨_, rfl, ls, _, rfl, .inl (.inl (.inl hS14)), _, _, rfl, rfl, _, rfl, ?_⟩
        refine ite2 (fun _ => ?_) (fun _ => ?_)
        rotate_left
        · exact Exists.intro _ (Exists.intro _ (Exists.intro _ ⟨rfl, sm14⟩))
        refine ⟨_, rfl, _, rfl, _, rfl, (by show 2 ≤ sizeLine; decide), fun tr htr => ?_⟩
        have str := same_upd (o := .lst [.int 1, vN t]) htr
        refine ⟨ls, tr, true, true, w, ws, [1, t], rfl, hw, .lst (str _ _ hS14), .lst upd_same, hws, ho1, by show (1 : Nat) ≠ 0; decide, by omega, by show 2 ≤ 1000; decide, fun T2 l3 l4 H15 s15 m1 m2 m3 ne2 f1 f2 f3 => ?_⟩
        rw [rem_one hw ht hws h0] at f3
        have sm15 := sm14.trans (str.trans s15)
        have hS15 := sm15 _ _ hS6
        refine ⟨T2, _, 1, .ref l4, false, rfl, rfl, .tup f1, rfl, ?_⟩
        refine ⟨_, rfl, _, rfl, _, rfl, ls, true, w, t, ws, rfl, hw, .lst hS15, hws, ht, fun H16 s16 => ⟨(by show 1 ≤ sizeLine; decide), fun z5 hz5 => ?_⟩⟩
        have sz5 := same_upd (o := .lst [vN (evl w t ws)]) hz5
        refine ⟨dN [evl w t ws], dN [evl w t ws], dN_dp (.inl (.inl (sz5 _ _ (s16 _ _ f3)))), dN_dp (.inl (.inl upd_same)), dN_shaped _, dN_shaped _, _, rfl, ?_⟩
        rw [dN_eqv, decide_eq_true rfl]
        refine iteF ?_
        exact ⟨_, _, _, rfl, sm15.trans (s16.trans sz5)⟩
    · rintro σ H7 ⟨z5, z6, z7, rfl, sm⟩
      have hS7 := sm _ _ hS6
      have hM7 := sm _ _ hM6
      refine ⟨_, rfl, _, rfl, _, rfl, .inl ⟨lm, _, rfl, .inl (.inl hM7), fun tt htt => ?_⟩⟩
      have st := same_upd (o := .tup (os.map vN)) htt
      refine ⟨ls, tt, true, false, w, ws, os, rfl, hw, .lst (st _ _ hS7), .tup upd_same, hws, hos, by omega, fun lf H8 s8 nf ef => ?_⟩
      have sm8 := sm.trans (st.trans s8)
      have nf6 : H6 lf = none := Same.free (sm.trans st) nf
      refine ⟨_, rfl, _, rfl, _, rfl, _, rfl, ls, lm, w, ws, os, rfl, hw, .inl (.inl (sm8 _ _ hS6)), .inl (.inl (sm8 _ _ hM6)), hws, hos, by omega, fun l9 H9 s9 n9 e9 => ?_⟩
      have sm9 := sm8.trans s9
      have ef9 := s9 _ _ ef
      refine ⟨dN _, dN _, dN_dp (.inl (.inl ef9)), dN_dp (.inl (.inl e9)), dN_shaped _, dN_shaped _, _, rfl, ?_⟩
      rw [dN_eqv, decide_eq_true rfl]
      refine iteF ?_
      have cl1 := conv_len (b := w) (xs := ws) (ys := os)
      refine ⟨.ref lf, rfl, .inl ⟨rfl, _, .inl (.inl ef9)⟩, lf, _, _, rfl, rfl, ef9, ?_, ?_⟩
      · rw [List.length_map]
        exact small1000 (by omega)
      have sm10 : Same H6 (upd H9 lf (.lst ((conv w ws os).map vN ++ [.non]))) := fun c o hc => by
        rw [upd_ne (ne_of_none hc nf6)]
        exact sm9 _ _ hc
      generalize (upd H9 lf (.lst ((conv w ws os).map vN ++ [.non]))) = H10 at sm10 ⊢
      have hS10 := sm10 _ _ hS6
      have hM10 := sm10 _ _ hM6
      refine ⟨_, rfl, _, rfl, _, rfl, rfl, lm, ls, true, true, w, os, ws, rfl, hw, .lst hM10, .lst hS10, hos, hws, by omega, fun l11 H11 s11 n11 e11 => ?_⟩
      refine ⟨_, rfl, _, rfl, _, rfl, lm, ls, w, os, ws, rfl, hw, .inl (.inl (s11 _ _ hM10)), .inl (.inl (s11 _ _ hS10)), hos, hws, by omega, fun l12 H12 s12 n12 e12 => ?_⟩
      have sm12 := sm10.trans (s11.trans s12)
      refine ⟨dN _, dN _, dN_dp (.inl (.inl (s12 _ _ e11))), dN_dp (.inl (.inl e12)), dN_shaped _, dN_shaped _, _, rfl, ?_⟩
      rw [dN_eqv, decide_eq_true rfl]
      refine iteF ?_
      refine ⟨_, rfl, lp, rfl, ⟨_, .inl (.inl (sm12 _ _ hP6))⟩, fun D hD => ?_⟩
      have sD := same_upd (o := .lst []) hD
      have hD6 : H6 D = none := Same.free sm12 hD
      refine lc_it (walk_list (K := K) (a := lp) (xs := [0, 1, 2, x, y].map vN)) (fun i H' => Same H6 H' ∧ H' D = some (.lst []))
        ⟨sm12.trans sD, upd_same⟩ (fun i H' _ h => .inl (.inl (h.1 _ _ hP6))) ?_ ?_
      · rintro i v H13 H13' hi ⟨sm13, g⟩ ⟨rfl, hv13⟩
        obtain ⟨t, ht, rfl⟩ := pt_at hv13
        refine ⟨rfl, ?_⟩
        refine ⟨_, rfl, _, rfl, _, rfl, _, rfl, ls, lm, w, ws, os, rfl, hw, .inl (.inl (sm13 _ _ hS6)), .inl (.inl (sm13 _ _ hM6)), hws, hos, by omega, fun l14 H14 s14 n14 e14 => ?_⟩
        refine ⟨_, rfl, l14, true, w, t, _, rfl, hw, .lst e14, conv_ws hw hws, ht, fun H15 s15 => ?_⟩
        have sm15 := sm13.trans (s14.trans s15)
        refine ⟨_, rfl, _, rfl, _, rfl, _, rfl, ls, true, w, t, ws, rfl, hw, .lst (sm15 _ _ hS6), hws, ht, fun H16 s16 => ?_⟩
        refine ⟨_, rfl, _, rfl, _, rfl, lm, true, w, t, os, rfl, hw, .lst (s16 _ _ (sm15 _ _ hM6)), hos, ht, fun H17 s17 => ?_⟩
        refine ⟨w, _, _, rfl, hw, evl_lt hw hws, evl_lt hw hos, rfl, _, rfl, ?_⟩
        rw [evl_conv2 hw ht hws hos]
        refine ifNe ?_
        exact ⟨sm15.trans (s16.trans s17), s17 _ _ (s16 _ _ (s15 _ _ (s14 _ _ g)))⟩
      · rintro H13 ⟨sm13, g⟩
        refine ⟨Nat.zero_le _, fun z hz => ?_⟩
        have sz := same_upd (o := .lst []) hz
        refine ⟨dN [], dN [], dN_dp (.inl (.inl (sz _ _ g))), dN_dp (.inl (.inl upd_same)), dN_shaped _, dN_shaped _, _, rfl, ?_⟩
        rw [dN_eqv]
        refine iteF ?_
        have sm14 := sm13.trans sz
        refine ⟨_, rfl, _, rfl, _, rfl, p, ls, _, b0, _, w, ws, rfl, npls, hw, sm14 _ _ hp6, .inl (.inl (sm14 _ _ hS6)), hws, by omega, fun a7 c7 H15 k15 hp15 => ⟨_, rfl, iteT ?_⟩⟩
        have hS15 := k15 _ _ (sm14 _ _ hS6) npls.symm
        have hM15 := k15 _ _ (sm14 _ _ hM6) nplm.symm
        refine ⟨_, rfl, _, rfl, _, rfl, _, rfl, _, rfl, ls, lm, w, ws, os, rfl, hw, .inl (.inl hS15), .inl (.inl hM15), hws, hos, by omega, fun l16 H16 s16 n16 e16 => ?_⟩
        have np16 : p ≠ l16 := ne_of_none hp15 n16
        exact ⟨p, l16, _, b0, _, w, _, rfl, np16, hw, s16 _ _ hp15, .inl (.inl e16), conv_ws hw hws, by omega, fun a8 c8 H17 k17 hp17 => q a8 c8 H17 (k6.trans ((Same.kp sm14).trans (k15.trans ((Same.kp s16).trans k17)))) hp17⟩
def sp_law (K : PySem.W.Frag) : Sp := fun vs H Q _ => ∃ (a : Addr) (ns : List Int), vs = [.ref a] ∧ SqL K H a (ns.map V.int) ∧ ns.length ≤ 63 ∧ ∀ H', Q (.bl true) H'
theorem ok_law (T : Txt K mg) : FnOk P w K mg base CX0 9 T.f_law T.d_law ["_law_script"] (sp_law K) := by
  refine T.F_law.ok sc_law (fun vs H Q E h => ?_) (fun cdv A outer s H vs Q E hr h => ?_)
  · obtain ⟨a, ns, rfl, _⟩ := h
    rfl
  · obtain ⟨a, ns, rfl, hS, hlen, q⟩ := h
    refine ⟨_, (pss_cons (ps_for PassesOwn.never rfl (pi_enum (by rfl) T.n_enumerate (pa_cons (pe_slice sl_list (pe_op op_catL (pv 0) (pe_lst (pa_cons pe_int pa_nil))) po_none (po_some pe_int)) pa_nil)) (pg_tup rfl (pgs_cons (pg_name (i := 1) sc_law.nd rfl (.inl rfl)) (pgs_cons (pg_name (i := 2) sc_law.nd rfl (.inl rfl)) pgs_nil))) (pss_cons (ps_set (i := 3) sc_law.nd rfl (.inl rfl) (pe_lst (pa_cons (pe_op op_mul (pv 2) (pe_callTy call_int1 (by rfl) T.n_int (by decide +kernel) (pa_cons (pe_cmpR op_ge (pv 2) (pe_op op_pow pe_int pe_int) (nomark _)) pa_nil))) (pa_cons (pe_op op_add (pe_op op_mod (pe_callTy call_int1 (by rfl) T.n_int (by decide +kernel) (pa_cons (pv 2) pa_nil)) pe_int) (pe_op op_mul pe_int (pv 1))) (pa_cons pe_int pa_nil)))))
      (pss_one (ps_if (PW.pt (pw_or (pt_not (pt_val (pe_call (ok__law_right T) (hr.mono (by decide)) (by rfl) T.g__law_right T.F__law_right.kp T.b__law_right .nil pass0 (pa_cons (pv 3) pa_nil)))) (pw_or1 (PW.pt (pw_and (pt_cmpR op_eq (pv 1) pe_int (nomark _)) (pw_and1 (pt_not (pt_val (pe_call (ok__law_long_right T) (hr.mono (by decide)) (by rfl) T.g__law_long_right T.F__law_long_right.kp T.b__law_long_right .nil pass0 (pa_cons (pv 3) pa_nil)))))))))) (pss_one (ps_ret pe_bl)) pss_nil))))
      (pss_one (ps_ret pe_bl))), ?_⟩
    refine ⟨_, rfl, (by show 1 ≤ sizeLine; decide), fun p3 hp3 => ?_⟩
    have hS4 : SqL K (upd H p3 (.lst [.int 0])) a (ns.map V.int) := (same_upd hp3).seq hS
    refine ⟨a, p3, _, _, rfl, rfl, hS4, .inl (.inl upd_same), ?_, fun p4 hp4 => ?_⟩
    · rw [List.length_map]
      exact Nat.le_of_lt (small1000 (by show ns.length + 1 ≤ 1000; omega))
    refine ⟨8, rfl, p4, _, rfl, .inl (.inl upd_same), fun p5 hp5 => ?_⟩
    refine ⟨p5, _, rfl, .inl (.inl upd_same), ?_⟩
    refine for_it (walk_enum (K := K) (a := p5) (xs := cutV (ns.map V.int ++ [.int 0]) none (some 8))) (fun i σ H' => ∃ z1 z2 z3 : Option V, σ = [some (.ref a), z1, z2, z3] ∧ H' p5 = some (.lst (cutV (ns.map V.int ++ [.int 0]) none (some 8))))
      ⟨_, _, _, rfl, upd_same⟩ (fun i σ H' _ ⟨_, _, _, _, h5⟩ => .inl (.inl h5)) ?_ (fun σ H' _ => q H')
    rintro i x σ H4 H5 hi ⟨z1, z2, z3, rfl, h54⟩ ⟨T1, x1, y1, rfl, hT, rfl, e1, e2⟩
    have ex1 : x1 = .int (i : Int) := (Option.some.inj e1).symm
    subst ex1
    obtain ⟨cell, rfl⟩ : ∃ c, y1 = V.int c := by
      have hm := List.mem_of_getElem? e2
      have hm2 : y1 ∈ ns.map V.int ++ [.int 0] := List.mem_of_mem_drop (List.mem_of_mem_take hm)
      rcases List.mem_append.mp hm2 with h | h
      · obtain ⟨c, _, rfl⟩ := List.mem_map.mp h
        exact ⟨c, rfl⟩
      · simp at h
        exact ⟨_, h⟩
    refine ⟨T1, [.int (i : Int), .int cell], rfl, .inl (.inl upd_same), rfl, .int (i : Int), [.int cell], rfl, .int cell, [], rfl, rfl, ?_⟩
    refine ⟨_, rfl, _, rfl, _, _, rfl, rfl, ⟨by decide, by decide, by decide⟩, _, _, rfl, rfl, .inr ⟨_, rfl, _, _, rfl, rfl, .inr (by split <;> decide), _, rfl, .inl ⟨_, rfl, _, _, rfl, rfl, (show (0 : Int) < 2147483647 by decide), _, rfl, _, _, rfl, rfl, .inl (by decide), _, _, rfl, rfl, (by show 3 ≤ sizeLine; decide), fun p6 hp6 => ?_⟩⟩⟩
    have h56 := (same_upd (o := .tup [.int (i : Int), .int cell]) hT) _ _ h54
    have n65 : p5 ≠ p6 := ne_of_none h56 hp6
    refine ⟨_, rfl, p6, _, _, _, rfl, upd_same, fun a1 c1 H7 k7 hp7 => ⟨_, rfl, iteF ?_⟩⟩
    have h57 := k7 _ _ ((same_upd hp6) _ _ h56) n65
    refine ⟨_, rfl, rfl, _, rfl, ?_⟩
    refine ite2 (fun _ => ?_) (fun _ => ?_)
    · refine ⟨_, rfl, p6, a1, _, c1, rfl, hp7, fun a2 c2 H8 k8 hp8 => ⟨_, rfl, iteF ?_⟩⟩
      exact ⟨_, _, _, rfl, k8 _ _ h57 n65⟩
    · exact Exists.intro _ (Exists.intro _ (Exists.intro _ ⟨rfl, h57⟩))
end
theorem all_mk {P : Program} {w : World} {K : PySem.W.Frag} {h : Heap} {mg : Str → Option Value} {fa : Addr} (X : K.In h) (G : h.Ns mainGlobals mg) (hfa : mg "law" = some (.ref fa))
    {f0 : Addr} {od0 an0 : Option Addr} {sl0 : Array (Option Value)} {oc0 kV0 dc0 pm0 cd0 ct0 : Value}
    (a0 : PySem.W.nsIn K mainGlobals "is_number" = some (some (.ref f0)))
    (l0 : K.lookup f0 = some ⟨oc0, od0, .func (PySem.W.fnOf "is_number" "is_number" (defArgs s_is_number) (defBody s_is_number) (defScope s_is_number) .none kV0 dc0 pm0 an0 cd0 ct0), sl0⟩) (c0 : PySem.W.codeIn K cd0 "is_number" = true) (k0 : PySem.W.keepIn K (.ref f0) = true)
    {f1 : Addr} {od1 an1 : Option Addr} {sl1 : Array (Option Value)} {oc1 kV1 dc1 pm1 cd1 ct1 : Value}
    (a1 : PySem.W.nsIn K mainGlobals "is_number_to" = some (some (.ref f1)))
    (l1 : K.lookup f1 = some ⟨oc1, od1, .func (PySem.W.fnOf "is_number_to" "is_number_to" (defArgs s_is_number_to) (defBody s_is_number_to) (defScope s_is_number_to) .none kV1 dc1 pm1 an1 cd1 ct1), sl1⟩) (c1 : PySem.W.codeIn K cd1 "is_number_to" = true) (k1 : PySem.W.keepIn K (.ref f1) = true)
    {f2 : Addr} {od2 an2 : Option Addr} {sl2 : Array (Option Value)} {oc2 kV2 dc2 pm2 cd2 ct2 : Value}
    (a2 : PySem.W.nsIn K mainGlobals "is_word" = some (some (.ref f2)))
    (l2 : K.lookup f2 = some ⟨oc2, od2, .func (PySem.W.fnOf "is_word" "is_word" (defArgs s_is_word) (defBody s_is_word) (defScope s_is_word) .none kV2 dc2 pm2 an2 cd2 ct2), sl2⟩) (c2 : PySem.W.codeIn K cd2 "is_word" = true) (k2 : PySem.W.keepIn K (.ref f2) = true)
    {f3 : Addr} {od3 an3 : Option Addr} {sl3 : Array (Option Value)} {oc3 kV3 dc3 pm3 cd3 ct3 : Value}
    (a3 : PySem.W.nsIn K mainGlobals "need_field" = some (some (.ref f3)))
    (l3 : K.lookup f3 = some ⟨oc3, od3, .func (PySem.W.fnOf "need_field" "need_field" (defArgs s_need_field) (defBody s_need_field) (defScope s_need_field) .none kV3 dc3 pm3 an3 cd3 ct3), sl3⟩) (c3 : PySem.W.codeIn K cd3 "need_field" = true) (k3 : PySem.W.keepIn K (.ref f3) = true)
    {f4 : Addr} {od4 an4 : Option Addr} {sl4 : Array (Option Value)} {oc4 kV4 dc4 pm4 cd4 ct4 : Value}
    (a4 : PySem.W.nsIn K mainGlobals "need_word" = some (some (.ref f4)))
    (l4 : K.lookup f4 = some ⟨oc4, od4, .func (PySem.W.fnOf "need_word" "need_word" (defArgs s_need_word) (defBody s_need_word) (defScope s_need_word) .none kV4 dc4 pm4 an4 cd4 ct4), sl4⟩) (c4 : PySem.W.codeIn K cd4 "need_word" = true) (k4 : PySem.W.keepIn K (.ref f4) = true)
    {f5 : Addr} {od5 an5 : Option Addr} {sl5 : Array (Option Value)} {oc5 kV5 dc5 pm5 cd5 ct5 : Value}
    (a5 : PySem.W.nsIn K mainGlobals "is_row" = some (some (.ref f5)))
    (l5 : K.lookup f5 = some ⟨oc5, od5, .func (PySem.W.fnOf "is_row" "is_row" (defArgs s_is_row) (defBody s_is_row) (defScope s_is_row) .none kV5 dc5 pm5 an5 cd5 ct5), sl5⟩) (c5 : PySem.W.codeIn K cd5 "is_row" = true) (k5 : PySem.W.keepIn K (.ref f5) = true)
    {f6 : Addr} {od6 an6 : Option Addr} {sl6 : Array (Option Value)} {oc6 kV6 dc6 pm6 cd6 ct6 : Value}
    (a6 : PySem.W.nsIn K mainGlobals "are_plain_words" = some (some (.ref f6)))
    (l6 : K.lookup f6 = some ⟨oc6, od6, .func (PySem.W.fnOf "are_plain_words" "are_plain_words" (defArgs s_are_plain_words) (defBody s_are_plain_words) (defScope s_are_plain_words) .none kV6 dc6 pm6 an6 cd6 ct6), sl6⟩) (c6 : PySem.W.codeIn K cd6 "are_plain_words" = true) (k6 : PySem.W.keepIn K (.ref f6) = true)
    {f7 : Addr} {od7 an7 : Option Addr} {sl7 : Array (Option Value)} {oc7 kV7 dc7 pm7 cd7 ct7 : Value}
    (a7 : PySem.W.nsIn K mainGlobals "need_words" = some (some (.ref f7)))
    (l7 : K.lookup f7 = some ⟨oc7, od7, .func (PySem.W.fnOf "need_words" "need_words" (defArgs s_need_words) (defBody s_need_words) (defScope s_need_words) .none kV7 dc7 pm7 an7 cd7 ct7), sl7⟩) (c7 : PySem.W.codeIn K cd7 "need_words" = true) (k7 : PySem.W.keepIn K (.ref f7) = true)
    {f8 : Addr} {od8 an8 : Option Addr} {sl8 : Array (Option Value)} {oc8 kV8 dc8 pm8 cd8 ct8 : Value}
    (a8 : PySem.W.nsIn K mainGlobals "need_polynomial" = some (some (.ref f8)))
    (l8 : K.lookup f8 = some ⟨oc8, od8, .func (PySem.W.fnOf "need_polynomial" "need_polynomial" (defArgs s_need_polynomial) (defBody s_need_polynomial) (defScope s_need_polynomial) .none kV8 dc8 pm8 an8 cd8 ct8), sl8⟩) (c8 : PySem.W.codeIn K cd8 "need_polynomial" = true) (k8 : PySem.W.keepIn K (.ref f8) = true)
    {f9 : Addr} {od9 an9 : Option Addr} {sl9 : Array (Option Value)} {oc9 kV9 dc9 pm9 cd9 ct9 : Value}
    (l9 : K.lookup f9 = some ⟨oc9, od9, .func (PySem.W.fnOf "__init__" "Field.__init__" (defArgs s_Field___init__) (defBody s_Field___init__) (defScope s_Field___init__) .none kV9 dc9 pm9 an9 cd9 ct9), sl9⟩) (c9 : PySem.W.codeIn K cd9 "Field.__init__" = true) (k9 : PySem.W.keepIn K (.ref f9) = true)
    {f10 : Addr} {od10 an10 : Option Addr} {sl10 : Array (Option Value)} {oc10 kV10 dc10 pm10 cd10 ct10 : Value}
    (l10 : K.lookup f10 = some ⟨oc10, od10, .func (PySem.W.fnOf "times" "Field.times" (defArgs s_Field_times) (defBody s_Field_times) (defScope s_Field_times) .none kV10 dc10 pm10 an10 cd10 ct10), sl10⟩) (c10 : PySem.W.codeIn K cd10 "Field.times" = true) (k10 : PySem.W.keepIn K (.ref f10) = true)
    {f11 : Addr} {od11 an11 : Option Addr} {sl11 : Array (Option Value)} {oc11 kV11 dc11 pm11 cd11 ct11 : Value}
    (l11 : K.lookup f11 = some ⟨oc11, od11, .func (PySem.W.fnOf "over" "Field.over" (defArgs s_Field_over) (defBody s_Field_over) (defScope s_Field_over) .none kV11 dc11 pm11 an11 cd11 ct11), sl11⟩) (c11 : PySem.W.codeIn K cd11 "Field.over" = true) (k11 : PySem.W.keepIn K (.ref f11) = true)
    {f12 : Addr} {od12 an12 : Option Addr} {sl12 : Array (Option Value)} {oc12 kV12 dc12 pm12 cd12 ct12 : Value}
    (l12 : K.lookup f12 = some ⟨oc12, od12, .func (PySem.W.fnOf "multiple" "Field.multiple" (defArgs s_Field_multiple) (defBody s_Field_multiple) (defScope s_Field_multiple) .none kV12 dc12 pm12 an12 cd12 ct12), sl12⟩) (c12 : PySem.W.codeIn K cd12 "Field.multiple" = true) (k12 : PySem.W.keepIn K (.ref f12) = true)
    {f13 : Addr} {od13 an13 : Option Addr} {sl13 : Array (Option Value)} {oc13 kV13 dc13 pm13 cd13 ct13 : Value}
    (a13 : PySem.W.nsIn K mainGlobals "value_at" = some (some (.ref f13)))
    (l13 : K.lookup f13 = some ⟨oc13, od13, .func (PySem.W.fnOf "value_at" "value_at" (defArgs s_value_at) (defBody s_value_at) (defScope s_value_at) .none kV13 dc13 pm13 an13 cd13 ct13), sl13⟩) (c13 : PySem.W.codeIn K cd13 "value_at" = true) (k13 : PySem.W.keepIn K (.ref f13) = true)
    {f14 : Addr} {od14 an14 : Option Addr} {sl14 : Array (Option Value)} {oc14 kV14 dc14 pm14 cd14 ct14 : Value}
    (a14 : PySem.W.nsIn K mainGlobals "all_products" = some (some (.ref f14)))
    (l14 : K.lookup f14 = some ⟨oc14, od14, .func (PySem.W.fnOf "all_products" "all_products" (defArgs s_all_products) (defBody s_all_products) (defScope s_all_products) .none kV14 dc14 pm14 an14 cd14 ct14), sl14⟩) (c14 : PySem.W.codeIn K cd14 "all_products" = true) (k14 : PySem.W.keepIn K (.ref f14) = true)
    {f15 : Addr} {od15 an15 : Option Addr} {sl15 : Array (Option Value)} {oc15 kV15 dc15 pm15 cd15 ct15 : Value}
    (a15 : PySem.W.nsIn K mainGlobals "long_division" = some (some (.ref f15)))
    (l15 : K.lookup f15 = some ⟨oc15, od15, .func (PySem.W.fnOf "long_division" "long_division" (defArgs s_long_division) (defBody s_long_division) (defScope s_long_division) .none kV15 dc15 pm15 an15 cd15 ct15), sl15⟩) (c15 : PySem.W.codeIn K cd15 "long_division" = true) (k15 : PySem.W.keepIn K (.ref f15) = true)
    {f16 : Addr} {od16 an16 : Option Addr} {sl16 : Array (Option Value)} {oc16 kV16 dc16 pm16 cd16 ct16 : Value}
    (a16 : PySem.W.nsIn K mainGlobals "value" = some (some (.ref f16)))
    (l16 : K.lookup f16 = some ⟨oc16, od16, .func (PySem.W.fnOf "value" "value" (defArgs s_value) (defBody s_value) (defScope s_value) .none kV16 dc16 pm16 an16 cd16 ct16), sl16⟩) (c16 : PySem.W.codeIn K cd16 "value" = true) (k16 : PySem.W.keepIn K (.ref f16) = true)
    {f17 : Addr} {od17 an17 : Option Addr} {sl17 : Array (Option Value)} {oc17 kV17 dc17 pm17 cd17 ct17 : Value}
    (a17 : PySem.W.nsIn K mainGlobals "poly_product" = some (some (.ref f17)))
    (l17 : K.lookup f17 = some ⟨oc17, od17, .func (PySem.W.fnOf "poly_product" "poly_product" (defArgs s_poly_product) (defBody s_poly_product) (defScope s_poly_product) .none kV17 dc17 pm17 an17 cd17 ct17), sl17⟩) (c17 : PySem.W.codeIn K cd17 "poly_product" = true) (k17 : PySem.W.keepIn K (.ref f17) = true)
    {f18 : Addr} {od18 an18 : Option Addr} {sl18 : Array (Option Value)} {oc18 kV18 dc18 pm18 cd18 ct18 : Value}
    (a18 : PySem.W.nsIn K mainGlobals "divided" = some (some (.ref f18)))
    (l18 : K.lookup f18 = some ⟨oc18, od18, .func (PySem.W.fnOf "divided" "divided" (defArgs s_divided) (defBody s_divided) (defScope s_divided) .none kV18 dc18 pm18 an18 cd18 ct18), sl18⟩) (c18 : PySem.W.codeIn K cd18 "divided" = true) (k18 : PySem.W.keepIn K (.ref f18) = true)
    {f19 : Addr} {od19 an19 : Option Addr} {sl19 : Array (Option Value)} {oc19 kV19 dc19 pm19 cd19 ct19 : Value}
    (a19 : PySem.W.nsIn K mainGlobals "_law_draw" = some (some (.ref f19)))
    (l19 : K.lookup f19 = some ⟨oc19, od19, .func (PySem.W.fnOf "_law_draw" "_law_draw" (defArgs s__law_draw) (defBody s__law_draw) (defScope s__law_draw) .none kV19 dc19 pm19 an19 cd19 ct19), sl19⟩) (c19 : PySem.W.codeIn K cd19 "_law_draw" = true) (k19 : PySem.W.keepIn K (.ref f19) = true)
    {f20 : Addr} {od20 an20 : Option Addr} {sl20 : Array (Option Value)} {oc20 kV20 dc20 pm20 cd20 ct20 : Value}
    (a20 : PySem.W.nsIn K mainGlobals "_law_one" = some (some (.ref f20)))
    (l20 : K.lookup f20 = some ⟨oc20, od20, .func (PySem.W.fnOf "_law_one" "_law_one" (defArgs s__law_one) (defBody s__law_one) (defScope s__law_one) .none kV20 dc20 pm20 an20 cd20 ct20), sl20⟩) (c20 : PySem.W.codeIn K cd20 "_law_one" = true) (k20 : PySem.W.keepIn K (.ref f20) = true)
    {f21 : Addr} {od21 an21 : Option Addr} {sl21 : Array (Option Value)} {oc21 kV21 dc21 pm21 cd21 ct21 : Value}
    (a21 : PySem.W.nsIn K mainGlobals "_law_doubled" = some (some (.ref f21)))
    (l21 : K.lookup f21 = some ⟨oc21, od21, .func (PySem.W.fnOf "_law_doubled" "_law_doubled" (defArgs s__law_doubled) (defBody s__law_doubled) (defScope s__law_doubled) .none kV21 dc21 pm21 an21 cd21 ct21), sl21⟩) (c21 : PySem.W.codeIn K cd21 "_law_doubled" = true) (k21 : PySem.W.keepIn K (.ref f21) = true)
    {f22 : Addr} {od22 an22 : Option Addr} {sl22 : Array (Option Value)} {oc22 kV22 dc22 pm22 cd22 ct22 : Value}
    (a22 : PySem.W.nsIn K mainGlobals "_law_product" = some (some (.ref f22)))
    (l22 : K.lookup f22 = some ⟨oc22, od22, .func (PySem.W.fnOf "_law_product" "_law_product" (defArgs s__law_product) (defBody s__law_product) (defScope s__law_product) .none kV22 dc22 pm22 an22 cd22 ct22), sl22⟩) (c22 : PySem.W.codeIn K cd22 "_law_product" = true) (k22 : PySem.W.keepIn K (.ref f22) = true)
    {f23 : Addr} {od23 an23 : Option Addr} {sl23 : Array (Option Value)} {oc23 kV23 dc23 pm23 cd23 ct23 : Value}
    (a23 : PySem.W.nsIn K mainGlobals "_law_word" = some (some (.ref f23)))
    (l23 : K.lookup f23 = some ⟨oc23, od23, .func (PySem.W.fnOf "_law_word" "_law_word" (defArgs s__law_word) (defBody s__law_word) (defScope s__law_word) .none kV23 dc23 pm23 an23 cd23 ct23), sl23⟩) (c23 : PySem.W.codeIn K cd23 "_law_word" = true) (k23 : PySem.W.keepIn K (.ref f23) = true)
    {f24 : Addr} {od24 an24 : Option Addr} {sl24 : Array (Option Value)} {oc24 kV24 dc24 pm24 cd24 ct24 : Value}
    (a24 : PySem.W.nsIn K mainGlobals "_law_value" = some (some (.ref f24)))
    (l24 : K.lookup f24 = some ⟨oc24, od24, .func (PySem.W.fnOf "_law_value" "_law_value" (defArgs s__law_value) (defBody s__law_value) (defScope s__law_value) .none kV24 dc24 pm24 an24 cd24 ct24), sl24⟩) (c24 : PySem.W.codeIn K cd24 "_law_value" = true) (k24 : PySem.W.keepIn K (.ref f24) = true)
    {f25 : Addr} {od25 an25 : Option Addr} {sl25 : Array (Option Value)} {oc25 kV25 dc25 pm25 cd25 ct25 : Value}
    (a25 : PySem.W.nsIn K mainGlobals "_law_row" = some (some (.ref f25)))
    (l25 : K.lookup f25 = some ⟨oc25, od25, .func (PySem.W.fnOf "_law_row" "_law_row" (defArgs s__law_row) (defBody s__law_row) (defScope s__law_row) .none kV25 dc25 pm25 an25 cd25 ct25), sl25⟩) (c25 : PySem.W.codeIn K cd25 "_law_row" = true) (k25 : PySem.W.keepIn K (.ref f25) = true)
    {f26 : Addr} {od26 an26 : Option Addr} {sl26 : Array (Option Value)} {oc26 kV26 dc26 pm26 cd26 ct26 : Value}
    (a26 : PySem.W.nsIn K mainGlobals "_law_times" = some (some (.ref f26)))
    (l26 : K.lookup f26 = some ⟨oc26, od26, .func (PySem.W.fnOf "_law_times" "_law_times" (defArgs s__law_times) (defBody s__law_times) (defScope s__law_times) .none kV26 dc26 pm26 an26 cd26 ct26), sl26⟩) (c26 : PySem.W.codeIn K cd26 "_law_times" = true) (k26 : PySem.W.keepIn K (.ref f26) = true)
    {f27 : Addr} {od27 an27 : Option Addr} {sl27 : Array (Option Value)} {oc27 kV27 dc27 pm27 cd27 ct27 : Value}
    (a27 : PySem.W.nsIn K mainGlobals "_law_plus" = some (some (.ref f27)))
    (l27 : K.lookup f27 = some ⟨oc27, od27, .func (PySem.W.fnOf "_law_plus" "_law_plus" (defArgs s__law_plus) (defBody s__law_plus) (defScope s__law_plus) .none kV27 dc27 pm27 an27 cd27 ct27), sl27⟩) (c27 : PySem.W.codeIn K cd27 "_law_plus" = true) (k27 : PySem.W.keepIn K (.ref f27) = true)
    {f28 : Addr} {od28 an28 : Option Addr} {sl28 : Array (Option Value)} {oc28 kV28 dc28 pm28 cd28 ct28 : Value}
    (a28 : PySem.W.nsIn K mainGlobals "_law_divided_right" = some (some (.ref f28)))
    (l28 : K.lookup f28 = some ⟨oc28, od28, .func (PySem.W.fnOf "_law_divided_right" "_law_divided_right" (defArgs s__law_divided_right) (defBody s__law_divided_right) (defScope s__law_divided_right) .none kV28 dc28 pm28 an28 cd28 ct28), sl28⟩) (c28 : PySem.W.codeIn K cd28 "_law_divided_right" = true) (k28 : PySem.W.keepIn K (.ref f28) = true)
    {f29 : Addr} {od29 an29 : Option Addr} {sl29 : Array (Option Value)} {oc29 kV29 dc29 pm29 cd29 ct29 : Value}
    (a29 : PySem.W.nsIn K mainGlobals "_law_long_right" = some (some (.ref f29)))
    (l29 : K.lookup f29 = some ⟨oc29, od29, .func (PySem.W.fnOf "_law_long_right" "_law_long_right" (defArgs s__law_long_right) (defBody s__law_long_right) (defScope s__law_long_right) .none kV29 dc29 pm29 an29 cd29 ct29), sl29⟩) (c29 : PySem.W.codeIn K cd29 "_law_long_right" = true) (k29 : PySem.W.keepIn K (.ref f29) = true)
    {f30 : Addr} {od30 an30 : Option Addr} {sl30 : Array (Option Value)} {oc30 kV30 dc30 pm30 cd30 ct30 : Value}
    (a30 : PySem.W.nsIn K mainGlobals "_law_right" = some (some (.ref f30)))
    (l30 : K.lookup f30 = some ⟨oc30, od30, .func (PySem.W.fnOf "_law_right" "_law_right" (defArgs s__law_right) (defBody s__law_right) (defScope s__law_right) .none kV30 dc30 pm30 an30 cd30 ct30), sl30⟩) (c30 : PySem.W.codeIn K cd30 "_law_right" = true) (k30 : PySem.W.keepIn K (.ref f30) = true)
    {f31 : Addr} {od31 an31 : Option Addr} {sl31 : Array (Option Value)} {oc31 kV31 dc31 pm31 cd31 ct31 : Value}
    (a31 : PySem.W.nsIn K mainGlobals "law" = some (some (.ref f31)))
    (l31 : K.lookup f31 = some ⟨oc31, od31, .func (PySem.W.fnOf "law" "law" (defArgs s_law) (defBody s_law) (defScope s_law) .none kV31 dc31 pm31 an31 cd31 ct31), sl31⟩) (c31 : PySem.W.codeIn K cd31 "law" = true) (k31 : PySem.W.keepIn K (.ref f31) = true)
    {C_Field : Addr} (aC_Field : PySem.W.nsIn K mainGlobals "Field" = some (some (.ref C_Field))) (pg_Field : PySem.W.plainGet K C_Field Str.empty = true) (hd_Field : PySem.W.hasDictIn K C_Field = true) (po_Field : PySem.W.plainOver K C_Field = true)
    (sa_Field : PySem.W.findIn K (.ref C_Field) "__setattr__" = some (some (.builtin "object.__setattr__"))) (mk_Field : PySem.W.makesIn K C_Field = true) (kc_Field : PySem.W.keepIn K (.ref C_Field) = true)
    (a9 : PySem.W.findIn K (.ref C_Field) "__init__" = some (some (.ref f9))) (i9 : PySem.W.isFn K (.ref f9) = true)
    (a10 : PySem.W.findIn K (.ref C_Field) "times" = some (some (.ref f10))) (i10 : PySem.W.isFn K (.ref f10) = true)
    (a11 : PySem.W.findIn K (.ref C_Field) "over" = some (some (.ref f11))) (i11 : PySem.W.isFn K (.ref f11) = true)
    (a12 : PySem.W.findIn K (.ref C_Field) "multiple" = some (some (.ref f12))) (i12 : PySem.W.isFn K (.ref f12) = true)
    (na_Field_bits : PySem.W.findIn K (.ref C_Field) "bits" = some none)
    (na_Field_span : PySem.W.findIn K (.ref C_Field) "span" = some none)
    (na_Field_turn : PySem.W.findIn K (.ref C_Field) "turn" = some none)
    (na_Field_powers : PySem.W.findIn K (.ref C_Field) "powers" = some none)
    (na_Field_exponents : PySem.W.findIn K (.ref C_Field) "exponents" = some none)
    (z_bool : PySem.W.nsIn K mainGlobals "bool" = some none)
    (z_enumerate : PySem.W.nsIn K mainGlobals "enumerate" = some none)
    (z_int : PySem.W.nsIn K mainGlobals "int" = some none)
    (z_isinstance : PySem.W.nsIn K mainGlobals "isinstance" = some none)
    (z_len : PySem.W.nsIn K mainGlobals "len" = some none)
    (z_list : PySem.W.nsIn K mainGlobals "list" = some none)
    (z_max : PySem.W.nsIn K mainGlobals "max" = some none)
    (z_range : PySem.W.nsIn K mainGlobals "range" = some none)
    (z_reversed : PySem.W.nsIn K mainGlobals "reversed" = some none)
    (z_tuple : PySem.W.nsIn K mainGlobals "tuple" = some none)
    (z_type : PySem.W.nsIn K mainGlobals "type" = some none)
    (z_zip : PySem.W.nsIn K mainGlobals "zip" = some none)
    {d_EXPONENTS : Addr} {n_EXPONENTS : Nat} {u_EXPONENTS0 : Tok} {c_EXPONENTS0 : Addr} {u_EXPONENTS1 : Tok} {c_EXPONENTS1 : Addr}
    (a_EXPONENTS : PySem.W.nsIn K mainGlobals "EXPONENTS" = some (some (.ref d_EXPONENTS)))
    (l_EXPONENTS : K.lookup d_EXPONENTS = some ⟨.type "dict", none, .dict #[⟨4, .int 4 u_EXPONENTS0, .ref c_EXPONENTS0⟩, ⟨8, .int 8 u_EXPONENTS1, .ref c_EXPONENTS1⟩] n_EXPONENTS, #[]⟩)
    (w_EXPONENTS : (d_EXPONENTS == sysModules) = false)
    (t_EXPONENTS0 : tupB K c_EXPONENTS0 [0, 0, 1, 12, 2, 9, 13, 7, 3, 4, 10, 5, 14, 11, 8, 6] = true)
    (t_EXPONENTS1 : tupB K c_EXPONENTS1 [0, 0, 1, 231, 2, 207, 232, 59, 3, 35, 208, 154, 233, 20, 60, 183, 4, 159, 36, 66, 209, 118, 155, 251, 234, 245, 21, 11, 61, 130, 184, 146, 5, 122, 160, 79, 37, 113, 67, 106, 210, 224, 119, 221, 156, 242, 252, 32, 235, 213, 246, 135, 22, 42, 12, 140, 62, 227, 131, 75, 185, 191, 147, 94, 6, 70, 123, 195, 161, 53, 80, 167, 38, 109, 114, 203, 68, 51, 107, 49, 211, 40, 225, 189, 120, 111, 222, 240, 157, 116, 243, 128, 253, 205, 33, 18, 236, 163, 214, 98, 247, 55, 136, 102, 23, 82, 43, 177, 13, 169, 141, 89, 63, 8, 228, 151, 132, 72, 76, 218, 186, 125, 192, 200, 148, 197, 95, 174, 7, 150, 71, 217, 124, 199, 196, 173, 162, 97, 54, 101, 81, 176, 168, 88, 39, 188, 110, 239, 115, 127, 204, 17, 69, 194, 52, 166, 108, 202, 50, 48, 212, 134, 41, 139, 226, 74, 190, 93, 121, 78, 112, 105, 223, 220, 241, 31, 158, 65, 117, 250, 244, 10, 129, 145, 254, 230, 206, 58, 34, 153, 19, 182, 237, 15, 164, 46, 215, 171, 99, 86, 248, 143, 56, 180, 137, 91, 103, 29, 24, 25, 83, 26, 44, 84, 178, 27, 14, 45, 170, 85, 142, 179, 90, 28, 64, 249, 9, 144, 229, 57, 152, 181, 133, 138, 73, 92, 77, 104, 219, 30, 187, 238, 126, 16, 193, 165, 201, 47, 149, 216, 198, 172, 96, 100, 175, 87] = true)
    {d_POWERS : Addr} {n_POWERS : Nat} {u_POWERS0 : Tok} {c_POWERS0 : Addr} {u_POWERS1 : Tok} {c_POWERS1 : Addr}
    (a_POWERS : PySem.W.nsIn K mainGlobals "POWERS" = some (some (.ref d_POWERS)))
    (l_POWERS : K.lookup d_POWERS = some ⟨.type "dict", none, .dict #[⟨4, .int 4 u_POWERS0, .ref c_POWERS0⟩, ⟨8, .int 8 u_POWERS1, .ref c_POWERS1⟩] n_POWERS, #[]⟩)
    (w_POWERS : (d_POWERS == sysModules) = false)
    (t_POWERS0 : tupB K c_POWERS0 [1, 2, 4, 8, 9, 11, 15, 7, 14, 5, 10, 13, 3, 6, 12] = true)
    (t_POWERS1 : tupB K c_POWERS1 [1, 2, 4, 8, 16, 32, 64, 128, 113, 226, 181, 27, 54, 108, 216, 193, 243, 151, 95, 190, 13, 26, 52, 104, 208, 209, 211, 215, 223, 207, 239, 175, 47, 94, 188, 9, 18, 36, 72, 144, 81, 162, 53, 106, 212, 217, 195, 247, 159, 79, 158, 77, 154, 69, 138, 101, 202, 229, 187, 7, 14, 28, 56, 112, 224, 177, 19, 38, 76, 152, 65, 130, 117, 234, 165, 59, 118, 236, 169, 35, 70, 140, 105, 210, 213, 219, 199, 255, 143, 111, 222, 205, 235, 167, 63, 126, 252, 137, 99, 198, 253, 139, 103, 206, 237, 171, 39, 78, 156, 73, 146, 85, 170, 37, 74, 148, 89, 178, 21, 42, 84, 168, 33, 66, 132, 121, 242, 149, 91, 182, 29, 58, 116, 232, 161, 51, 102, 204, 233, 163, 55, 110, 220, 201, 227, 183, 31, 62, 124, 248, 129, 115, 230, 189, 11, 22, 44, 88, 176, 17, 34, 68, 136, 97, 194, 245, 155, 71, 142, 109, 218, 197, 251, 135, 127, 254, 141, 107, 214, 221, 203, 231, 191, 15, 30, 60, 120, 240, 145, 83, 166, 61, 122, 244, 153, 67, 134, 125, 250, 133, 123, 246, 157, 75, 150, 93, 186, 5, 10, 20, 40, 80, 160, 49, 98, 196, 249, 131, 119, 238, 173, 43, 86, 172, 41, 82, 164, 57, 114, 228, 185, 3, 6, 12, 24, 48, 96, 192, 241, 147, 87, 174, 45, 90, 180, 25, 50, 100, 200, 225, 179, 23, 46, 92, 184] = true)
    {d_SPANS : Addr} {n_SPANS : Nat} {u_SPANS0 v_SPANS0 : Tok} {u_SPANS1 v_SPANS1 : Tok}
    (a_SPANS : PySem.W.nsIn K mainGlobals "SPANS" = some (some (.ref d_SPANS)))
    (l_SPANS : K.lookup d_SPANS = some ⟨.type "dict", none, .dict #[⟨4, .int 4 u_SPANS0, .int 16 v_SPANS0⟩, ⟨8, .int 8 u_SPANS1, .int 256 v_SPANS1⟩] n_SPANS, #[]⟩)
    (w_SPANS : (d_SPANS == sysModules) = false)
    : ∃ fd : FuncData, (∀ (s : Shared) (v : Value), BindsTo s fd ⟨[v], []⟩ [("_law_script", v)]) ∧ ∀ base : Heap, K.In base → base.Ns mainGlobals mg → FnOk P w K mg base CX0 9 fa fd ["_law_script"] (sp_law K) := by
  have e := hfa.symm.trans (PySem.W.mg_of X G a31)
  cases e
  let T : Txt K mg := {
    f_is_number := _
    d_is_number := _
    F_is_number := fun_mk (st := s_is_number) l0 c0 k0
    g_is_number := PySem.W.mg_of X G a0
    b_is_number := (fun_mk (st := s_is_number) l0 c0 k0).binds (ps := ["thing"]) (fun _ _ _ _ _ _ us hl => match us, hl with | [_], _ => rfl)
    f_is_number_to := _
    d_is_number_to := _
    F_is_number_to := fun_mk (st := s_is_number_to) l1 c1 k1
    g_is_number_to := PySem.W.mg_of X G a1
    b_is_number_to := (fun_mk (st := s_is_number_to) l1 c1 k1).binds (ps := ["thing", "least", "most"]) (fun _ _ _ _ _ _ us hl => match us, hl with | [_, _, _], _ => rfl)
    f_is_word := _
    d_is_word := _
    F_is_word := fun_mk (st := s_is_word) l2 c2 k2
    g_is_word := PySem.W.mg_of X G a2
    b_is_word := (fun_mk (st := s_is_word) l2 c2 k2).binds (ps := ["bits", "thing"]) (fun _ _ _ _ _ _ us hl => match us, hl with | [_, _], _ => rfl)
    f_need_field := _
    d_need_field := _
    F_need_field := fun_mk (st := s_need_field) l3 c3 k3
    g_need_field := PySem.W.mg_of X G a3
    b_need_field := (fun_mk (st := s_need_field) l3 c3 k3).binds (ps := ["bits"]) (fun _ _ _ _ _ _ us hl => match us, hl with | [_], _ => rfl)
    f_need_word := _
    d_need_word := _
    F_need_word := fun_mk (st := s_need_word) l4 c4 k4
    g_need_word := PySem.W.mg_of X G a4
    b_need_word := (fun_mk (st := s_need_word) l4 c4 k4).binds (ps := ["bits", "part", "thing"]) (fun _ _ _ _ _ _ us hl => match us, hl with | [_, _, _], _ => rfl)
    f_is_row := _
    d_is_row := _
    F_is_row := fun_mk (st := s_is_row) l5 c5 k5
    g_is_row := PySem.W.mg_of X G a5
    b_is_row := (fun_mk (st := s_is_row) l5 c5 k5).binds (ps := ["thing"]) (fun _ _ _ _ _ _ us hl => match us, hl with | [_], _ => rfl)
    f_are_plain_words := _
    d_are_plain_words := _
    F_are_plain_words := fun_mk (st := s_are_plain_words) l6 c6 k6
    g_are_plain_words := PySem.W.mg_of X G a6
    b_are_plain_words := (fun_mk (st := s_are_plain_words) l6 c6 k6).binds (ps := ["bits", "things"]) (fun _ _ _ _ _ _ us hl => match us, hl with | [_, _], _ => rfl)
    f_need_words := _
    d_need_words := _
    F_need_words := fun_mk (st := s_need_words) l7 c7 k7
    g_need_words := PySem.W.mg_of X G a7
    b_need_words := (fun_mk (st := s_need_words) l7 c7 k7).binds (ps := ["bits", "part", "words"]) (fun _ _ _ _ _ _ us hl => match us, hl with | [_, _, _], _ => rfl)
    f_need_polynomial := _
    d_need_polynomial := _
    F_need_polynomial := fun_mk (st := s_need_polynomial) l8 c8 k8
    g_need_polynomial := PySem.W.mg_of X G a8
    b_need_polynomial := (fun_mk (st := s_need_polynomial) l8 c8 k8).binds (ps := ["bits", "part", "words"]) (fun _ _ _ _ _ _ us hl => match us, hl with | [_, _, _], _ => rfl)
    f_Field___init__ := _
    d_Field___init__ := _
    F_Field___init__ := fun_mk (st := s_Field___init__) l9 c9 k9
    b_Field___init__ := (fun_mk (st := s_Field___init__) l9 c9 k9).binds (ps := ["self", "bits"]) (fun _ _ _ _ _ _ us hl => match us, hl with | [_, _], _ => rfl)
    f_Field_times := _
    d_Field_times := _
    F_Field_times := fun_mk (st := s_Field_times) l10 c10 k10
    b_Field_times := (fun_mk (st := s_Field_times) l10 c10 k10).binds (ps := ["self", "one", "other"]) (fun _ _ _ _ _ _ us hl => match us, hl with | [_, _, _], _ => rfl)
    f_Field_over := _
    d_Field_over := _
    F_Field_over := fun_mk (st := s_Field_over) l11 c11 k11
    b_Field_over := (fun_mk (st := s_Field_over) l11 c11 k11).binds (ps := ["self", "one", "other"]) (fun _ _ _ _ _ _ us hl => match us, hl with | [_, _, _], _ => rfl)
    f_Field_multiple := _
    d_Field_multiple := _
    F_Field_multiple := fun_mk (st := s_Field_multiple) l12 c12 k12
    b_Field_multiple := (fun_mk (st := s_Field_multiple) l12 c12 k12).binds (ps := ["self", "words", "factor"]) (fun _ _ _ _ _ _ us hl => match us, hl with | [_, _, _], _ => rfl)
    f_value_at := _
    d_value_at := _
    F_value_at := fun_mk (st := s_value_at) l13 c13 k13
    g_value_at := PySem.W.mg_of X G a13
    b_value_at := (fun_mk (st := s_value_at) l13 c13 k13).binds (ps := ["field", "words", "at"]) (fun _ _ _ _ _ _ us hl => match us, hl with | [_, _, _], _ => rfl)
    f_all_products := _
    d_all_products := _
    F_all_products := fun_mk (st := s_all_products) l14 c14 k14
    g_all_products := PySem.W.mg_of X G a14
    b_all_products := (fun_mk (st := s_all_products) l14 c14 k14).binds (ps := ["field", "one", "other"]) (fun _ _ _ _ _ _ us hl => match us, hl with | [_, _, _], _ => rfl)
    f_long_division := _
    d_long_division := _
    F_long_division := fun_mk (st := s_long_division) l15 c15 k15
    g_long_division := PySem.W.mg_of X G a15
    b_long_division := (fun_mk (st := s_long_division) l15 c15 k15).binds (ps := ["field", "words", "other"]) (fun _ _ _ _ _ _ us hl => match us, hl with | [_, _, _], _ => rfl)
    f_value := _
    d_value := _
    F_value := fun_mk (st := s_value) l16 c16 k16
    g_value := PySem.W.mg_of X G a16
    b_value := (fun_mk (st := s_value) l16 c16 k16).binds (ps := ["bits", "words", "at"]) (fun _ _ _ _ _ _ us hl => match us, hl with | [_, _, _], _ => rfl)
    f_poly_product := _
    d_poly_product := _
    F_poly_product := fun_mk (st := s_poly_product) l17 c17 k17
    g_poly_product := PySem.W.mg_of X G a17
    b_poly_product := (fun_mk (st := s_poly_product) l17 c17 k17).binds (ps := ["bits", "one", "other"]) (fun _ _ _ _ _ _ us hl => match us, hl with | [_, _, _], _ => rfl)
    f_divided := _
    d_divided := _
    F_divided := fun_mk (st := s_divided) l18 c18 k18
    g_divided := PySem.W.mg_of X G a18
    b_divided := (fun_mk (st := s_divided) l18 c18 k18).binds (ps := ["bits", "words", "other"]) (fun _ _ _ _ _ _ us hl => match us, hl with | [_, _, _], _ => rfl)
    f__law_draw := _
    d__law_draw := _
    F__law_draw := fun_mk (st := s__law_draw) l19 c19 k19
    g__law_draw := PySem.W.mg_of X G a19
    b__law_draw := (fun_mk (st := s__law_draw) l19 c19 k19).binds (ps := ["_law_well", "_law_many"]) (fun _ _ _ _ _ _ us hl => match us, hl with | [_, _], _ => rfl)
    f__law_one := _
    d__law_one := _
    F__law_one := fun_mk (st := s__law_one) l20 c20 k20
    g__law_one := PySem.W.mg_of X G a20
    b__law_one := (fun_mk (st := s__law_one) l20 c20 k20).binds (ps := ["_law_well", "_law_some"]) (fun _ _ _ _ _ _ us hl => match us, hl with | [_, _], _ => rfl)
    f__law_doubled := _
    d__law_doubled := _
    F__law_doubled := fun_mk (st := s__law_doubled) l21 c21 k21
    g__law_doubled := PySem.W.mg_of X G a21
    b__law_doubled := (fun_mk (st := s__law_doubled) l21 c21 k21).binds (ps := ["_law_wide", "_law_one_so"]) (fun _ _ _ _ _ _ us hl => match us, hl with | [_, _], _ => rfl)
    f__law_product := _
    d__law_product := _
    F__law_product := fun_mk (st := s__law_product) l22 c22 k22
    g__law_product := PySem.W.mg_of X G a22
    b__law_product := (fun_mk (st := s__law_product) l22 c22 k22).binds (ps := ["_law_wide", "_law_one_so", "_law_other_so"]) (fun _ _ _ _ _ _ us hl => match us, hl with | [_, _, _], _ => rfl)
    f__law_word := _
    d__law_word := _
    F__law_word := fun_mk (st := s__law_word) l23 c23 k23
    g__law_word := PySem.W.mg_of X G a23
    b__law_word := (fun_mk (st := s__law_word) l23 c23 k23).binds (ps := ["_law_well", "_law_wide"]) (fun _ _ _ _ _ _ us hl => match us, hl with | [_, _], _ => rfl)
    f__law_value := _
    d__law_value := _
    F__law_value := fun_mk (st := s__law_value) l24 c24 k24
    g__law_value := PySem.W.mg_of X G a24
    b__law_value := (fun_mk (st := s__law_value) l24 c24 k24).binds (ps := ["_law_wide", "_law_words", "_law_at"]) (fun _ _ _ _ _ _ us hl => match us, hl with | [_, _, _], _ => rfl)
    f__law_row := _
    d__law_row := _
    F__law_row := fun_mk (st := s__law_row) l25 c25 k25
    g__law_row := PySem.W.mg_of X G a25
    b__law_row := (fun_mk (st := s__law_row) l25 c25 k25).binds (ps := ["_law_well", "_law_wide", "_law_most"]) (fun _ _ _ _ _ _ us hl => match us, hl with | [_, _, _], _ => rfl)
    f__law_times := _
    d__law_times := _
    F__law_times := fun_mk (st := s__law_times) l26 c26 k26
    g__law_times := PySem.W.mg_of X G a26
    b__law_times := (fun_mk (st := s__law_times) l26 c26 k26).binds (ps := ["_law_wide", "_law_one_so", "_law_other_so"]) (fun _ _ _ _ _ _ us hl => match us, hl with | [_, _, _], _ => rfl)
    f__law_plus := _
    d__law_plus := _
    F__law_plus := fun_mk (st := s__law_plus) l27 c27 k27
    g__law_plus := PySem.W.mg_of X G a27
    b__law_plus := (fun_mk (st := s__law_plus) l27 c27 k27).binds (ps := ["_law_one_so", "_law_other_so"]) (fun _ _ _ _ _ _ us hl => match us, hl with | [_, _], _ => rfl)
    f__law_divided_right := _
    d__law_divided_right := _
    F__law_divided_right := fun_mk (st := s__law_divided_right) l28 c28 k28
    g__law_divided_right := PySem.W.mg_of X G a28
    b__law_divided_right := (fun_mk (st := s__law_divided_right) l28 c28 k28).binds (ps := ["_law_well", "_law_wide", "_law_some"]) (fun _ _ _ _ _ _ us hl => match us, hl with | [_, _, _], _ => rfl)
    f__law_long_right := _
    d__law_long_right := _
    F__law_long_right := fun_mk (st := s__law_long_right) l29 c29 k29
    g__law_long_right := PySem.W.mg_of X G a29
    b__law_long_right := (fun_mk (st := s__law_long_right) l29 c29 k29).binds (ps := ["_law_well"]) (fun _ _ _ _ _ _ us hl => match us, hl with | [_], _ => rfl)
    f__law_right := _
    d__law_right := _
    F__law_right := fun_mk (st := s__law_right) l30 c30 k30
    g__law_right := PySem.W.mg_of X G a30
    b__law_right := (fun_mk (st := s__law_right) l30 c30 k30).binds (ps := ["_law_well"]) (fun _ _ _ _ _ _ us hl => match us, hl with | [_], _ => rfl)
    f_law := _
    d_law := _
    F_law := fun_mk (st := s_law) l31 c31 k31
    g_law := PySem.W.mg_of X G a31
    b_law := (fun_mk (st := s_law) l31 c31 k31).binds (ps := ["_law_script"]) (fun _ _ _ _ _ _ us hl => match us, hl with | [_], _ => rfl)
    C_Field := C_Field
    g_Field := PySem.W.mg_of X G aC_Field
    cl_Field := ⟨pg_Field, hd_Field, po_Field, sa_Field⟩
    m_Field___init__ := ⟨a9, i9, k9⟩
    mk_Field := ⟨mk_Field, a9, i9, kc_Field⟩
    m_Field_times := ⟨a10, i10, k10⟩
    m_Field_over := ⟨a11, i11, k11⟩
    m_Field_multiple := ⟨a12, i12, k12⟩
    a_Field_bits := na_Field_bits
    a_Field_span := na_Field_span
    a_Field_turn := na_Field_turn
    a_Field_powers := na_Field_powers
    a_Field_exponents := na_Field_exponents
    n_bool := PySem.W.mg_none_of X G z_bool
    n_enumerate := PySem.W.mg_none_of X G z_enumerate
    n_int := PySem.W.mg_none_of X G z_int
    n_isinstance := PySem.W.mg_none_of X G z_isinstance
    n_len := PySem.W.mg_none_of X G z_len
    n_list := PySem.W.mg_none_of X G z_list
    n_max := PySem.W.mg_none_of X G z_max
    n_range := PySem.W.mg_none_of X G z_range
    n_reversed := PySem.W.mg_none_of X G z_reversed
    n_tuple := PySem.W.mg_none_of X G z_tuple
    n_type := PySem.W.mg_none_of X G z_type
    n_zip := PySem.W.mg_none_of X G z_zip
    c_EXPONENTS0 := c_EXPONENTS0
    t_EXPONENTS0 := t_EXPONENTS0
    c_EXPONENTS1 := c_EXPONENTS1
    t_EXPONENTS1 := t_EXPONENTS1
    a_EXPONENTS := d_EXPONENTS
    g_EXPONENTS := PySem.W.mg_of X G a_EXPONENTS
    l_EXPONENTS := ⟨_, _, l_EXPONENTS, (.cons (.cons .nil)), w_EXPONENTS⟩
    c_POWERS0 := c_POWERS0
    t_POWERS0 := t_POWERS0
    c_POWERS1 := c_POWERS1
    t_POWERS1 := t_POWERS1
    a_POWERS := d_POWERS
    g_POWERS := PySem.W.mg_of X G a_POWERS
    l_POWERS := ⟨_, _, l_POWERS, (.cons (.cons .nil)), w_POWERS⟩
    a_SPANS := d_SPANS
    g_SPANS := PySem.W.mg_of X G a_SPANS
    l_SPANS := ⟨_, _, l_SPANS, (.cons (.cons .nil)), w_SPANS⟩ }
  exact ⟨T.d_law, fun s v => .of_eq rfl, fun base _ _ => ok_law T⟩
end My
open PySem PySem.W PyProof.Rows
set_option maxHeartbeats 0 in
theorem PySem.Challenge.cw_dotquilts_k02_whole_polynomials_holds : PySem.Challenge.rw_dotquilts_k02_whole_polynomials.Holds := by
  w_on; o_law; k_head; (case hw => w_witness2)
  k_fill
  refine L2.walk_of (l := PySem.Challenge.rw_dotquilts_k02_whole_polynomials) (n := 63) (k := 9) (x := "_law_script") (CX := fun _ => L2.CX0) (sp := fun w => My.sp_law _) rfl (by decide) rfl ⟨rfl, by decide, by decide⟩ (fun w h Y => PySem.W.kIn_of Y) ?F (fun _ _ a ns hl _ hS => ⟨a, ns, rfl, hS, hl, fun _ => rfl⟩) (fun _ _ _ _ _ h => h)
  case F =>
    intro w mg fa h KX G hmg
    refine' My.all_mk KX G hmg ?a0 ?l0 ?c0 ?k0 ?a1 ?l1 ?c1 ?k1 ?a2 ?l2 ?c2 ?k2 ?a3 ?l3 ?c3 ?k3 ?a4 ?l4 ?c4 ?k4 ?a5 ?l5 ?c5 ?k5 ?a6 ?l6 ?c6 ?k6 ?a7 ?l7 ?c7 ?k7 ?a8 ?l8 ?c8 ?k8 ?l9 ?c9 ?k9 ?l10 ?c10 ?k10 ?l11 ?c11 ?k11 ?l12 ?c12 ?k12 ?a13 ?l13 ?c13 ?k13 ?a14 ?l14 ?c14 ?k14 ?a15 ?l15 ?c15 ?k15 ?a16 ?l16 ?c16 ?k16 ?a17 ?l17 ?c17 ?k17 ?a18 ?l18 ?c18 ?k18 ?a19 ?l19 ?c19 ?k19 ?a20 ?l20 ?c20 ?k20 ?a21 ?l21 ?c21 ?k21 ?a22 ?l22 ?c22 ?k22 ?a23 ?l23 ?c23 ?k23 ?a24 ?l24 ?c24 ?k24 ?a25 ?l25 ?c25 ?k25 ?a26 ?l26 ?c26 ?k26 ?a27 ?l27 ?c27 ?k27 ?a28 ?l28 ?c28 ?k28 ?a29 ?l29 ?c29 ?k29 ?a30 ?l30 ?c30 ?k30 ?a31 ?l31 ?c31 ?k31 ?aC_Field ?pg_Field ?hd_Field ?po_Field ?sa_Field ?mk_Field ?kc_Field ?a9 ?i9 ?a10 ?i10 ?a11 ?i11 ?a12 ?i12 ?na_Field_bits ?na_Field_span ?na_Field_turn ?na_Field_powers ?na_Field_exponents ?z_bool ?z_enumerate ?z_int ?z_isinstance ?z_len ?z_list ?z_max ?z_range ?z_reversed ?z_tuple ?z_type ?z_zip ?a_EXPONENTS ?l_EXPONENTS ?w_EXPONENTS ?t_EXPONENTS0 ?t_EXPONENTS1 ?a_POWERS ?l_POWERS ?w_POWERS ?t_POWERS0 ?t_POWERS1 ?a_SPANS ?l_SPANS ?w_SPANS
    (case a0 => k_is)
    (case l0 => k_is)
    (case c0 => k_is)
    (case k0 => k_is)
    (case a1 => k_is)
    (case l1 => k_is)
    (case c1 => k_is)
    (case k1 => k_is)
    (case a2 => k_is)
    (case l2 => k_is)
    (case c2 => k_is)
    (case k2 => k_is)
    (case a3 => k_is)
    (case l3 => k_is)
    (case c3 => k_is)
    (case k3 => k_is)
    (case a4 => k_is)
    (case l4 => k_is)
    (case c4 => k_is)
    (case k4 => k_is)
    (case a5 => k_is)
    (case l5 => k_is)
    (case c5 => k_is)
    (case k5 => k_is)
    (case a6 => k_is)
    (case l6 => k_is)
    (case c6 => k_is)
    (case k6 => k_is)
    (case a7 => k_is)
    (case l7 => k_is)
    (case c7 => k_is)
    (case k7 => k_is)
    (case a8 => k_is)
    (case l8 => k_is)
    (case c8 => k_is)
    (case k8 => k_is)
    (case a13 => k_is)
    (case l13 => k_is)
    (case c13 => k_is)
    (case k13 => k_is)
    (case a14 => k_is)
    (case l14 => k_is)
    (case c14 => k_is)
    (case k14 => k_is)
    (case a15 => k_is)
    (case l15 => k_is)
    (case c15 => k_is)
    (case k15 => k_is)
    (case a16 => k_is)
    (case l16 => k_is)
    (case c16 => k_is)
    (case k16 => k_is)
    (case a17 => k_is)
    (case l17 => k_is)
    (case c17 => k_is)
    (case k17 => k_is)
    (case a18 => k_is)
    (case l18 => k_is)
    (case c18 => k_is)
    (case k18 => k_is)
    (case a19 => k_is)
    (case l19 => k_is)
    (case c19 => k_is)
    (case k19 => k_is)
    (case a20 => k_is)
    (case l20 => k_is)
    (case c20 => k_is)
    (case k20 => k_is)
    (case a21 => k_is)
    (case l21 => k_is)
    (case c21 => k_is)
    (case k21 => k_is)
    (case a22 => k_is)
    (case l22 => k_is)
    (case c22 => k_is)
    (case k22 => k_is)
    (case a23 => k_is)
    (case l23 => k_is)
    (case c23 => k_is)
    (case k23 => k_is)
    (case a24 => k_is)
    (case l24 => k_is)
    (case c24 => k_is)
    (case k24 => k_is)
    (case a25 => k_is)
    (case l25 => k_is)
    (case c25 => k_is)
    (case k25 => k_is)
    (case a26 => k_is)
    (case l26 => k_is)
    (case c26 => k_is)
    (case k26 => k_is)
    (case a27 => k_is)
    (case l27 => k_is)
    (case c27 => k_is)
    (case k27 => k_is)
    (case a28 => k_is)
    (case l28 => k_is)
    (case c28 => k_is)
    (case k28 => k_is)
    (case a29 => k_is)
    (case l29 => k_is)
    (case c29 => k_is)
    (case k29 => k_is)
    (case a30 => k_is)
    (case l30 => k_is)
    (case c30 => k_is)
    (case k30 => k_is)
    (case a31 => k_is)
    (case l31 => k_is)
    (case c31 => k_is)
    (case k31 => k_is)
    (case aC_Field => k_is)
    (case pg_Field => k_is)
    (case hd_Field => k_is)
    (case po_Field => k_is)
    (case sa_Field => k_is)
    (case mk_Field => k_is)
    (case kc_Field => k_is)
    (case a9 => k_is)
    (case i9 => k_is)
    (case a10 => k_is)
    (case i10 => k_is)
    (case a11 => k_is)
    (case i11 => k_is)
    (case a12 => k_is)
    (case i12 => k_is)
    (case na_Field_bits => k_is)
    (case na_Field_span => k_is)
    (case na_Field_turn => k_is)
    (case na_Field_powers => k_is)
    (case na_Field_exponents => k_is)
    (case z_bool => k_is)
    (case z_enumerate => k_is)
    (case z_int => k_is)
    (case z_isinstance => k_is)
    (case z_len => k_is)
    (case z_list => k_is)
    (case z_max => k_is)
    (case z_range => k_is)
    (case z_reversed => k_is)
    (case z_tuple => k_is)
    (case z_type => k_is)
    (case z_zip => k_is)
    (case a_EXPONENTS => k_is)
    (case l_EXPONENTS => k_is)
    (case w_EXPONENTS => first | rfl | decide)
    (case t_EXPONENTS0 => first | rfl | decide +kernel | k_is)
    (case t_EXPONENTS1 => first | rfl | decide +kernel | k_is)
    (case a_POWERS => k_is)
    (case l_POWERS => k_is)
    (case w_POWERS => first | rfl | decide)
    (case t_POWERS0 => first | rfl | decide +kernel | k_is)
    (case t_POWERS1 => first | rfl | decide +kernel | k_is)
    (case a_SPANS => k_is)
    (case l_SPANS => k_is)
    (case w_SPANS => first | rfl | decide)
    (case l9 => k_is)
    (case c9 => k_is)
    (case k9 => k_is)
    (case l10 => k_is)
    (case c10 => k_is)
    (case k10 => k_is)
    (case l11 => k_is)
    (case c11 => k_is)
    (case k11 => k_is)
    (case l12 => k_is)
    (case c12 => k_is)
    (case k12 => k_is)

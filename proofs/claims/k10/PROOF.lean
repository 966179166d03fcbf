import PyProof.Rows.All
import Wide.All
import OpenK.AllK
import Wide.FinOn
import HandS.ForMost
import HandS.IsInst
import HandS.SortInts
import HandS.Evl
import HandS.Conv
import HandS.Walk
import KE.GoesEnum
import KE.GoesMore
import HandS.Defaults
import HandS.Rev
import HandS.TupAny
import HandS.TupMul
import HandS.Dict
import HandS.Sort
import HandS.Flow
import HandS.More
import HandS.Zip
import HandS.TupLe
import PyProof.ReprRoads
import HandS.Ends
import KE.DataAny
import HandS.TupSets
import HandS.SortOrd
import HandS.SortRule
import HandS.List
import PySem.Challenge.RW_dotquilts_k10_whole_repairs_of_any_rows
set_option Elab.async false
set_option linter.all false
set_option maxRecDepth 100000
set_option maxHeartbeats 4000000
namespace My
open PySem PySem.Spec PyProof.Rows L2
/-! ### a dict of the module with int keys -/
inductive EntI : List DictEntry → List (Int × Int) → Prop where
  | nil : EntI [] []
  | cons {k v : Int} {t u : Tok} {es : List DictEntry} {kvs : List (Int × Int)} (h : EntI es kvs) (hk : hashInt k = k := by decide +kernel) : EntI (⟨k, .int k t, .int v u⟩ :: es) ((k, v) :: kvs)
def KInt (K : PySem.W.Frag) (d : Addr) (kvs : List (Int × Int)) : Prop :=
  ∃ (es : Array DictEntry) (n : Nat), K.lookup d = some ⟨.type "dict", none, .dict es n, #[]⟩ ∧ EntI es.toList kvs ∧ (d == sysModules) = false
theorem EntI.all {es : List DictEntry} {kvs : List (Int × Int)} (h : EntI es kvs) : ∀ e ∈ es, ∃ k t, e.key = .int k t ∧ e.hash = hashInt k := by
  induction h with
  | nil => intro e he; cases he
  | cons h hk ih =>
    intro e he
    cases he with
    | head => exact ⟨_, _, rfl, hk.symm⟩
    | tail _ m => exact ih e m
def getI (k : Int) : List (Int × Int) → Option Int
  | [] => none
  | (k', v) :: r => if k' = k then some v else getI k r
theorem EntI.find {es : List DictEntry} {kvs : List (Int × Int)} (h : EntI es kvs) (k : Int) :
    (getI k kvs = none → findBy Value.isInt es.toArray k = none) ∧ (∀ v, getI k kvs = some v → ∃ u, findBy Value.isInt es.toArray k = some (.int v u)) := by
  unfold findBy
  rw [List.find?_toArray]
  induction h with
  | nil => exact ⟨fun _ => rfl, fun v z => by cases z⟩
  | @cons k' v t u es kvs h hk ih =>
    rw [List.find?_cons]
    by_cases e : k' = k
    · have q : Value.isInt k (Value.int k' t) = true := by show (k' == k) = true; simp [e]
      simp only [q]
      refine ⟨fun z => ?_, fun v' z => ?_⟩
      · unfold getI at z; rw [if_pos e] at z; cases z
      · unfold getI at z; rw [if_pos e] at z; cases z; exact ⟨u, rfl⟩
    · have q : Value.isInt k (Value.int k' t) = false := by show (k' == k) = false; simp [e]
      simp only [q]
      unfold getI
      rw [if_neg e]
      exact ih
section
variable {X : Cx} {d : Addr} {kvs : List (Int × Int)}
theorem mapInt_K {prog : Program} {w : World} {K : PySem.W.Frag} {h : Heap} {es : Array DictEntry} {n : Nat} (X : K.In h) (hl : K.lookup d = some ⟨.type "dict", none, .dict es n, #[]⟩) (hk : EntI es.toList kvs) :
    h.MapOf (intKind prog w) d (fun k => findBy Value.isInt es k) :=
  ⟨_, es, n, X _ _ hl, ⟨rfl, rfl, rfl⟩, rfl, fun e he => by
    obtain ⟨x, t, e1, e2⟩ := hk.all e (Array.mem_toList_iff.mpr he)
    exact ⟨x, by rw [e1]; exact intKind_is prog w x t, e2⟩, fun _ => rfl⟩
/-- d[k] -/
def rKI (d : Addr) (kvs : List (Int × Int)) : R2 := fun x y H Q => ∃ k v, x = .ref d ∧ y = .int k ∧ getI k kvs = some v ∧ Q (.int v) H
theorem ix_kint (D : KInt X.K d kvs) : IxR X (rKI d kvs) := by
  intro value slice pins s σ H x y v u Q I rx ry h hs
  obtain ⟨k, r, rfl, rfl, e, q⟩ := h
  obtain ⟨es, n, hl, hk, hd⟩ := D
  obtain rfl : v = Value.ref d := rx
  obtain ⟨t, rfl⟩ := ry
  have hm := mapInt_K (prog := X.prog) (w := X.w) I.kIn hl hk
  obtain ⟨u0, eu⟩ := (hk.find k).2 r e
  exact tail_any hm.typeIs slot_dict_getitem.lookup (wpAny_getItem_of (intKind_is X.prog X.w k t) hm eu ⟨.int r, H, I.tok _, ⟨_, rfl⟩, q⟩) hs
/-- k in d, k not in d -/
def rInKI (d : Addr) (kvs : List (Int × Int)) (neg : Bool) : R2 := fun x y H Q => ∃ k, x = .int k ∧ y = .ref d ∧ Q (.bl (if neg then !(getI k kvs).isSome else (getI k kvs).isSome)) H
theorem find_is {es : Array DictEntry} (hk : EntI es.toList kvs) (k : Int) : (findBy Value.isInt es k).isSome = (getI k kvs).isSome := by
  have q : findBy Value.isInt es k = findBy Value.isInt es.toList.toArray k := by simp
  cases e : getI k kvs with
  | none => rw [q, (hk.find k).1 e] <;> rfl
  | some v =>
    obtain ⟨u, eu⟩ := (hk.find k).2 v e
    rw [q, eu]
    rfl
theorem op_inKI (D : KInt X.K d kvs) : OpR X (compareOp .In) (rInKI d kvs false) := by
  intro pins s σ H x y v u Q I rx ry h
  obtain ⟨k, rfl, rfl, q⟩ := h
  obtain ⟨es, n, hl, hk, hd⟩ := D
  obtain ⟨t, rfl⟩ := rx
  cases ry
  refine wpAny_in_of (intKind_is X.prog X.w k t) hd (mapInt_K (prog := X.prog) (w := X.w) I.kIn hl hk) ?_
  exact ⟨.bl _, H, I.tok _, rfl, by rw [find_is hk]; exact q⟩
theorem op_notInKI (D : KInt X.K d kvs) : OpR X (compareOp .NotIn) (rInKI d kvs true) := by
  intro pins s σ H x y v u Q I rx ry h
  obtain ⟨k, rfl, rfl, q⟩ := h
  obtain ⟨es, n, hl, hk, hd⟩ := D
  obtain ⟨t, rfl⟩ := rx
  cases ry
  refine wpAny_notIn_of (intKind_is X.prog X.w k t) hd (mapInt_K (prog := X.prog) (w := X.w) I.kIn hl hk) ?_
  exact ⟨.bl _, H, I.tok _, rfl, by rw [find_is hk]; exact q⟩
/-- xs + ys, whatever kind of lists stand there (the script, too) -/
def rCatL (K : PySem.W.Frag) : R2 := fun x y H Q => ∃ l b xs zs, x = .ref l ∧ y = .ref b ∧ SqL K H l xs ∧ SqL K H b zs ∧ xs.length + zs.length ≤ sizeLine ∧ ∀ p, H p = none → Q (.ref p) (upd H p (.lst (xs ++ zs)))
theorem op_catL : OpR X (binaryOp .Add) (rCatL X.K) := by
  intro pins s σ H x y v u Q I rx ry h
  obtain ⟨l, b, xs, zs, rfl, rfl, hl, hb, hz, q⟩ := h
  cases rx
  cases ry
  obtain ⟨its, r, ⟨⟨cls, dd, data, sl⟩, n, ho, hc, hd, hs⟩, z1⟩ := I.list hl
  obtain ⟨its2, r2, ⟨⟨cls2, dd2, data2, sl2⟩, n2, ho2, hc2, hd2, hs2⟩, z2⟩ := I.list hb
  have e1 := r.length
  have e2 := r2.length
  simp only at hc hd hs hc2 hd2 hs2
  subst hc hd hs hc2 hd2 hs2
  have e : its.toArray ++ its2.toArray = (its ++ its2).toArray := by simp
  refine concat_meets ⟨_, ho, rfl⟩ ⟨_, ho2, rfl⟩ noFill_list_add seq_list_add PySem.F.slot_list_add PySem.F.entry_list_add (PySem.F.args_list_add_2 _ _) (list_addW l b its.toArray its2.toArray n n2 none none sl sl2 (by simp; omega)) ⟨ho, ho2, ?_⟩
  rw [e]
  exact ⟨.ref _, _, I.lnew (t' := s.toks) (r.append r2) (by rw [List.length_append]; omega), rfl, q _ I.fresh⟩
/-- name op= e, by the in-place operator's rule -/
theorem pip_of {op : Operator} {r : R2} (h : OpR X (inplaceOp op) r) : PIp X op r := h
end
end My

set_option Elab.async false
set_option linter.all false
set_option maxRecDepth 100000
set_option maxHeartbeats 4000000
/-! ### written tuples of ints, dicts of the module from ints to objects -/
namespace My
open PySem PySem.Spec PyProof.Rows L2
def intsB : List Value → List Int → Bool
  | [], [] => true
  | .int i _ :: vs, j :: xs => (i == j) && intsB vs xs
  | _, _ => false
def tupB (K : PySem.W.Frag) (a : Addr) (xs : List Int) : Bool :=
  match K.lookup a with
  | some ⟨.type s, _, .seq its _, _⟩ => s == "tuple" && Nat.ble its.size 1000 && intsB its.toList xs
  | _ => false
theorem intsB_ok : ∀ {vs : List Value} {xs : List Int}, intsB vs xs = true → Vals (xs.map V.int) vs
  | [], [], _ => .nil
  | .int i t :: vs, j :: xs, h => by
    have h' : ((i == j) && intsB vs xs) = true := h
    rw [Bool.and_eq_true] at h'
    have e : i = j := by simpa using h'.1
    subst e
    exact .cons ⟨t, rfl⟩ (intsB_ok h'.2)
theorem tupB_ok {K : PySem.W.Frag} {a : Addr} {xs : List Int} {H : Hp} (h : tupB K a xs = true) : SqT K H a (xs.map V.int) := by
  unfold tupB at h
  split at h
  · next s _ its n _ e =>
    rw [Bool.and_eq_true, Bool.and_eq_true] at h
    have es : s = "tuple" := by simpa using h.1.1
    subst es
    exact .inr ⟨_, its, n, e, rfl, rfl, Nat.le_trans (Nat.le_of_ble_eq_true h.1.2) (by decide), intsB_ok h.2⟩
  · cases h
inductive EntR : List DictEntry → List (Int × Addr) → Prop where
  | nil : EntR [] []
  | cons {k : Int} {v : Addr} {t : Tok} {es : List DictEntry} {kvs : List (Int × Addr)} (h : EntR es kvs) (hk : hashInt k = k := by decide +kernel) : EntR (⟨k, .int k t, .ref v⟩ :: es) ((k, v) :: kvs)
def KRef (K : PySem.W.Frag) (d : Addr) (kvs : List (Int × Addr)) : Prop :=
  ∃ (es : Array DictEntry) (n : Nat), K.lookup d = some ⟨.type "dict", none, .dict es n, #[]⟩ ∧ EntR es.toList kvs ∧ (d == sysModules) = false
theorem EntR.all {es : List DictEntry} {kvs : List (Int × Addr)} (h : EntR es kvs) : ∀ e ∈ es, ∃ k t, e.key = .int k t ∧ e.hash = hashInt k := by
  induction h with
  | nil => intro e he; cases he
  | cons h hk ih =>
    intro e he
    cases he with
    | head => exact ⟨_, _, rfl, hk.symm⟩
    | tail _ m => exact ih e m
def getA (k : Int) : List (Int × Addr) → Option Addr
  | [] => none
  | (k', v) :: r => if k' = k then some v else getA k r
theorem EntR.find {es : List DictEntry} {kvs : List (Int × Addr)} (h : EntR es kvs) (k : Int) :
    (getA k kvs = none → findBy Value.isInt es.toArray k = none) ∧ (∀ v, getA k kvs = some v → findBy Value.isInt es.toArray k = some (.ref v)) := by
  unfold findBy
  rw [List.find?_toArray]
  induction h with
  | nil => exact ⟨fun _ => rfl, fun v z => by cases z⟩
  | @cons k' v t es kvs h hk ih =>
    rw [List.find?_cons]
    by_cases e : k' = k
    · have q : Value.isInt k (Value.int k' t) = true := by show (k' == k) = true; simp [e]
      simp only [q]
      refine ⟨fun z => ?_, fun v' z => ?_⟩
      · unfold getA at z; rw [if_pos e] at z; cases z
      · unfold getA at z; rw [if_pos e] at z; cases z; rfl
    · have q : Value.isInt k (Value.int k' t) = false := by show (k' == k) = false; simp [e]
      simp only [q]
      unfold getA
      rw [if_neg e]
      exact ih
section
variable {X : Cx} {d : Addr} {kvs : List (Int × Addr)}
theorem mapInt_R {prog : Program} {w : World} {K : PySem.W.Frag} {h : Heap} {es : Array DictEntry} {n : Nat} (X : K.In h) (hl : K.lookup d = some ⟨.type "dict", none, .dict es n, #[]⟩) (hk : EntR es.toList kvs) :
    h.MapOf (intKind prog w) d (fun k => findBy Value.isInt es k) :=
  ⟨_, es, n, X _ _ hl, ⟨rfl, rfl, rfl⟩, rfl, fun e he => by
    obtain ⟨x, t, e1, e2⟩ := hk.all e (Array.mem_toList_iff.mpr he)
    exact ⟨x, by rw [e1]; exact intKind_is prog w x t, e2⟩, fun _ => rfl⟩
/-- d[k] -/
def rKR (d : Addr) (kvs : List (Int × Addr)) : R2 := fun x y H Q => ∃ k v, x = .ref d ∧ y = .int k ∧ getA k kvs = some v ∧ Q (.ref v) H
theorem ix_kref (D : KRef X.K d kvs) : IxR X (rKR d kvs) := by
  intro value slice pins s σ H x y v u Q I rx ry h hs
  obtain ⟨k, r, rfl, rfl, e, q⟩ := h
  obtain ⟨es, n, hl, hk, hd⟩ := D
  obtain rfl : v = Value.ref d := rx
  obtain ⟨t, rfl⟩ := ry
  have hm := mapInt_R (prog := X.prog) (w := X.w) I.kIn hl hk
  have eu := (hk.find k).2 r e
  exact tail_any hm.typeIs slot_dict_getitem.lookup (wpAny_getItem_of (intKind_is X.prog X.w k t) hm eu ⟨.ref r, H, I.tok _, rfl, q⟩) hs
end
end My

set_option Elab.async false
set_option linter.all false
set_option maxRecDepth 100000
set_option maxHeartbeats 4000000
namespace My
open PySem PySem.Spec PyProof.Rows L2
/-! ### bits of ints that are not negative -/
theorem bx (a b : Nat) : Builtin.bitXor (a : Int) (b : Int) = ((a ^^^ b : Nat) : Int) := by
  have h := Bits.bitXor_pp (x := (a : Int)) (y := (b : Int)) (by omega) (by omega)
  simpa using h
theorem band1 (a : Nat) : Builtin.bitAnd (a : Int) 1 = ((a % 2 : Nat) : Int) := by
  have h := Bits.bitAnd_mask (x := (a : Int)) 1 (by omega)
  simpa using h
/-! ### the field: words as natural numbers -/
def span (b : Nat) : Nat := cond (Nat.beq b 4) 16 256
def foldw (b : Nat) : Nat := cond (Nat.beq b 4) 9 113
def turn (b : Nat) : Nat := cond (Nat.beq b 4) 15 255
def dbl (b x : Nat) : Nat := cond (Nat.blt (2 * x) (span b)) (2 * x) ((2 * x - span b) ^^^ foldw b)
def mulF (b : Nat) : Nat → Nat → Nat → Nat
  | 0, _, _ => 0
  | n + 1, x, y => (cond (Nat.beq (y % 2) 1) x 0) ^^^ mulF b n (dbl b x) (y / 2)
def mul (b x y : Nat) : Nat := mulF b b x y
def pw (b : Nat) : Nat → Nat
  | 0 => 1
  | n + 1 => dbl b (pw b n)
def pws (b : Nat) : List Nat := (List.range (turn b)).map (pw b)
def Wd (b : Nat) : Prop := b = 4 ∨ b = 8
def allB (p : Nat → Nat → Bool) (n : Nat) : Bool := (List.range n).all fun x => (List.range n).all fun y => p x y
theorem allB_ok {p : Nat → Nat → Bool} {n : Nat} (h : allB p n = true) {x y : Nat} (hx : x < n) (hy : y < n) : p x y = true :=
  List.all_eq_true.mp (List.all_eq_true.mp h x (List.mem_range.mpr hx)) y (List.mem_range.mpr hy)
def linB (b : Nat) (x y : Nat) : Bool := Nat.beq (dbl b (x ^^^ y)) (dbl b x ^^^ dbl b y)
theorem lin4 : allB (linB 4) 16 = true := by decide +kernel
theorem lin8 : allB (linB 8) 256 = true := by decide +kernel
theorem dbl_lin {b x y : Nat} (hb : Wd b) (hx : x < span b) (hy : y < span b) : dbl b (x ^^^ y) = dbl b x ^^^ dbl b y := by
  rcases hb with rfl | rfl
  · exact Nat.eq_of_beq_eq_true (allB_ok lin4 hx hy)
  · exact Nat.eq_of_beq_eq_true (allB_ok lin8 hx hy)
theorem dbl_lt {b x : Nat} (hb : Wd b) (hx : x < span b) : dbl b x < span b := by
  rcases hb with rfl | rfl
  · exact (by decide +kernel : ∀ x, x < 16 → dbl 4 x < 16) x hx
  · exact (by decide +kernel : ∀ x, x < 256 → dbl 8 x < 256) x hx
theorem dbl_zero {b : Nat} (hb : Wd b) : dbl b 0 = 0 := by rcases hb with rfl | rfl <;> rfl
theorem span_pow {b : Nat} (hb : Wd b) : span b = 2 ^ b := by rcases hb with rfl | rfl <;> rfl
theorem xor_lt {b x y : Nat} (hb : Wd b) (hx : x < span b) (hy : y < span b) : x ^^^ y < span b := by
  rw [span_pow hb] at *
  exact Nat.xor_lt_two_pow hx hy
theorem mulF_lt {b : Nat} (hb : Wd b) : ∀ (n x y : Nat), x < span b → mulF b n x y < span b
  | 0, _, _, _ => by
    show 0 < span b
    rcases hb with rfl | rfl <;> decide
  | n + 1, x, y, hx => by
    refine xor_lt hb ?_ (mulF_lt hb n _ _ (dbl_lt hb hx))
    cases Nat.beq (y % 2) 1
    · show 0 < span b; rcases hb with rfl | rfl <;> decide
    · exact hx
theorem mulF_zero {b : Nat} (x : Nat) : ∀ n x, mulF b n x 0 = 0
  | 0, _ => rfl
  | n + 1, x => by
    show (0 : Nat) ^^^ mulF b n (dbl b x) 0 = 0
    rw [mulF_zero x n _]
    rfl
theorem zero_mulF {b : Nat} (hb : Wd b) : ∀ n y, mulF b n 0 y = 0
  | 0, _ => rfl
  | n + 1, y => by
    show (cond (Nat.beq (y % 2) 1) 0 0) ^^^ mulF b n (dbl b 0) (y / 2) = 0
    rw [dbl_zero hb, zero_mulF hb n]
    cases Nat.beq (y % 2) 1 <;> rfl
theorem mulF_lin {b : Nat} (hb : Wd b) : ∀ (n x z y : Nat), x < span b → z < span b → mulF b n (x ^^^ z) y = mulF b n x y ^^^ mulF b n z y
  | 0, _, _, _, _, _ => by
    show (0 : Nat) = 0 ^^^ 0
    rfl
  | n + 1, x, z, y, hx, hz => by
    show (cond (Nat.beq (y % 2) 1) (x ^^^ z) 0) ^^^ mulF b n (dbl b (x ^^^ z)) (y / 2) = ((cond (Nat.beq (y % 2) 1) x 0) ^^^ mulF b n (dbl b x) (y / 2)) ^^^ ((cond (Nat.beq (y % 2) 1) z 0) ^^^ mulF b n (dbl b z) (y / 2))
    rw [dbl_lin hb hx hz, mulF_lin hb n _ _ _ (dbl_lt hb hx) (dbl_lt hb hz)]
    cases Nat.beq (y % 2) 1
    · simp
    · show (x ^^^ z) ^^^ (_ ^^^ _) = (x ^^^ _) ^^^ (z ^^^ _)
      ac_rfl
theorem mulF_dbl {b : Nat} (hb : Wd b) : ∀ (n x y : Nat), x < span b → mulF b n (dbl b x) y = dbl b (mulF b n x y)
  | 0, _, _, _ => (dbl_zero hb).symm
  | n + 1, x, y, hx => by
    show (cond (Nat.beq (y % 2) 1) (dbl b x) 0) ^^^ mulF b n (dbl b (dbl b x)) (y / 2) = dbl b ((cond (Nat.beq (y % 2) 1) x 0) ^^^ mulF b n (dbl b x) (y / 2))
    rw [mulF_dbl hb n _ _ (dbl_lt hb hx)]
    cases Nat.beq (y % 2) 1
    · simp
    · show dbl b x ^^^ _ = dbl b (x ^^^ _)
      rw [dbl_lin hb hx (mulF_lt hb _ _ _ (dbl_lt hb hx))]
theorem one_mul {b y : Nat} (hb : Wd b) (hy : y < span b) : mul b 1 y = y := by
  rcases hb with rfl | rfl
  · exact (by decide +kernel : ∀ x, x < 16 → mul 4 1 x = x) y hy
  · exact (by decide +kernel : ∀ x, x < 256 → mul 8 1 x = x) y hy
theorem pw_lt {b : Nat} (hb : Wd b) : ∀ n, pw b n < span b
  | 0 => by rcases hb with rfl | rfl <;> decide
  | n + 1 => dbl_lt hb (pw_lt hb n)
theorem mul_lt {b x y : Nat} (hb : Wd b) (hx : x < span b) : mul b x y < span b := mulF_lt hb _ _ _ hx
theorem pw_mul {b : Nat} (hb : Wd b) (j : Nat) : ∀ i, mul b (pw b i) (pw b j) = pw b (i + j)
  | 0 => by rw [Nat.zero_add]; exact one_mul hb (pw_lt hb j)
  | i + 1 => by
    show mulF b b (dbl b (pw b i)) (pw b j) = _
    rw [mulF_dbl hb _ _ _ (pw_lt hb i)]
    have h := pw_mul hb j i
    unfold mul at h
    rw [h, show i + 1 + j = (i + j) + 1 by omega]
    rfl
theorem pw_turn {b : Nat} (hb : Wd b) : pw b (turn b) = 1 := by rcases hb with rfl | rfl <;> decide +kernel
theorem pw_add_turn {b : Nat} (hb : Wd b) (i : Nat) : pw b (i + turn b) = pw b i := by
  rw [← pw_mul hb, pw_turn hb]
  have h := pw_mul hb 0 i
  exact h
theorem pw_add_mul {b : Nat} (hb : Wd b) (i : Nat) : ∀ k, pw b (i + k * turn b) = pw b i
  | 0 => by rw [Nat.zero_mul, Nat.add_zero]
  | k + 1 => by
    rw [Nat.succ_mul, ← Nat.add_assoc, pw_add_turn hb, pw_add_mul hb i k]
theorem pw_mod {b : Nat} (hb : Wd b) (i : Nat) : pw b i = pw b (i % turn b) := by
  have h := pw_add_mul hb (i % turn b) (i / turn b)
  have e : i % turn b + i / turn b * turn b = i := by
    have := Nat.mod_add_div i (turn b)
    rw [Nat.mul_comm] at this
    exact this
  rw [e] at h
  exact h
def lg (b x : Nat) : Nat := (pws b).idxOf x
def memB (b : Nat) (x : Nat) : Bool := Nat.beq x 0 || (pws b).any fun y => Nat.beq x y
theorem mem_pws {b x : Nat} (hb : Wd b) (hx : x < span b) (h0 : x ≠ 0) : x ∈ pws b := by
  have q : memB b x = true := by
    rcases hb with rfl | rfl
    · exact List.all_eq_true.mp (by decide +kernel : ((List.range 16).all fun x => memB 4 x) = true) x (List.mem_range.mpr hx)
    · exact List.all_eq_true.mp (by decide +kernel : ((List.range 256).all fun x => memB 8 x) = true) x (List.mem_range.mpr hx)
  rcases (Bool.or_eq_true _ _).mp q with h | h
  · exact absurd (Nat.eq_of_beq_eq_true h) h0
  · obtain ⟨y, hy, e⟩ := List.any_eq_true.mp h
    rw [Nat.eq_of_beq_eq_true e]
    exact hy
theorem pws_len (b : Nat) : (pws b).length = turn b := by simp [pws]
theorem pws_at {b i : Nat} (h : i < turn b) : (pws b)[i]? = some (pw b i) := by
  simp [pws, h]
theorem lg_lt {b x : Nat} (hb : Wd b) (hx : x < span b) (h0 : x ≠ 0) : lg b x < turn b := by
  rw [← pws_len b]
  exact List.idxOf_lt_length_of_mem (mem_pws hb hx h0)
theorem pw_lg {b x : Nat} (hb : Wd b) (hx : x < span b) (h0 : x ≠ 0) : pw b (lg b x) = x := by
  have h := lg_lt hb hx h0
  have e := pws_at h
  have e2 : (pws b)[lg b x]? = some x := by
    unfold lg
    rw [List.getElem?_eq_getElem (List.idxOf_lt_length_of_mem (mem_pws hb hx h0)), List.getElem_idxOf]
  rw [e] at e2
  exact Option.some.inj e2
theorem pw_ne {b : Nat} (hb : Wd b) (i : Nat) : pw b i ≠ 0 := by
  intro h
  have e := pw_mul hb ((turn b - i % turn b)) (i % turn b)
  rw [← pw_mod hb i, h] at e
  have ht : i % turn b < turn b := Nat.mod_lt _ (by rcases hb with rfl | rfl <;> decide)
  rw [show i % turn b + (turn b - i % turn b) = turn b by omega, pw_turn hb] at e
  unfold mul at e
  rw [zero_mulF hb] at e
  cases e
/-- before its place a word does not stand in the list of powers -/
theorem lg_first {b x m z : Nat} (hm : m < lg b x) (hz : (pws b)[m]? = some z) : z ≠ x := by
  intro e
  subst e
  have := List.not_of_lt_findIdx (xs := pws b) (p := (· == z)) (i := m) hm
  obtain ⟨hl, he⟩ := List.getElem?_eq_some_iff.mp hz
  simp [he] at this
theorem mul_comm {b x y : Nat} (hb : Wd b) (hx : x < span b) (hy : y < span b) : mul b x y = mul b y x := by
  by_cases h1 : x = 0
  · subst h1
    unfold mul
    rw [zero_mulF hb, mulF_zero 0]
  · by_cases h2 : y = 0
    · subst h2
      unfold mul
      rw [zero_mulF hb, mulF_zero 0]
    · rw [← pw_lg hb hx h1, ← pw_lg hb hy h2, pw_mul hb, pw_mul hb, Nat.add_comm]
theorem mulF_more {b : Nat} : ∀ (n x y : Nat), y < 2 ^ n → ∀ m, n ≤ m → mulF b m x y = mulF b n x y
  | 0, x, y, h, m, _ => by
    have : y = 0 := by simpa using h
    subst this
    rw [mulF_zero 0]
    rfl
  | n + 1, x, y, h, m, hm => by
    cases m with
    | zero => omega
    | succ m =>
      show (cond (Nat.beq (y % 2) 1) x 0) ^^^ mulF b m (dbl b x) (y / 2) = (cond (Nat.beq (y % 2) 1) x 0) ^^^ mulF b n (dbl b x) (y / 2)
      rw [mulF_more n _ _ (by rw [Nat.pow_succ] at h; omega) m (by omega)]
end My

set_option Elab.async false
set_option linter.all false
set_option maxRecDepth 100000
set_option maxHeartbeats 4000000
/-! ### enumerate of a tuple -/
namespace EnT
open PySem PySem.Spec PyProof.Rows
theorem meets_enumerate_newT (l : Addr) (items : Array Value) (n : Nat) (dct : Option Addr) (sl : Array (Option Value)) :
    Meets (Builtin.«enumerate.__new__» ⟨[.type "enumerate", .ref l], []⟩) (fun _ R s => s.heap.get? l = some { cls := .type "tuple", dict := dct, data := .seq items n, slots := sl } ∧
      R (.ok (.ret (.ref (s.heap.push { cls := .type "tuple_iterator", data := .fields #[.ref l, .int 0 0] }).objs.size)))
        { s with heap := (s.heap.push { cls := .type "tuple_iterator", data := .fields #[.ref l, .int 0 0] }).push { cls := .type "enumerate", data := .fields #[.none, .bool false, .ref s.heap.objs.size, rawInt 0, .none, .none] } }) :=
  .of_wp fun prog w A R s h => by
    obtain ⟨hp, g, d, tk, os⟩ := s; obtain ⟨hl, h⟩ := h
    have hsub := sub_enumerate
    have hL : Heap.IsTuple (Shared.heap ⟨hp, g, d, tk, os⟩) l items := ⟨_, hl, rfl, n, rfl⟩
    wp_walk using wpAny_loadPart' hl
    refine wpAny_stack_any fun st => wpAny_pure ?_
    split
    · rename_i c _ _ _ _ _
      cases (c == Value.type "enumerate")
      · wp_walk using wpAny_loadPart' hl, wpAny_pyIter_tuple hL
        exact ⟨_, rfl, h⟩
      · wp_walk using wpAny_loadPart' hl, wpAny_pyIter_tuple hL
        exact ⟨_, rfl, h⟩
    · wp_walk using wpAny_loadPart' hl, wpAny_pyIter_tuple hL
      exact ⟨_, rfl, h⟩
theorem call_enumerate_tuple {prog : Program} {w : World} {A : Around} {E : Value → Shared → Prop} {s : Shared} {l : Addr} {items : Array Value} {Q : Value → Shared → Prop} (hL : s.heap.IsTuple l items)
    (h : ∀ h', IsEnum h' (s.heap.objs.size + 1) s.heap.objs.size 0 .none → h'.IsTupleIter s.heap.objs.size l 0 → h'.objs.size = s.heap.objs.size + 2 →
      (∀ b o, s.heap.get? b = some o → h'.get? b = some o) → Q (.ref (s.heap.objs.size + 1)) { s with heap := h' }) :
    wpAny (model prog w) A (call (.type "enumerate") [.ref l]) Q E s := by
  obtain ⟨⟨c, dct, dt, sl⟩, hl, hc, n, hd⟩ := hL
  replace hc : c = .type "tuple" := hc
  replace hd : dt = .seq items n := hd
  subst hc hd
  refine callType_new F.called_enumerate (by decide) (F.typeCall_enumerate_1 _) (F.newCall_enumerate_1 _) (fun obj => F.args_object_init_2 obj _) F.entry_enumerate_new
    (meets_enumerate_newT l items n dct sl) ⟨hl, ?_⟩
  have hz : (s.heap.push { cls := .type "tuple_iterator", data := .fields #[.ref l, .int 0 0] }).objs.size = s.heap.objs.size + 1 := Heap.size_push ..
  show _ ∧ _
  rw [hz]
  have he : IsEnum ((s.heap.push { cls := .type "tuple_iterator", data := .fields #[.ref l, .int 0 0] }).push
      { cls := .type "enumerate", data := .fields #[.none, .bool false, .ref s.heap.objs.size, rawInt 0, .none, .none] }) (s.heap.objs.size + 1) s.heap.objs.size 0 .none := by
    have := Heap.get?_push_size (s.heap.push { cls := .type "tuple_iterator", data := .fields #[.ref l, .int 0 0] })
      (o := { cls := .type "enumerate", data := .fields #[.none, .bool false, .ref s.heap.objs.size, rawInt 0, .none, .none] }) rfl
    rw [hz] at this; exact this
  refine ⟨⟨_, he, rfl⟩, h _ he ⟨_, Heap.get?_push_of_some _ (Heap.get?_push_size _ rfl), rfl, rfl⟩ (by rw [Heap.size_push, hz]) fun b o x => Heap.get?_push_of_some _ (Heap.get?_push_of_some _ x)⟩
open L2
def IteT (K : PySem.W.Frag) (a : Addr) : It :=
  ⟨fun i H => ∃ (xs : List V) (x : V), SqT K H a xs ∧ xs[i]? = some x, fun i H v H' => ∃ T x, v = .ref T ∧ H T = none ∧ H' = upd H T (.tup [.int (i : Nat), x]) ∧ ∀ xs, SqT K H a xs → xs[i]? = some x, fun i H => ∃ xs : List V, SqT K H a xs ∧ xs.length = i⟩
theorem turn_enumT {P : Program} {w : World} {K : PySem.W.Frag} {elts : List Expr} {kk : Nat} {tpos : Pos} (a e it : Addr) :
    Turn P w K (.Tuple elts kk tpos) (IteT K a) [e, it] e (fun i h => (∃ old, IsEnum h e it ((i : Nat) : Int) old) ∧ h.IsTupleIter it a i ∧ e ≠ it ∧ a ≠ it ∧ e ≠ a) where
  mem := by simp
  obj := fun i h st b hb => by
    obtain ⟨⟨old, he⟩, ⟨o, ho, hc, hd⟩, _⟩ := st
    have e' : b = e ∨ b = it := by simpa using hb
    rcases e' with z | z
    · rw [z]; exact ⟨_, he, fun v q => nomatch q⟩
    · rw [z]; exact ⟨o, ho, fun v q => by rw [hd] at q; cases q⟩
  keep := fun i h h' st k => let ⟨⟨old, he⟩, hi, hne⟩ := st; ⟨⟨old, k e (by simp) _ he⟩, hi.at fun o q => k it (by simp) o q, hne⟩
  item := by
    intro X hP hw hK hc i pins s σ H E I hf st hg
    subst hP hw hK
    obtain ⟨⟨old, he⟩, hit, hne, hai, hea⟩ := st
    obtain ⟨xs, x, hq, hx⟩ := hg
    obtain ⟨its, rv, p, hz⟩ := I.tuple hq
    obtain ⟨u, hu, ru⟩ := rv.get hx
    have hel : e < s.heap.objs.size := Heap.lt_size he
    have hil : it < s.heap.objs.size := by obtain ⟨_, q, _⟩ := hit; exact Heap.lt_size q
    have hin : i < its.toArray.size := by
      have := (List.getElem?_eq_some_iff.mp hu).1
      simpa using this
    have hd0 : X.A.in1.handled = none := I.ok.hd hc
    refine wpAny_pyNext_enum_itemC (Draws.tuple hd0 it a hai its.toArray) he ⟨hit, p⟩ hin hne (by simp [hne, hea]) fun y h' tk hy ho hst' hT hsz hk => ?_
    obtain rfl : y = u := by
      have : its.toArray[i]? = some y := hy
      simp at this
      rw [hu] at this
      exact (Option.some.inj this).symm
    have hit' := hst'.1
    refine ⟨_, rfl, wpAny_letOwnedTupleGo_enum (s := { s with heap := h', toks := tk + 1 }) ho fun h'' he' sb => ?_⟩
    have hT2 : h''.get? s.heap.objs.size = some { cls := .type "tuple", data := .seq #[.int i tk, y] } := (sb.2 _ (Nat.ne_of_gt hel)).trans hT
    have new : ObjOk X.prog X.w (upd H s.heap.objs.size (.tup [.int (i : Nat), x])) h'' s.heap.objs.size (.tup [.int (i : Nat), x]) :=
      ⟨by show 2 ≤ sizeLine; decide, [.int i tk, y], .cons ⟨_, rfl⟩ (.cons ru .nil), ⟨_, hT2, rfl, _, rfl⟩⟩
    have I1 : Inv X pins σ (upd H s.heap.objs.size (.tup [.int (i : Nat), x])) { s with heap := h'', toks := tk + 1 } :=
      I.turnedNew (ch := [e, it]) (fun b ob hb q => (sb.2 b (fun z => hb (by simp [z]))).trans (hk b ob (fun z => hb (by simp [z])) (fun z => hb (by simp [z])) q)) hf (Nat.le_refl _) new
    refine ⟨.ref s.heap.objs.size, _, I1, rfl, ⟨_, x, rfl, I.hok.fresh (Nat.le_refl _), rfl, fun ys hy => by rw [I.tuple_inj hy hq]; exact hx⟩, ⟨⟨y, ?_⟩, hit'.at fun o q => (sb.2 it (Ne.symm hne)).trans q, hne, hai, hea⟩, fun b hb => ?_⟩
    · have e1 : ((i + 1 : Nat) : Int) = (i : Int) + 1 := by omega
      rw [e1]; exact he'
    · have hb' : b < s.heap.objs.size := by
        have e' : b = e ∨ b = it := by simpa using hb
        rcases e' with z | z
        · rw [z]; exact hel
        · rw [z]; exact hil
      rw [upd_ne (Nat.ne_of_lt hb')]
      exact (hf b hb).1
  done := by
    intro X hP hw hK hc i pins s σ H E I hf st hg
    subst hP hw hK
    obtain ⟨⟨old, he⟩, hit, hne, hai, hea⟩ := st
    obtain ⟨xs, hq, hx⟩ := hg
    obtain ⟨its, rv, p, hz⟩ := I.tuple hq
    obtain ⟨f0, f1, f2, f3, f4, f5⟩ := hf it (by simp)
    have hl := rv.length
    have hd0 : X.A.in1.handled = none := I.ok.hd hc
    have en : its.toArray.size = i := by simp; omega
    have hst : s.heap.IsTupleIter it a its.toArray.size ∧ s.heap.IsTuple a its.toArray := ⟨by rw [en]; exact hit, p⟩
    exact wpAny_pyNext_enum_endD (Draws.tuple hd0 it a hai its.toArray) he hst fun h' eb => ⟨rfl, I.turned (t' := s.toks) (fun b o hb q => eb b o hb q) f0 f1 f3 f4 f5⟩
  self := fun A i s Q E st h => let ⟨⟨_, he⟩, _⟩ := st; wpAny_pyIter_enum he h
def iEnumT (K : PySem.W.Frag) (ta : TA) : TI := fun σ H R => ta σ H fun vs H1 => ∃ a xs, vs = [.ref a] ∧ SqT K H1 a xs ∧ R (IteT K a) H1
theorem pi_enumT {X : Cx} {e : Expr} {ta : TA} {p pos tpos : Pos} {elts : List Expr} {kk : Nat} (hg : Gl X "enumerate") (hm : X.mg "enumerate" = none) (ha : PA X [e] ta) (hs : starEach [e] X.env = [(false, eval e X.env)] := by rfl) :
    PI X (.Tuple elts kk tpos) (.Call (.Name "enumerate" p) [e] [] pos) (iEnumT X.K ta) := by
  refine ⟨fun pins s σ H R I h => ?_⟩
  refine Call_ (ld_blt I hg hm boot_enumerate (PyProof.Rows.callWith_type1 (thn (ha.run pos pins s σ H _ I h) fun us s1 ⟨vs, H1, I1, r1, q1⟩ => ?_) hs rfl))
  obtain ⟨a, xs, ex, hq, q⟩ := q1
  subst ex
  cases r1 with
  | cons r rr =>
    cases rr
    cases r
    obtain ⟨its, rv, p', hz⟩ := I1.tuple hq
    have hal : a < s1.heap.objs.size := by obtain ⟨_, q, _⟩ := p'; exact Heap.lt_size q
    refine call_enumerate_tuple p' fun h' he hit hsz hk => wpAny_pyIter_enum he ?_
    have I2 : Inv X pins σ H1 { s1 with heap := h' } := I1.kept (t' := s1.toks) hk
    refine ⟨s1.heap.objs.size + 1, [s1.heap.objs.size + 1, s1.heap.objs.size], _, _, H1, rfl, I2, turn_enumT a (s1.heap.objs.size + 1) s1.heap.objs.size, ⟨⟨.none, he⟩, hit, Nat.succ_ne_self _, Nat.ne_of_lt hal, Nat.ne_of_gt (Nat.lt_succ_of_lt hal)⟩, fun b hb => ?_, q⟩
    have e' : b = s1.heap.objs.size + 1 ∨ b = s1.heap.objs.size := by simpa using hb
    have hle : s1.heap.objs.size ≤ b := by
      rcases e' with z | z
      · rw [z]; exact Nat.le_add_right _ _
      · rw [z]; exact Nat.le_refl _
    exact I1.fpOk hle (I1.hok.fresh hle)
theorem walk_enumT {K : PySem.W.Frag} {a : Addr} {xs : List V} : Walk (IteT K a) xs.length (fun H => SqT K H a xs) (YPair (fun i => some (.int (i : Nat))) (fun i => xs[i]?)) where
  goes := fun i H hi h => ⟨xs, xs[i], h, List.getElem?_eq_getElem hi⟩
  stops := fun H h => ⟨xs, h, rfl⟩
  yields := fun i H x H' hi h y => by
    obtain ⟨T, z, e1, e2, e3, e4⟩ := y
    exact ⟨T, _, z, e1, e2, e3, rfl, e4 xs h⟩
end EnT

set_option Elab.async false
set_option linter.all false
set_option maxRecDepth 100000
set_option maxHeartbeats 4000000
/-! ### rows: lists (true) and tuples (false) in one -/
namespace My
open PySem PySem.Spec PyProof.Rows L2
def SqB (b : Bool) (K : PySem.W.Frag) (H : Hp) (a : Addr) (xs : List V) : Prop := if b = true then SqL K H a xs else SqT K H a xs
def ItB (b : Bool) (K : PySem.W.Frag) (a : Addr) : It := if b = true then Itl K a else Itt K a
def IteB (b : Bool) (K : PySem.W.Frag) (a : Addr) : It := if b = true then Ite K a else EnT.IteT K a
section
variable {b : Bool} {K : PySem.W.Frag} {H H' : Hp} {a : Addr} {xs : List V}
theorem SqB.or (h : SqB b K H a xs) : SqL K H a xs ∨ SqT K H a xs := by
  cases b
  · exact .inr h
  · exact .inl h
theorem Same.sqt (e : Same H H') (h : SqT K H a xs) : SqT K H' a xs := by
  rcases h with (h | ⟨o, h⟩) | h
  · exact .inl (.inl (e _ _ h))
  · exact .inl (.inr ⟨o, e _ _ h⟩)
  · exact .inr h
theorem Same.sqb (e : Same H H') (h : SqB b K H a xs) : SqB b K H' a xs := by
  cases b
  · exact Same.sqt e h
  · exact e.seq h
theorem SqB.lst (h : H a = some (.lst xs)) : SqB true K H a xs := .inl (.inl h)
theorem SqB.tup (h : H a = some (.tup xs)) : SqB false K H a xs := .inl (.inl h)
theorem SqB.ty (h : SqB b K H a xs) : TyX K H (.ref a) (.type (if b = true then "list" else "tuple")) := by
  cases b
  · rcases h with (h | ⟨o, h⟩) | ⟨o, its, n, hk, hc, _⟩
    · exact .base (.tup h)
    · exact .fTuple h
    · exact .kTuple hk hc
  · rcases h with (h | ⟨o, h⟩) | ⟨o, its, n, hk, hc, _⟩
    · exact .base (.lst h)
    · exact .base (.frz h)
    · exact .kList hk hc
theorem walk_seq : Walk (ItB b K a) xs.length (fun H => SqB b K H a xs) (YAt xs) := by
  cases b
  · exact walk_tup
  · exact walk_list
theorem walk_enumS : Walk (IteB b K a) xs.length (fun H => SqB b K H a xs) (YPair (fun i => some (.int (i : Nat))) (fun i => xs[i]?)) := by
  cases b
  · exact EnT.walk_enumT
  · exact walk_enum
end
section
variable {X : Cx} {tg : Expr}
def iSeq (K : PySem.W.Frag) (tl : TE) : TI := fun σ H R => tl σ H fun x H1 => ∃ a xs b, x = .ref a ∧ SqB b K H1 a xs ∧ R (ItB b K a) H1
theorem pi_seq {l : Expr} {tl : TE} (hl : PE X l tl) : PI X tg l (iSeq X.K tl) := by
  refine ⟨fun pins s σ H R I h => ?_⟩
  refine thn (hl.run pins s σ H _ I h) fun v s1 ⟨x, H1, I1, r1, q1⟩ => ?_
  obtain ⟨a, xs, b, e, hq, q⟩ := q1
  subst e
  cases r1
  cases b
  · obtain ⟨its, rv, p, hz⟩ := I1.tuple hq
    refine wpAny_pyIter_tuple (show s1.heap.IsTuple a its.toArray from p) ?_
    refine ⟨s1.heap.objs.size, [s1.heap.objs.size], _, _, H1, rfl, I1.kept (t' := s1.toks) fun b o e => Heap.get?_push_of_some _ e, turn_tuple a _, ⟨_, Heap.get?_push_size _ rfl, rfl, rfl⟩, fun b hb => ?_, q⟩
    have e : b = s1.heap.objs.size := by simpa using hb
    subst e
    exact I1.fpOk (Nat.le_refl _) (I1.hok.fresh (Nat.le_refl _))
  · obtain ⟨its, rv, p, hz⟩ := I1.list hq
    refine wpAny_pyIter_list p.isList ?_
    refine ⟨s1.heap.objs.size, [s1.heap.objs.size], _, _, H1, rfl, I1.kept (t' := s1.toks) fun b o e => Heap.get?_push_of_some _ e, turn_list a _, ⟨_, Heap.get?_push_size _ rfl, rfl, rfl⟩, fun b hb => ?_, q⟩
    have e : b = s1.heap.objs.size := by simpa using hb
    subst e
    exact I1.fpOk (Nat.le_refl _) (I1.hok.fresh (Nat.le_refl _))
def iEnumS (K : PySem.W.Frag) (ta : TA) : TI := fun σ H R => ta σ H fun vs H1 => ∃ a xs b, vs = [.ref a] ∧ SqB b K H1 a xs ∧ R (IteB b K a) H1
theorem pi_enumS {e : Expr} {ta : TA} {p pos tpos : Pos} {elts : List Expr} {kk : Nat} (hg : Gl X "enumerate") (hm : X.mg "enumerate" = none) (ha : PA X [e] ta) (hs : starEach [e] X.env = [(false, eval e X.env)] := by rfl) :
    PI X (.Tuple elts kk tpos) (.Call (.Name "enumerate" p) [e] [] pos) (iEnumS X.K ta) := by
  refine ⟨fun pins s σ H R I h => ?_⟩
  refine Call_ (ld_blt I hg hm boot_enumerate (PyProof.Rows.callWith_type1 (thn (ha.run pos pins s σ H _ I h) fun us s1 ⟨vs, H1, I1, r1, q1⟩ => ?_) hs rfl))
  obtain ⟨a, xs, b, ex, hq, q⟩ := q1
  subst ex
  cases r1 with
  | cons r rr =>
    cases rr
    cases r
    cases b
    · obtain ⟨its, rv, p', hz⟩ := I1.tuple hq
      have hal : a < s1.heap.objs.size := by obtain ⟨_, q, _⟩ := p'; exact Heap.lt_size q
      refine EnT.call_enumerate_tuple p' fun h' he hit hsz hk => wpAny_pyIter_enum he ?_
      have I2 : Inv X pins σ H1 { s1 with heap := h' } := I1.kept (t' := s1.toks) hk
      refine ⟨s1.heap.objs.size + 1, [s1.heap.objs.size + 1, s1.heap.objs.size], _, _, H1, rfl, I2, EnT.turn_enumT a (s1.heap.objs.size + 1) s1.heap.objs.size, ⟨⟨.none, he⟩, hit, Nat.succ_ne_self _, Nat.ne_of_lt hal, Nat.ne_of_gt (Nat.lt_succ_of_lt hal)⟩, fun b hb => ?_, q⟩
      have e' : b = s1.heap.objs.size + 1 ∨ b = s1.heap.objs.size := by simpa using hb
      have hle : s1.heap.objs.size ≤ b := by
        rcases e' with z | z
        · rw [z]; exact Nat.le_add_right _ _
        · rw [z]; exact Nat.le_refl _
      exact I1.fpOk hle (I1.hok.fresh hle)
    · obtain ⟨its, rv, p', hz⟩ := I1.list hq
      refine call_enumerate_list p'.isList fun h' he hit hsz hk => wpAny_pyIter_enum he ?_
      have I2 : Inv X pins σ H1 { s1 with heap := h' } := I1.kept (t' := s1.toks) hk
      refine ⟨s1.heap.objs.size + 1, [s1.heap.objs.size + 1, s1.heap.objs.size], _, _, H1, rfl, I2, turn_enum a (s1.heap.objs.size + 1) s1.heap.objs.size, ⟨⟨.none, he⟩, hit, Nat.succ_ne_self _⟩, fun b hb => ?_, q⟩
      have e' : b = s1.heap.objs.size + 1 ∨ b = s1.heap.objs.size := by simpa using hb
      have hle : s1.heap.objs.size ≤ b := by
        rcases e' with z | z
        · rw [z]; exact Nat.le_add_right _ _
        · rw [z]; exact Nat.le_refl _
      exact I1.fpOk hle (I1.hok.fresh hle)
/-- xs[i] of a list or a tuple -/
def rIxB (K : PySem.W.Frag) : R2 := fun x y H Q => ∃ p xs i v b, x = .ref p ∧ y = .int i ∧ SqB b K H p xs ∧ atI xs i = some v ∧ Q v H
theorem ix_rowB : IxR X (rIxB X.K) := by
  intro value slice pins s σ H x y v u Q I rx ry h hs
  obtain ⟨p, xs, i, z, b, rfl, rfl, hq, ha, q⟩ := h
  refine ix_seq value slice pins s σ H _ _ v u Q I rx ry ?_ hs
  cases b
  · exact .inr (.inl ⟨p, xs, i, z, rfl, rfl, hq, ha, q⟩)
  · exact .inl ⟨p, xs, i, z, rfl, rfl, hq, ha, q⟩
end
end My

set_option Elab.async false
set_option linter.all false
set_option maxRecDepth 100000
set_option maxHeartbeats 4000000
namespace My
open PySem PySem.Spec PyProof.Rows L2
section
variable {X : Cx}
/-- xs[i] of a list, by the item's own rule (for xs[i] op= e) -/
def rGetL (K : PySem.W.Frag) : V → V → Hp → VK → Prop := fun x y H Q => ∃ p xs v, ∃ j : Nat, x = .ref p ∧ y = .int (j : Int) ∧ SqL K H p xs ∧ xs[j]? = some v ∧ Q v H
theorem get_list : PGet X (rGetL X.K) := by
  intro pins s σ H x y v u Q I rx ry h
  obtain ⟨p, xs, z, j, rfl, rfl, hq, he, q⟩ := h
  cases rx
  obtain ⟨t, rfl⟩ := ry
  obtain ⟨its, r, pl, hz⟩ := I.list hq
  obtain ⟨w, ew, rw'⟩ := r.get he
  have hl := r.length
  have hn := line63
  have hj : j < xs.length := (List.getElem?_eq_some_iff.mp he).1
  exact wpAny_getItem_list pl.isList (by omega) (by omega) (by simpa using ew) ⟨z, H, I, rw', q⟩
end
end My

set_option Elab.async false
set_option linter.all false
set_option maxRecDepth 100000
set_option maxHeartbeats 4000000
/-! ### polynomials over the field -/
namespace My
theorem span_eq' {b : Nat} (hb : Wd b) : span b = turn b + 1 := by rcases hb with rfl | rfl <;> rfl
theorem turn_pos {b : Nat} (hb : Wd b) : 0 < turn b := by rcases hb with rfl | rfl <;> decide
/-- the quotient: the word whose product with y is x -/
def quo (b x y : Nat) : Nat := mul b x (pw b (lg b y * (turn b - 1)))
theorem quo_mul {b x y : Nat} (hb : Wd b) (hx : x < span b) (hy : y < span b) (h1 : y ≠ 0) : quo b (mul b x y) y = x := by
  unfold quo
  by_cases h0 : x = 0
  · subst h0
    have e : mul b 0 y = 0 := zero_mulF hb _ _
    rw [e]
    exact zero_mulF hb _ _
  · have ex := pw_lg hb hx h0
    have ey := pw_lg hb hy h1
    have e : mul b x y = pw b (lg b x + lg b y) := by rw [← pw_mul hb, ex, ey]
    rw [e, pw_mul hb]
    have h := pw_add_mul hb (lg b x) (lg b y)
    have e2 : lg b x + lg b y + lg b y * (turn b - 1) = lg b x + lg b y * turn b := by
      have ht := turn_pos hb
      have : lg b y * turn b = lg b y * (turn b - 1) + lg b y := by
        rw [← Nat.mul_succ]
        rw [show (turn b - 1).succ = turn b by omega]
      omega
    rw [e2, h, ex]
theorem mul_quo {b x y : Nat} (hb : Wd b) (hx : x < span b) (hy : y < span b) (h1 : y ≠ 0) : mul b (quo b x y) y = x := by
  unfold quo
  by_cases h0 : x = 0
  · subst h0
    have e : mul b 0 (pw b (lg b y * (turn b - 1))) = 0 := zero_mulF hb _ _
    rw [e]
    exact zero_mulF hb _ _
  · have ex := pw_lg hb hx h0
    have ey := pw_lg hb hy h1
    have e : mul b x (pw b (lg b y * (turn b - 1))) = pw b (lg b x + lg b y * (turn b - 1)) := by rw [← pw_mul hb, ex]
    have e3 : mul b (pw b (lg b x + lg b y * (turn b - 1))) y = pw b (lg b x + lg b y * (turn b - 1) + lg b y) := by
      rw [← pw_mul hb _ (lg b x + lg b y * (turn b - 1)), ey]
    rw [e, e3]
    have h := pw_add_mul hb (lg b x) (lg b y)
    have e2 : lg b x + lg b y * (turn b - 1) + lg b y = lg b x + lg b y * turn b := by
      have ht := turn_pos hb
      have : lg b y * turn b = lg b y * (turn b - 1) + lg b y := by
        rw [← Nat.mul_succ]
        rw [show (turn b - 1).succ = turn b by omega]
      omega
    rw [e2, h, ex]
theorem mul_zero {b x : Nat} : mul b x 0 = 0 := mulF_zero 0 _ _
theorem zero_mul {b y : Nat} (hb : Wd b) : mul b 0 y = 0 := zero_mulF hb _ _
theorem span_pos {b : Nat} (hb : Wd b) : 1 < span b := by rcases hb with rfl | rfl <;> decide
theorem mul_one {b x : Nat} (hb : Wd b) (hx : x < span b) : mul b x 1 = x := by
  rw [mul_comm hb hx (span_pos hb)]
  exact one_mul hb hx
theorem mul_xor_l {b x z y : Nat} (hb : Wd b) (hx : x < span b) (hz : z < span b) : mul b (x ^^^ z) y = mul b x y ^^^ mul b z y := mulF_lin hb _ _ _ _ hx hz
theorem mul_xor_r {b x z y : Nat} (hb : Wd b) (hx : x < span b) (hz : z < span b) (hy : y < span b) : mul b y (x ^^^ z) = mul b y x ^^^ mul b y z := by
  rw [mul_comm hb hy (xor_lt hb hx hz), mul_xor_l hb hx hz, mul_comm hb hx hy, mul_comm hb hz hy]
theorem mul_assoc {b x y z : Nat} (hb : Wd b) (hx : x < span b) (hy : y < span b) (hz : z < span b) : mul b (mul b x y) z = mul b x (mul b y z) := by
  by_cases h1 : x = 0
  · subst h1
    rw [zero_mul hb, zero_mul hb, zero_mul hb]
  · by_cases h2 : y = 0
    · subst h2
      rw [mul_zero, zero_mul hb, mul_zero]
    · by_cases h3 : z = 0
      · subst h3
        rw [mul_zero, mul_zero, mul_zero]
      · rw [← pw_lg hb hx h1, ← pw_lg hb hy h2, ← pw_lg hb hz h3, pw_mul hb, pw_mul hb, pw_mul hb, pw_mul hb, Nat.add_assoc]
/-- a row of words of so many bits -/
def Ws (b : Nat) (ws : List Nat) : Prop := ∀ w ∈ ws, w < span b
def evF (b t : Nat) (acc : Nat) (ws : List Nat) : Nat := ws.foldl (fun acc w => mul b acc t ^^^ w) acc
def evl (b t : Nat) (ws : List Nat) : Nat := evF b t 0 ws
def powT (b t : Nat) : Nat → Nat
  | 0 => 1
  | n + 1 => mul b (powT b t n) t
theorem powT_lt {b t : Nat} (hb : Wd b) : ∀ n, powT b t n < span b
  | 0 => span_pos hb
  | n + 1 => mul_lt hb (powT_lt hb n)
theorem evF_lt {b t : Nat} (hb : Wd b) : ∀ (ws : List Nat) (acc : Nat), acc < span b → Ws b ws → evF b t acc ws < span b
  | [], _, h, _ => h
  | w :: r, acc, h, hw => evF_lt hb r _ (xor_lt hb (mul_lt hb h) (hw w (List.mem_cons_self ..))) fun x hx => hw x (List.mem_cons_of_mem _ hx)
theorem evl_lt {b t : Nat} {ws : List Nat} (hb : Wd b) (h : Ws b ws) : evl b t ws < span b := evF_lt hb ws 0 (by have := span_pos hb; omega) h
theorem evF_xor {b t : Nat} (hb : Wd b) (ht : t < span b) : ∀ (ws : List Nat) (acc : Nat), acc < span b → Ws b ws → evF b t acc ws = mul b acc (powT b t ws.length) ^^^ evl b t ws
  | [], acc, h, _ => by
    show acc = mul b acc 1 ^^^ 0
    rw [mul_one hb h, Nat.xor_zero]
  | w :: r, acc, h, hw => by
    have hr : Ws b r := fun x hx => hw x (List.mem_cons_of_mem _ hx)
    have hw0 := hw w (List.mem_cons_self ..)
    have hz : (0 : Nat) < span b := by have := span_pos hb; omega
    show evF b t (mul b acc t ^^^ w) r = mul b acc (mul b (powT b t r.length) t) ^^^ evF b t (mul b 0 t ^^^ w) r
    rw [evF_xor hb ht r _ (xor_lt hb (mul_lt hb h) hw0) hr, evF_xor hb ht r _ (xor_lt hb (mul_lt hb hz) hw0) hr, zero_mul hb, Nat.zero_xor, mul_xor_l hb (mul_lt hb h) hw0,
      mul_assoc hb h ht (powT_lt hb _), mul_comm hb ht (powT_lt hb _), Nat.xor_assoc]
theorem evl_cons {b t w : Nat} {r : List Nat} (hb : Wd b) (ht : t < span b) (hw : w < span b) (hr : Ws b r) : evl b t (w :: r) = mul b w (powT b t r.length) ^^^ evl b t r := by
  show evF b t (mul b 0 t ^^^ w) r = _
  rw [zero_mul hb, Nat.zero_xor]
  exact evF_xor hb ht r w hw hr
theorem evl_snoc {b t w : Nat} {r : List Nat} : evl b t (r ++ [w]) = mul b (evl b t r) t ^^^ w := by
  show (r ++ [w]).foldl _ 0 = _
  rw [List.foldl_append]
  rfl
theorem evl_zeros {b t : Nat} (hb : Wd b) : ∀ n, evl b t (List.replicate n 0) = 0
  | 0 => rfl
  | n + 1 => by
    rw [List.replicate_succ', evl_snoc, evl_zeros hb n, zero_mul hb]
    rfl
theorem evl_pad {b t : Nat} (hb : Wd b) (n : Nat) (ws : List Nat) : evl b t (List.replicate n 0 ++ ws) = evl b t ws := by
  show (List.replicate n 0 ++ ws).foldl _ 0 = _
  rw [List.foldl_append]
  have h := evl_zeros (t := t) hb n
  unfold evl evF at h
  rw [h]
  rfl
/-- sums, word by word, by the places below n -/
def xsum (n : Nat) (f : Nat → Nat) : Nat := (List.range n).foldl (fun acc i => acc ^^^ f i) 0
theorem xsum_succ (n : Nat) (f : Nat → Nat) : xsum (n + 1) f = xsum n f ^^^ f n := by
  unfold xsum
  rw [List.range_succ, List.foldl_append]
  rfl
theorem xsum_congr {n : Nat} {f g : Nat → Nat} (h : ∀ i, i < n → f i = g i) : xsum n f = xsum n g := by
  induction n with
  | zero => rfl
  | succ n ih => rw [xsum_succ, xsum_succ, ih fun i hi => h i (by omega), h n (by omega)]
theorem xsum_lt {b n : Nat} {f : Nat → Nat} (hb : Wd b) (h : ∀ i, i < n → f i < span b) : xsum n f < span b := by
  induction n with
  | zero => have := span_pos hb; show 0 < span b; omega
  | succ n ih =>
    rw [xsum_succ]
    exact xor_lt hb (ih fun i hi => h i (by omega)) (h n (by omega))
/-- the i-th word times the (k - i)-th word of the other -/
def term (b : Nat) (f g : Nat → Nat) (k i : Nat) : Nat := if i ≤ k then mul b (f i) (g (k - i)) else 0
def gd (ws : List Nat) (i : Nat) : Nat := ws.getD i 0
theorem gd_lt {b : Nat} {ws : List Nat} (hb : Wd b) (h : Ws b ws) (i : Nat) : gd ws i < span b := by
  unfold gd
  by_cases hi : i < ws.length
  · rw [List.getD_eq_getElem?_getD, List.getElem?_eq_getElem hi]
    exact h _ (List.getElem_mem hi)
  · rw [List.getD_eq_getElem?_getD, List.getElem?_eq_none (by omega)]
    have := span_pos hb
    show 0 < span b
    omega
theorem gd_out {ws : List Nat} {i : Nat} (h : ws.length ≤ i) : gd ws i = 0 := by
  unfold gd
  rw [List.getD_eq_getElem?_getD, List.getElem?_eq_none h]
  rfl
theorem gd_in {ws : List Nat} {i : Nat} (h : i < ws.length) : ws[i]? = some (gd ws i) := by
  unfold gd
  rw [List.getD_eq_getElem?_getD, List.getElem?_eq_getElem h]
  rfl
theorem gd_list (ws : List Nat) : (List.range ws.length).map (gd ws) = ws := by
  refine List.ext_getElem? fun i => ?_
  by_cases h : i < ws.length
  · rw [gd_in h]
    simp [h]
  · rw [List.getElem?_eq_none (by simp; omega), List.getElem?_eq_none (by omega)]
def cf (b : Nat) (xs ys : List Nat) (k : Nat) : Nat := xsum xs.length (term b (gd xs) (gd ys) k)
/-- the product -/
def conv (b : Nat) (xs ys : List Nat) : List Nat := if xs = [] ∨ ys = [] then [] else (List.range (xs.length + ys.length - 1)).map (cf b xs ys)
theorem term_lt {b : Nat} {f g : Nat → Nat} {k i : Nat} (hb : Wd b) (h : f i < span b) : term b f g k i < span b := by
  unfold term
  split
  · exact mul_lt hb h
  · have := span_pos hb; omega
theorem cf_lt {b k : Nat} {xs ys : List Nat} (hb : Wd b) (hx : Ws b xs) : cf b xs ys k < span b := xsum_lt hb fun i _ => term_lt hb (gd_lt hb hx i)
theorem conv_ws {b : Nat} {xs ys : List Nat} (hb : Wd b) (hx : Ws b xs) : Ws b (conv b xs ys) := by
  intro w hw
  unfold conv at hw
  split at hw
  · cases hw
  · obtain ⟨k, _, rfl⟩ := List.mem_map.mp hw
    exact cf_lt hb hx
/-- sums of two rows of one length -/
def zx (xs ys : List Nat) : List Nat := (List.range xs.length).map fun k => gd xs k ^^^ gd ys k
theorem evl_fn {b t : Nat} (hb : Wd b) (ht : t < span b) (f g : Nat → Nat) (hf : ∀ i, f i < span b) (hg : ∀ i, g i < span b) : ∀ n, evl b t ((List.range n).map fun k => f k ^^^ g k) = evl b t ((List.range n).map f) ^^^ evl b t ((List.range n).map g)
  | 0 => by
    show (0 : Nat) = 0 ^^^ 0
    rfl
  | n + 1 => by
    have w1 : Ws b ((List.range n).map f) := fun w hw => by obtain ⟨k, _, rfl⟩ := List.mem_map.mp hw; exact hf k
    have w2 : Ws b ((List.range n).map g) := fun w hw => by obtain ⟨k, _, rfl⟩ := List.mem_map.mp hw; exact hg k
    rw [List.range_succ, List.map_append, List.map_append, List.map_append]
    show evl b t (_ ++ [f n ^^^ g n]) = evl b t (_ ++ [_]) ^^^ evl b t (_ ++ [_])
    rw [evl_snoc, evl_snoc, evl_snoc, evl_fn hb ht f g hf hg n, mul_xor_l hb (evl_lt hb w1) (evl_lt hb w2)]
    generalize mul b (evl b t (List.map f (List.range n))) t = u
    generalize mul b (evl b t (List.map g (List.range n))) t = v
    generalize f n = c
    generalize g n = d
    ac_rfl
theorem evl_scale {b t x : Nat} (hb : Wd b) (ht : t < span b) (hx : x < span b) (g : Nat → Nat) (hg : ∀ i, g i < span b) : ∀ n, evl b t ((List.range n).map fun k => mul b x (g k)) = mul b x (evl b t ((List.range n).map g))
  | 0 => mul_zero.symm
  | n + 1 => by
    have w2 : Ws b ((List.range n).map g) := fun w hw => by obtain ⟨k, _, rfl⟩ := List.mem_map.mp hw; exact hg k
    rw [List.range_succ, List.map_append, List.map_append]
    show evl b t (_ ++ [_]) = mul b x (evl b t (_ ++ [_]))
    rw [evl_snoc, evl_snoc, evl_scale hb ht hx g hg n, mul_xor_r hb (mul_lt hb (evl_lt hb w2)) (hg n) hx, mul_assoc hb hx (evl_lt hb w2) ht]
/-- the value of a product -/
theorem evl_sum {b t : Nat} (hb : Wd b) (ht : t < span b) (f g : Nat → Nat) (hf : ∀ i, f i < span b) (hg : ∀ i, g i < span b) (m : Nat) (hm : 0 < m) (hout : ∀ i, m ≤ i → g i = 0) :
    ∀ n, evl b t ((List.range (n + m - 1)).map fun k => xsum n (term b f g k)) = mul b (evl b t ((List.range n).map f)) (evl b t ((List.range m).map g))
  | 0 => by
    show evl b t ((List.range (0 + m - 1)).map fun k => 0) = mul b 0 _
    rw [zero_mul hb]
    have e : (List.range (0 + m - 1)).map (fun _ => 0) = List.replicate (0 + m - 1) 0 := by
      rw [List.map_const', List.length_range]
    rw [e, evl_zeros hb]
  | n + 1 => by
    have ih := evl_sum hb ht f g hf hg m hm hout n
    have w1 : Ws b ((List.range n).map f) := fun w hw => by obtain ⟨k, _, rfl⟩ := List.mem_map.mp hw; exact hf k
    have w2 : Ws b ((List.range m).map g) := fun w hw => by obtain ⟨k, _, rfl⟩ := List.mem_map.mp hw; exact hg k
    have e1 : (List.range (n + 1 + m - 1)).map (fun k => xsum (n + 1) (term b f g k)) = (List.range (n + 1 + m - 1)).map fun k => xsum n (term b f g k) ^^^ term b f g k n := by
      refine List.map_congr_left fun k _ => xsum_succ _ _
    have t1 : ∀ k, xsum n (term b f g k) < span b := fun k => xsum_lt hb fun i _ => term_lt hb (hf i)
    rw [e1, evl_fn hb ht _ _ t1 (fun k => term_lt hb (hf n))]
    have e2 : evl b t ((List.range (n + 1 + m - 1)).map fun k => xsum n (term b f g k)) = mul b (mul b (evl b t ((List.range n).map f)) (evl b t ((List.range m).map g))) t := by
      rw [show n + 1 + m - 1 = (n + m - 1) + 1 by omega, List.range_succ, List.map_append]
      show evl b t (_ ++ [_]) = _
      rw [evl_snoc, ih]
      show _ ^^^ xsum n (term b f g (n + m - 1)) = _
      have z : xsum n (term b f g (n + m - 1)) = 0 := by
        have : xsum n (term b f g (n + m - 1)) = xsum n fun _ => 0 := by
          refine xsum_congr fun i hi => ?_
          unfold term
          rw [if_pos (by omega), hout _ (by omega), mul_zero]
        rw [this]
        clear this ih e1 w1 t1
        induction n with
        | zero => rfl
        | succ n ih => rw [xsum_succ, ih]; rfl
      rw [z, Nat.xor_zero]
    have e3 : evl b t ((List.range (n + 1 + m - 1)).map fun k => term b f g k n) = mul b (f n) (evl b t ((List.range m).map g)) := by
      rw [show n + 1 + m - 1 = n + m by omega, List.range_add, List.map_append]
      have z : (List.range n).map (fun k => term b f g k n) = List.replicate n 0 := by
        refine List.ext_getElem? fun i => ?_
        by_cases h : i < n
        · simp [h, term]
          omega
        · rw [List.getElem?_eq_none (by simp; omega), List.getElem?_eq_none (by simp; omega)]
      rw [z, evl_pad hb, List.map_map]
      have z2 : (List.range m).map ((fun k => term b f g k n) ∘ (n + ·)) = (List.range m).map fun k => mul b (f n) (g k) := by
        refine List.map_congr_left fun k _ => ?_
        show term b f g (n + k) n = _
        unfold term
        rw [if_pos (by omega), show n + k - n = k by omega]
      rw [z2, evl_scale hb ht (hf n) g hg]
    rw [e2, e3, List.range_succ, List.map_append]
    show _ = mul b (evl b t (_ ++ [f n])) _
    rw [evl_snoc, mul_xor_l hb (mul_lt hb (evl_lt hb w1)) (hf n)]
    congr 1
    rw [mul_assoc hb (evl_lt hb w1) (evl_lt hb w2) ht, mul_comm hb (evl_lt hb w2) ht, ← mul_assoc hb (evl_lt hb w1) ht (evl_lt hb w2)]
theorem evl_conv {b t : Nat} {xs ys : List Nat} (hb : Wd b) (ht : t < span b) (hx : Ws b xs) (hy : Ws b ys) (h0 : xs ≠ []) (h1 : ys ≠ []) : evl b t (conv b xs ys) = mul b (evl b t xs) (evl b t ys) := by
  have hl : 0 < ys.length := by cases ys with | nil => exact absurd rfl h1 | cons _ _ => simp
  unfold conv
  rw [if_neg (by simp [h0, h1])]
  have h := evl_sum hb ht (gd xs) (gd ys) (gd_lt hb hx) (gd_lt hb hy) ys.length hl (fun i hi => gd_out hi) xs.length
  rw [gd_list, gd_list] at h
  exact h
/-! ### the quotient and the remainder -/
def divStep (b : Nat) (c : Nat → Nat) (m : Nat) (r : Nat → Nat) (s : Nat) : Nat → Nat := fun k => if k = s then quo b (r s) (c 0) else if s < k ∧ k < s + m then r k ^^^ mul b (quo b (r s) (c 0)) (c (k - s)) else r k
def dvN (b : Nat) (c : Nat → Nat) (m : Nat) (w : Nat → Nat) : Nat → Nat → Nat
  | 0 => w
  | s + 1 => divStep b c m (dvN b c m w s) s
theorem quo_lt' {b x y : Nat} (hb : Wd b) (hx : x < span b) : quo b x y < span b := mul_lt hb hx
theorem dvN_lt {b : Nat} {c w : Nat → Nat} {m : Nat} (hb : Wd b) (hw : ∀ k, w k < span b) : ∀ s k, dvN b c m w s k < span b
  | 0, k => hw k
  | s + 1, k => by
    show divStep b c m (dvN b c m w s) s k < span b
    unfold divStep
    have h := dvN_lt (c := c) (m := m) hb hw s
    split
    · exact quo_lt' hb (h s)
    · split
      · exact xor_lt hb (h k) (mul_lt hb (quo_lt' hb (h s)))
      · exact h k
theorem dvN_keep {b : Nat} {c w : Nat → Nat} {m : Nat} {i : Nat} : ∀ s j, i < s → dvN b c m w (s + j) i = dvN b c m w s i
  | s, 0, _ => rfl
  | s, j + 1, h => by
    show divStep b c m (dvN b c m w (s + j)) (s + j) i = _
    unfold divStep
    rw [if_neg (by omega), if_neg (by omega)]
    exact dvN_keep s j h
theorem div_spec {b : Nat} {c w : Nat → Nat} {m : Nat} (hb : Wd b) (hw : ∀ k, w k < span b) (hc : ∀ k, c k < span b) (h0 : c 0 ≠ 0) (hout : ∀ k, m ≤ k → c k = 0) :
    ∀ s k, w k = xsum s (term b (dvN b c m w s) c k) ^^^ (if k < s then 0 else dvN b c m w s k)
  | 0, k => by
    show w k = 0 ^^^ w k
    rw [Nat.zero_xor]
  | s + 1, k => by
    have ih := div_spec hb hw hc h0 hout s k
    have e1 : xsum s (term b (dvN b c m w (s + 1)) c k) = xsum s (term b (dvN b c m w s) c k) := by
      refine xsum_congr fun i hi => ?_
      unfold term
      rw [dvN_keep s 1 hi]
    rw [xsum_succ, e1]
    have hr := dvN_lt (c := c) (m := m) hb hw s
    have eq : dvN b c m w (s + 1) s = quo b (dvN b c m w s s) (c 0) := by
      show divStep b c m (dvN b c m w s) s s = _
      unfold divStep
      rw [if_pos rfl]
    by_cases h1 : k < s
    · rw [if_pos h1, Nat.xor_zero] at ih
      rw [if_pos (by omega), Nat.xor_zero, ← ih]
      unfold term
      rw [if_neg (by omega), Nat.xor_zero]
    · rw [if_neg h1] at ih
      by_cases h2 : k = s
      · subst h2
        rw [if_pos (by omega), Nat.xor_zero, ih]
        unfold term
        rw [if_pos (Nat.le_refl _), eq, Nat.sub_self, mul_quo hb (hr _) (hc 0) h0]
      · rw [if_neg (by omega), ih]
        have et : term b (dvN b c m w (s + 1)) c k s = mul b (quo b (dvN b c m w s s) (c 0)) (c (k - s)) := by
          unfold term
          rw [if_pos (by omega), eq]
        have ed : dvN b c m w (s + 1) k = dvN b c m w s k ^^^ mul b (quo b (dvN b c m w s s) (c 0)) (c (k - s)) := by
          show divStep b c m (dvN b c m w s) s k = _
          unfold divStep
          rw [if_neg h2]
          by_cases h3 : k < s + m
          · rw [if_pos ⟨by omega, h3⟩]
          · rw [if_neg (by omega), hout (k - s) (by omega), mul_zero, Nat.xor_zero]
        rw [et, ed]
        generalize xsum s (term b (dvN b c m w s) c k) = u
        generalize dvN b c m w s k = v
        generalize mul b (quo b (dvN b c m w s s) (c 0)) (c (k - s)) = z
        rw [Nat.xor_assoc, ← Nat.xor_assoc z v z, Nat.xor_comm z v, Nat.xor_assoc v z z, Nat.xor_self, Nat.xor_zero]
/-- quotient and remainder, as lists -/
def steps (ws os : List Nat) : Nat := ws.length + 1 - os.length
def quoL (b : Nat) (ws os : List Nat) : List Nat := (List.range (steps ws os)).map (dvN b (gd os) os.length (gd ws) (steps ws os))
def remL (b : Nat) (ws os : List Nat) : List Nat := (List.range (ws.length - steps ws os)).map fun j => dvN b (gd os) os.length (gd ws) (steps ws os) (steps ws os + j)
/-- what lies behind the law's sum: other * quotient and the remainder, padded -/
def pad (n : Nat) (ws : List Nat) : List Nat := List.replicate n 0 ++ ws
theorem gd_pad {n k : Nat} {ws : List Nat} : gd (pad n ws) k = if k < n then 0 else gd ws (k - n) := by
  unfold gd pad
  rw [List.getD_eq_getElem?_getD, List.getD_eq_getElem?_getD, List.getElem?_append]
  by_cases h : k < n
  · simp [h]
  · simp [h]
theorem gd_map {n k : Nat} {f : Nat → Nat} : gd ((List.range n).map f) k = if k < n then f k else 0 := by
  unfold gd
  rw [List.getD_eq_getElem?_getD]
  by_cases h : k < n
  · simp [h]
  · simp [h]
theorem div_lists {b : Nat} {ws os : List Nat} (hb : Wd b) (hw : Ws b ws) (ho : Ws b os) (h0 : gd os 0 ≠ 0) (hl : os.length ≤ ws.length) (hp : 0 < os.length) :
    (List.range ws.length).map (fun k => gd (conv b (quoL b ws os) os) k ^^^ gd (pad (steps ws os) (remL b ws os)) k) = ws := by
  have hs : 0 < steps ws os := by unfold steps; omega
  have hs2 : steps ws os + os.length - 1 = ws.length := by unfold steps; omega
  have hq : quoL b ws os ≠ [] := by
    intro z
    have := congrArg List.length z
    unfold quoL at this
    simp at this
    omega
  have hon : os ≠ [] := by intro z; rw [z] at hp; simp at hp
  have hql : (quoL b ws os).length = steps ws os := by unfold quoL; simp
  refine Eq.trans (List.map_congr_left fun k hk => ?_) (gd_list ws)
  have hk' : k < ws.length := List.mem_range.mp hk
  have spec := div_spec (c := gd os) (w := gd ws) (m := os.length) hb (gd_lt hb hw) (gd_lt hb ho) h0 (fun i hi => gd_out hi) (steps ws os) k
  refine Eq.trans ?_ spec.symm
  have e1 : gd (conv b (quoL b ws os) os) k = xsum (steps ws os) (term b (dvN b (gd os) os.length (gd ws) (steps ws os)) (gd os) k) := by
    unfold conv
    rw [if_neg (by simp [hq, hon]), gd_map, hql, if_pos (by omega)]
    unfold cf
    rw [hql]
    refine xsum_congr fun i hi => ?_
    unfold term
    have : gd (quoL b ws os) i = dvN b (gd os) os.length (gd ws) (steps ws os) i := by
      unfold quoL
      rw [gd_map, if_pos hi]
    rw [this]
  have e2 : gd (pad (steps ws os) (remL b ws os)) k = if k < steps ws os then 0 else dvN b (gd os) os.length (gd ws) (steps ws os) k := by
    rw [gd_pad]
    by_cases h : k < steps ws os
    · rw [if_pos h, if_pos h]
    · rw [if_neg h, if_neg h]
      unfold remL
      rw [gd_map, if_pos (by omega), show steps ws os + (k - steps ws os) = k by omega]
  rw [e1, e2]
end My

set_option Elab.async false
set_option linter.all false
set_option maxRecDepth 100000
set_option maxHeartbeats 4000000
/-! ### f(k = v, ..) without positional arguments -/
namespace My
open PySem PySem.Spec PyProof.Rows L2
def tCallZ (m : Nat) (sp : Sp) (gV : List V → List V) (E : XK) (tk : TA) : TE := fun σ H Q => tk σ H fun zs H2 => zs.length = m ∧ sp (gV zs) H2 Q E
section
variable {X : Cx} {CX : CXT} {k : Nat} {f : Addr} {fd : FuncData} {ps ks : List Str} {sp : Sp} {E : XK} {x : Str} {p pos : Pos} {kws : List Keyword} {tk : TA} {g : List Value → List Value} {gV : List V → List V}
theorem pe_callZ (F : FnOk X.prog X.w X.K X.mg X.base CX k f fd ps sp) (hr : Room k X.A) (hg : Gl X x) (hm : X.mg x = some (.ref f)) (hk : PySem.W.keepIn X.K (.ref f) = true) (hb : KBn X.K fd ps 0 ks (fun _ ws => g ws) (fun _ zs => gV zs)) (hx : Passes CX X E)
    (hkw : PK X kws tk) (hall : (backToKw pos (keywordEach kws X.env)).all (·.1.isSome) = true := by rfl) (hks : (backToKw pos (keywordEach kws X.env)).filterMap (·.1) = ks := by rfl)
    (hdb : (x == ("__debug__" : Str)) = false := by decide)
    (hpl : ((backTo pos (starEach [] X.env)).any (·.1) || (backToKw pos (keywordEach kws X.env)).any (·.1.isNone)) = false := by rfl) :
    PE X (.Call (.Name x p) [] kws pos) (tCallZ ks.length sp gV E tk) := by
  refine ⟨fun pins s σ H Q I h => ?_⟩
  refine wpAny_Call_Name_kw (ld_glob I hg hm ?_ hdb)
  refine PySem.W.callWith_KW0 (h₀ := X.base) I.ok.mod.kin hk hall (thn (hkw.run pos pins s σ H _ I h) fun ws s2 ⟨zs, H2, I2, rz, l2, q2⟩ => ⟨I2.kIn, ?_⟩) hpl
  rw [hks]
  exact run_fnN (us := []) (vs := []) F hr hb hx I2 .nil rz rfl l2 q2
end
theorem kb0 {K : PySem.W.Frag} {x qual : Str} {st : Stmt} {f : Addr} {fd : FuncData} {ps ks : List Str} (F : Fun K x qual st f fd) (g : {α : Type} → List α → List α)
    (hrel : ∀ {zs : List V} {ws : List Value}, Vals zs ws → Vals (g zs) (g ws))
    (h : ∀ (kV doc pm : Value) (an : Option Addr) (cdv ct : Value) (ws : List Value), ws.length = ks.length → bindArgs (PySem.W.fnOf x qual (defArgs st) (defBody st) (defScope st) .none kV doc pm an cdv ct) ⟨[], ks.zip ws⟩ = pure (ps.zip (g ws))) :
    KBn K fd ps 0 ks (fun _ ws => g ws) (fun _ zs => g zs) := by
  obtain ⟨oc, od, kV, doc, pm, an, cdv, ct, osl, rfl, lk, hcd⟩ := F.ex
  refine ⟨fun s us ws X l1 l2 => ?_, fun _ r2 => hrel r2⟩
  have e : us = [] := List.length_eq_zero_iff.mp l1
  subst e
  exact .of_eq (h kV doc pm an cdv ct ws l2)
/-- three values the other way round -/
def rev3 {α : Type} : List α → List α
  | [a, b, c] => [c, b, a]
  | l => l
theorem rev3_rel {zs : List V} {ws : List Value} (r : Vals zs ws) : Vals (rev3 zs) (rev3 ws) := by
  cases r with
  | nil => exact .nil
  | cons r1 r =>
    cases r with
    | nil => exact .cons r1 .nil
    | cons r2 r =>
      cases r with
      | nil => exact .cons r1 (.cons r2 .nil)
      | cons r3 r =>
        cases r with
        | nil => exact .cons r3 (.cons r2 (.cons r1 .nil))
        | cons r4 r => exact .cons r1 (.cons r2 (.cons r3 (.cons r4 r)))
end My

set_option Elab.async false
set_option linter.all false
set_option maxRecDepth 100000
set_option maxHeartbeats 4000000
/-! ### lists of words, compared -/
namespace My
open PySem PySem.Spec PyProof.Rows L2
theorem same_upd {H : Hp} {p : Addr} {o : HO} (h : H p = none) : Same H (upd H p o) := fun b x e => by
  rw [upd_ne (ne_of_none e h)]
  exact e
/-- a word as a value -/
def vN (n : Nat) : V := .int (n : Int)
def dI (n : Nat) : PyData := .int (n : Int)
def dN (ws : List Nat) : PyData := .list (ws.map dI)
theorem lay_all : ∀ ws : List Nat, PyData.canLayAll0 (ws.map dI) = true
  | [] => rfl
  | w :: r => by
    show (PyData.canLay0 (dI w) && PyData.canLayAll0 (r.map dI)) = true
    rw [lay_all r]
    rfl
theorem depth_all : ∀ ws : List Nat, PyData.depthAll (ws.map dI) = 0
  | [] => rfl
  | w :: r => by
    show max (PyData.depth (dI w)) (PyData.depthAll (r.map dI)) = 0
    rw [depth_all r]
    rfl
theorem dN_lay (ws : List Nat) : (dN ws).canLay0 = true := lay_all ws
theorem dN_depth (ws : List Nat) : (dN ws).depth = 1 := by
  show PyData.depthAll (ws.map dI) + 1 = 1
  rw [depth_all]
theorem dN_shaped (ws : List Nat) : SeqAt.shaped (dN ws) = true := by
  unfold SeqAt.shaped
  rw [dN_lay, dN_depth]
  rfl
theorem eqv_all : ∀ xs ys : List Nat, PyData.eqvAll (xs.map dI) (ys.map dI) = decide (xs = ys)
  | [], [] => rfl
  | [], _ :: _ => by simp [PyData.eqvAll]
  | _ :: _, [] => by simp [PyData.eqvAll]
  | x :: r, y :: t => by
    show (PyData.eqv (dI x) (dI y) && PyData.eqvAll (r.map dI) (t.map dI)) = decide (x :: r = y :: t)
    rw [eqv_all r t]
    have e : PyData.eqv (dI x) (dI y) = decide (x = y) := by
      show ((x : Int) == (y : Int)) = decide (x = y)
      by_cases h : x = y
      · subst h; simp
      · simp [h]
        omega
    rw [e]
    by_cases h : x = y
    · by_cases h2 : r = t
      · simp [h, h2]
      · simp [h, h2]
    · simp [h]
theorem dN_eqv (xs ys : List Nat) : PyData.eqv (dN xs) (dN ys) = decide (xs = ys) := eqv_all xs ys
theorem dp_all {K : PySem.W.Frag} {H : Hp} : ∀ ws : List Nat, DpAll K H (ws.map vN) (ws.map dI)
  | [] => .nil
  | w :: r => .cons (.int _) (dp_all r)
theorem dN_dp {K : PySem.W.Frag} {H : Hp} {a : Addr} {ws : List Nat} (h : SqL K H a (ws.map vN)) : Dp K H (.ref a) (dN ws) := .lst h (dp_all ws)
end My

set_option Elab.async false
set_option linter.all false
set_option maxRecDepth 100000
set_option maxHeartbeats 4000000
/-! ### the program's tables of powers and exponents -/
namespace My
open PySem PySem.Spec PyProof.Rows L2
def E4 : List Int := [0, 0, 1, 12, 2, 9, 13, 7, 3, 4, 10, 5, 14, 11, 8, 6]
def E8 : List Int := [0, 0, 1, 231, 2, 207, 232, 59, 3, 35, 208, 154, 233, 20, 60, 183, 4, 159, 36, 66, 209, 118, 155, 251, 234, 245, 21, 11, 61, 130, 184, 146, 5, 122, 160, 79, 37, 113, 67, 106, 210, 224, 119, 221, 156, 242, 252, 32, 235, 213, 246, 135, 22, 42, 12, 140, 62, 227, 131, 75, 185, 191, 147, 94, 6, 70, 123, 195, 161, 53, 80, 167, 38, 109, 114, 203, 68, 51, 107, 49, 211, 40, 225, 189, 120, 111, 222, 240, 157, 116, 243, 128, 253, 205, 33, 18, 236, 163, 214, 98, 247, 55, 136, 102, 23, 82, 43, 177, 13, 169, 141, 89, 63, 8, 228, 151, 132, 72, 76, 218, 186, 125, 192, 200, 148, 197, 95, 174, 7, 150, 71, 217, 124, 199, 196, 173, 162, 97, 54, 101, 81, 176, 168, 88, 39, 188, 110, 239, 115, 127, 204, 17, 69, 194, 52, 166, 108, 202, 50, 48, 212, 134, 41, 139, 226, 74, 190, 93, 121, 78, 112, 105, 223, 220, 241, 31, 158, 65, 117, 250, 244, 10, 129, 145, 254, 230, 206, 58, 34, 153, 19, 182, 237, 15, 164, 46, 215, 171, 99, 86, 248, 143, 56, 180, 137, 91, 103, 29, 24, 25, 83, 26, 44, 84, 178, 27, 14, 45, 170, 85, 142, 179, 90, 28, 64, 249, 9, 144, 229, 57, 152, 181, 133, 138, 73, 92, 77, 104, 219, 30, 187, 238, 126, 16, 193, 165, 201, 47, 149, 216, 198, 172, 96, 100, 175, 87]
def P4 : List Int := [1, 2, 4, 8, 9, 11, 15, 7, 14, 5, 10, 13, 3, 6, 12]
def P8 : List Int := [1, 2, 4, 8, 16, 32, 64, 128, 113, 226, 181, 27, 54, 108, 216, 193, 243, 151, 95, 190, 13, 26, 52, 104, 208, 209, 211, 215, 223, 207, 239, 175, 47, 94, 188, 9, 18, 36, 72, 144, 81, 162, 53, 106, 212, 217, 195, 247, 159, 79, 158, 77, 154, 69, 138, 101, 202, 229, 187, 7, 14, 28, 56, 112, 224, 177, 19, 38, 76, 152, 65, 130, 117, 234, 165, 59, 118, 236, 169, 35, 70, 140, 105, 210, 213, 219, 199, 255, 143, 111, 222, 205, 235, 167, 63, 126, 252, 137, 99, 198, 253, 139, 103, 206, 237, 171, 39, 78, 156, 73, 146, 85, 170, 37, 74, 148, 89, 178, 21, 42, 84, 168, 33, 66, 132, 121, 242, 149, 91, 182, 29, 58, 116, 232, 161, 51, 102, 204, 233, 163, 55, 110, 220, 201, 227, 183, 31, 62, 124, 248, 129, 115, 230, 189, 11, 22, 44, 88, 176, 17, 34, 68, 136, 97, 194, 245, 155, 71, 142, 109, 218, 197, 251, 135, 127, 254, 141, 107, 214, 221, 203, 231, 191, 15, 30, 60, 120, 240, 145, 83, 166, 61, 122, 244, 153, 67, 134, 125, 250, 133, 123, 246, 157, 75, 150, 93, 186, 5, 10, 20, 40, 80, 160, 49, 98, 196, 249, 131, 119, 238, 173, 43, 86, 172, 41, 82, 164, 57, 114, 228, 185, 3, 6, 12, 24, 48, 96, 192, 241, 147, 87, 174, 45, 90, 180, 25, 50, 100, 200, 225, 179, 23, 46, 92, 184]
def tabE (b : Nat) : List Int := cond (Nat.beq b 4) E4 E8
def tabP (b : Nat) : List Int := cond (Nat.beq b 4) P4 P8
theorem lgpw' {b i : Nat} (hb : Wd b) (h : i < turn b) : lg b (pw b i) = i := by
  have q : ((List.range (turn b)).all fun i => Nat.beq (lg b (pw b i)) i) = true := by rcases hb with rfl | rfl <;> decide +kernel
  exact Nat.eq_of_beq_eq_true (List.all_eq_true.mp q i (List.mem_range.mpr h))
def goodE (b : Nat) (x : Nat) : Bool := match (tabE b)[x]? with
  | some (Int.ofNat e) => Nat.beq x 0 || (Nat.blt e (turn b) && Nat.beq (pw b e) x)
  | _ => false
theorem goodE_all {b : Nat} (hb : Wd b) : ((List.range (span b)).all (goodE b)) = true := by rcases hb with rfl | rfl <;> decide +kernel
theorem tabE_at {b x : Nat} (hb : Wd b) (hx : x < span b) (h0 : x ≠ 0) : (tabE b)[x]? = some (lg b x : Int) := by
  have h := List.all_eq_true.mp (goodE_all hb) x (List.mem_range.mpr hx)
  unfold goodE at h
  split at h
  · next e he =>
    rcases (Bool.or_eq_true _ _).mp h with z | z
    · exact absurd (Nat.eq_of_beq_eq_true z) h0
    · rw [Bool.and_eq_true] at z
      have h1 : e < turn b := by
        have := z.1
        rw [Nat.blt_eq] at this
        exact this
      have h2 := Nat.eq_of_beq_eq_true z.2
      rw [he, ← h2, lgpw' hb h1]
      rfl
  · cases h
theorem tabE_len {b : Nat} (hb : Wd b) : (tabE b).length = span b := by rcases hb with rfl | rfl <;> decide +kernel
theorem tabP_is {b : Nat} (hb : Wd b) : tabP b = (pws b).map (fun n : Nat => (n : Int)) := by rcases hb with rfl | rfl <;> decide +kernel
theorem tabP_len {b : Nat} (hb : Wd b) : (tabP b).length = turn b := by rw [tabP_is hb, List.length_map, pws_len]
theorem tabP_at {b i : Nat} (hb : Wd b) (h : i < turn b) : (tabP b)[i]? = some (pw b i : Int) := by
  rw [tabP_is hb, List.getElem?_map, pws_at h]
  rfl
end My

set_option Elab.async false
set_option linter.all false
set_option maxRecDepth 100000
set_option maxHeartbeats 4000000
/-! ### slices of rows, lists (true) or tuples (false); the powers twice -/
namespace My
open PySem PySem.Spec PyProof.Rows L2
section
variable {X : Cx}
def rSlB (K : PySem.W.Frag) : V → Option Int → Option Int → Hp → VK → Prop := fun x lo hi H Q => ∃ a xs k, x = .ref a ∧ SqB k K H a xs ∧ ∀ p H', Same H H' → SqB k K H' p (cutV xs lo hi) → Q (.ref p) H'
theorem sl_rowB : SlR X (rSlB X.K) := by
  intro pins s σ H x v vl vu lo hi sl Q I rx hs pl pu h
  obtain ⟨a, xs, k, rfl, hx, q⟩ := h
  cases k
  · refine sl_tupA pins s σ H _ v vl vu lo hi sl Q I rx hs pl pu ⟨a, xs, rfl, hx, fun hw => q a H (Same.refl _) ?_, fun _ p hp => q p _ (same_upd hp) (.inl (.inl upd_same))⟩
    have e : cutV xs lo hi = xs := by
      unfold cutV
      rw [hw.1, hw.2]
      simp
    rw [e]
    exact hx
  · exact sl_list pins s σ H _ v vl vu lo hi sl Q I rx hs pl pu ⟨a, xs, rfl, hx, fun p hp => q p _ (same_upd hp) (.inl (.inl upd_same))⟩
end
theorem turn_pos' {b : Nat} (hb : Wd b) : 0 < turn b := by rcases hb with rfl | rfl <;> decide
/-- the powers, twice -/
def PP (b : Nat) : List V := (List.replicate (2 : Int).toNat ((tabP b).map V.int)).flatten
theorem PP_is (b : Nat) : PP b = (tabP b).map V.int ++ (tabP b).map V.int := by
  unfold PP
  show (List.replicate 2 _).flatten = _
  simp [List.replicate]
theorem PP_at {b i : Nat} (hb : Wd b) (h : i < 2 * turn b) : (PP b)[i]? = some (V.int (pw b i : Int)) := by
  have hl : ((tabP b).map V.int).length = turn b := by rw [List.length_map, tabP_len hb]
  rw [PP_is]
  by_cases h1 : i < turn b
  · rw [List.getElem?_append_left (by rw [hl]; exact h1), List.getElem?_map, tabP_at hb h1]
    rfl
  · rw [List.getElem?_append_right (by rw [hl]; omega), hl, List.getElem?_map, tabP_at hb (by omega)]
    have e : pw b i = pw b (i - turn b) := by
      rw [← pw_add_turn hb (i - turn b), show i - turn b + turn b = i by omega]
    rw [e]
    rfl
theorem PP_len {b : Nat} (hb : Wd b) : (PP b).length = 2 * turn b := by
  rw [PP_is, List.length_append, List.length_map, tabP_len hb]
  omega
theorem tabP_small {b : Nat} (hb : Wd b) : ((tabP b).map V.int).length ≤ 1000 ∧ (tabP b).map V.int ≠ [] := by
  have e := tabP_len hb
  have t := turn_pos' hb
  refine ⟨?_, fun z => ?_⟩
  · rw [List.length_map, e]
    rcases hb with rfl | rfl <;> decide
  · have := congrArg List.length z
    rw [List.length_map, e] at this
    simp at this
    omega
theorem sum_at {b x y : Nat} (hb : Wd b) (hx : x < span b) (hy : y < span b) (h0 : x ≠ 0) (h1 : y ≠ 0) : atI (PP b) ((lg b x : Int) + (lg b y : Int)) = some (V.int (mul b x y : Int)) := by
  have l1 := lg_lt hb hx h0
  have l2 := lg_lt hb hy h1
  rw [show (lg b x : Int) + (lg b y : Int) = ((lg b x + lg b y : Nat) : Int) by omega]
  refine atI_nat ?_
  rw [PP_at hb (by omega), ← pw_mul hb, pw_lg hb hx h0, pw_lg hb hy h1]
theorem diff_at {b x y : Nat} (hb : Wd b) (hx : x < span b) (hy : y < span b) (h0 : x ≠ 0) (h1 : y ≠ 0) : atI (PP b) ((lg b x : Int) - (lg b y : Int) + (turn b : Int)) = some (V.int (quo b x y : Int)) := by
  have l1 := lg_lt hb hx h0
  have l2 := lg_lt hb hy h1
  rw [show (lg b x : Int) - (lg b y : Int) + (turn b : Int) = ((lg b x + (turn b - lg b y) : Nat) : Int) by omega]
  refine atI_nat ?_
  rw [PP_at hb (by omega)]
  unfold quo
  have e : pw b (lg b y * (turn b - 1)) = pw b (turn b - lg b y) := by
    have h := pw_add_mul hb (turn b - lg b y) (lg b y)
    have h2 := pw_add_turn hb (lg b y * (turn b - 1))
    have h3 : turn b - lg b y + lg b y * turn b = lg b y * (turn b - 1) + turn b := by
      have h4 : lg b y * turn b = lg b y * (turn b - 1) + lg b y := by
        rw [← Nat.mul_succ]
        rw [show (turn b - 1).succ = turn b by omega]
      omega
    rw [h3] at h
    rw [← h2, h]
  rw [e, ← pw_mul hb, pw_lg hb hx h0]
end My
namespace My
open PySem PySem.Spec PyProof.Rows L2
theorem ix_rowBK {X : Cx} {K : PySem.W.Frag} (h : X.K = K) : IxR X (rIxB K) := by
  subst h
  exact ix_rowB
end My
namespace My
open PySem PySem.Spec PyProof.Rows L2
theorem pe_ifName {X : Cx} {K : PySem.W.Frag} {x : Str} {p : Pos} {a b : Expr} {pos : Pos} {tc ta tb : TE} (h : X.K = K) (hc : PE X (.Name x p) tc) (ha : PE X a ta) (hb : PE X b tb) :
    PE X (.IfExp (.Name x p) a b pos) (tIf (fun σ H Q => tc σ H fun x H' => ∃ k, TruV K x H' k ∧ Q k H') ta tb) := by
  subst h
  exact pe_ifExp (pt_truth hc (fun _ => rfl)) ha hb
end My

set_option Elab.async false
set_option linter.all false
set_option maxRecDepth 100000
set_option maxHeartbeats 4000000
/-! ### check words made one data word after the other -/
namespace My
open PySem PySem.Spec PyProof.Rows L2
def tE (b x : Nat) : Int := ((tabE b)[x]?).getD 0
def pwI (b : Nat) (e : Int) : Nat := pw b (e % (turn b : Int)).toNat
theorem pwI_lt {b : Nat} (hb : Wd b) (e : Int) : pwI b e < span b := pw_lt hb _
theorem pwI_nat {b : Nat} (hb : Wd b) (n : Nat) : pwI b (n : Int) = pw b n := by
  unfold pwI
  rw [pw_mod hb n, ← Int.natCast_emod, Int.toNat_natCast]
theorem pwI_add {b : Nat} (hb : Wd b) (n : Nat) (e : Int) : pwI b ((n : Int) + e) = mul b (pw b n) (pwI b e) := by
  have ht : (0 : Int) < (turn b : Int) := by have := turn_pos hb; omega
  have h0 := Int.emod_nonneg e (by omega : (turn b : Int) ≠ 0)
  unfold pwI
  rw [pw_mul hb, pw_mod hb (n + _)]
  refine congrArg (pw b) ?_
  have h1 : (((n + (e % (turn b : Int)).toNat) % turn b : Nat) : Int) = ((n : Int) + e) % (turn b : Int) := by
    rw [Int.natCast_emod, Int.natCast_add, Int.toNat_of_nonneg h0, Int.add_emod_emod]
  rw [← h1, Int.toNat_natCast]
/-- the exponents of the factor's words -/
def cfE (b s m : Nat) : Nat → Int
  | 0 => 0
  | j + 1 => cfE b s m j + ((s : Int) + (j : Int) + tE b (pw b (m - j) ^^^ 1) - tE b (pw b (j + 1) ^^^ 1))
def cfL (b s m : Nat) : List Nat := (List.range m).map fun j => pwI b (cfE b s m (j + 1))
theorem cfL_len (b s m : Nat) : (cfL b s m).length = m := by unfold cfL; simp
theorem cfL_ws {b s m : Nat} (hb : Wd b) : Ws b (cfL b s m) := fun x hx => by
  unfold cfL at hx
  obtain ⟨k, _, rfl⟩ := List.mem_map.mp hx
  exact pwI_lt hb _
theorem cfE_start (b s m : Nat) : ∀ j, cfE b s m j = ((s * j : Nat) : Int) + cfE b 0 m j
  | 0 => by simp [cfE]
  | j + 1 => by
    unfold cfE
    rw [cfE_start b s m j, Nat.mul_succ]
    generalize s * j = u
    omega
def cfG (b m : Nat) : Nat → Nat → Int → List Nat
  | 0, _, _ => []
  | n + 1, j, e => (fun e' => pwI b e' :: cfG b m n (j + 1) e') (e + (((0 : Nat) : Int) + (j : Int) + tE b (pw b (m - j) ^^^ 1) - tE b (pw b (j + 1) ^^^ 1)))
theorem cfG_is (b m : Nat) : ∀ n j, cfG b m n j (cfE b 0 m j) = (List.range n).map fun k => pwI b (cfE b 0 m (j + k + 1))
  | 0, j => rfl
  | n + 1, j => by
    have h := cfG_is b m n (j + 1)
    rw [List.range_succ_eq_map, List.map_cons, List.map_map]
    show pwI b (cfE b 0 m (j + 1)) :: cfG b m n (j + 1) (cfE b 0 m (j + 1)) = _
    rw [h]
    refine congrArg _ (List.map_congr_left fun k _ => ?_)
    show pwI b (cfE b 0 m (j + 1 + k + 1)) = pwI b (cfE b 0 m (j + (k + 1) + 1))
    rw [show j + 1 + k + 1 = j + (k + 1) + 1 by omega]
def stG (b n : Nat) (g : List Nat) : List Nat := List.zipWith (fun x y => x ^^^ y) (g ++ [0]) (0 :: g.map fun x => mul b x (pw b n))
def gq (b : Nat) : Nat → List Nat
  | 0 => [1]
  | n + 1 => stG b n (gq b n)
def eqL : List Nat → List Nat → Bool
  | [], [] => true
  | x :: xs, y :: ys => Nat.beq x y && eqL xs ys
  | _, _ => false
theorem eqL_ok : ∀ {xs ys : List Nat}, eqL xs ys = true → xs = ys
  | [], [], _ => rfl
  | x :: xs, y :: ys, h => by
    have h' : (Nat.beq x y && eqL xs ys) = true := h
    rw [Bool.and_eq_true] at h'
    rw [Nat.eq_of_beq_eq_true h'.1, eqL_ok h'.2]
def mostN (b : Nat) : Nat := cond (Nat.beq b 4) 14 40
def okG (b M : Nat) : Bool := (List.range (M + 1)).all fun m => eqL (1 :: cfG b m m 0 0) (gq b m)
theorem okG4 : okG 4 14 = true := by decide +kernel
theorem okG8 : okG 8 40 = true := by decide +kernel
theorem cf_gq {b m : Nat} (hb : Wd b) (hm : m ≤ mostN b) : 1 :: cfL b 0 m = gq b m := by
  have h : okG b (mostN b) = true := by
    rcases hb with rfl | rfl
    · exact okG4
    · exact okG8
  have e := eqL_ok (List.all_eq_true.mp h m (List.mem_range.mpr (by omega)))
  rw [← e]
  have h2 := cfG_is b m m 0
  have h3 : cfE b 0 m 0 = 0 := rfl
  rw [h3] at h2
  rw [h2]
  unfold cfL
  refine congrArg _ (List.map_congr_left fun k _ => ?_)
  rw [Nat.zero_add]
/-! values -/
theorem evF_zip {b t : Nat} (hb : Wd b) : ∀ (xs ys : List Nat) (a c : Nat), xs.length = ys.length → a < span b → c < span b → Ws b xs → Ws b ys → evF b t (a ^^^ c) (List.zipWith (fun x y => x ^^^ y) xs ys) = evF b t a xs ^^^ evF b t c ys
  | [], [], a, c, _, _, _, _, _ => rfl
  | [], _ :: _, _, _, h, _, _, _, _ => by cases h
  | _ :: _, [], _, _, h, _, _, _, _ => by cases h
  | x :: xs, y :: ys, a, c, h, ha, hc, hx, hy => by
    have x1 := hx x (by simp)
    have y1 := hy y (by simp)
    show evF b t (mul b (a ^^^ c) t ^^^ (x ^^^ y)) (List.zipWith (fun x y => x ^^^ y) xs ys) = evF b t (mul b a t ^^^ x) xs ^^^ evF b t (mul b c t ^^^ y) ys
    have e : mul b (a ^^^ c) t ^^^ (x ^^^ y) = (mul b a t ^^^ x) ^^^ (mul b c t ^^^ y) := by
      rw [mul_xor_l hb ha hc]
      ac_rfl
    rw [e]
    exact evF_zip hb xs ys _ _ (Nat.succ.inj h) (xor_lt hb (mul_lt hb ha) x1) (xor_lt hb (mul_lt hb hc) y1) (fun z hz => hx z (by simp [hz])) (fun z hz => hy z (by simp [hz]))
theorem mul_swap {b x y z : Nat} (hb : Wd b) (hx : x < span b) (hy : y < span b) (hz : z < span b) : mul b (mul b x y) z = mul b (mul b x z) y := by
  rw [mul_assoc hb hx hy hz, mul_assoc hb hx hz hy, mul_comm hb hy hz]
theorem evF_mul {b t p : Nat} (hb : Wd b) (ht : t < span b) (hp : p < span b) : ∀ (xs : List Nat) (a : Nat), a < span b → Ws b xs → evF b t (mul b a p) (xs.map fun x => mul b x p) = mul b (evF b t a xs) p
  | [], a, _, _ => rfl
  | x :: xs, a, ha, hx => by
    have x1 := hx x (by simp)
    show evF b t (mul b (mul b a p) t ^^^ mul b x p) (xs.map fun x => mul b x p) = mul b (evF b t (mul b a t ^^^ x) xs) p
    rw [mul_swap hb ha hp ht, ← mul_xor_l hb (mul_lt hb ha) x1]
    exact evF_mul hb ht hp xs _ (xor_lt hb (mul_lt hb ha) x1) (fun z hz => hx z (by simp [hz]))
theorem gq_ok {b : Nat} (hb : Wd b) : ∀ n, Ws b (gq b n) ∧ (gq b n).length = n + 1
  | 0 => ⟨fun x hx => by
      have := span_pos hb
      have e : x = 1 := by simpa [gq] using hx
      omega, rfl⟩
  | n + 1 => by
    obtain ⟨h1, h2⟩ := gq_ok hb n
    refine ⟨fun x hx => ?_, ?_⟩
    · have hx' : x ∈ List.zipWith (fun x y => x ^^^ y) (gq b n ++ [0]) (0 :: (gq b n).map fun x => mul b x (pw b n)) := hx
      rw [← List.map_uncurry_zip_eq_zipWith] at hx'
      obtain ⟨⟨u, v⟩, hz, rfl⟩ := List.mem_map.mp hx'
      have hu := (List.of_mem_zip hz).1
      have hv := (List.of_mem_zip hz).2
      have := span_pos hb
      refine xor_lt hb ?_ ?_
      · rcases List.mem_append.mp hu with h | h
        · exact h1 u h
        · rw [List.mem_singleton.mp h]
          omega
      · rcases List.mem_cons.mp hv with h | h
        · rw [h]
          omega
        · obtain ⟨y, hy, rfl⟩ := List.mem_map.mp h
          exact mul_lt hb (h1 y hy)
    · show (List.zipWith _ (gq b n ++ [0]) (0 :: (gq b n).map _)).length = _
      simp [h2]
theorem gq_root {b : Nat} (hb : Wd b) : ∀ n i, i < n → evl b (pw b i) (gq b n) = 0
  | 0, i, h => absurd h (by omega)
  | n + 1, i, h => by
    obtain ⟨h1, h2⟩ := gq_ok hb n
    have hs := span_pos hb
    have h0 : (0 : Nat) < span b := by omega
    have w1 : Ws b (gq b n ++ [0]) := fun x hx => by
      rcases List.mem_append.mp hx with z | z
      · exact h1 x z
      · rw [List.mem_singleton.mp z]
        exact h0
    have w2 : Ws b ((gq b n).map fun x => mul b x (pw b n)) := fun x hx => by
      obtain ⟨y, hy, rfl⟩ := List.mem_map.mp hx
      exact mul_lt hb (h1 y hy)
    have w3 : Ws b (0 :: (gq b n).map fun x => mul b x (pw b n)) := fun x hx => by
      rcases List.mem_cons.mp hx with z | z
      · rw [z]
        exact h0
      · exact w2 x z
    have e := evF_zip (t := pw b i) hb (gq b n ++ [0]) (0 :: (gq b n).map fun x => mul b x (pw b n)) 0 0 (by simp) h0 h0 w1 w3
    have e1 : evF b (pw b i) 0 (gq b n ++ [0]) = mul b (evl b (pw b i) (gq b n)) (pw b i) ^^^ 0 := evl_snoc
    have e2 : evF b (pw b i) 0 (0 :: (gq b n).map fun x => mul b x (pw b n)) = mul b (evl b (pw b i) (gq b n)) (pw b n) := by
      show evF b (pw b i) (mul b 0 (pw b i) ^^^ 0) _ = _
      rw [zero_mul hb, Nat.xor_zero]
      have e3 := evF_mul hb (pw_lt hb i) (pw_lt hb n) (gq b n) 0 h0 h1
      rw [zero_mul hb] at e3
      exact e3
    rw [Nat.xor_self] at e
    show evF b (pw b i) 0 (List.zipWith (fun x y => x ^^^ y) (gq b n ++ [0]) (0 :: (gq b n).map fun x => mul b x (pw b n))) = 0
    rw [e, e1, e2, Nat.xor_zero]
    by_cases hi : i = n
    · subst hi
      exact Nat.xor_self _
    · rw [gq_root hb n i (by omega), zero_mul hb, zero_mul hb]
      rfl
/-! another start -/
def sc (b s : Nat) : Nat → List Nat → List Nat
  | _, [] => []
  | j, x :: xs => mul b x (pw b (s * j)) :: sc b s (j + 1) xs
theorem sc_root {b s i : Nat} (hb : Wd b) : ∀ (xs : List Nat) (j acc : Nat), acc < span b → Ws b xs → evF b (pw b (s + i)) (mul b acc (pw b (s * j))) (sc b s (j + 1) xs) = mul b (evF b (pw b i) acc xs) (pw b (s * (j + xs.length)))
  | [], j, acc, _, _ => rfl
  | x :: xs, j, acc, ha, hx => by
    have x1 := hx x (by simp)
    show evF b (pw b (s + i)) (mul b (mul b acc (pw b (s * j))) (pw b (s + i)) ^^^ mul b x (pw b (s * (j + 1)))) (sc b s (j + 1 + 1) xs) = mul b (evF b (pw b i) (mul b acc (pw b i) ^^^ x) xs) (pw b (s * (j + (xs.length + 1))))
    have e : mul b (mul b acc (pw b (s * j))) (pw b (s + i)) = mul b (mul b acc (pw b i)) (pw b (s * (j + 1))) := by
      rw [mul_assoc hb ha (pw_lt hb _) (pw_lt hb _), mul_assoc hb ha (pw_lt hb _) (pw_lt hb _), pw_mul hb, pw_mul hb, Nat.mul_succ, show s * j + (s + i) = i + (s * j + s) by omega]
    rw [e, ← mul_xor_l hb (mul_lt hb ha) x1, sc_root hb xs (j + 1) _ (xor_lt hb (mul_lt hb ha) x1) (fun z hz => hx z (by simp [hz])), show j + 1 + xs.length = j + (xs.length + 1) by omega]
theorem sc_range {b s : Nat} : ∀ (n j : Nat) (f : Nat → Nat), sc b s j ((List.range n).map f) = (List.range n).map fun k => mul b (f k) (pw b (s * (j + k)))
  | 0, _, _ => rfl
  | n + 1, j, f => by
    rw [List.range_succ_eq_map, List.map_cons, List.map_map, List.map_cons, List.map_map]
    show mul b (f 0) (pw b (s * j)) :: sc b s (j + 1) ((List.range n).map (f ∘ Nat.succ)) = _
    rw [sc_range n (j + 1) (f ∘ Nat.succ)]
    refine congrArg _ (List.map_congr_left fun k _ => ?_)
    show mul b (f (k + 1)) (pw b (s * (j + 1 + k))) = mul b (f (k + 1)) (pw b (s * (j + (k + 1))))
    rw [show j + 1 + k = j + (k + 1) by omega]
theorem cfL_sc {b s m : Nat} (hb : Wd b) : cfL b s m = sc b s 1 (cfL b 0 m) := by
  unfold cfL
  rw [sc_range]
  refine List.map_congr_left fun k _ => ?_
  rw [cfE_start b s m (k + 1), pwI_add hb, mul_comm hb (pw_lt hb _) (pwI_lt hb _), Nat.add_comm 1 k]
theorem cf_root {b s m k : Nat} (hb : Wd b) (hm : m ≤ mostN b) (hk : k < m) : evl b (pw b (s + k)) (1 :: cfL b s m) = 0 := by
  have h1 : (1 : Nat) < span b := span_pos hb
  have e0 := gq_root hb m k hk
  rw [← cf_gq hb hm] at e0
  have start : ∀ t, t < span b → ∀ xs, evl b t (1 :: xs) = evF b t 1 xs := fun t ht xs => by
    show evF b t (mul b 0 t ^^^ 1) xs = _
    rw [zero_mul hb, Nat.zero_xor]
  rw [start _ (pw_lt hb _)] at e0
  rw [start _ (pw_lt hb _), cfL_sc hb]
  have e := sc_root (s := s) (i := k) hb (cfL b 0 m) 0 1 h1 (cfL_ws hb)
  have e1 : mul b 1 (pw b (s * 0)) = 1 := one_mul hb (pw_lt hb _)
  rw [e1] at e
  rw [e, e0, zero_mul hb]
/-! the rest after one more word -/
def nxt (b m : Nat) (g r : List Nat) (w : Nat) : List Nat := (List.range m).map fun i => gd r (i + 1) ^^^ mul b (gd g i) (gd r 0 ^^^ w)
theorem nxt_len (b m : Nat) (g r : List Nat) (w : Nat) : (nxt b m g r w).length = m := by unfold nxt; simp
theorem nxt_ws {b m : Nat} {g r : List Nat} {w : Nat} (hb : Wd b) (hg : Ws b g) (hr : Ws b r) : Ws b (nxt b m g r w) := fun x hx => by
  unfold nxt at hx
  obtain ⟨k, _, rfl⟩ := List.mem_map.mp hx
  exact xor_lt hb (gd_lt hb hr _) (mul_lt hb (gd_lt hb hg _))
def chkF (b m : Nat) (g r ws : List Nat) : List Nat := ws.foldl (nxt b m g) r
theorem chkF_ok {b m : Nat} {g : List Nat} (hb : Wd b) (hg : Ws b g) : ∀ (ws r : List Nat), Ws b r → r.length = m → Ws b (chkF b m g r ws) ∧ (chkF b m g r ws).length = m
  | [], r, hr, hl => ⟨hr, hl⟩
  | w :: ws, r, hr, hl => chkF_ok hb hg ws (nxt b m g r w) (nxt_ws hb hg hr) (nxt_len _ _ _ _ _)
theorem evl_app2 {b t : Nat} {xs ys : List Nat} (hb : Wd b) (ht : t < span b) (hx : Ws b xs) (hy : Ws b ys) : evl b t (xs ++ ys) = mul b (evl b t xs) (powT b t ys.length) ^^^ evl b t ys := by
  show (xs ++ ys).foldl _ 0 = _
  rw [List.foldl_append]
  exact evF_xor hb ht ys _ (evl_lt hb hx) hy
theorem xor00 {a b : Nat} (h : a ^^^ b = 0) : a = b := by
  have e : a ^^^ b ^^^ b = 0 ^^^ b := by rw [h]
  rw [Nat.xor_assoc, Nat.xor_self, Nat.xor_zero, Nat.zero_xor] at e
  exact e
theorem shift_row {r : List Nat} {m : Nat} (hl : r.length = m) (hm : 0 < m) : ∃ r0 r', r = r0 :: r' ∧ r'.length + 1 = m ∧ (List.range m).map (fun i => gd r (i + 1)) = r' ++ [0] := by
  match r, hl with
  | [], h => exact absurd h.symm (by simp; omega)
  | r0 :: r', h =>
    refine ⟨r0, r', rfl, by simpa using h, ?_⟩
    have hl : m = r'.length + 1 := by simpa using h.symm
    subst hl
    rw [List.range_succ, List.map_append]
    have e1 : (List.range r'.length).map (fun i => gd (r0 :: r') (i + 1)) = r' := gd_list r'
    rw [e1]
    refine congrArg _ ?_
    show [gd r' r'.length] = [0]
    rw [gd_out (Nat.le_refl _)]
theorem powT_succ (b t n : Nat) (hb : Wd b) (ht : t < span b) : mul b (powT b t n) t = powT b t (n + 1) := by
  first
    | rfl
    | (show mul b (powT b t n) t = mul b t (powT b t n); exact mul_comm hb (powT_lt hb n) ht)
theorem nxt_val {b t m w : Nat} {g r : List Nat} (hb : Wd b) (ht : t < span b) (hm : 0 < m) (hg : Ws b g) (gl : g.length = m) (h0 : evl b t (1 :: g) = 0) (hr : Ws b r) (rl : r.length = m) (hw : w < span b) :
    evl b t (nxt b m g r w) = mul b (evl b t r) t ^^^ mul b w (powT b t m) := by
  obtain ⟨r0, r', rfl, l', e'⟩ := shift_row rl hm
  have hr0 : r0 < span b := hr r0 (by simp)
  have hr' : Ws b r' := fun z hz => hr z (by simp [hz])
  have h1 : (1 : Nat) < span b := span_pos hb
  have hP := powT_lt (t := t) hb m
  have eg : evl b t g = powT b t m := by
    rw [evl_cons hb ht h1 hg, gl, one_mul hb hP] at h0
    exact (xor00 h0).symm
  have hc : r0 ^^^ w < span b := xor_lt hb hr0 hw
  have a1 := evl_fn hb ht (fun i => gd (r0 :: r') (i + 1)) (fun i => mul b (gd g i) (r0 ^^^ w)) (fun i => gd_lt hb hr _) (fun i => mul_lt hb (gd_lt hb hg i)) m
  have a2 : nxt b m g (r0 :: r') w = (List.range m).map fun k => gd (r0 :: r') (k + 1) ^^^ mul b (gd g k) (r0 ^^^ w) := rfl
  have a3 : (List.range m).map (fun i => mul b (gd g i) (r0 ^^^ w)) = (List.range m).map (fun i => mul b (r0 ^^^ w) (gd g i)) := List.map_congr_left fun k _ => mul_comm hb (gd_lt hb hg k) hc
  have a4 := evl_scale hb ht hc (gd g) (gd_lt hb hg) m
  have a5 : (List.range m).map (gd g) = g := by rw [← gl]; exact gd_list g
  rw [a2, a1, e', a3, a4, a5, eg, evl_snoc, Nat.xor_zero, evl_cons hb ht hr0 hr', mul_xor_l hb (mul_lt hb hr0) (evl_lt hb hr'), mul_assoc hb hr0 (powT_lt hb _) ht, powT_succ b t _ hb ht, l', mul_xor_l hb hr0 hw]
  generalize mul b r0 (powT b t m) = u
  generalize mul b (evl b t r') t = v
  generalize mul b w (powT b t m) = z
  have e : v ^^^ (u ^^^ z) = u ^^^ v ^^^ z := by ac_rfl
  exact e
theorem chkF_root {b t m : Nat} {g : List Nat} (hb : Wd b) (ht : t < span b) (hm : 0 < m) (hg : Ws b g) (gl : g.length = m) (h0 : evl b t (1 :: g) = 0) : ∀ (ws r : List Nat) (a : Nat), a < span b → Ws b ws → Ws b r → r.length = m →
    mul b a (powT b t m) ^^^ evl b t r = 0 → mul b (evF b t a ws) (powT b t m) ^^^ evl b t (chkF b m g r ws) = 0
  | [], r, a, _, _, _, _, h => h
  | w :: ws, r, a, ha, hw, hr, hl, h => by
    have w1 := hw w (by simp)
    have hP := powT_lt (t := t) hb m
    refine chkF_root hb ht hm hg gl h0 ws (nxt b m g r w) _ (xor_lt hb (mul_lt hb ha) w1) (fun z hz => hw z (by simp [hz])) (nxt_ws hb hg hr) (nxt_len _ _ _ _ _) ?_
    rw [nxt_val hb ht hm hg gl h0 hr hl w1, mul_xor_l hb (mul_lt hb ha) w1, mul_swap hb ha ht hP]
    have e : mul b a (powT b t m) = evl b t r := xor00 h
    rw [e]
    generalize mul b (evl b t r) t = u
    generalize mul b w (powT b t m) = v
    exact Nat.xor_self _
def chk (b s m : Nat) (ws : List Nat) : List Nat := chkF b m (cfL b s m) (List.replicate m 0) ws
theorem rep_ws {b m : Nat} (hb : Wd b) : Ws b (List.replicate m 0) := fun x hx => by
  have := span_pos hb
  rw [List.eq_of_mem_replicate hx]
  omega
theorem chk_len {b s m : Nat} {ws : List Nat} (hb : Wd b) : (chk b s m ws).length = m := (chkF_ok hb (cfL_ws hb) ws _ (rep_ws hb) (by simp)).2
theorem chk_ws {b s m : Nat} {ws : List Nat} (hb : Wd b) (hw : Ws b ws) : Ws b (chk b s m ws) := (chkF_ok hb (cfL_ws hb) ws _ (rep_ws hb) (by simp)).1
theorem chk_root {b s m k : Nat} {ws : List Nat} (hb : Wd b) (hm : m ≤ mostN b) (hw : Ws b ws) (hk : k < m) : evl b (pw b (s + k)) (ws ++ chk b s m ws) = 0 := by
  have ht := pw_lt hb (s + k)
  have hs := span_pos hb
  have wc := chk_ws (s := s) (m := m) hb hw
  have lc := chk_len (s := s) (m := m) (ws := ws) hb
  have h := chkF_root hb ht (by omega) (cfL_ws hb) (cfL_len b s m) (cf_root hb hm hk) ws (List.replicate m 0) 0 (by omega) hw (rep_ws hb) (by simp) (by rw [zero_mul hb, evl_zeros hb]; rfl)
  rw [evl_app2 hb ht hw wc, lc]
  exact h
theorem gd_rep (m i : Nat) : gd (List.replicate m 0) i = 0 := by
  unfold gd
  by_cases h : i < m
  · simp [List.getD, List.getElem?_replicate, h]
  · simp [List.getD, List.getElem?_replicate, h]
theorem nxt_nought (b m : Nat) (g : List Nat) : nxt b m g (List.replicate m 0) 0 = List.replicate m 0 := by
  unfold nxt
  have e : (fun i => gd (List.replicate m 0) (i + 1) ^^^ mul b (gd g i) (gd (List.replicate m 0) 0 ^^^ 0)) = fun _ => 0 := by
    funext i
    rw [gd_rep, gd_rep, Nat.xor_zero, mul_zero]
    rfl
  rw [e, List.map_const', List.length_range]
theorem chk_noughts {b s m : Nat} {ws : List Nat} (hb : Wd b) : ∀ n, chk b s m (List.replicate n 0 ++ ws) = chk b s m ws
  | 0 => rfl
  | n + 1 => by
    rw [List.replicate_succ]
    refine Eq.trans ?_ (chk_noughts hb n)
    show chkF b m (cfL b s m) (nxt b m (cfL b s m) (List.replicate m 0) 0) _ = _
    rw [nxt_nought]
    rfl
theorem zx_len (xs ys : List Nat) : (zx xs ys).length = xs.length := by unfold zx; simp
theorem gd_zx {xs ys : List Nat} (h : xs.length = ys.length) (k : Nat) : gd (zx xs ys) k = gd xs k ^^^ gd ys k := by
  unfold zx
  rw [gd_map]
  by_cases hk : k < xs.length
  · rw [if_pos hk]
  · rw [if_neg hk, gd_out (by omega), gd_out (by omega)]
    rfl
theorem nxt_sum {b m : Nat} {g r q : List Nat} {w v : Nat} (hb : Wd b) (hg : Ws b g) (hr : Ws b r) (hq : Ws b q) (hl : r.length = q.length) (hw : w < span b) (hv : v < span b) : nxt b m g (zx r q) (w ^^^ v) = zx (nxt b m g r w) (nxt b m g q v) := by
  have e : zx (nxt b m g r w) (nxt b m g q v) = (List.range m).map fun k => gd (nxt b m g r w) k ^^^ gd (nxt b m g q v) k := by
    show (List.range (nxt b m g r w).length).map _ = _
    rw [nxt_len]
  rw [e]
  refine List.map_congr_left fun k hk => ?_
  have hk := List.mem_range.mp hk
  unfold nxt
  rw [gd_map, gd_map, if_pos hk, if_pos hk, gd_zx hl, gd_zx hl]
  have e2 : gd r 0 ^^^ gd q 0 ^^^ (w ^^^ v) = (gd r 0 ^^^ w) ^^^ (gd q 0 ^^^ v) := by ac_rfl
  rw [e2, mul_xor_r hb (xor_lt hb (gd_lt hb hr 0) hw) (xor_lt hb (gd_lt hb hq 0) hv) (gd_lt hb hg k)]
  ac_rfl
theorem chkF_sum {b m : Nat} {g : List Nat} (hb : Wd b) (hg : Ws b g) : ∀ (xs ys r q : List Nat), xs.length = ys.length → Ws b xs → Ws b ys → Ws b r → Ws b q → r.length = m → q.length = m →
    chkF b m g (zx r q) (List.zipWith (fun x y => x ^^^ y) xs ys) = zx (chkF b m g r xs) (chkF b m g q ys)
  | [], [], r, q, _, _, _, _, _, _, _ => rfl
  | [], _ :: _, _, _, h, _, _, _, _, _, _ => by cases h
  | _ :: _, [], _, _, h, _, _, _, _, _, _ => by cases h
  | x :: xs, y :: ys, r, q, h, hx, hy, hr, hq, l1, l2 => by
    have x1 := hx x (by simp)
    have y1 := hy y (by simp)
    show chkF b m g (nxt b m g (zx r q) (x ^^^ y)) (List.zipWith (fun x y => x ^^^ y) xs ys) = zx (chkF b m g (nxt b m g r x) xs) (chkF b m g (nxt b m g q y) ys)
    rw [nxt_sum hb hg hr hq (by omega) x1 y1]
    exact chkF_sum hb hg xs ys _ _ (Nat.succ.inj h) (fun z hz => hx z (by simp [hz])) (fun z hz => hy z (by simp [hz])) (nxt_ws hb hg hr) (nxt_ws hb hg hq) (nxt_len _ _ _ _ _) (nxt_len _ _ _ _ _)
theorem zx_zip {xs ys : List Nat} (h : xs.length = ys.length) : zx xs ys = List.zipWith (fun x y => x ^^^ y) xs ys := by
  refine List.ext_getElem? fun i => ?_
  unfold zx
  rw [List.getElem?_zipWith, List.getElem?_map]
  by_cases hi : i < xs.length
  · rw [List.getElem?_range hi, gd_in hi, gd_in (by omega : i < ys.length)]
    rfl
  · rw [List.getElem?_eq_none (by simp; omega), List.getElem?_eq_none (show xs.length ≤ i by omega)]
    rfl
theorem chk_sum {b s m : Nat} {xs ys : List Nat} (hb : Wd b) (hx : Ws b xs) (hy : Ws b ys) (hl : ys.length = xs.length) : chk b s m (zx xs ys) = zx (chk b s m xs) (chk b s m ys) := by
  have e : zx (List.replicate m 0) (List.replicate m 0) = List.replicate m 0 := by
    unfold zx
    have e2 : (fun k => gd (List.replicate m 0) k ^^^ gd (List.replicate m 0) k) = fun _ => 0 := by
      funext k
      exact Nat.xor_self _
    rw [e2, List.map_const', List.length_range, List.length_replicate]
  have h := chkF_sum (m := m) hb (cfL_ws (s := s) (m := m) hb) xs ys (List.replicate m 0) (List.replicate m 0) hl.symm hx hy (rep_ws hb) (rep_ws hb) (by simp) (by simp)
  rw [e, ← zx_zip hl.symm] at h
  exact h
end My

set_option Elab.async false
set_option linter.all false
set_option maxRecDepth 100000
set_option maxHeartbeats 4000000
namespace My
open PySem PySem.Spec PyProof.Rows L2
theorem evl_app {b t : Nat} {xs ys : List Nat} (hb : Wd b) (ht : t < span b) (hx : Ws b xs) (hy : Ws b ys) : evl b t (xs ++ ys) = mul b (evl b t xs) (powT b t ys.length) ^^^ evl b t ys := evl_app2 hb ht hx hy
/-! one or two check words are told by the noughts -/
theorem lgpw {b i : Nat} (hb : Wd b) (h : i < turn b) : lg b (pw b i) = i := by
  have q : ((List.range (turn b)).all fun i => Nat.beq (lg b (pw b i)) i) = true := by rcases hb with rfl | rfl <;> decide +kernel
  exact Nat.eq_of_beq_eq_true (List.all_eq_true.mp q i (List.mem_range.mpr h))
theorem pw_next {b i s : Nat} (hb : Wd b) : pw b (i + s) ≠ pw b (i + (s + 1)) := by
  intro h
  have ht := turn_pos hb
  rw [pw_mod hb (i + s), pw_mod hb (i + (s + 1))] at h
  have h2 := congrArg (lg b) h
  rw [lgpw hb (Nat.mod_lt _ ht), lgpw hb (Nat.mod_lt _ ht)] at h2
  rcases hb with rfl | rfl
  · rw [show turn 4 = 15 from rfl] at h2
    omega
  · rw [show turn 8 = 255 from rfl] at h2
    omega
theorem xor0 {a b : Nat} (h : a ^^^ b = 0) : a = b := by
  have e : a ^^^ b ^^^ b = 0 ^^^ b := by rw [h]
  rw [Nat.xor_assoc, Nat.xor_self, Nat.xor_zero, Nat.zero_xor] at e
  exact e
theorem two_zero {b s d e : Nat} (hb : Wd b) (hd : d < span b) (h1 : mul b d (pw b s) ^^^ e = 0) (h2 : mul b d (pw b (s + 1)) ^^^ e = 0) : d = 0 ∧ e = 0 := by
  have z1 := xor0 h1
  have z2 := xor0 h2
  by_cases h0 : d = 0
  · subst h0
    rw [zero_mul hb] at z1
    exact ⟨rfl, z1.symm⟩
  · exfalso
    have e1 := z1.trans z2.symm
    rw [← pw_lg hb hd h0, pw_mul hb, pw_mul hb] at e1
    exact pw_next hb e1
theorem nought_same {b s k : Nat} {ws r q : List Nat} (hb : Wd b) (hw : Ws b ws) (hr : Ws b r) (hq : Ws b q) (hl : r.length = q.length) (h1 : evl b (pw b (s + k)) (ws ++ r) = 0) (h2 : evl b (pw b (s + k)) (ws ++ q) = 0) : evl b (pw b (s + k)) r = evl b (pw b (s + k)) q := by
  have ht := pw_lt hb (s + k)
  rw [evl_app hb ht hw hr, hl] at h1
  rw [evl_app hb ht hw hq] at h2
  exact (xor0 h1).symm.trans (xor0 h2)
/-- one check word -/
theorem alone_one {b s x y : Nat} {ws : List Nat} (hb : Wd b) (hw : Ws b ws) (hx : x < span b) (hy : y < span b) (h1 : evl b (pw b (s + 0)) (ws ++ [x]) = 0) (h2 : evl b (pw b (s + 0)) (ws ++ [y]) = 0) : x = y := by
  have e := nought_same (r := [x]) (q := [y]) hb hw (fun z hz => by rw [List.mem_singleton.mp hz]; exact hx) (fun z hz => by rw [List.mem_singleton.mp hz]; exact hy) rfl h1 h2
  have g : ∀ {x : Nat}, evl b (pw b (s + 0)) [x] = x := fun {x} => by
    show mul b 0 _ ^^^ x = x
    rw [zero_mul hb, Nat.zero_xor]
  rw [g, g] at e
  exact e
/-- two check words -/
theorem alone_two {b s x y u v : Nat} {ws : List Nat} (hb : Wd b) (hw : Ws b ws) (hx : x < span b) (hy : y < span b) (hu : u < span b) (hv : v < span b)
    (h1 : ∀ k, k < 2 → evl b (pw b (s + k)) (ws ++ [x, y]) = 0) (h2 : ∀ k, k < 2 → evl b (pw b (s + k)) (ws ++ [u, v]) = 0) : x = u ∧ y = v := by
  have w1 : Ws b [x, y] := fun z hz => by
    simp at hz
    rcases hz with rfl | rfl
    · exact hx
    · exact hy
  have w2 : Ws b [u, v] := fun z hz => by
    simp at hz
    rcases hz with rfl | rfl
    · exact hu
    · exact hv
  have g : ∀ {t x y : Nat}, evl b t [x, y] = mul b x t ^^^ y := fun {t x y} => by
    show mul b (mul b 0 t ^^^ x) t ^^^ y = _
    rw [zero_mul hb, Nat.zero_xor]
  have q : ∀ k, k < 2 → mul b (x ^^^ u) (pw b (s + k)) ^^^ (y ^^^ v) = 0 := fun k hk => by
    have e := nought_same hb hw w1 w2 rfl (h1 k hk) (h2 k hk)
    rw [g, g] at e
    rw [mul_xor_l hb hx hu]
    generalize mul b x (pw b (s + k)) = p at e ⊢
    generalize mul b u (pw b (s + k)) = r at e ⊢
    have e2 : p ^^^ r ^^^ (y ^^^ v) = (p ^^^ y) ^^^ (r ^^^ v) := by ac_rfl
    rw [e2, e, Nat.xor_self]
  obtain ⟨z1, z2⟩ := two_zero hb (xor_lt hb hx hu) (q 0 (by decide)) (q 1 (by decide))
  exact ⟨xor0 z1, xor0 z2⟩
end My

set_option Elab.async false
set_option linter.all false
set_option maxRecDepth 100000
set_option maxHeartbeats 4000000
/-! ### range(n) as a value; not in a range -/
namespace My
open PySem PySem.Spec PyProof.Rows L2
def rNotRng : R2 := fun x y H Q => ∃ i a lo hi, x = V.int i ∧ y = V.ref a ∧ H a = some (.rng lo hi) ∧ Q (.bl (!decide (lo ≤ i ∧ i < hi))) H
theorem op_notIn_rng {X : Cx} : OpR X (compareOp .NotIn) rNotRng := by
  intro pins s σ H x y v u Q I rx ry h
  obtain ⟨i, a, lo, hi, rfl, rfl, ha, q⟩ := h
  obtain ⟨k, rfl⟩ := rx
  cases ry
  obtain ⟨t1, t2, t3, ho⟩ := I.hok a _ ha
  refine NotIn_slot ⟨_, ho, rfl⟩ F.slot_range_contains (call_meets F.slot_range_contains ⟨_, ho, rfl⟩ F.entry_range_contains (F.args_range_contains_2 _ _) (q_contains a lo hi i t1 t2 t3 k) ⟨ho, wpAny_truthy_bool ?_⟩)
  refine ⟨.bl _, H, I, rfl, ?_⟩
  rw [place1]
  exact q
def rRange1 : List V → Hp → VK → Prop := fun vs H Q => ∃ n, vs = [V.int n] ∧ ∀ p, H p = none → Q (.ref p) (upd H p (.rng 0 n))
theorem cr_range1 {X : Cx} : CallR X (.type "range") rRange1 := by
  intro pins s σ H vs us Q I r h
  obtain ⟨n, rfl, q⟩ := h
  cases r with
  | cons r1 r =>
    cases r
    obtain ⟨t, rfl⟩ := r1
    exact call_range_1 ⟨.ref s.heap.objs.size, upd H s.heap.objs.size (.rng 0 n), I.laid (fun b o e => Heap.get?_push_of_some _ e) (Nat.le_refl _) ⟨_, _, _, Heap.get?_push_size s.heap rfl⟩, rfl, q _ (I.hok.fresh (Nat.le_refl _))⟩
/-- two values the other way round -/
def rev2 {α : Type} : List α → List α
  | [a, b] => [b, a]
  | l => l
theorem rev2_rel {zs : List V} {ws : List Value} (r : Vals zs ws) : Vals (rev2 zs) (rev2 ws) := by
  cases r with
  | nil => exact .nil
  | cons r1 r =>
    cases r with
    | nil => exact .cons r1 .nil
    | cons r2 r =>
      cases r with
      | nil => exact .cons r2 (.cons r1 .nil)
      | cons r3 r => exact .cons r1 (.cons r2 (.cons r3 r))
end My

set_option Elab.async false
set_option linter.all false
set_option maxRecDepth 100000
set_option maxHeartbeats 4000000
/-! ### rows of plain words; values of polynomials by exponents -/
namespace My
open PySem PySem.Spec PyProof.Rows L2
theorem pt_truthK {X : Cx} {K : PySem.W.Frag} {a : Expr} {ta : TE} (h : X.K = K) (ha : PE X a ta) (he : ∀ whole, isTrue a X.env whole = (do let v ← whole; standAt a.pos; holding [v] (truthy v))) :
    PT X a (fun σ H Q => ta σ H fun x H' => ∃ k, TruV K x H' k ∧ Q k H') := by
  subst h
  exact pt_truth ha he
theorem SqB.truB {b : Bool} {K : PySem.W.Frag} {H : Hp} {a : Addr} {xs : List V} (h : SqB b K H a xs) : TruV K (.ref a) H (!xs.isEmpty) := by
  cases b
  · exact .inr (.inl ⟨xs, h, rfl⟩)
  · exact .inl ⟨xs, h, rfl⟩
theorem word_shr {b x : Nat} (hb : Wd b) (hx : x < span b) : ((x : Int) / 2 ^ ((b : Int)).toNat != 0) = false := by
  have e : ((x : Int) / 2 ^ ((b : Int)).toNat) = ((x / 2 ^ b : Nat) : Int) := by
    rw [Int.toNat_natCast]
    norm_cast
  rw [e, Nat.div_eq_of_lt (by rw [← span_pow hb]; exact hx)]
  rfl
theorem evl_at0 {b : Nat} (ws : List Nat) : evl b 0 ws = ws.getLastD 0 := by
  rcases List.eq_nil_or_concat ws with rfl | ⟨r, w, rfl⟩
  · rfl
  · rw [List.concat_eq_append, evl_snoc, mul_zero, Nat.zero_xor]
    simp
end My

set_option Elab.async false
set_option linter.all false
set_option maxRecDepth 100000
set_option maxHeartbeats 4000000
/-! ### right rows: sums, multiples, moved rows, one changed word -/
namespace My
theorem zero_lt {b : Nat} (hb : Wd b) : 0 < span b := by have := span_pos hb; omega
theorem evl_zx {b t : Nat} {ws os : List Nat} (hb : Wd b) (hl : ws.length = os.length) (hw : Ws b ws) (ho : Ws b os) : evl b t (zx ws os) = evl b t ws ^^^ evl b t os := by
  rw [zx_zip hl]
  have h := evF_zip (t := t) hb ws os 0 0 hl (zero_lt hb) (zero_lt hb) hw ho
  exact h
theorem zx_ws {b : Nat} {ws os : List Nat} (hb : Wd b) (hw : Ws b ws) (ho : Ws b os) : Ws b (zx ws os) := fun x hx => by
  obtain ⟨k, _, rfl⟩ := List.mem_map.mp hx
  exact xor_lt hb (gd_lt hb hw k) (gd_lt hb ho k)
theorem evl_mulL {b t p : Nat} {ws : List Nat} (hb : Wd b) (ht : t < span b) (hp : p < span b) (hw : Ws b ws) : evl b t (ws.map fun x => mul b x p) = mul b (evl b t ws) p := by
  have h := evF_mul hb ht hp ws 0 (zero_lt hb) hw
  rw [zero_mul hb] at h
  exact h
theorem powT_pw {b e : Nat} (hb : Wd b) : ∀ k, powT b (pw b e) k = pw b (e * k)
  | 0 => rfl
  | k + 1 => by
    show mul b (powT b (pw b e) k) (pw b e) = _
    rw [powT_pw hb k, pw_mul hb]
    rfl
/-- a row, each word times a power that grows by one from word to word -/
def mvL (b : Nat) (c : Int) (ws : List Nat) (n : Nat) : List Nat := (List.range n).map fun k => mul b (gd ws k) (pwI b ((k : Int) + c))
theorem mvL_ws {b n : Nat} {c : Int} {ws : List Nat} (hb : Wd b) (hw : Ws b ws) : Ws b (mvL b c ws n) := fun x hx => by
  obtain ⟨k, _, rfl⟩ := List.mem_map.mp hx
  exact mul_lt hb (gd_lt hb hw k)
theorem pwI_step {b t : Nat} (hb : Wd b) (e : Int) : mul b (pwI b (e - 1)) (pw b (t + 1)) = mul b (pw b t) (pwI b e) := by
  rw [mul_comm hb (pwI_lt hb _) (pw_lt hb _), ← pwI_add hb, ← pwI_add hb]
  congr 1
  omega
theorem take_snoc {ws : List Nat} {i : Nat} (h : i < ws.length) : ws.take (i + 1) = ws.take i ++ [gd ws i] := by
  rw [List.take_add_one, gd_in h]
  rfl
theorem evl_mv {b t : Nat} {c : Int} {ws : List Nat} (hb : Wd b) (hw : Ws b ws) : ∀ i, i ≤ ws.length → evl b (pw b (t + 1)) (mvL b c ws i) = mul b (evl b (pw b t) (ws.take i)) (pwI b ((i : Int) - 1 + c))
  | 0, _ => (zero_mul hb).symm
  | i + 1, h => by
    have ih := evl_mv (t := t) (c := c) hb hw i (by omega)
    have wt : Ws b (ws.take i) := fun x hx => hw x (List.mem_of_mem_take hx)
    have e1 : mvL b c ws (i + 1) = mvL b c ws i ++ [mul b (gd ws i) (pwI b ((i : Int) + c))] := by
      unfold mvL
      rw [List.range_succ, List.map_append]
      rfl
    rw [e1, evl_snoc, take_snoc (by omega), evl_snoc, ih]
    have lE := evl_lt (t := pw b t) hb wt
    have lw := gd_lt hb hw i
    have e2 : ((i + 1 : Nat) : Int) - 1 + c = (i : Int) + c := by omega
    rw [e2, mul_xor_l hb (mul_lt hb lE) lw, mul_assoc hb lE (pwI_lt hb _) (pw_lt hb _), mul_assoc hb lE (pw_lt hb _) (pwI_lt hb _)]
    have e3 : (i : Int) - 1 + c = ((i : Int) + c) - 1 := by omega
    rw [e3, pwI_step hb]
theorem evl_moved {b t : Nat} {ws : List Nat} (hb : Wd b) (hw : Ws b ws) : evl b (pw b (t + 1)) (mvL b (1 - (ws.length : Int)) ws ws.length) = evl b (pw b t) ws := by
  rw [evl_mv hb hw _ (Nat.le_refl _), List.take_length]
  have e : ((ws.length : Int) - 1 + (1 - (ws.length : Int))) = ((0 : Nat) : Int) := by omega
  rw [e, pwI_nat hb]
  exact mul_one hb (evl_lt hb hw)
theorem drop_at {ws : List Nat} {i : Nat} (h : i < ws.length) : ws = ws.take i ++ gd ws i :: ws.drop (i + 1) := by
  have e := (List.take_append_drop i ws).symm
  rw [List.drop_eq_getElem_cons h] at e
  have e2 : ws[i] = gd ws i := by
    have := gd_in h
    rw [List.getElem?_eq_getElem h] at this
    exact Option.some.inj this
  rw [e2] at e
  exact e
/-- a row with one word changed -/
theorem evl_bent {b t x at' : Nat} {ws : List Nat} (hb : Wd b) (ht : t < span b) (hw : Ws b ws) (hx : x < span b) (h : at' < ws.length) :
    evl b t (ws.take at' ++ (gd ws at' ^^^ x) :: ws.drop (at' + 1)) = evl b t ws ^^^ mul b x (powT b t (ws.length - 1 - at')) := by
  have hA : Ws b (ws.take at') := fun y hy => hw y (List.mem_of_mem_take hy)
  have hR : Ws b (ws.drop (at' + 1)) := fun y hy => hw y (List.mem_of_mem_drop hy)
  have lw := gd_lt hb hw at'
  have c1 : Ws b ((gd ws at' ^^^ x) :: ws.drop (at' + 1)) := fun y hy => by
    rcases List.mem_cons.mp hy with rfl | hy
    · exact xor_lt hb lw hx
    · exact hR y hy
  have c2 : Ws b (gd ws at' :: ws.drop (at' + 1)) := fun y hy => by
    rcases List.mem_cons.mp hy with rfl | hy
    · exact lw
    · exact hR y hy
  have e0 : evl b t ws = evl b t (ws.take at' ++ gd ws at' :: ws.drop (at' + 1)) := by rw [← drop_at h]
  rw [e0, evl_app2 hb ht hA c1, evl_app2 hb ht hA c2, evl_cons hb ht (xor_lt hb lw hx) hR, evl_cons hb ht lw hR, mul_xor_l hb lw hx]
  simp only [List.length_cons]
  have e : (ws.drop (at' + 1)).length = ws.length - 1 - at' := by rw [List.length_drop]; omega
  rw [e]
  ac_rfl
theorem mul_ne {b x y : Nat} (hb : Wd b) (hx : x < span b) (hy : y < span b) (h0 : x ≠ 0) (h1 : y ≠ 0) : mul b x y ≠ 0 := by
  rw [← pw_lg hb hx h0, ← pw_lg hb hy h1, pw_mul hb]
  exact pw_ne hb _
end My
namespace My
open PySem PySem.Spec PyProof.Rows L2
theorem cut_to (xs : List V) (k : Nat) (h : k ≤ xs.length) : cutV xs none (some (k : Int)) = xs.take k := by
  unfold cutV
  rw [HT.sIx_none, HT.sIx_nat, Nat.min_eq_left h, List.drop_zero, Nat.sub_zero]
theorem bent_set {ws : List Nat} {i x : Nat} (h : i < ws.length) : (ws.take i ++ x :: ws.drop (i + 1)).set i (gd ws i) = ws := by
  have hl : (ws.take i).length = i := by rw [List.length_take]; omega
  rw [List.set_append_right _ _ (by omega), hl, Nat.sub_self, List.set_cons_zero]
  exact (drop_at h).symm
end My

set_option Elab.async false
set_option linter.all false
set_option maxRecDepth 100000
set_option maxHeartbeats 4000000
/-! ### decoding: sums of powers, the shortest rule, wrong words -/
namespace My
def xl : List Nat → Nat
  | [] => 0
  | x :: r => x ^^^ xl r
theorem xl_app : ∀ xs ys : List Nat, xl (xs ++ ys) = xl xs ^^^ xl ys
  | [], ys => (Nat.zero_xor _).symm
  | x :: r, ys => by
    show x ^^^ xl (r ++ ys) = x ^^^ xl r ^^^ xl ys
    rw [xl_app r ys, Nat.xor_assoc]
theorem xl_lt {b : Nat} (hb : Wd b) : ∀ xs : List Nat, Ws b xs → xl xs < span b
  | [], _ => zero_lt hb
  | x :: r, h => xor_lt hb (h x (List.mem_cons_self ..)) (xl_lt hb r fun y hy => h y (List.mem_cons_of_mem _ hy))
theorem xl_zero {α : Type} {f : α → Nat} : ∀ xs : List α, (∀ x ∈ xs, f x = 0) → xl (xs.map f) = 0
  | [], _ => rfl
  | x :: r, h => by
    show f x ^^^ xl (r.map f) = 0
    rw [h x (List.mem_cons_self ..), xl_zero r fun y hy => h y (List.mem_cons_of_mem _ hy)]
    rfl
/-- points: a place and a share -/
def PtOk (b : Nat) (pts : List (Nat × Nat)) : Prop := ∀ p ∈ pts, p.1 < span b ∧ p.2 < span b
def ps (b : Nat) (pts : List (Nat × Nat)) (j : Nat) : Nat := xl (pts.map fun p => mul b p.2 (powT b p.1 j))
theorem ps_cons (b : Nat) (p : Nat × Nat) (r : List (Nat × Nat)) (j : Nat) : ps b (p :: r) j = mul b p.2 (powT b p.1 j) ^^^ ps b r j := rfl
theorem PtOk.tail {b : Nat} {p : Nat × Nat} {r : List (Nat × Nat)} (h : PtOk b (p :: r)) : PtOk b r := fun q hq => h q (List.mem_cons_of_mem _ hq)
theorem PtOk.head {b : Nat} {p : Nat × Nat} {r : List (Nat × Nat)} (h : PtOk b (p :: r)) : p.1 < span b ∧ p.2 < span b := h p (List.mem_cons_self ..)
theorem ps_lt {b : Nat} (hb : Wd b) {pts : List (Nat × Nat)} (h : PtOk b pts) (j : Nat) : ps b pts j < span b := by
  refine xl_lt hb _ fun x hx => ?_
  obtain ⟨p, hp, rfl⟩ := List.mem_map.mp hx
  exact mul_lt hb (h p hp).2
theorem ps_zero {b : Nat} (hb : Wd b) {pts : List (Nat × Nat)} (h : ∀ p ∈ pts, p.2 = 0) (j : Nat) : ps b pts j = 0 :=
  xl_zero _ fun p hp => by rw [h p hp]; exact zero_mul hb
def sh (b X : Nat) (pts : List (Nat × Nat)) : List (Nat × Nat) := pts.map fun p => (p.1, mul b p.2 (p.1 ^^^ X))
def opX (b X : Nat) (f : Nat → Nat) : Nat → Nat := fun j => f (j + 1) ^^^ mul b (f j) X
theorem sh_ok {b X : Nat} (hb : Wd b) {pts : List (Nat × Nat)} (h : PtOk b pts) : PtOk b (sh b X pts) := fun q hq => by
  obtain ⟨p, hp, rfl⟩ := List.mem_map.mp hq
  exact ⟨(h p hp).1, mul_lt hb (h p hp).2⟩
theorem sh_fst (b X : Nat) (pts : List (Nat × Nat)) : (sh b X pts).map (·.1) = pts.map (·.1) := by
  unfold sh
  rw [List.map_map]
  rfl
theorem ps_sh {b X : Nat} (hb : Wd b) (hX : X < span b) : ∀ (pts : List (Nat × Nat)) (j : Nat), PtOk b pts → ps b (sh b X pts) j = opX b X (ps b pts) j
  | [], j, _ => by
    show (0 : Nat) = 0 ^^^ mul b 0 X
    rw [zero_mul hb]
    rfl
  | p :: r, j, h => by
    have ih := ps_sh hb hX r j h.tail
    obtain ⟨h1, h2⟩ := h.head
    have hP := powT_lt (t := p.1) hb j
    have l1 := ps_lt hb h.tail j
    show mul b (mul b p.2 (p.1 ^^^ X)) (powT b p.1 j) ^^^ ps b (sh b X r) j = (mul b p.2 (mul b (powT b p.1 j) p.1) ^^^ ps b r (j + 1)) ^^^ mul b (mul b p.2 (powT b p.1 j) ^^^ ps b r j) X
    rw [ih, mul_assoc hb h2 (xor_lt hb h1 hX) hP, mul_comm hb (xor_lt hb h1 hX) hP, mul_xor_r hb h1 hX hP, mul_xor_r hb (mul_lt hb hP) (mul_lt hb hP) h2, mul_xor_l hb (mul_lt hb h2) l1, mul_assoc hb h2 hP hX]
    unfold opX
    ac_rfl
theorem xor_ne {x y : Nat} (h : x ≠ y) : x ^^^ y ≠ 0 := fun e => h (xor00 e)
theorem mul_eq0 {b x y : Nat} (hb : Wd b) (hx : x < span b) (hy : y < span b) (h : mul b x y = 0) (h1 : y ≠ 0) : x = 0 :=
  Classical.byContradiction fun h0 => mul_ne hb hx hy h0 h1 h
/-- points that sum up to nothing, as often as they are many, are nothing -/
theorem vander {b : Nat} (hb : Wd b) : ∀ (n : Nat) (pts : List (Nat × Nat)), pts.length = n → PtOk b pts → (pts.map (·.1)).Nodup → (∀ j, j < n → ps b pts j = 0) → ∀ p ∈ pts, p.2 = 0
  | 0, pts, hl, _, _, _, p, hp => by
    rw [List.length_eq_zero_iff.mp hl] at hp
    cases hp
  | n + 1, [], hl, _, _, _, _, _ => by cases hl
  | n + 1, p :: r, hl, hok, hnd, h, q, hq => by
    obtain ⟨h1, h2⟩ := hok.head
    have hlr : r.length = n := by simpa using hl
    rw [List.map_cons, List.nodup_cons] at hnd
    have z : ∀ j, j < n → ps b (sh b p.1 r) j = 0 := fun j hj => by
      have e := ps_sh hb h1 (p :: r) j hok
      have e2 : opX b p.1 (ps b (p :: r)) j = 0 := by
        unfold opX
        rw [h j (by omega), h (j + 1) (by omega), zero_mul hb]
        rfl
      rw [e2] at e
      have e3 : ps b (sh b p.1 (p :: r)) j = mul b (mul b p.2 (p.1 ^^^ p.1)) (powT b p.1 j) ^^^ ps b (sh b p.1 r) j := rfl
      rw [e3, Nat.xor_self, mul_zero, zero_mul hb, Nat.zero_xor] at e
      exact e
    have ih := vander hb n (sh b p.1 r) (by unfold sh; rw [List.length_map]; exact hlr) (sh_ok hb hok.tail) (by rw [sh_fst]; exact hnd.2) z
    have zr : ∀ s ∈ r, s.2 = 0 := fun s hs => by
      have e : mul b s.2 (s.1 ^^^ p.1) = 0 := ih (s.1, mul b s.2 (s.1 ^^^ p.1)) (List.mem_map.mpr ⟨s, hs, rfl⟩)
      have o := hok.tail s hs
      exact mul_eq0 hb o.2 (xor_lt hb o.1 h1) e (xor_ne fun e2 => hnd.1 (List.mem_map.mpr ⟨s, hs, e2⟩))
    rcases List.mem_cons.mp hq with rfl | hq
    · have e := h 0 (by omega)
      rw [ps_cons, ps_zero hb zr, Nat.xor_zero] at e
      have e2 : mul b q.2 1 = 0 := e
      rw [mul_one hb h2] at e2
      exact e2
    · exact zr q hq
/-! sums over ranges -/
theorem xsum_tail {n m : Nat} {f : Nat → Nat} (h : n ≤ m) (z : ∀ k, n ≤ k → k < m → f k = 0) : xsum m f = xsum n f := by
  induction m with
  | zero => rw [Nat.le_zero.mp h]
  | succ m ih =>
    rcases Nat.lt_or_ge m n with h1 | h1
    · rw [show n = m + 1 by omega]
    · rw [xsum_succ, z m h1 (by omega), Nat.xor_zero]
      exact ih h1 fun k a c => z k a (by omega)
theorem xsum_xor (n : Nat) (f g : Nat → Nat) : xsum n (fun k => f k ^^^ g k) = xsum n f ^^^ xsum n g := by
  induction n with
  | zero =>
    show (0 : Nat) = 0 ^^^ 0
    rfl
  | succ n ih =>
    rw [xsum_succ, xsum_succ, xsum_succ, ih]
    ac_rfl
theorem xsum_mul {b x : Nat} (hb : Wd b) (hx : x < span b) {f : Nat → Nat} : ∀ n, (∀ k, k < n → f k < span b) → xsum n (fun k => mul b x (f k)) = mul b x (xsum n f)
  | 0, _ => mul_zero.symm
  | n + 1, h => by
    rw [xsum_succ, xsum_succ, xsum_mul hb hx n fun k hk => h k (by omega), mul_xor_r hb (xsum_lt hb fun k hk => h k (by omega)) (h n (by omega)) hx]
theorem xsum_shift (a : Nat) (g : Nat → Nat) : ∀ n, xsum (a + n) (fun k => if a ≤ k then g (k - a) else 0) = xsum n g
  | 0 => xsum_tail (f := fun k => if a ≤ k then g (k - a) else 0) (Nat.zero_le _) fun k _ hk => if_neg (by omega)
  | n + 1 => by
    rw [← Nat.add_assoc, xsum_succ, xsum_shift a g n, if_pos (by omega), Nat.add_sub_cancel_left, xsum_succ]
/-- a rule laid over a row -/
def cv (b : Nat) (C : List Nat) (T : Nat → Nat) (j : Nat) : Nat := xsum (j + 1) fun k => mul b (gd C k) (T (j - k))
theorem cv_min {b : Nat} (hb : Wd b) (C : List Nat) (T : Nat → Nat) (j : Nat) : xsum (min C.length (j + 1)) (fun k => mul b (gd C k) (T (j - k))) = cv b C T j := by
  unfold cv
  refine (xsum_tail (by omega) fun k h1 h2 => ?_).symm
  rw [gd_out (by omega)]
  exact zero_mul hb
theorem cv_congr {b : Nat} {C : List Nat} {f g : Nat → Nat} {j : Nat} (h : ∀ i, i ≤ j → f i = g i) : cv b C f j = cv b C g j :=
  xsum_congr fun k _ => by rw [h _ (by omega)]
theorem cv_add {b : Nat} (hb : Wd b) {C : List Nat} (hC : Ws b C) {f g : Nat → Nat} (hf : ∀ i, f i < span b) (hg : ∀ i, g i < span b) (j : Nat) : cv b C (fun i => f i ^^^ g i) j = cv b C f j ^^^ cv b C g j := by
  unfold cv
  rw [← xsum_xor]
  exact xsum_congr fun k _ => mul_xor_r hb (hf _) (hg _) (gd_lt hb hC k)
theorem gd_snoc (r : List Nat) (c k : Nat) : gd (r ++ [c]) k = if k = r.length then c else gd r k := by
  unfold gd
  rw [List.getD_eq_getElem?_getD, List.getD_eq_getElem?_getD]
  by_cases h : k = r.length
  · rw [if_pos h, h]
    simp
  · rw [if_neg h]
    by_cases h2 : k < r.length
    · rw [List.getElem?_append_left h2]
    · rw [List.getElem?_eq_none (by simp; omega), List.getElem?_eq_none (by omega)]
theorem cv_pt {b A X : Nat} (hb : Wd b) (hA : A < span b) (hX : X < span b) : ∀ (n : Nat) (C : List Nat) (d : Nat), C.length = n → Ws b C → xsum n (fun k => mul b (gd C k) (mul b A (powT b X (n - 1 + d - k)))) = mul b (mul b A (powT b X d)) (evl b X C)
  | 0, C, d, hl, _ => by
    rw [List.length_eq_zero_iff.mp hl]
    exact mul_zero.symm
  | n + 1, C, d, hl, hC => by
    rcases List.eq_nil_or_concat C with rfl | ⟨r, c, rfl⟩
    · cases hl
    rw [List.concat_eq_append] at hl hC ⊢
    have hlr : r.length = n := by simpa using hl
    have hr : Ws b r := fun x hx => hC x (List.mem_append_left _ hx)
    have hc : c < span b := hC c (List.mem_append_right _ (List.mem_singleton_self _))
    have ih := cv_pt hb hA hX n r (d + 1) hlr hr
    have e : xsum n (fun k => mul b (gd (r ++ [c]) k) (mul b A (powT b X (n + 1 - 1 + d - k)))) = xsum n (fun k => mul b (gd r k) (mul b A (powT b X (n - 1 + (d + 1) - k)))) := by
      refine xsum_congr fun k hk => ?_
      rw [gd_snoc, if_neg (by omega), show n + 1 - 1 + d - k = n - 1 + (d + 1) - k by omega]
    have hR := evl_lt (t := X) hb hr
    have hP := powT_lt (t := X) hb d
    have hAP := mul_lt (y := powT b X d) hb hA
    rw [xsum_succ, e, ih, gd_snoc, if_pos hlr.symm, evl_snoc, show n + 1 - 1 + d - n = d by omega, mul_xor_r hb (mul_lt hb hR) hc hAP, mul_comm hb hc hAP]
    congr 1
    show mul b (mul b A (mul b (powT b X d) X)) (evl b X r) = mul b (mul b A (powT b X d)) (mul b (evl b X r) X)
    rw [← mul_assoc hb hA hP hX, mul_assoc hb hAP hX hR, mul_comm hb hX hR]
def evp (b : Nat) (C : List Nat) (pts : List (Nat × Nat)) : List (Nat × Nat) := pts.map fun p => (p.1, mul b p.2 (evl b p.1 C))
theorem evp_ok {b : Nat} (hb : Wd b) {C : List Nat} {pts : List (Nat × Nat)} (h : PtOk b pts) : PtOk b (evp b C pts) := fun q hq => by
  obtain ⟨p, hp, rfl⟩ := List.mem_map.mp hq
  exact ⟨(h p hp).1, mul_lt hb (h p hp).2⟩
theorem cv_zero {b : Nat} (C : List Nat) (j : Nat) : cv b C (fun _ => 0) j = 0 := by
  unfold cv
  rw [xsum_tail (n := 0) (Nat.zero_le _) fun k _ _ => mul_zero]
  rfl
theorem cv_ps {b : Nat} (hb : Wd b) {C : List Nat} (hC : Ws b C) (h0 : 0 < C.length) (d : Nat) : ∀ pts, PtOk b pts → cv b C (ps b pts) (C.length - 1 + d) = ps b (evp b C pts) d
  | [], _ => cv_zero _ _
  | p :: r, h => by
    obtain ⟨h1, h2⟩ := h.head
    have ih := cv_ps hb hC h0 d r h.tail
    have e1 : cv b C (ps b (p :: r)) (C.length - 1 + d) = cv b C (fun j => mul b p.2 (powT b p.1 j)) (C.length - 1 + d) ^^^ cv b C (ps b r) (C.length - 1 + d) :=
      cv_add hb hC (fun i => mul_lt hb h2) (fun i => ps_lt hb h.tail i) _
    have e2 : cv b C (fun j => mul b p.2 (powT b p.1 j)) (C.length - 1 + d) = mul b (mul b p.2 (evl b p.1 C)) (powT b p.1 d) := by
      rw [← cv_min hb, Nat.min_eq_left (by omega), cv_pt hb h2 h1 _ C d rfl hC]
      exact mul_swap hb h2 (powT_lt hb d) (evl_lt hb hC)
    rw [e1, e2, ih]
    rfl
theorem powT_add {b t : Nat} (hb : Wd b) (ht : t < span b) (e : Nat) : ∀ d, powT b t (e + d) = mul b (powT b t e) (powT b t d)
  | 0 => (mul_one hb (powT_lt hb e)).symm
  | d + 1 => by
    show mul b (powT b t (e + d)) t = mul b (powT b t e) (mul b (powT b t d) t)
    rw [powT_add hb ht e d, mul_assoc hb (powT_lt hb e) (powT_lt hb d) ht]
def upE (b e : Nat) (pts : List (Nat × Nat)) : List (Nat × Nat) := pts.map fun p => (p.1, mul b p.2 (powT b p.1 e))
theorem ps_up {b e : Nat} (hb : Wd b) (d : Nat) : ∀ pts, PtOk b pts → ps b pts (e + d) = ps b (upE b e pts) d
  | [], _ => rfl
  | p :: r, h => by
    obtain ⟨h1, h2⟩ := h.head
    rw [ps_cons, ps_up hb d r h.tail, powT_add hb h1, ← mul_assoc hb h2 (powT_lt hb e) (powT_lt hb d)]
    rfl
theorem upE_ok {b e : Nat} (hb : Wd b) {pts : List (Nat × Nat)} (h : PtOk b pts) : PtOk b (upE b e pts) := fun q hq => by
  obtain ⟨p, hp, rfl⟩ := List.mem_map.mp hq
  exact ⟨(h p hp).1, mul_lt hb (h p hp).2⟩
/-- a rule that holds as often as there are points holds for good -/
theorem rule_all {b L : Nat} (hb : Wd b) {C : List Nat} {pts : List (Nat × Nat)} (hC : Ws b C) (h0 : 0 < C.length) (hL : C.length ≤ L + 1) (hok : PtOk b pts) (hnd : (pts.map (·.1)).Nodup)
    (z : ∀ j, L ≤ j → j < L + pts.length → cv b C (ps b pts) j = 0) : ∀ p ∈ upE b (L - (C.length - 1)) (evp b C pts), p.2 = 0 := by
  have e : ∀ d, cv b C (ps b pts) (L + d) = ps b (upE b (L - (C.length - 1)) (evp b C pts)) d := fun d => by
    rw [← ps_up hb d _ (evp_ok hb hok), ← cv_ps hb hC h0 _ _ hok]
    congr 1
    omega
  refine vander hb pts.length _ (by unfold upE evp; simp) (upE_ok hb (evp_ok hb hok)) ?_ fun j hj => ?_
  · unfold upE evp
    rw [List.map_map, List.map_map]
    exact hnd
  · rw [← e]
    exact z _ (by omega) (by omega)
theorem rule_on {b L j : Nat} (hb : Wd b) {C : List Nat} {pts : List (Nat × Nat)} (hC : Ws b C) (h0 : 0 < C.length) (hL : C.length ≤ L + 1) (hok : PtOk b pts) (hnd : (pts.map (·.1)).Nodup)
    (z : ∀ j, L ≤ j → j < L + pts.length → cv b C (ps b pts) j = 0) (hj : L ≤ j) : cv b C (ps b pts) j = 0 := by
  have h := rule_all hb hC h0 hL hok hnd z
  rw [show j = C.length - 1 + (L - (C.length - 1) + (j - L)) by omega, cv_ps hb hC h0 _ _ hok, ps_up hb _ _ (evp_ok hb hok)]
  exact ps_zero hb h _
theorem powT_ne {b t : Nat} (hb : Wd b) (ht : t < span b) (h0 : t ≠ 0) : ∀ n, powT b t n ≠ 0
  | 0 => by
    show (1 : Nat) ≠ 0
    decide
  | n + 1 => mul_ne hb (powT_lt hb n) ht (powT_ne hb ht h0 n) h0
theorem rule_roots {b L : Nat} (hb : Wd b) {C : List Nat} {pts : List (Nat × Nat)} (hC : Ws b C) (h0 : 0 < C.length) (hL : C.length ≤ L + 1) (hok : PtOk b pts) (hnd : (pts.map (·.1)).Nodup)
    (hne : ∀ p ∈ pts, p.1 ≠ 0 ∧ p.2 ≠ 0) (z : ∀ j, L ≤ j → j < L + pts.length → cv b C (ps b pts) j = 0) : ∀ p ∈ pts, evl b p.1 C = 0 := fun p hp => by
  have h := rule_all hb hC h0 hL hok hnd z (p.1, mul b (mul b p.2 (evl b p.1 C)) (powT b p.1 (L - (C.length - 1)))) (List.mem_map.mpr ⟨_, List.mem_map.mpr ⟨p, hp, rfl⟩, rfl⟩)
  have o := hok p hp
  have n := hne p hp
  have h1 := mul_eq0 hb (mul_lt hb o.2) (powT_lt hb _) h (powT_ne hb o.1 n.1 _)
  refine Classical.byContradiction fun h2 => n.2 (mul_eq0 hb o.2 (evl_lt hb hC) h1 h2)
end My

set_option Elab.async false
set_option linter.all false
set_option maxRecDepth 100000
set_option maxHeartbeats 4000000
/-! ### the shortest rule -/
namespace My
theorem evl_one' {b x w : Nat} (hb : Wd b) : evl b x [w] = w := by
  have h := evl_snoc (b := b) (t := x) (w := w) (r := [])
  rw [List.nil_append] at h
  rw [h]
  show mul b 0 x ^^^ w = w
  rw [zero_mul hb, Nat.zero_xor]
theorem divide {b a : Nat} (hb : Wd b) (ha : a < span b) : ∀ (n : Nat) (ws : List Nat), ws.length = n + 1 → Ws b ws →
    ∃ q : List Nat, q.length = n ∧ Ws b q ∧ (0 < n → gd q 0 = gd ws 0) ∧ ∀ x, x < span b → evl b x ws = mul b (evl b x q) (x ^^^ a) ^^^ evl b a ws
  | 0, ws, hl, hw => by
    match ws, hl with
    | [w], _ =>
      refine ⟨[], rfl, (fun x hx => nomatch hx), fun h => absurd h (Nat.lt_irrefl _), fun x _ => ?_⟩
      rw [evl_one' hb, evl_one' hb]
      show w = mul b 0 (x ^^^ a) ^^^ w
      rw [zero_mul hb, Nat.zero_xor]
  | n + 1, ws, hl, hw => by
    rcases List.eq_nil_or_concat ws with rfl | ⟨r, c, rfl⟩
    · cases hl
    rw [List.concat_eq_append] at hl hw ⊢
    have hlr : r.length = n + 1 := by simpa using hl
    have hr : Ws b r := fun x hx => hw x (List.mem_append_left _ hx)
    have hc : c < span b := hw c (List.mem_append_right _ (List.mem_singleton_self _))
    obtain ⟨q, q1, q2, q3, q4⟩ := divide hb ha n r hlr hr
    have hR := evl_lt (t := a) hb hr
    refine ⟨q ++ [evl b a r], by rw [List.length_append, q1]; rfl, fun x hx => ?_, fun _ => ?_, fun x hx => ?_⟩
    · rcases List.mem_append.mp hx with h | h
      · exact q2 x h
      · rw [List.mem_singleton.mp h]
        exact hR
    · rw [gd_snoc, gd_snoc, if_neg (show ¬ 0 = r.length by omega)]
      by_cases h : 0 = q.length
      · rw [if_pos h]
        match r, hlr with
        | [w], _ => exact evl_one' hb
        | _ :: _ :: _, h2 =>
          simp at h2
          omega
      · rw [if_neg h]
        exact q3 (by omega)
    · rw [evl_snoc, evl_snoc, evl_snoc, q4 x hx]
      have hQ := evl_lt (t := x) hb q2
      have hxa := xor_lt hb hx ha
      rw [mul_xor_l hb (mul_lt hb hQ) hR, mul_xor_l hb (mul_lt hb hQ) hR, mul_xor_r hb hx ha hR, mul_assoc hb hQ hxa hx, mul_comm hb hxa hx, ← mul_assoc hb hQ hx hxa]
      have e : ∀ u v w z : Nat, u ^^^ v ^^^ z = u ^^^ (v ^^^ w) ^^^ (w ^^^ z) := fun u v w z => by
        have : u ^^^ (v ^^^ w) ^^^ (w ^^^ z) = u ^^^ v ^^^ z ^^^ (w ^^^ w) := by ac_rfl
        rw [this, Nat.xor_self, Nat.xor_zero]
      exact e _ _ _ _
theorem root_bound {b : Nat} (hb : Wd b) : ∀ (n : Nat) (ws xs : List Nat), ws.length = n + 1 → Ws b ws → gd ws 0 ≠ 0 → xs.Nodup → (∀ x ∈ xs, x < span b ∧ evl b x ws = 0) → xs.length ≤ n
  | n, ws, [], _, _, _, _, _ => Nat.zero_le _
  | 0, ws, a :: r, hl, _, h0, _, h => by
    match ws, hl with
    | [w], _ =>
      have e := (h a (List.mem_cons_self ..)).2
      rw [evl_one' hb] at e
      exact absurd e h0
  | n + 1, ws, a :: r, hl, hw, h0, hnd, h => by
    rw [List.nodup_cons] at hnd
    obtain ⟨ha, ea⟩ := h a (List.mem_cons_self ..)
    obtain ⟨q, q1, q2, q3, q4⟩ := divide hb ha (n + 1) ws hl hw
    have ih := root_bound hb n q r q1 q2 (by rw [q3 (by omega)]; exact h0) hnd.2 fun x hx => by
      obtain ⟨lx, ex⟩ := h x (List.mem_cons_of_mem _ hx)
      have e := q4 x lx
      rw [ex, ea, Nat.xor_zero] at e
      exact ⟨lx, mul_eq0 hb (evl_lt hb q2) (xor_lt hb lx ha) e.symm (xor_ne fun e2 => hnd.1 (e2 ▸ hx))⟩
    rw [List.length_cons]
    omega
/-- a rule, mended by another one that failed before -/
def corrL (b : Nat) (C B : List Nat) (s f : Nat) : List Nat := (List.range (max C.length (B.length + s))).map fun k => gd C k ^^^ (if s ≤ k then mul b f (gd B (k - s)) else 0)
theorem corrL_len (b : Nat) (C B : List Nat) (s f : Nat) : (corrL b C B s f).length = max C.length (B.length + s) := by unfold corrL; simp
theorem corrL_gd {b : Nat} {C B : List Nat} {s f : Nat} (k : Nat) : gd (corrL b C B s f) k = gd C k ^^^ (if s ≤ k then mul b f (gd B (k - s)) else 0) := by
  unfold corrL
  rw [gd_map]
  split
  · rfl
  · next h =>
    rw [gd_out (by omega)]
    split
    · rw [gd_out (by omega), mul_zero]
      rfl
    · rfl
theorem corrL_ws {b : Nat} {C B : List Nat} {s f : Nat} (hb : Wd b) (hC : Ws b C) (hf : f < span b) : Ws b (corrL b C B s f) := fun x hx => by
  obtain ⟨k, _, rfl⟩ := List.mem_map.mp hx
  refine xor_lt hb (gd_lt hb hC k) ?_
  split
  · exact mul_lt hb hf
  · exact zero_lt hb
theorem cv_lt {b : Nat} (hb : Wd b) {C : List Nat} (hC : Ws b C) {T : Nat → Nat} (j : Nat) : cv b C T j < span b := xsum_lt hb fun k _ => mul_lt hb (gd_lt hb hC k)
theorem cv_corr {b : Nat} {C B : List Nat} {s f : Nat} {T : Nat → Nat} (hb : Wd b) (hC : Ws b C) (hB : Ws b B) (hf : f < span b) (hT : ∀ i, T i < span b) (j : Nat) :
    cv b (corrL b C B s f) T j = cv b C T j ^^^ (if s ≤ j then mul b f (cv b B T (j - s)) else 0) := by
  have e1 : cv b (corrL b C B s f) T j = cv b C T j ^^^ xsum (j + 1) (fun k => if s ≤ k then mul b f (mul b (gd B (k - s)) (T (j - s - (k - s)))) else 0) := by
    unfold cv
    rw [← xsum_xor]
    refine xsum_congr fun k hk => ?_
    rw [corrL_gd, mul_xor_l hb (gd_lt hb hC k)]
    · congr 1
      split
      · rw [mul_assoc hb hf (gd_lt hb hB _) (hT _), show j - s - (k - s) = j - k by omega]
      · exact zero_mul hb
    · split
      · exact mul_lt hb hf
      · exact zero_lt hb
  rw [e1]
  congr 1
  split
  · next h =>
    rw [show j + 1 = s + (j - s + 1) by omega, xsum_shift s (fun i => mul b f (mul b (gd B i) (T (j - s - i))))]
    exact xsum_mul hb hf _ fun k _ => mul_lt hb (gd_lt hb hB k)
  · next h => exact xsum_tail (n := 0) (f := fun k => if s ≤ k then mul b f (mul b (gd B (k - s)) (T (j - s - (k - s)))) else 0) (Nat.zero_le _) fun k _ hk => if_neg (by omega)
structure Bm where
  C : List Nat
  B : List Nat
  L : Nat
  s : Nat
  d : Nat
def missF (b : Nat) (S : List Nat) (i : Nat) (C : List Nat) : Nat := xsum (min C.length (i + 1)) fun k => mul b (gd C k) (gd S (i - k))
def bmStep (b : Nat) (S : List Nat) (i : Nat) (z : Bm) : Bm :=
  if missF b S i z.C = 0 then ⟨z.C, z.B, z.L, z.s + 1, z.d⟩
  else if 2 * z.L ≤ i then ⟨corrL b z.C z.B z.s (quo b (missF b S i z.C) z.d), z.C, i + 1 - z.L, 1, missF b S i z.C⟩
  else ⟨corrL b z.C z.B z.s (quo b (missF b S i z.C) z.d), z.B, z.L, z.s + 1, z.d⟩
def bmF (b : Nat) (S : List Nat) : Nat → Bm
  | 0 => ⟨[1], [1], 0, 1, 1⟩
  | n + 1 => bmStep b S n (bmF b S n)
def ruleF (b : Nat) (S : List Nat) : List Nat := (bmF b S S.length).C
structure BmI (b : Nat) (S : List Nat) (i : Nat) (z : Bm) : Prop where
  wC : Ws b z.C
  wB : Ws b z.B
  c0 : gd z.C 0 = 1
  lC : 0 < z.C.length
  lC2 : z.C.length ≤ z.L + 1
  lB : 0 < z.B.length
  lB2 : z.B.length + z.s + z.L ≤ i + 2
  d0 : z.d ≠ 0
  dl : z.d < span b
  s1 : 1 ≤ z.s
  lL : z.L ≤ i
  zr : ∀ j, z.L ≤ j → j < i → cv b z.C (gd S) j = 0
  ph : (z.L = 0 ∧ z.C = [1] ∧ z.B = [1] ∧ z.s = i + 1 ∧ z.d = 1 ∧ ∀ j, j < i → gd S j = 0) ∨
    (∃ Lb Nb, i = Nb + z.s ∧ i + 1 = z.L + Lb + z.s ∧ z.B.length ≤ Lb + 1 ∧ (∀ j, Lb ≤ j → j < Nb → cv b z.B (gd S) j = 0) ∧ cv b z.B (gd S) Nb = z.d)
theorem missF_cv {b : Nat} (hb : Wd b) (S : List Nat) (i : Nat) (C : List Nat) : missF b S i C = cv b C (gd S) i := cv_min hb C (gd S) i
theorem ws_one {b : Nat} (hb : Wd b) : Ws b [1] := fun x hx => by
  rw [List.mem_singleton.mp hx]
  exact span_pos hb
theorem cv_one {b : Nat} (hb : Wd b) {T : Nat → Nat} (hT : ∀ i, T i < span b) (j : Nat) : cv b [1] T j = T j := by
  unfold cv
  rw [xsum_tail (n := 1) (by omega) fun k h1 h2 => by rw [gd_out (by show 1 ≤ k; exact h1)]; exact zero_mul hb]
  show 0 ^^^ mul b 1 (T (j - 0)) = T j
  rw [Nat.zero_xor, one_mul hb (hT _)]
  rfl
theorem bm_inv {b : Nat} {S : List Nat} (hb : Wd b) (hS : Ws b S) : ∀ n, BmI b S n (bmF b S n)
  | 0 => ⟨ws_one hb, ws_one hb, rfl, (show (0 : Nat) < 1 by decide), (show (1 : Nat) ≤ 0 + 1 by decide), (show (0 : Nat) < 1 by decide), (show (1 : Nat) + 1 + 0 ≤ 0 + 2 by decide), (show (1 : Nat) ≠ 0 by decide), span_pos hb, Nat.le_refl _, Nat.le_refl _, fun j _ h => by omega, .inl ⟨rfl, rfl, rfl, rfl, rfl, fun j h => by omega⟩⟩
  | n + 1 => by
    have I := bm_inv hb hS n
    show BmI b S (n + 1) (bmStep b S n (bmF b S n))
    generalize bmF b S n = z at I ⊢
    have hT : ∀ i, gd S i < span b := fun i => gd_lt hb hS i
    unfold bmStep
    have hm := missF_cv hb S n z.C
    generalize missF b S n z.C = miss at hm ⊢
    have lm : miss < span b := hm ▸ cv_lt hb I.wC n
    by_cases h0 : miss = 0
    · rw [if_pos h0]
      refine ⟨I.wC, I.wB, I.c0, I.lC, I.lC2, I.lB, by have := I.lB2; show z.B.length + (z.s + 1) + z.L ≤ n + 1 + 2; omega, I.d0, I.dl, by show 1 ≤ z.s + 1; omega, Nat.le_succ_of_le I.lL, fun j h1 h2 => ?_, ?_⟩
      · rcases Nat.lt_or_ge j n with h | h
        · exact I.zr j h1 h
        · rw [show j = n by omega, ← hm]
          exact h0
      · rcases I.ph with ⟨p1, p2, p3, p4, p5, p6⟩ | ⟨Lb, Nb, p1, p2, p3, p4, p5⟩
        · refine .inl ⟨p1, p2, p3, by show z.s + 1 = n + 1 + 1; omega, p5, fun j hj => ?_⟩
          rcases Nat.lt_or_ge j n with h | h
          · exact p6 j h
          · rw [show j = n by omega]
            have e := hm
            rw [p2, cv_one hb hT] at e
            rw [← e]
            exact h0
        · exact .inr ⟨Lb, Nb, by show n + 1 = Nb + (z.s + 1); omega, by show n + 1 + 1 = z.L + Lb + (z.s + 1); omega, p3, p4, p5⟩
    · rw [if_neg h0]
      have hf : quo b miss z.d < span b := mul_lt hb lm
      have hqd : mul b (quo b miss z.d) z.d = miss := mul_quo hb lm I.dl I.d0
      have wM := corrL_ws (B := z.B) (s := z.s) hb I.wC hf
      have lM := corrL_len b z.C z.B z.s (quo b miss z.d)
      have cM := fun j => cv_corr (s := z.s) hb I.wC I.wB hf hT j
      have hlC := I.lC
      have hlC2 := I.lC2
      have hlB2 := I.lB2
      have hlL := I.lL
      have hs1 := I.s1
      have hlB := I.lB
      have c0M : gd (corrL b z.C z.B z.s (quo b miss z.d)) 0 = 1 := by
        rw [corrL_gd, if_neg (by omega), I.c0]
        rfl
      -- zero from both on
      have zM : ∀ j, z.L ≤ j → n + 1 - z.L ≤ j → j < n + 1 → cv b (corrL b z.C z.B z.s (quo b miss z.d)) (gd S) j = 0 := fun j h1 h2 h3 => by
        rw [cM]
        rcases I.ph with ⟨p1, p2, p3, p4, p5, p6⟩ | ⟨Lb, Nb, p1, p2, p3, p4, p5⟩
        · rw [p1] at h2
          omega
        · rw [if_pos (by omega)]
          rcases Nat.lt_or_ge j n with h | h
          · rw [I.zr j h1 h, p4 (j - z.s) (by omega) (by omega), mul_zero]
            rfl
          · rw [show j = n by omega, ← hm, show n - z.s = Nb by omega, p5, hqd]
            exact Nat.xor_self _
      by_cases h2 : 2 * z.L ≤ n
      · rw [if_pos h2]
        refine ⟨wM, I.wC, c0M, by rw [lM]; omega, by rw [lM]; show max z.C.length (z.B.length + z.s) ≤ n + 1 - z.L + 1; omega, I.lC, by show z.C.length + 1 + (n + 1 - z.L) ≤ n + 1 + 2; omega, h0, lm, Nat.le_refl _, by show n + 1 - z.L ≤ n + 1; omega,
          fun j h1 h3 => zM j (by have : n + 1 - z.L ≤ j := h1; omega) h1 h3, .inr ⟨z.L, n, rfl, by show n + 1 + 1 = n + 1 - z.L + z.L + 1; omega, I.lC2, fun j h1 h3 => I.zr j h1 h3, hm.symm⟩⟩
      · rw [if_neg h2]
        refine ⟨wM, I.wB, c0M, by rw [lM]; omega, by rw [lM]; show max z.C.length (z.B.length + z.s) ≤ z.L + 1; omega, I.lB, by show z.B.length + (z.s + 1) + z.L ≤ n + 1 + 2; omega, I.d0, I.dl, by show 1 ≤ z.s + 1; omega, Nat.le_succ_of_le I.lL,
          fun j h1 h3 => zM j h1 (by have : z.L ≤ j := h1; omega) h3, ?_⟩
        rcases I.ph with ⟨p1, p2, p3, p4, p5, p6⟩ | ⟨Lb, Nb, p1, p2, p3, p4, p5⟩
        · omega
        · exact .inr ⟨Lb, Nb, by show n + 1 = Nb + (z.s + 1); omega, by show n + 1 + 1 = z.L + Lb + (z.s + 1); omega, p3, p4, p5⟩
/-- a row of sums of points -/
def sq (n : Nat) (f : Nat → Nat) : List Nat := (List.range n).map f
theorem sq_len (n : Nat) (f : Nat → Nat) : (sq n f).length = n := by unfold sq; simp
theorem sq_gd {n k : Nat} {f : Nat → Nat} (h : k < n) : gd (sq n f) k = f k := by
  unfold sq
  rw [gd_map, if_pos h]
theorem sq_ws {b n : Nat} {f : Nat → Nat} (h : ∀ k, f k < span b) : Ws b (sq n f) := fun x hx => by
  obtain ⟨k, _, rfl⟩ := List.mem_map.mp hx
  exact h k
theorem cv_sq {b N j : Nat} {C : List Nat} {f : Nat → Nat} (hj : j < N) : cv b C (gd (sq N f)) j = cv b C f j := cv_congr fun i hi => sq_gd (by omega)
section
variable {b N : Nat} {pts : List (Nat × Nat)} (hb : Wd b) (hok : PtOk b pts) (hnd : (pts.map (·.1)).Nodup)
include hb hok hnd
theorem bm_len : ∀ n, n ≤ N → (bmF b (sq N (ps b pts)) n).L ≤ pts.length
  | 0, _ => Nat.zero_le _
  | n + 1, h => by
    have ih := bm_len n (by omega)
    have hS : Ws b (sq N (ps b pts)) := sq_ws fun k => ps_lt hb hok k
    have I := bm_inv hb hS n
    show (bmStep b _ n (bmF b _ n)).L ≤ _
    generalize bmF b (sq N (ps b pts)) n = z at ih I ⊢
    unfold bmStep
    have hm := missF_cv hb (sq N (ps b pts)) n z.C
    rw [cv_sq (by omega)] at hm
    split
    · exact ih
    · next h0 =>
      split
      · next h2 =>
        show n + 1 - z.L ≤ pts.length
        refine Classical.byContradiction fun h3 => h0 ?_
        rw [hm]
        exact rule_on (L := z.L) hb I.wC I.lC I.lC2 hok hnd (fun j h1 h4 => by
          rw [← cv_sq (N := N) (by omega)]
          exact I.zr j h1 (by omega)) I.lL
      · exact ih
theorem bm_rule (hne : ∀ p ∈ pts, p.1 ≠ 0 ∧ p.2 ≠ 0) (hN : 2 * pts.length ≤ N) :
    Ws b (ruleF b (sq N (ps b pts))) ∧ ∀ x, x < span b → (evl b x (ruleF b (sq N (ps b pts))) = 0 ↔ x ∈ pts.map (·.1)) := by
  have hS : Ws b (sq N (ps b pts)) := sq_ws fun k => ps_lt hb hok k
  have hl := bm_len (N := N) hb hok hnd N (Nat.le_refl _)
  have I := bm_inv hb hS N
  have e : ruleF b (sq N (ps b pts)) = (bmF b (sq N (ps b pts)) N).C := by
    unfold ruleF
    rw [sq_len]
  rw [e]
  generalize bmF b (sq N (ps b pts)) N = z at hl I ⊢
  have rts := rule_roots (L := z.L) hb I.wC I.lC I.lC2 hok hnd hne fun j h1 h2 => by
    rw [← cv_sq (N := N) (by omega)]
    exact I.zr j h1 (by omega)
  refine ⟨I.wC, fun x hx => ⟨fun h => Classical.byContradiction fun hn => ?_, fun h => ?_⟩⟩
  · have hlC := I.lC
    have hlC2 := I.lC2
    have r := root_bound hb (z.C.length - 1) z.C (x :: pts.map (·.1)) (by omega) I.wC (by rw [I.c0]; decide) (List.nodup_cons.mpr ⟨hn, hnd⟩) fun y hy => by
      rcases List.mem_cons.mp hy with rfl | hy
      · exact ⟨hx, h⟩
      · obtain ⟨p, hp, rfl⟩ := List.mem_map.mp hy
        exact ⟨(hok p hp).1, rts p hp⟩
    rw [List.length_cons, List.length_map] at r
    omega
  · obtain ⟨p, hp, rfl⟩ := List.mem_map.mp h
    exact rts p hp
end
end My

set_option Elab.async false
set_option linter.all false
set_option maxRecDepth 100000
set_option maxHeartbeats 4000000
/-! ### heads of sums, wrong words, mended rows -/
namespace My
def wo (b X : Nat) (S : List Nat) : List Nat := (List.range (S.length - 1)).map fun k => gd S (k + 1) ^^^ mul b (gd S k) X
def hds (b : Nat) : List Nat → List Nat → List Nat × List Nat
  | [], S => ([], S)
  | X :: r, S => (gd S 0 :: (hds b r (wo b X S)).1, (hds b r (wo b X S)).2)
theorem wo_sq {b X n : Nat} {f : Nat → Nat} : wo b X (sq (n + 1) f) = sq n (opX b X f) := by
  unfold wo
  rw [sq_len, Nat.add_sub_cancel]
  refine List.map_congr_left fun k hk => ?_
  have hk := List.mem_range.mp hk
  rw [sq_gd (by omega), sq_gd (by omega)]
  rfl
theorem sq_congr {n : Nat} {f g : Nat → Nat} (h : ∀ k, k < n → f k = g k) : sq n f = sq n g := List.map_congr_left fun k hk => h k (List.mem_range.mp hk)
def shL (b : Nat) : List Nat → List (Nat × Nat) → List (Nat × Nat)
  | [], p => p
  | X :: r, p => shL b r (sh b X p)
def hdF (b : Nat) : List Nat → List (Nat × Nat) → List Nat
  | [], _ => []
  | X :: r, p => ps b p 0 :: hdF b r (sh b X p)
theorem hds_ps {b : Nat} (hb : Wd b) : ∀ (Xs : List Nat) (n : Nat) (pts : List (Nat × Nat)), Xs.length ≤ n → Ws b Xs → PtOk b pts → hds b Xs (sq n (ps b pts)) = (hdF b Xs pts, sq (n - Xs.length) (ps b (shL b Xs pts)))
  | [], n, pts, _, _, _ => rfl
  | X :: r, 0, pts, h, _, _ => by simp at h
  | X :: r, n + 1, pts, h, hX, hok => by
    have lX := hX X (List.mem_cons_self ..)
    have ih := hds_ps hb r n (sh b X pts) (by simpa using h) (fun x hx => hX x (List.mem_cons_of_mem _ hx)) (sh_ok hb hok)
    have e : wo b X (sq (n + 1) (ps b pts)) = sq n (ps b (sh b X pts)) := by
      rw [wo_sq]
      exact sq_congr fun k _ => (ps_sh hb lX pts k hok).symm
    show (gd (sq (n + 1) (ps b pts)) 0 :: (hds b r (wo b X (sq (n + 1) (ps b pts)))).1, (hds b r (wo b X (sq (n + 1) (ps b pts)))).2) = _
    rw [e, ih, sq_gd (by omega), List.length_cons, Nat.add_sub_add_right]
    rfl
def prd (b x : Nat) : List Nat → Nat
  | [] => 1
  | X :: r => mul b (x ^^^ X) (prd b x r)
theorem prd_lt {b x : Nat} (hb : Wd b) (hx : x < span b) : ∀ Xs, Ws b Xs → prd b x Xs < span b
  | [], _ => span_pos hb
  | X :: r, h => mul_lt hb (xor_lt hb hx (h X (List.mem_cons_self ..)))
theorem prd_zero {b x : Nat} (hb : Wd b) : ∀ Xs, x ∈ Xs → prd b x Xs = 0
  | [], h => nomatch h
  | X :: r, h => by
    show mul b (x ^^^ X) (prd b x r) = 0
    rcases List.mem_cons.mp h with rfl | h
    · rw [Nat.xor_self, zero_mul hb]
    · rw [prd_zero hb r h, mul_zero]
theorem prd_ne {b x : Nat} (hb : Wd b) (hx : x < span b) : ∀ Xs, Ws b Xs → x ∉ Xs → prd b x Xs ≠ 0
  | [], _, _ => by
    show (1 : Nat) ≠ 0
    decide
  | X :: r, h, hn => by
    have hr : Ws b r := fun y hy => h y (List.mem_cons_of_mem _ hy)
    exact mul_ne hb (xor_lt hb hx (h X (List.mem_cons_self ..))) (prd_lt hb hx r hr) (xor_ne fun e => hn (e ▸ List.mem_cons_self ..)) (prd_ne hb hx r hr fun m => hn (List.mem_cons_of_mem _ m))
theorem shL_is {b : Nat} (hb : Wd b) : ∀ (Xs : List Nat) (pts : List (Nat × Nat)), Ws b Xs → PtOk b pts → shL b Xs pts = pts.map fun p => (p.1, mul b p.2 (prd b p.1 Xs))
  | [], pts, _, hok => by
    show pts = pts.map fun p => (p.1, mul b p.2 1)
    conv => lhs; rw [← List.map_id pts]
    exact List.map_congr_left fun p hp => by rw [mul_one hb (hok p hp).2]; rfl
  | X :: r, pts, hX, hok => by
    have lX := hX X (List.mem_cons_self ..)
    have hr : Ws b r := fun y hy => hX y (List.mem_cons_of_mem _ hy)
    show shL b r (sh b X pts) = _
    rw [shL_is hb r _ hr (sh_ok hb hok)]
    unfold sh
    rw [List.map_map]
    refine List.map_congr_left fun p hp => ?_
    obtain ⟨h1, h2⟩ := hok p hp
    show (p.1, mul b (mul b p.2 (p.1 ^^^ X)) (prd b p.1 r)) = (p.1, mul b p.2 (mul b (p.1 ^^^ X) (prd b p.1 r)))
    rw [mul_assoc hb h2 (xor_lt hb h1 lX) (prd_lt hb h1 r hr)]
theorem shL_ok {b : Nat} (hb : Wd b) : ∀ (Xs : List Nat) (pts : List (Nat × Nat)), PtOk b pts → PtOk b (shL b Xs pts)
  | [], _, h => h
  | X :: r, pts, h => shL_ok hb r _ (sh_ok hb h)
theorem ps_app {b : Nat} (A B : List (Nat × Nat)) (j : Nat) : ps b (A ++ B) j = ps b A j ^^^ ps b B j := by
  unfold ps
  rw [List.map_append, xl_app]
theorem hdF_zero {b x : Nat} (hb : Wd b) : ∀ (Xs : List Nat) (pts : List (Nat × Nat)), hdF b Xs ((x, 0) :: pts) = hdF b Xs pts
  | [], _ => rfl
  | X :: r, pts => by
    show ps b ((x, 0) :: pts) 0 :: hdF b r ((x, mul b 0 (x ^^^ X)) :: sh b X pts) = ps b pts 0 :: hdF b r (sh b X pts)
    rw [zero_mul hb, hdF_zero hb r, ps_cons]
    show (mul b 0 1 ^^^ ps b pts 0) :: _ = _
    rw [zero_mul hb, Nat.zero_xor]
theorem hdF_app {b : Nat} : ∀ (A B : List Nat) (pts : List (Nat × Nat)), hdF b (A ++ B) pts = hdF b A pts ++ hdF b B (shL b A pts)
  | [], _, _ => rfl
  | X :: r, B, pts => by
    show ps b pts 0 :: hdF b (r ++ B) (sh b X pts) = ps b pts 0 :: (hdF b r (sh b X pts) ++ _)
    rw [hdF_app r B]
    rfl
/-- the shares, from the last place on -/
def ww (b : Nat) : List Nat → List Nat → List Nat
  | X :: r, h :: hs => (h ^^^ xl (List.zipWith (fun s p => quo b s (p ^^^ X)) (ww b r hs) r)) :: List.zipWith (fun s p => quo b s (p ^^^ X)) (ww b r hs) r
  | _, _ => []
theorem ps_at0 {b : Nat} (hb : Wd b) : ∀ pts, PtOk b pts → ps b pts 0 = xl (pts.map (·.2))
  | [], _ => rfl
  | p :: r, h => by
    rw [ps_cons, ps_at0 hb r h.tail]
    show mul b p.2 1 ^^^ _ = p.2 ^^^ _
    rw [mul_one hb h.head.2]
theorem ww_ok {b : Nat} (hb : Wd b) : ∀ (n : Nat) (pts : List (Nat × Nat)), pts.length = n → PtOk b pts → (pts.map (·.1)).Nodup → ww b (pts.map (·.1)) (hdF b (pts.map (·.1)) pts) = pts.map (·.2)
  | 0, pts, hl, _, _ => by
    rw [List.length_eq_zero_iff.mp hl]
    rfl
  | n + 1, [], hl, _, _ => by cases hl
  | n + 1, p :: r, hl, hok, hnd => by
    obtain ⟨h1, h2⟩ := hok.head
    rw [List.map_cons, List.nodup_cons] at hnd
    have ih := ww_ok hb n (sh b p.1 r) (by unfold sh; simpa using hl) (sh_ok hb hok.tail) (by rw [sh_fst]; exact hnd.2)
    rw [sh_fst] at ih
    have e1 : hdF b (r.map (·.1)) (sh b p.1 (p :: r)) = hdF b (r.map (·.1)) (sh b p.1 r) := by
      show hdF b (r.map (·.1)) ((p.1, mul b p.2 (p.1 ^^^ p.1)) :: sh b p.1 r) = _
      rw [Nat.xor_self, mul_zero, hdF_zero hb]
    have e2 : List.zipWith (fun s q => quo b s (q ^^^ p.1)) ((sh b p.1 r).map (·.2)) (r.map (·.1)) = r.map (·.2) := by
      have hk : p.1 ∉ r.map (·.1) := hnd.1
      have hr := hok.tail
      clear ih e1 hl hnd hok
      induction r with
      | nil => rfl
      | cons q r ih =>
        obtain ⟨q1, q2⟩ := hr.head
        show quo b (mul b q.2 (q.1 ^^^ p.1)) (q.1 ^^^ p.1) :: _ = q.2 :: _
        rw [quo_mul hb q2 (xor_lt hb q1 h1) (xor_ne fun e => hk (by rw [List.map_cons, e]; exact List.mem_cons_self ..))]
        exact congrArg (q.2 :: ·) (ih (fun m => hk (List.mem_cons_of_mem _ m)) hr.tail)
    show (ps b (p :: r) 0 ^^^ xl (List.zipWith (fun s q => quo b s (q ^^^ p.1)) (ww b (r.map (·.1)) (hdF b (r.map (·.1)) (sh b p.1 (p :: r)))) (r.map (·.1)))) :: List.zipWith (fun s q => quo b s (q ^^^ p.1)) (ww b (r.map (·.1)) (hdF b (r.map (·.1)) (sh b p.1 (p :: r)))) (r.map (·.1)) = p.2 :: r.map (·.2)
    rw [e1, ih, e2, ps_at0 hb _ hok, List.map_cons]
    congr 1
    show p.2 ^^^ xl (r.map (·.2)) ^^^ xl (r.map (·.2)) = p.2
    rw [Nat.xor_assoc, Nat.xor_self, Nat.xor_zero]
/-! rows with gaps -/
def og (row : List (Option Nat)) (i : Nat) : Option Nat := row.getD i (some 0)
def knownL (row : List (Option Nat)) : List Nat := row.map fun x => x.getD 0
def gapsL (row : List (Option Nat)) : List Nat := (List.range row.length).filter fun i => (og row i).isNone
def pl (b n i : Nat) : Nat := pw b (n - 1 - i)
def liesL (row : List (Option Nat)) (w : List Nat) : List Nat := (List.range row.length).filter fun i => (og row i).isSome && decide (gd (knownL row) i ≠ gd w i)
def lyL (b : Nat) (row : List (Option Nat)) (C : List Nat) : List Nat := (List.range row.length).filter fun i => (og row i).isSome && decide (evl b (pl b row.length i) C = 0)
def mendP (b s n : Nat) (acc : List Nat) : List (Nat × Nat) → List Nat
  | [] => acc
  | p :: r => mendP b s n (acc.set p.1 (gd acc p.1 ^^^ quo b p.2 (pw b ((n - 1 - p.1) * s)))) r
def mendF (b s : Nat) (row : List (Option Nat)) (S : List Nat) : Option (List Nat × List Nat) :=
  if S.length < (gapsL row).length then none
  else if (hds b ((gapsL row).map (pl b row.length)) S).2.length < 2 * (lyL b row (ruleF b (hds b ((gapsL row).map (pl b row.length)) S).2)).length then none
  else if (hds b ((lyL b row (ruleF b (hds b ((gapsL row).map (pl b row.length)) S).2)).map (pl b row.length)) (hds b ((gapsL row).map (pl b row.length)) S).2).2.any (fun x => decide (x ≠ 0)) = true then none
  else some (mendP b s row.length (knownL row) ((gapsL row ++ lyL b row (ruleF b (hds b ((gapsL row).map (pl b row.length)) S).2)).zip
      (ww b ((gapsL row ++ lyL b row (ruleF b (hds b ((gapsL row).map (pl b row.length)) S).2)).map (pl b row.length))
        ((hds b ((gapsL row).map (pl b row.length)) S).1 ++ (hds b ((lyL b row (ruleF b (hds b ((gapsL row).map (pl b row.length)) S).2)).map (pl b row.length)) (hds b ((gapsL row).map (pl b row.length)) S).2).1))),
    lyL b row (ruleF b (hds b ((gapsL row).map (pl b row.length)) S).2))
theorem evl_idx {b t : Nat} (hb : Wd b) (ht : t < span b) : ∀ ws : List Nat, Ws b ws → evl b t ws = xl ((List.range ws.length).map fun i => mul b (gd ws i) (powT b t (ws.length - 1 - i)))
  | [], _ => rfl
  | w :: r, h => by
    have hr : Ws b r := fun x hx => h x (List.mem_cons_of_mem _ hx)
    rw [evl_cons hb ht (h w (List.mem_cons_self ..)) hr, evl_idx hb ht r hr, List.length_cons, List.range_succ_eq_map, List.map_cons, List.map_map]
    show mul b w (powT b t r.length) ^^^ _ = mul b w (powT b t (r.length + 1 - 1 - 0)) ^^^ xl _
    congr 2
    refine List.map_congr_left fun i _ => ?_
    show mul b (gd r i) (powT b t (r.length - 1 - i)) = mul b (gd r i) (powT b t (r.length + 1 - 1 - (i + 1)))
    congr 2
    omega
def rowP (b s n : Nat) (e : Nat → Nat) (l : List Nat) : List (Nat × Nat) := l.map fun i => (pl b n i, mul b (e i) (pw b ((n - 1 - i) * s)))
theorem evl_ps {b s j : Nat} (hb : Wd b) {ws : List Nat} (hw : Ws b ws) : evl b (pw b (s + j)) ws = ps b (rowP b s ws.length (gd ws) (List.range ws.length)) j := by
  rw [evl_idx hb (pw_lt hb _) ws hw]
  unfold ps rowP
  rw [List.map_map]
  congr 1
  refine List.map_congr_left fun i _ => ?_
  show mul b (gd ws i) (powT b (pw b (s + j)) (ws.length - 1 - i)) = mul b (mul b (gd ws i) (pw b ((ws.length - 1 - i) * s))) (powT b (pw b (ws.length - 1 - i)) j)
  rw [powT_pw hb, powT_pw hb, mul_assoc hb (gd_lt hb hw i) (pw_lt hb _) (pw_lt hb _), pw_mul hb]
  congr 2
  rw [Nat.add_mul, Nat.mul_comm s, Nat.mul_comm j]
theorem xl_split {f : Nat → Nat} {p q : Nat → Bool} : ∀ l : List Nat, (∀ i ∈ l, (p i = false ∧ q i = false → f i = 0) ∧ ¬ (p i = true ∧ q i = true)) → xl (l.map f) = xl ((l.filter p).map f) ^^^ xl ((l.filter q).map f)
  | [], _ => by
    show (0 : Nat) = 0 ^^^ 0
    rfl
  | i :: r, h => by
    obtain ⟨h1, h2⟩ := h i (List.mem_cons_self ..)
    have ih := xl_split r fun k hk => h k (List.mem_cons_of_mem _ hk)
    show f i ^^^ xl (r.map f) = _
    rw [ih, List.filter_cons, List.filter_cons]
    cases hp : p i <;> cases hq : q i
    · rw [h1 ⟨hp, hq⟩, Nat.zero_xor]
      rfl
    · simp only [if_neg Bool.false_ne_true, if_pos]
      show f i ^^^ (_ ^^^ _) = _ ^^^ (f i ^^^ _)
      ac_rfl
    · simp only [if_neg Bool.false_ne_true, if_pos]
      show f i ^^^ (_ ^^^ _) = (f i ^^^ _) ^^^ _
      ac_rfl
    · exact absurd ⟨hp, hq⟩ h2
theorem gd_set {acc : List Nat} {i k x : Nat} (h : i < acc.length) : gd (acc.set i x) k = if k = i then x else gd acc k := by
  unfold gd
  rw [List.getD_eq_getElem?_getD, List.getD_eq_getElem?_getD, List.getElem?_set]
  by_cases e : i = k
  · subst e
    simp [h]
  · rw [if_neg e, if_neg fun z => e z.symm]
theorem put_len {b s n : Nat} : ∀ (l : List (Nat × Nat)) (acc : List Nat), (mendP b s n acc l).length = acc.length
  | [], _ => rfl
  | p :: r, acc => by
    show (mendP b s n _ r).length = _
    rw [put_len r, List.length_set]
theorem put_gd {b s n : Nat} {e : Nat → Nat} (hb : Wd b) (he : ∀ i, e i < span b) : ∀ (l : List Nat) (acc : List Nat) (k : Nat), l.Nodup → (∀ i ∈ l, i < acc.length) →
    gd (mendP b s n acc (l.zip (l.map fun i => mul b (e i) (pw b ((n - 1 - i) * s))))) k = gd acc k ^^^ (if k ∈ l then e k else 0)
  | [], acc, k, _, _ => by
    rw [if_neg (fun h => nomatch h), Nat.xor_zero]
    rfl
  | i :: r, acc, k, hnd, hl => by
    rw [List.nodup_cons] at hnd
    have li := hl i (List.mem_cons_self ..)
    show gd (mendP b s n (acc.set i (gd acc i ^^^ quo b (mul b (e i) (pw b ((n - 1 - i) * s))) (pw b ((n - 1 - i) * s)))) (r.zip (r.map fun i => mul b (e i) (pw b ((n - 1 - i) * s))))) k = _
    rw [put_gd hb he r _ k hnd.2 fun j hj => by rw [List.length_set]; exact hl j (List.mem_cons_of_mem _ hj), quo_mul hb (he i) (pw_lt hb _) (pw_ne hb _), gd_set li]
    by_cases h : k = i
    · subst h
      rw [if_pos rfl, if_neg hnd.1, if_pos (List.mem_cons_self ..), Nat.xor_zero]
    · rw [if_neg h]
      by_cases h2 : k ∈ r
      · rw [if_pos h2, if_pos (List.mem_cons_of_mem _ h2)]
      · rw [if_neg h2, if_neg fun m => (List.mem_cons.mp m).elim h h2]
theorem pl_inj {b n i j : Nat} (hb : Wd b) (hn : n ≤ turn b) (hi : i < n) (hj : j < n) (h : pl b n i = pl b n j) : i = j := by
  unfold pl at h
  have h1 := lgpw' hb (show n - 1 - i < turn b by omega)
  have h2 := lgpw' hb (show n - 1 - j < turn b by omega)
  rw [h, h2] at h1
  omega
theorem known_len (row : List (Option Nat)) : (knownL row).length = row.length := by unfold knownL; simp
theorem known_gd {row : List (Option Nat)} {i : Nat} (h : i < row.length) : gd (knownL row) i = (og row i).getD 0 := by
  unfold gd knownL og
  rw [List.getD_eq_getElem?_getD, List.getD_eq_getElem?_getD, List.getElem?_map, List.getElem?_eq_getElem h]
  rfl
def RowOk (b : Nat) (row : List (Option Nat)) : Prop := ∀ x, some x ∈ row → x < span b
theorem known_ws {b : Nat} {row : List (Option Nat)} (hb : Wd b) (h : RowOk b row) : Ws b (knownL row) := fun x hx => by
  obtain ⟨o, ho, rfl⟩ := List.mem_map.mp hx
  cases o with
  | none => exact zero_lt hb
  | some y => exact h y ho
theorem nodup_map {f : Nat → Nat} : ∀ l : List Nat, l.Nodup → (∀ i ∈ l, ∀ j ∈ l, f i = f j → i = j) → (l.map f).Nodup
  | [], _, _ => List.nodup_nil
  | i :: r, h, hf => by
    rw [List.nodup_cons] at h
    rw [List.map_cons, List.nodup_cons]
    refine ⟨fun m => ?_, nodup_map r h.2 fun a ha c hc => hf a (List.mem_cons_of_mem _ ha) c (List.mem_cons_of_mem _ hc)⟩
    obtain ⟨j, hj, e⟩ := List.mem_map.mp m
    exact h.1 (hf j (List.mem_cons_of_mem _ hj) i (List.mem_cons_self ..) e ▸ hj)
theorem rowP_fst (b s n : Nat) (e : Nat → Nat) (l : List Nat) : (rowP b s n e l).map (·.1) = l.map (pl b n) := by
  unfold rowP
  rw [List.map_map]
  rfl
theorem rowP_ok {b s n : Nat} {e : Nat → Nat} (hb : Wd b) (he : ∀ i, e i < span b) (l : List Nat) : PtOk b (rowP b s n e l) := fun q hq => by
  obtain ⟨i, _, rfl⟩ := List.mem_map.mp hq
  exact ⟨pw_lt hb _, mul_lt hb (he i)⟩
/-- what is mended: the right row within the bound -/
theorem mend_ok {b s m : Nat} {row : List (Option Nat)} {w : List Nat} (hb : Wd b) (hl : row.length = w.length) (hn : row.length ≤ turn b) (hw : Ws b w) (hrow : RowOk b row) (hright : ∀ j, j < m → evl b (pw b (s + j)) w = 0)
    (hc : 2 * (liesL row w).length + (gapsL row).length ≤ m) : mendF b s row ((List.range m).map fun j => evl b (pw b (s + j)) (knownL row)) = some (w, liesL row w) := by
  have hk := known_ws hb hrow
  have lk := known_len row
  generalize hN : row.length = n at *
  -- what lies at each place
  have he : ∀ i, (fun i => gd (knownL row) i ^^^ gd w i) i < span b := fun i => xor_lt hb (gd_lt hb hk i) (gd_lt hb hw i)
  have hS : (List.range m).map (fun j => evl b (pw b (s + j)) (knownL row)) = sq m (ps b (rowP b s n (fun i => gd (knownL row) i ^^^ gd w i) (gapsL row ++ liesL row w))) := by
    refine sq_congr fun j hj => ?_
    have e1 : evl b (pw b (s + j)) (knownL row) = evl b (pw b (s + j)) (zx (knownL row) w) := by
      rw [evl_zx hb (by omega) hk hw, hright j hj, Nat.xor_zero]
    rw [e1, evl_ps hb (zx_ws hb hk hw), zx_len, lk, ← hN]
    have e2 : rowP b s row.length (gd (zx (knownL row) w)) (List.range row.length) = rowP b s row.length (fun i => gd (knownL row) i ^^^ gd w i) (List.range row.length) := by
      unfold rowP
      refine List.map_congr_left fun i _ => ?_
      rw [gd_zx (by omega)]
    rw [e2]
    unfold ps rowP gapsL liesL
    rw [List.map_append, List.map_append, xl_app, List.map_map, List.map_map, List.map_map]
    refine xl_split _ fun i hi => ⟨fun ⟨h1, h2⟩ => ?_, fun ⟨h1, h2⟩ => ?_⟩
    · have h3 : (og row i).isSome = true := by
        cases h : og row i with
        | none => rw [h] at h1; cases h1
        | some x => rfl
      rw [h3, Bool.true_and, decide_eq_false_iff_not] at h2
      have h4 : gd (knownL row) i = gd w i := Classical.byContradiction h2
      show mul b (mul b (gd (knownL row) i ^^^ gd w i) _) _ = 0
      rw [h4, Nat.xor_self, zero_mul hb, zero_mul hb]
    · rw [Bool.and_eq_true] at h2
      cases h : og row i with
      | none => rw [h] at h2; cases h2.1
      | some x => rw [h] at h1; cases h1
  rw [hS]
  obtain ⟨e, hE⟩ : ∃ e : Nat → Nat, e = fun i => gd (knownL row) i ^^^ gd w i := ⟨_, rfl⟩
  rw [← hE] at he ⊢
  have ndr : (List.range n).Nodup := List.nodup_range
  have hg : ∀ i ∈ gapsL row, i < n ∧ (og row i).isNone = true := fun i hi => by
    obtain ⟨h1, h2⟩ := List.mem_filter.mp hi
    exact ⟨by rw [← hN]; exact List.mem_range.mp h1, h2⟩
  have hly : ∀ i ∈ liesL row w, i < n ∧ (og row i).isSome = true ∧ gd (knownL row) i ≠ gd w i := fun i hi => by
    obtain ⟨h1, h2⟩ := List.mem_filter.mp hi
    rw [Bool.and_eq_true] at h2
    exact ⟨by rw [← hN]; exact List.mem_range.mp h1, h2.1, of_decide_eq_true h2.2⟩
  have gn : (gapsL row).Nodup := by unfold gapsL; rw [hN]; exact ndr.filter _
  have ln : (liesL row w).Nodup := by unfold liesL; rw [hN]; exact ndr.filter _
  have dj : ∀ i ∈ gapsL row, ∀ j ∈ liesL row w, i ≠ j := fun i hi j hj e => by
    subst e
    have h1 := (hg i hi).2
    have h2 := (hly i hj).2.1
    cases h : og row i with
    | none => rw [h] at h2; cases h2
    | some x => rw [h] at h1; cases h1
  have wn : (gapsL row ++ liesL row w).Nodup := List.nodup_append.mpr ⟨gn, ln, dj⟩
  have wl : ∀ i ∈ gapsL row ++ liesL row w, i < n := fun i hi => by
    rcases List.mem_append.mp hi with h | h
    · exact (hg i h).1
    · exact (hly i h).1
  have okP := rowP_ok (s := s) (n := n) hb he (gapsL row ++ liesL row w)
  have gW : Ws b ((gapsL row).map (pl b n)) := fun x hx => by
    obtain ⟨i, _, rfl⟩ := List.mem_map.mp hx
    exact pw_lt hb _
  have lW : Ws b ((liesL row w).map (pl b n)) := fun x hx => by
    obtain ⟨i, _, rfl⟩ := List.mem_map.mp hx
    exact pw_lt hb _
  have h1 : hds b ((gapsL row).map (pl b n)) (sq m (ps b (rowP b s n e (gapsL row ++ liesL row w)))) = (hdF b ((gapsL row).map (pl b n)) (rowP b s n e (gapsL row ++ liesL row w)), sq (m - (gapsL row).length) (ps b (shL b ((gapsL row).map (pl b n)) (rowP b s n e (gapsL row ++ liesL row w))))) := by
    have h := hds_ps hb ((gapsL row).map (pl b n)) m _ (by rw [List.length_map]; omega) gW okP
    rw [List.length_map] at h
    exact h
  have okL := rowP_ok (s := s) (n := n) hb he (liesL row w)
  have h2 : sq (m - (gapsL row).length) (ps b (shL b ((gapsL row).map (pl b n)) (rowP b s n e (gapsL row ++ liesL row w)))) = sq (m - (gapsL row).length) (ps b (shL b ((gapsL row).map (pl b n)) (rowP b s n e (liesL row w)))) := by
    refine sq_congr fun j _ => ?_
    rw [shL_is hb _ _ gW okP, shL_is hb _ _ gW okL]
    have e1 : rowP b s n e (gapsL row ++ liesL row w) = rowP b s n e (gapsL row) ++ rowP b s n e (liesL row w) := by unfold rowP; rw [List.map_append]
    rw [e1, List.map_append, ps_app, ps_zero hb, Nat.zero_xor]
    intro p hp
    obtain ⟨q, hq, rfl⟩ := List.mem_map.mp hp
    obtain ⟨i, hi, rfl⟩ := List.mem_map.mp hq
    show mul b _ (prd b (pl b n i) _) = 0
    rw [prd_zero hb _ (List.mem_map.mpr ⟨i, hi, rfl⟩), mul_zero]
  have okPL := shL_ok hb ((gapsL row).map (pl b n)) _ okL
  have fstPL : (shL b ((gapsL row).map (pl b n)) (rowP b s n e (liesL row w))).map (·.1) = (liesL row w).map (pl b n) := by
    rw [shL_is hb _ _ gW okL, List.map_map]
    exact rowP_fst b s n e _
  have ndPL : ((shL b ((gapsL row).map (pl b n)) (rowP b s n e (liesL row w))).map (·.1)).Nodup := by
    rw [fstPL]
    exact nodup_map _ ln fun i hi j hj h => pl_inj hb hn (hly i hi).1 (hly j hj).1 h
  have lenPL : (shL b ((gapsL row).map (pl b n)) (rowP b s n e (liesL row w))).length = (liesL row w).length := by
    have h := congrArg List.length fstPL
    rw [List.length_map, List.length_map] at h
    exact h
  have nePL : ∀ p ∈ shL b ((gapsL row).map (pl b n)) (rowP b s n e (liesL row w)), p.1 ≠ 0 ∧ p.2 ≠ 0 := fun p hp => by
    rw [shL_is hb _ _ gW okL] at hp
    obtain ⟨q, hq, rfl⟩ := List.mem_map.mp hp
    obtain ⟨i, hi, rfl⟩ := List.mem_map.mp hq
    obtain ⟨i1, i2, i3⟩ := hly i hi
    refine ⟨pw_ne hb _, mul_ne hb (mul_lt hb (he i)) (prd_lt hb (pw_lt hb _) _ gW) (mul_ne hb (he i) (pw_lt hb _) ?_ (pw_ne hb _)) (prd_ne hb (pw_lt hb _) _ gW fun hm => ?_)⟩
    · rw [hE]
      exact xor_ne i3
    · obtain ⟨j, hj, ej⟩ := List.mem_map.mp hm
      exact dj j hj i hi (pl_inj hb hn (hg j hj).1 i1 ej)
  obtain ⟨wR, hR⟩ := bm_rule (N := m - (gapsL row).length) hb okPL ndPL nePL (by rw [lenPL]; omega)
  have h3 : lyL b row (ruleF b (sq (m - (gapsL row).length) (ps b (shL b ((gapsL row).map (pl b n)) (rowP b s n e (gapsL row ++ liesL row w)))))) = liesL row w := by
    rw [h2]
    unfold lyL
    conv => rhs; unfold liesL
    refine List.filter_congr fun i hi => ?_
    have hi' : i < n := by rw [← hN]; exact List.mem_range.mp hi
    cases ho : (og row i).isSome with
    | false => rfl
    | true =>
      rw [Bool.true_and, Bool.true_and, decide_eq_decide, hN, hR (pl b n i) (pw_lt hb _), fstPL]
      constructor
      · intro hm
        obtain ⟨j, hj, ej⟩ := List.mem_map.mp hm
        have e2 := pl_inj hb hn (hly j hj).1 hi' ej
        subst e2
        exact (hly j hj).2.2
      · intro hne
        exact List.mem_map.mpr ⟨i, List.mem_filter.mpr ⟨hi, by rw [ho, Bool.true_and]; exact decide_eq_true hne⟩, rfl⟩
  have h4 : hds b ((liesL row w).map (pl b n)) (sq (m - (gapsL row).length) (ps b (shL b ((gapsL row).map (pl b n)) (rowP b s n e (gapsL row ++ liesL row w))))) = (hdF b ((liesL row w).map (pl b n)) (shL b ((gapsL row).map (pl b n)) (rowP b s n e (gapsL row ++ liesL row w))), sq (m - (gapsL row).length - (liesL row w).length) (ps b (shL b ((liesL row w).map (pl b n)) (shL b ((gapsL row).map (pl b n)) (rowP b s n e (gapsL row ++ liesL row w)))))) := by
    have h := hds_ps hb ((liesL row w).map (pl b n)) (m - (gapsL row).length) _ (by rw [List.length_map]; omega) lW (shL_ok hb ((gapsL row).map (pl b n)) _ okP)
    rw [List.length_map] at h
    exact h
  have h5 : (sq (m - (gapsL row).length - (liesL row w).length) (ps b (shL b ((liesL row w).map (pl b n)) (shL b ((gapsL row).map (pl b n)) (rowP b s n e (gapsL row ++ liesL row w)))))).any (fun x => decide (x ≠ 0)) = false := by
    rw [List.any_eq_false]
    intro x hx
    obtain ⟨j, _, rfl⟩ := List.mem_map.mp hx
    rw [ps_zero hb]
    · decide
    · intro p hp
      rw [shL_is hb _ _ lW (shL_ok hb _ _ okP), shL_is hb _ _ gW okP, List.map_map] at hp
      obtain ⟨q, hq, rfl⟩ := List.mem_map.mp hp
      obtain ⟨i, hi, rfl⟩ := List.mem_map.mp hq
      show mul b (mul b _ (prd b (pl b n i) _)) (prd b (pl b n i) _) = 0
      rcases List.mem_append.mp hi with h | h
      · rw [prd_zero hb ((gapsL row).map (pl b n)) (List.mem_map.mpr ⟨i, h, rfl⟩), mul_zero, zero_mul hb]
      · rw [prd_zero hb ((liesL row w).map (pl b n)) (List.mem_map.mpr ⟨i, h, rfl⟩), mul_zero]
  unfold mendF
  rw [hN, h1]
  dsimp only
  rw [h3, h4]
  dsimp only
  rw [h5, sq_len, sq_len, if_neg (by omega), if_neg (by omega), if_neg Bool.false_ne_true, ← hdF_app, ← List.map_append]
  have h6 : (gapsL row ++ liesL row w).map (pl b n) = (rowP b s n e (gapsL row ++ liesL row w)).map (·.1) := (rowP_fst b s n e _).symm
  rw [h6, ww_ok hb _ _ rfl okP (by rw [← h6]; exact nodup_map _ wn fun i hi j hj h => pl_inj hb hn (wl i hi) (wl j hj) h)]
  have h7 : (rowP b s n e (gapsL row ++ liesL row w)).map (·.2) = (gapsL row ++ liesL row w).map fun i => mul b (e i) (pw b ((n - 1 - i) * s)) := by
    unfold rowP
    rw [List.map_map]
    rfl
  rw [h7]
  congr 2
  have lP := put_len (b := b) (s := s) (n := n) ((gapsL row ++ liesL row w).zip ((gapsL row ++ liesL row w).map fun i => mul b (e i) (pw b ((n - 1 - i) * s)))) (knownL row)
  have gP := fun k => put_gd (s := s) (n := n) hb he (gapsL row ++ liesL row w) (knownL row) k wn fun i hi => by rw [lk]; exact wl i hi
  generalize mendP b s n (knownL row) ((gapsL row ++ liesL row w).zip ((gapsL row ++ liesL row w).map fun i => mul b (e i) (pw b ((n - 1 - i) * s)))) = R at lP gP ⊢
  have e1 := gd_list R
  have e2 := gd_list w
  rw [← e1, ← e2, lP, lk, ← hl]
  refine List.map_congr_left fun k hk => ?_
  have hk' := List.mem_range.mp hk
  rw [gP]
  by_cases hm : k ∈ gapsL row ++ liesL row w
  · rw [if_pos hm, hE]
    show gd (knownL row) k ^^^ (gd (knownL row) k ^^^ gd w k) = gd w k
    rw [← Nat.xor_assoc, Nat.xor_self, Nat.zero_xor]
  · rw [if_neg hm, Nat.xor_zero]
    refine Classical.byContradiction fun hne => hm ?_
    have hr' : k ∈ List.range row.length := by rw [hN]; exact hk
    cases ho : og row k with
    | none => exact List.mem_append_left _ (List.mem_filter.mpr ⟨hr', by rw [ho]; rfl⟩)
    | some x => exact List.mem_append_right _ (List.mem_filter.mpr ⟨hr', by rw [ho]; show (true && _) = true; rw [Bool.true_and]; exact decide_eq_true hne⟩)
end My

set_option Elab.async false
set_option linter.all false
set_option maxRecDepth 100000
set_option maxHeartbeats 4000000
/-! ### defs that show lists: they do their work where nothing is being shown -/
namespace My
open PySem PySem.Spec PyProof.Rows L2
/-- nothing is being shown around -/
def Still (A : Around) : Prop := A.guards = some []
theorem still_caller : Still callerA := rfl
theorem Still.in1 {A : Around} (g : Still A) : Still A.in1 := g
theorem Still.deeper {A : Around} {env : Env} (g : Still A) : Still (A.deeper env) := g
/-- FnOk for such an around -/
structure FnG (Pr : Program) (wd : World) (K : PySem.W.Frag) (mg : Str → Option Value) (base : Heap) (CX : CXT)
    (k : Nat) (f : Addr) (fd : FuncData) (ps : List Str) (sp : Sp) : Prop where
  len : ∀ xs H Q E, sp xs H Q E → xs.length = ps.length
  run : ∀ (A : Around) (out : List Env) (s : Shared) (H : Hp) (ar : Args) (us : List Value) (xs : List V) (Q : VK) (E : XK),
    Still A → Room k A → Env0 Pr wd K mg base A out s H → BindsTo s fd ar (ps.zip us) → Vals xs us → sp xs H Q E →
    codeAny (model Pr wd) A (.call (.ref f) ar)
      (CR CX out Pr wd H s Q E) s
theorem FnG.of {Pr : Program} {wd : World} {K : PySem.W.Frag} {mg : Str → Option Value} {base : Heap} {CX : CXT} {k : Nat} {f : Addr} {fd : FuncData} {ps : List Str} {sp : Sp}
    (F : FnOk Pr wd K mg base CX k f fd ps sp) : FnG Pr wd K mg base CX k f fd ps sp :=
  ⟨F.len, fun A out s H ar us xs Q E _ => F.run A out s H ar us xs Q E⟩
section
variable {X : Cx}
/-- repr of plain data -/
def rRepr (K : PySem.W.Frag) : List V → Hp → VK → Prop := fun xs H Q => ∃ (a : Addr) (d : PyData), xs = [.ref a] ∧ Dp K H (.ref a) d ∧ d.showable = true ∧ d.hasDict = false ∧ d.depth ≤ 60 ∧ d.shown.length ≤ sizeLine ∧ Q (.str d.shown) H
theorem call_reprD (g : Still X.A) (hu : X.A.units + 64 < cLine) : CallR X (.builtin "repr") (rRepr X.K) := by
  intro pins s σ H xs us Q I r h
  obtain ⟨a, d, rfl, hd, hs, hn, hp, hz, q⟩ := h
  cases r with
  | @cons _ u _ ur ra rr =>
    cases rr
    obtain ⟨as, rd⟩ := Dp.reads I d _ u hd ra
    cases (show u = Value.ref a from ra)
    refine repr_of_reads' rd hs (fun z => by rw [hn] at z; cases z) g (by omega) (fun _ _ e => e) (fun h' v tk hk => ?_) hz
    exact ⟨.str d.shown, H, I.kept hk, ⟨v, rfl⟩, q⟩
/-- f(e, ..) of such a def -/
theorem callG {CX : CXT} {f : Addr} {fd : FuncData} {ps : List Str} {sp : Sp} {E : XK} {k : Nat} {ds : List Value} {dvs : List V} (F : FnG X.prog X.w X.K X.mg X.base CX k f fd ps sp) (g : Still X.A) (hr : Room k X.A) (hb : Binds X.K fd ps ds) (hd : Vals dvs ds) (hx : Passes CX X E)
    {pins : List (Addr × Obj)} {σ : L2.St} {H : Hp} {s : Shared} {Q : VK} {us : List Value} {vs : List V} (I : Inv X pins σ H s) (r : Vals vs us) (h : sp (vs ++ dvs) H Q E) :
    wpAny (model X.prog X.w) X.A (call (.ref f) us) (EP X pins σ Q) X.xe s := by
  have rr : Vals (vs ++ dvs) (us ++ ds) := r.append hd
  have n : (us ++ ds).length = ps.length := rr.length.symm.trans (F.len _ _ _ _ h)
  have z := F.run X.A X.stack s H ⟨us, []⟩ (us ++ ds) (vs ++ dvs) Q E g hr I.env0 (hb s us I.kIn n) rr h
  refine wpAny_call (codeAny_mono z fun res s' q => ?_)
  match res, q with
  | .error e, q => exact hx pins σ H s e s' I q
  | .ok (.ret u), q => exact I.after q
  | .ok .next, q => exact False.elim q
  | .ok .brk, q => exact False.elim q
  | .ok .cont, q => exact False.elim q
theorem pe_callG {CX : CXT} {f : Addr} {fd : FuncData} {ps : List Str} {sp : Sp} {E : XK} {k : Nat} {ds : List Value} {dvs : List V} {x : Str} {e : Expr} {es : List Expr} {t : TA} {p pos : Pos} (F : FnG X.prog X.w X.K X.mg X.base CX k f fd ps sp) (g : Still X.A) (hr : Room k X.A) (hg : Gl X x) (hm : X.mg x = some (.ref f))
    (hk : PySem.W.keepIn X.K (.ref f) = true) (hb : Binds X.K fd ps ds) (hd : Vals dvs ds) (hx : Passes CX X E) (ha : PA X (e :: es) t)
    (hdb : (x == ("__debug__" : Str)) = false := by decide) (he : starEach (e :: es) X.env = (false, eval e X.env) :: starEach es X.env := by rfl) (hpl : (backTo pos (starEach es X.env)).any (·.1) = false := by rfl) :
    PE X (.Call (.Name x p) (e :: es) [] pos) (tCall sp dvs E t) :=
  ⟨fun pins s σ H Q I h => wpAny_Call_Name_kw (ld_glob I hg hm (PySem.W.callWith_K (h₀ := X.base) I.ok.mod.kin hk
    (thn (ha.run pos pins s σ H _ I h) fun us s1 z => by
      obtain ⟨vs, H1, I1, r, q⟩ := z
      exact ⟨I1.kIn, callG F g hr hb hd hx I1 r q⟩) he hpl) hdb)⟩
end
section
variable {Pr : Program} {wd : World} {K : PySem.W.Frag} {mg : Str → Option Value} {base : Heap}
/-- such a def by its body -/
theorem okStill {x qual : Str} {st : Stmt} {f : Addr} {fd : FuncData} {N ps : List Str} {k : Nat} {sp : Sp} (F : Fun K x qual st f fd) (S : FnScope N ps (defScope st)) (len : ∀ xs H Q E, sp xs H Q E → xs.length = ps.length)
    (body : ∀ (cdv : Value) (A : Around) (out : List Env) (s : Shared) (H : Hp) (xs : List V) (Q : VK) (E : XK), Still A → Room k (A.deeper (envOfC qual (defScope st) s.heap.objs.size f cdv)) → sp xs H Q E →
      ∃ t, PSs (cxOf CX0 Pr wd K mg base N qual (defScope st) f cdv A out s H E).nox (defBody st) t ∧ t { nx := fun _ H' => Q .non H', rt := Q } (start N xs) H) :
    FnG Pr wd K mg base CX0 (k + 1) f fd ps sp := by
  obtain ⟨oc, od, kV, doc, pm, an, cdv, ct, osl, rfl, lk, hcd⟩ := F.ex
  refine ⟨len, fun A out s H ar us xs Q E g hr e0 hb r h => ?_⟩
  have old : ∀ b o, base.get? b = some o → s.heap.get? b = some o := fun b o e => (e0.bs b o e).1
  have inK := e0.mod.kin.keeps old
  have kinds : ∀ y ∈ ps.zip us, (defScope st).names.lookup y.1 = some .local ∨
      ((defScope st).names.lookup y.1 = some .cell ∧ ((cellsFrom (s.heap.objs.size + 1) (defScope st).names []).lookup y.1).isSome = true) := by
    rintro ⟨y, z⟩ hy
    exact (S.par y (List.of_mem_zip hy).1).imp id fun c => ⟨c, PySem.W.cellsFrom_some _ _ _ (.inl c)⟩
  refine codeAny_call_function hr.depth (inK _ _ lk) rfl S.co S.gen rfl (PySem.W.codeRec_of inK hcd) (hb _ _ _ _ (wpAny_newFunctionEnv_cells S.kind kinds fun en he s1 y => ?_))
  subst he
  refine ⟨(e0.mod.nolimit.keeps old).keeps y.toInCall.keep, codeAny_func ?_⟩
  obtain ⟨t, ht, q⟩ := body cdv A out s H xs Q E g (hr.deeper _) h
  have I : Inv (cxOf CX0 Pr wd K mg base N qual (defScope st) f cdv A out s H E) [] (start N xs) H s1 :=
    inv_start S hr.hd e0 (len _ _ _ _ h) r y
  refine wpAny_mono (ht.nox.run [] s1 (start N xs) H _ I q) (fun fl s' z => ?_) fun _ _ z => z
  match fl, z with
  | .ret u, ⟨v, σ', H', J, rv, qv⟩ => exact ⟨v, H', J.os, J.bare, J.base, J.hok, rv, qv⟩
  | .next, ⟨σ', H', J, qv⟩ => exact ⟨.non, H', J.os, J.bare, J.base, J.hok, rfl, qv⟩
  | .brk, ⟨_, _, _, no⟩ => exact False.elim no
  | .cont, ⟨_, _, _, no⟩ => exact False.elim no
end
end My

set_option Elab.async false
set_option linter.all false
set_option maxRecDepth 100000
set_option maxHeartbeats 4000000
/-! ### the way in from the claim's caller, around whom nothing is being shown -/
namespace My
open PySem PySem.Spec PyProof.Rows L2
theorem lawG {Pr : Program} {wd : World} {K : PySem.W.Frag} {mg mb : Str → Option Value} {CX : CXT} {k : Nat} {fa a : Addr} {fd : FuncData} {x : Str} {sp : Sp} {s1 : Shared} {us : List Value} {ns : List Int}
    (kin : K.In s1.heap) (hns : s1.heap.Ns mainGlobals mg) (hbn : s1.heap.Ns builtinsNs mb) (hbt : ∀ y : Str, y ≠ "__name__" → mb y = bootBuiltins y) (nol : s1.heap.NoLimit) (gen0 : s1.gens = #[])
    (ha : s1.heap.get? a = some { cls := .type "list", data := .seq us.toArray }) (hints : IntsAre us ns) (len : ns.length ≤ sizeLine) (room : Room k callerA)
    (F : ∀ B : Heap, K.In B → B.Ns mainGlobals mg → FnG Pr wd K mg B CX k fa fd [x] sp) (bind : ∀ (s : Shared) (u : Value), BindsTo s fd ⟨[u], []⟩ [(x, u)])
    (keeps : ∀ H : Hp, Only H → SqL K H a (ns.map V.int) → sp [.ref a] H (fun v _ => v = .bl true) fun _ _ _ => False)
    (calm : ∀ H e s', CX [] H s1 (fun _ _ _ => False) e s' → False) :
    codeAny (model Pr wd) callerA (.call (.ref fa) ⟨[.ref a], []⟩)
      (fun r s' => r = .ok (.ret (.bool true)) ∧ OldK s1.heap s'.heap ∧ s'.os = s1.os ∧ AllBare s'.gens) s1 := by
  have rel := vals_ints hints
  -- from a heap of words in which at most the script stands, and only where it is not of the written part
  have go : ∀ H : Hp, Only H → SqL K H a (ns.map V.int) → HOk Pr wd H s1.heap → (∀ b, H b ≠ none → b = a ∧ K.lookup a = none) →
      codeAny (model Pr wd) callerA (.call (.ref fa) ⟨[.ref a], []⟩)
        (fun r s' => r = .ok (.ret (.bool true)) ∧ OldK s1.heap s'.heap ∧ s'.os = s1.os ∧ AllBare s'.gens) s1 := by
    intro H only sq ok few
    have away : ∀ {b : Addr}, ¬ (b = a ∧ K.lookup a = none) → H b = none := fun {b} z => Classical.byContradiction fun y => z (few b y)
    have kin' : K.In (hidT s1.heap H) := fun b o e => hidT_get (kin b o e) (away fun z => by
      obtain ⟨rfl, y⟩ := z
      rw [y] at e
      cases e)
    have ns' : ∀ {b : Addr} {m : Str → Option Value}, s1.heap.Ns b m → (hidT s1.heap H).Ns b m := by
      rintro b m ⟨o, es, ep, e, d, r⟩
      refine ⟨o, es, ep, hidT_get e (away ?_), d, r⟩
      rintro ⟨rfl, _⟩
      cases ha.symm.trans e
      cases d
    obtain ⟨mc, l1, l2⟩ := nol
    have env : Env0 Pr wd K mg (hidT s1.heap H) callerA [] s1 H :=
      ⟨rfl, ⟨kin', ns' hns, ⟨mb, ns' hbn, hbt⟩, mc, ns' l1, l2⟩, fun b o e => of_hidT e, Nat.le_of_eq (hidT_size _ _), trivial, fun b z => (nomatch (show b ∈ ([] : List Addr) from z)), ok, .of_eq gen0⟩
    have run := (F _ kin' (ns' hns)).run callerA [] s1 H ⟨[.ref a], []⟩ [.ref a] [.ref a] _ _ still_caller room env (bind s1 (.ref a)) (.cons rfl .nil) (keeps H only sq)
    refine codeAny_mono run fun res s' z => ?_
    match res, z with
    | .error e, z => exact (calm H e s' z).elim
    | .ok .next, z => exact False.elim z
    | .ok .brk, z => exact False.elim z
    | .ok .cont, z => exact False.elim z
    | .ok (.ret u), ⟨v, H', os, bare, un, ok', rv, qv⟩ =>
      cases (show v = .bl true from qv)
      cases (show u = Value.bool true from rv)
      refine ⟨rfl, OldK.of_keep fun b o e => ?_, os, bare⟩
      rcases only b with n | ⟨ob, ys, n⟩
      · exact un.keep b o e n (fun z => nomatch (show b ∈ ([] : List Addr) from z)) (fun z => nomatch z)
      · have e1 := (ok b _ n).1
        have e2 := (ok' b _ (un.frzs b ob _ n)).1
        cases e.symm.trans e1
        exact e2
  cases hk : K.lookup a with
  | some o =>
    cases ha.symm.trans (kin a o hk)
    refine go (fun _ => none) (fun _ => .inl rfl) (.inr ⟨_, us.toArray, _, hk, rfl, rfl, rfl, ?_, by simpa using rel⟩) (fun b u z => nomatch (show (none : Option HO) = some u from z)) fun b z => absurd rfl z
    rw [List.size_toArray, hints.length]
    exact len
  | none =>
    have here : (fun b => if b = a then some (HO.frz { cls := .type "list", data := .seq us.toArray } (.lst (ns.map V.int))) else none : Hp) a = some (HO.frz { cls := .type "list", data := .seq us.toArray } (.lst (ns.map V.int))) := if_pos rfl
    have there : ∀ {b : Addr}, b ≠ a → (fun b => if b = a then some (HO.frz { cls := .type "list", data := .seq us.toArray } (.lst (ns.map V.int))) else none : Hp) b = none := fun n => if_neg n
    generalize (fun b => if b = a then some (HO.frz { cls := .type "list", data := .seq us.toArray } (.lst (ns.map V.int))) else none : Hp) = H at here there
    have two : ∀ b : Addr, b = a ∨ H b = none := fun b => (Classical.em (b = a)).imp id there
    refine go H (fun b => ?_) (.inl (.inr ⟨_, here⟩)) (fun b u z => ?_) fun b z => ⟨(two b).resolve_right z, hk⟩
    · rcases two b with rfl | n
      · exact .inr ⟨_, _, here⟩
      · exact .inl n
    · rcases two b with rfl | n
      · cases here.symm.trans z
        exact ⟨ha, by rw [List.length_map]; exact len, us, _, rel, ha⟩
      · cases n.symm.trans z
theorem walkG {l : PySem.W.OpenLaw} {n k : Nat} {q : Program} {loose : List Str} {XP : (Str → Option Value) → Heap → Prop} {YP : World → Heap → Prop} {d : DefRec} {K : Params → PySem.W.Frag} {CX : World → CXT} {sp : World → Sp} {x : Str}
    (most : l.most = some n) (nl : n ≤ sizeLine) (nod : d.params.defaults = []) (room : Room k callerA) (hY : ∀ (wd : World) (h : Heap), YP wd h → (K wd.params).In h)
    (F : ∀ (wd : World) (mg : Str → Option Value) (fa : Addr) (h : Heap), (K wd.params).In h → h.Ns mainGlobals mg → mg d.name = some (.ref fa) →
      ∃ fd : FuncData, (∀ (s : Shared) (u : Value), BindsTo s fd ⟨[u], []⟩ [(x, u)]) ∧ ∀ B : Heap, (K wd.params).In B → B.Ns mainGlobals mg → FnG l.prog wd (K wd.params) mg B (CX wd) k fa fd [x] (sp wd))
    (keeps : ∀ (wd : World) (H : Hp) (a : Addr) (ns : List Int), ns.length ≤ n → Only H → SqL (K wd.params) H a (ns.map V.int) → sp wd [.ref a] H (fun v _ => v = .bl true) fun _ _ _ => False)
    (calm : ∀ (wd : World) (H : Hp) (s : Shared) (e : Value) (s' : Shared), CX wd [] H s (fun _ _ _ => False) e s' → False) :
    PySem.W.WalkO q loose XP YP l.row.toRowW d [] (fun f vs => PySem.call f vs) :=
  Att.attach_call most nod fun wd s0 s1 mg mb fa o pm cd doc a us ns G Y ho hd hcd hmg hobj hints len gen0 => by
    obtain ⟨fd, hb, hF⟩ := F wd mg fa _ (hY wd _ Y) G.T.g hmg
    exact lawG (hY wd _ Y) G.T.g G.T.b G.T.builtins G.T.nolimit gen0 hobj hints (Nat.le_trans len nl) room hF hb (fun H => keeps wd H a ns len) fun H e s' => calm wd H s1 e s'
end My

set_option Elab.async false
set_option linter.all false
set_option maxRecDepth 100000
set_option maxHeartbeats 4000000
/-! ### any() over words -/
namespace My
open PySem PySem.Spec PyProof.Rows L2
theorem words_plain : ∀ ws : List Nat, PyData.plainAll (ws.map dI) = true
  | [] => rfl
  | w :: r => by
    show (PyData.plain (dI w) && PyData.plainAll (r.map dI)) = true
    rw [words_plain r]
    rfl
theorem words_any (ws : List Nat) : (ws.map dI).any PyData.truthy = ws.any fun w => decide (w ≠ 0) := by
  rw [List.any_map]
  congr 1
  funext w
  show ((w : Int) != 0) = decide (w ≠ 0)
  by_cases h : w = 0
  · subst h
    rfl
  · simp [h]
section
variable {X : Cx}
def rAnyN (K : PySem.W.Frag) : List V → Hp → VK → Prop := fun vs H Q => ∃ (a : Addr) (ws : List Nat), vs = [V.ref a] ∧ SqL K H a (ws.map vN) ∧ Q (.bl (ws.any fun w => decide (w ≠ 0))) H
theorem cr_anyN (hc : X.calm = true) : CallR X (.builtin "any") (rAnyN X.K) := by
  intro pins s σ H vs us Q I r h
  obtain ⟨a, ws, rfl, hs, q⟩ := h
  obtain ⟨its, rv, hl, _⟩ := I.list hs
  rw [Vals.ref1 r]
  obtain ⟨as, ra⟩ := Dp.readsAll I (ws.map dI) (ws.map vN) its (dp_all ws) rv
  refine PySem.W.any_list_data (I.ok.hd hc) hl.isList ra (words_plain ws) (fun x hx => ?_) fun h' tk hk => ?_
  · obtain ⟨w, _, rfl⟩ := List.mem_map.mp hx
    trivial
  · rw [words_any]
    exact ⟨.bl _, H, I.kept hk, rfl, q⟩
end
end My

set_option Elab.async false
set_option linter.all false
set_option maxRecDepth 100000
set_option maxHeartbeats 4000000
/-! ### rows with gaps, as values -/
namespace My
open PySem PySem.Spec PyProof.Rows L2
def vO : Option Nat → V
  | none => .non
  | some n => vN n
theorem call_len_seqK {X : Cx} {K : PySem.W.Frag} (h : X.K = K) : CallR X (.builtin "len") (fun xs H Q => ∃ p ys, xs = [V.ref p] ∧ (SqL K H p ys ∨ SqT K H p ys) ∧ Q (.int (ys.length : Nat)) H) := by
  subst h
  exact call_len_seq
theorem og_at {row : List (Option Nat)} {i : Nat} {v : V} (hi : i < row.length) (e : (row.map vO)[i]? = some v) : v = vO (og row i) := by
  rw [List.getElem?_map, List.getElem?_eq_getElem hi] at e
  unfold og
  rw [List.getD_eq_getElem?_getD, List.getElem?_eq_getElem hi]
  exact (Option.some.inj e).symm
theorem og_mem {row : List (Option Nat)} {i x : Nat} (hi : i < row.length) (e : og row i = some x) : some x ∈ row := by
  unfold og at e
  rw [List.getD_eq_getElem?_getD, List.getElem?_eq_getElem hi] at e
  have e2 : row[i] = some x := e
  rw [← e2]
  exact List.getElem_mem hi
theorem filter_snoc {p : Nat → Bool} (i : Nat) : (List.range (i + 1)).filter p = (List.range i).filter p ++ (if p i = true then [i] else []) := by
  rw [List.range_succ, List.filter_append]
  congr 1
  rw [List.filter_cons]
  split <;> rfl
end My

set_option Elab.async false
set_option linter.all false
set_option maxRecDepth 100000
set_option maxHeartbeats 4000000
/-! ### what is mended is right and within the bound -/
namespace My
theorem wo_len4 (b X : Nat) (S : List Nat) : (wo b X S).length = S.length - 1 := by unfold wo; simp
theorem wo_ws4 {b X : Nat} {S : List Nat} (hb : Wd b) (hS : Ws b S) : Ws b (wo b X S) := fun x hx => by
  obtain ⟨k, _, rfl⟩ := List.mem_map.mp hx
  exact xor_lt hb (gd_lt hb hS _) (mul_lt hb (gd_lt hb hS _))
theorem wo_gd {b X k : Nat} {S : List Nat} (h : k + 1 < S.length) : gd (wo b X S) k = gd S (k + 1) ^^^ mul b (gd S k) X := by
  unfold wo
  rw [gd_map, if_pos (by omega)]
theorem hds_len1 (b : Nat) : ∀ (Xs S : List Nat), (hds b Xs S).1.length = Xs.length
  | [], _ => rfl
  | X :: r, S => by
    show (hds b r (wo b X S)).1.length + 1 = r.length + 1
    rw [hds_len1 b r]
theorem hds_len2 (b : Nat) : ∀ (Xs S : List Nat), (hds b Xs S).2.length = S.length - Xs.length
  | [], _ => rfl
  | X :: r, S => by
    show (hds b r (wo b X S)).2.length = S.length - (r.length + 1)
    rw [hds_len2 b r, wo_len4]
    omega
theorem hds_ws4 {b : Nat} (hb : Wd b) : ∀ (Xs S : List Nat), Ws b S → Ws b (hds b Xs S).1 ∧ Ws b (hds b Xs S).2
  | [], S, h => ⟨(fun x hx => nomatch hx), h⟩
  | X :: r, S, h => by
    have ih := hds_ws4 hb r _ (wo_ws4 (X := X) hb h)
    refine ⟨fun x hx => ?_, ih.2⟩
    rcases List.mem_cons.mp hx with rfl | hx
    · exact gd_lt hb h 0
    · exact ih.1 x hx
theorem hds_app (b : Nat) : ∀ (A B S : List Nat), hds b (A ++ B) S = ((hds b A S).1 ++ (hds b B (hds b A S).2).1, (hds b B (hds b A S).2).2)
  | [], _, _ => rfl
  | X :: r, B, S => by
    show (gd S 0 :: (hds b (r ++ B) (wo b X S)).1, (hds b (r ++ B) (wo b X S)).2) = _
    rw [hds_app b r B]
    rfl
theorem xor_same {x y z : Nat} (h : x ^^^ z = y ^^^ z) : x = y := by
  have h2 := congrArg (· ^^^ z) h
  simp only [Nat.xor_assoc, Nat.xor_self, Nat.xor_zero] at h2
  exact h2
theorem gd_ext {S S' : List Nat} (hl : S.length = S'.length) (h : ∀ k, k < S.length → gd S k = gd S' k) : S = S' := by
  rw [← gd_list S, ← gd_list S', hl]
  exact List.map_congr_left fun k hk => h k (by rw [hl]; exact List.mem_range.mp hk)
theorem hds_inj {b : Nat} : ∀ (Xs S S' : List Nat), S.length = S'.length → Xs.length ≤ S.length → hds b Xs S = hds b Xs S' → S = S'
  | [], S, S', _, _, h => (Prod.mk.inj h).2
  | X :: r, S, S', hl, hn, h => by
    have e : (gd S 0 :: (hds b r (wo b X S)).1, (hds b r (wo b X S)).2) = (gd S' 0 :: (hds b r (wo b X S')).1, (hds b r (wo b X S')).2) := h
    obtain ⟨e1, e2⟩ := Prod.mk.inj e
    obtain ⟨e3, e4⟩ := List.cons.inj e1
    rw [List.length_cons] at hn
    have ih := hds_inj r (wo b X S) (wo b X S') (by rw [wo_len4, wo_len4, hl]) (by rw [wo_len4]; omega) (Prod.ext e4 e2)
    refine gd_ext hl fun k => ?_
    induction k with
    | zero => exact fun _ => e3
    | succ k hk =>
      intro hlt
      have h1 := congrArg (fun L => gd L k) ih
      have h1 : gd (wo b X S) k = gd (wo b X S') k := h1
      rw [wo_gd hlt, wo_gd (by omega), hk (by omega)] at h1
      exact xor_same h1
theorem ww_len4 {b : Nat} : ∀ (Xs hs : List Nat), Xs.length = hs.length → (ww b Xs hs).length = Xs.length
  | [], _, _ => rfl
  | X :: r, [], h => by cases h
  | X :: r, h :: hs, hl => by
    have ih := ww_len4 (b := b) r hs (by simpa using hl)
    show (List.zipWith _ (ww b r hs) r).length + 1 = r.length + 1
    rw [List.length_zipWith, ih, Nat.min_self]
theorem zq_ws {b X : Nat} (hb : Wd b) : ∀ (A r : List Nat), Ws b A → Ws b (List.zipWith (fun s p => quo b s (p ^^^ X)) A r)
  | [], _, _ => fun x hx => nomatch hx
  | a :: A, [], _ => fun x hx => nomatch hx
  | a :: A, p :: r, h => fun x hx => by
    rcases List.mem_cons.mp hx with rfl | hx
    · exact mul_lt hb (h a (List.mem_cons_self ..))
    · exact zq_ws hb A r (fun y hy => h y (List.mem_cons_of_mem _ hy)) x hx
theorem ww_ws4 {b : Nat} (hb : Wd b) : ∀ (Xs hs : List Nat), Ws b hs → Ws b (ww b Xs hs)
  | [], _, _ => fun x hx => nomatch hx
  | X :: r, [], _ => fun x hx => nomatch hx
  | X :: r, h :: hs, hw => by
    have ih := ww_ws4 hb r hs fun y hy => hw y (List.mem_cons_of_mem _ hy)
    have hz := zq_ws (X := X) hb (ww b r hs) r ih
    intro x hx
    rcases List.mem_cons.mp hx with rfl | hx
    · exact xor_lt hb (hw h (List.mem_cons_self ..)) (xl_lt hb _ hz)
    · exact hz x hx
theorem zip_ok {b : Nat} {Xs Z : List Nat} (hX : Ws b Xs) (hZ : Ws b Z) : PtOk b (Xs.zip Z) := fun p hp => by
  obtain ⟨x, z⟩ := p
  exact ⟨hX x (List.of_mem_zip hp).1, hZ z (List.of_mem_zip hp).2⟩
theorem sh_zq {b X : Nat} (hb : Wd b) (hX : X < span b) : ∀ (A r : List Nat), A.length = r.length → Ws b A → Ws b r → X ∉ r → sh b X (r.zip (List.zipWith (fun s p => quo b s (p ^^^ X)) A r)) = r.zip A
  | [], [], _, _, _, _ => rfl
  | a :: A, p :: r, hl, hA, hr, hn => by
    have ih := sh_zq hb hX A r (by simpa using hl) (fun y hy => hA y (List.mem_cons_of_mem _ hy)) (fun y hy => hr y (List.mem_cons_of_mem _ hy)) fun h => hn (List.mem_cons_of_mem _ h)
    have lp := hr p (List.mem_cons_self ..)
    show (p, mul b (quo b a (p ^^^ X)) (p ^^^ X)) :: sh b X (r.zip (List.zipWith (fun s p => quo b s (p ^^^ X)) A r)) = (p, a) :: r.zip A
    rw [ih, mul_quo hb (hA a (List.mem_cons_self ..)) (xor_lt hb lp hX) (xor_ne fun e => hn (e ▸ List.mem_cons_self ..))]
  | [], _ :: _, h, _, _, _ => by cases h
  | _ :: _, [], h, _, _, _ => by cases h
theorem hdF_ww {b : Nat} (hb : Wd b) : ∀ (Xs hs : List Nat), Xs.length = hs.length → Ws b Xs → Ws b hs → Xs.Nodup → hdF b Xs (Xs.zip (ww b Xs hs)) = hs
  | [], [], _, _, _, _ => rfl
  | [], _ :: _, h, _, _, _ => by cases h
  | _ :: _, [], h, _, _, _ => by cases h
  | X :: r, h :: hs, hl, hX, hh, hnd => by
    rw [List.nodup_cons] at hnd
    have hl' : r.length = hs.length := by simpa using hl
    have hr : Ws b r := fun y hy => hX y (List.mem_cons_of_mem _ hy)
    have hs' : Ws b hs := fun y hy => hh y (List.mem_cons_of_mem _ hy)
    have lX := hX X (List.mem_cons_self ..)
    have lh := hh h (List.mem_cons_self ..)
    have ih := hdF_ww hb r hs hl' hr hs' hnd.2
    have wA := ww_ws4 hb r hs hs'
    have lA := ww_len4 (b := b) r hs hl'
    have e1 := sh_zq hb lX (ww b r hs) r lA wA hr hnd.1
    have wZ := zq_ws (X := X) hb (ww b r hs) r wA
    have lZ : (List.zipWith (fun s p => quo b s (p ^^^ X)) (ww b r hs) r).length = r.length := by rw [List.length_zipWith, lA, Nat.min_self]
    show ps b ((X, h ^^^ xl (List.zipWith (fun s p => quo b s (p ^^^ X)) (ww b r hs) r)) :: r.zip (List.zipWith (fun s p => quo b s (p ^^^ X)) (ww b r hs) r)) 0 ::
      hdF b r ((X, mul b _ (X ^^^ X)) :: sh b X (r.zip (List.zipWith (fun s p => quo b s (p ^^^ X)) (ww b r hs) r))) = h :: hs
    rw [e1, Nat.xor_self, mul_zero, hdF_zero hb, ih, ps_at0 hb, List.map_cons]
    · congr 1
      have e2 : (r.zip (List.zipWith (fun s p => quo b s (p ^^^ X)) (ww b r hs) r)).map (·.2) = List.zipWith (fun s p => quo b s (p ^^^ X)) (ww b r hs) r := by
        rw [show (fun x : Nat × Nat => x.2) = Prod.snd from rfl, List.map_snd_zip (by omega)]
      rw [e2]
      show h ^^^ xl _ ^^^ xl _ = h
      rw [Nat.xor_assoc, Nat.xor_self, Nat.xor_zero]
    · intro p hp
      rcases List.mem_cons.mp hp with rfl | hp
      · exact ⟨lX, xor_lt hb lh (xl_lt hb _ wZ)⟩
      · exact zip_ok hr wZ p hp
theorem share_is {b : Nat} (hb : Wd b) {g : Nat → Nat} (hg : ∀ i, g i < span b ∧ g i ≠ 0) : ∀ P Y : List Nat, P.length = Y.length → P.Nodup → Ws b Y →
    ∃ e : Nat → Nat, (∀ i, e i < span b) ∧ (∀ i, i ∉ P → e i = 0) ∧ Y = P.map fun i => mul b (e i) (g i)
  | [], [], _, _, _ => ⟨fun _ => 0, fun _ => zero_lt hb, fun _ _ => rfl, rfl⟩
  | [], _ :: _, h, _, _ => by cases h
  | _ :: _, [], h, _, _ => by cases h
  | i :: P, y :: Y, hl, hnd, hY => by
    rw [List.nodup_cons] at hnd
    obtain ⟨e, e1, e2, e3⟩ := share_is hb hg P Y (by simpa using hl) hnd.2 fun x hx => hY x (List.mem_cons_of_mem _ hx)
    have ly := hY y (List.mem_cons_self ..)
    refine ⟨fun k => if k = i then quo b y (g i) else e k, fun k => ?_, fun k hk => ?_, ?_⟩
    · dsimp only
      split
      · exact mul_lt hb ly
      · exact e1 k
    · dsimp only
      rw [if_neg (fun h : k = i => hk (h ▸ List.mem_cons_self ..))]
      exact e2 k fun h => hk (List.mem_cons_of_mem _ h)
    · dsimp only
      rw [List.map_cons, if_pos rfl, mul_quo hb ly (hg i).1 (hg i).2]
      congr 1
      refine e3.trans (List.map_congr_left fun k hk => ?_)
      rw [if_neg (fun h : k = i => hnd.1 (h ▸ hk))]
theorem filter_le {p q : Nat → Bool} (l : List Nat) (h : ∀ i ∈ l, p i = true → q i = true) : (l.filter p).length ≤ (l.filter q).length := by
  rw [← List.countP_eq_length_filter, ← List.countP_eq_length_filter]
  exact List.countP_mono_left h
/-- shares laid at places of a row -/
theorem mend_sound {b s m : Nat} {row : List (Option Nat)} {w ly : List Nat} (hb : Wd b) (hn : row.length ≤ turn b) (hrow : RowOk b row)
    (hm : mendF b s row ((List.range m).map fun j => evl b (pw b (s + j)) (knownL row)) = some (w, ly)) :
    w.length = row.length ∧ Ws b w ∧ (∀ j, j < m → evl b (pw b (s + j)) w = 0) ∧ 2 * (liesL row w).length + (gapsL row).length ≤ m ∧ ly = liesL row w := by
  have hk := known_ws hb hrow
  have lk := known_len row
  have hS : (List.range m).map (fun j => evl b (pw b (s + j)) (knownL row)) = sq m fun j => evl b (pw b (s + j)) (knownL row) := rfl
  have hm0 := hm
  rw [hS] at hm
  have wS : Ws b (sq m fun j => evl b (pw b (s + j)) (knownL row)) := sq_ws fun j => evl_lt hb hk
  have lS : (sq m fun j => evl b (pw b (s + j)) (knownL row)).length = m := sq_len _ _
  have gS : ∀ j, j < m → gd (sq m fun j => evl b (pw b (s + j)) (knownL row)) j = evl b (pw b (s + j)) (knownL row) := fun j hj => sq_gd hj
  generalize (sq m fun j => evl b (pw b (s + j)) (knownL row)) = S at hm wS lS gS
  unfold mendF at hm
  generalize hN : row.length = n at *
  generalize hL : lyL b row (ruleF b (hds b ((gapsL row).map (pl b n)) S).2) = L at hm
  have l1 := hds_len1 b ((gapsL row).map (pl b n)) S
  have l2 := hds_len2 b ((gapsL row).map (pl b n)) S
  have l3 := hds_len1 b (L.map (pl b n)) (hds b ((gapsL row).map (pl b n)) S).2
  have hA := hds_app b ((gapsL row).map (pl b n)) (L.map (pl b n)) S
  have wA := hds_ws4 hb ((gapsL row).map (pl b n) ++ L.map (pl b n)) S wS
  rw [hA] at wA
  rw [List.length_map] at l1 l2 l3
  by_cases c1 : S.length < (gapsL row).length
  · rw [if_pos c1] at hm; cases hm
  rw [if_neg c1] at hm
  by_cases c2 : (hds b ((gapsL row).map (pl b n)) S).2.length < 2 * L.length
  · rw [if_pos c2] at hm; cases hm
  rw [if_neg c2] at hm
  by_cases c3 : (hds b (L.map (pl b n)) (hds b ((gapsL row).map (pl b n)) S).2).2.any (fun x => decide (x ≠ 0)) = true
  · rw [if_pos c3] at hm; cases hm
  rw [if_neg c3] at hm
  obtain ⟨e1, e2⟩ := Prod.mk.inj (Option.some.inj hm)
  clear hm
  subst e2
  have ndr : (List.range n).Nodup := List.nodup_range
  have hg : ∀ i ∈ gapsL row, i < n ∧ (og row i).isNone = true := fun i hi => by
    obtain ⟨h1, h2⟩ := List.mem_filter.mp hi
    exact ⟨by rw [← hN]; exact List.mem_range.mp h1, h2⟩
  have hly : ∀ i ∈ L, i < n ∧ (og row i).isSome = true := fun i hi => by
    rw [← hL] at hi
    obtain ⟨h1, h2⟩ := List.mem_filter.mp hi
    rw [Bool.and_eq_true] at h2
    exact ⟨by rw [← hN]; exact List.mem_range.mp h1, h2.1⟩
  have gn : (gapsL row).Nodup := by unfold gapsL; rw [hN]; exact ndr.filter _
  have ln : L.Nodup := by rw [← hL]; unfold lyL; rw [hN]; exact ndr.filter _
  have dj : ∀ i ∈ gapsL row, ∀ j ∈ L, i ≠ j := fun i hi j hj e => by
    subst e
    have h1 := (hg i hi).2
    have h2 := (hly i hj).2
    cases h : og row i with
    | none => rw [h] at h2; cases h2
    | some x => rw [h] at h1; cases h1
  have wn : (gapsL row ++ L).Nodup := List.nodup_append.mpr ⟨gn, ln, dj⟩
  have wl : ∀ i ∈ gapsL row ++ L, i < n := fun i hi => by
    rcases List.mem_append.mp hi with h | h
    · exact (hg i h).1
    · exact (hly i h).1
  -- the shares
  have lH : ((gapsL row).map (pl b n) ++ L.map (pl b n)).length = ((hds b ((gapsL row).map (pl b n)) S).1 ++ (hds b (L.map (pl b n)) (hds b ((gapsL row).map (pl b n)) S).2).1).length := by
    rw [List.length_append, List.length_append, List.length_map, List.length_map, l1, l3]
  have wX : Ws b ((gapsL row).map (pl b n) ++ L.map (pl b n)) := fun x hx => by
    rw [← List.map_append] at hx
    obtain ⟨i, _, rfl⟩ := List.mem_map.mp hx
    exact pw_lt hb _
  have nX : ((gapsL row).map (pl b n) ++ L.map (pl b n)).Nodup := by
    rw [← List.map_append]
    exact nodup_map _ wn fun i hi j hj h => pl_inj hb hn (wl i hi) (wl j hj) h
  have hF := hdF_ww hb _ _ lH wX wA.1 nX
  have lW := ww_len4 (b := b) _ _ lH
  have wW := ww_ws4 hb ((gapsL row).map (pl b n) ++ L.map (pl b n)) _ wA.1
  rw [List.map_append] at e1
  generalize hY : ww b ((gapsL row).map (pl b n) ++ L.map (pl b n)) ((hds b ((gapsL row).map (pl b n)) S).1 ++ (hds b (L.map (pl b n)) (hds b ((gapsL row).map (pl b n)) S).2).1) = Y at hF lW wW e1
  have okZ := zip_ok wX wW
  have hP := hds_ps hb ((gapsL row).map (pl b n) ++ L.map (pl b n)) m _ (by rw [List.length_append, List.length_map, List.length_map]; omega) wX okZ
  have nS : S = sq m (ps b (((gapsL row).map (pl b n) ++ L.map (pl b n)).zip Y)) := by
    refine hds_inj (b := b) ((gapsL row).map (pl b n) ++ L.map (pl b n)) _ _ (by rw [sq_len, lS]) (by rw [List.length_append, List.length_map, List.length_map]; omega) ?_
    rw [hA, hP, hF]
    refine Prod.ext rfl ?_
    have lT := hds_len2 b (L.map (pl b n)) (hds b ((gapsL row).map (pl b n)) S).2
    rw [List.length_map] at lT
    refine gd_ext (S := (hds b (L.map (pl b n)) (hds b ((gapsL row).map (pl b n)) S).2).2) (by rw [sq_len, List.length_append, List.length_map, List.length_map]; omega) fun k hk => ?_
    rw [sq_gd (by rw [List.length_append, List.length_map, List.length_map]; omega), ps_zero hb]
    · have h := c3
      rw [Bool.not_eq_true, List.any_eq_false] at h
      have h2 := h (gd (hds b (L.map (pl b n)) (hds b ((gapsL row).map (pl b n)) S).2).2 k) (List.mem_of_getElem? (gd_in hk))
      exact Classical.byContradiction fun z => h2 (decide_eq_true z)
    · intro p hp
      rw [shL_is hb _ _ wX okZ] at hp
      obtain ⟨q, hq, rfl⟩ := List.mem_map.mp hp
      obtain ⟨x, y⟩ := q
      show mul b y (prd b x _) = 0
      rw [prd_zero hb _ (List.of_mem_zip hq).1, mul_zero]
  have hgq : ∀ i, pw b ((n - 1 - i) * s) < span b ∧ pw b ((n - 1 - i) * s) ≠ 0 := fun i => ⟨pw_lt hb _, pw_ne hb _⟩
  obtain ⟨e, he, hez, hYe⟩ := share_is hb hgq (gapsL row ++ L) Y (by rw [lW, List.length_append, List.length_append, List.length_map, List.length_map]) wn wW
  have gP := fun k => put_gd (s := s) (n := n) hb he (gapsL row ++ L) (knownL row) k wn fun i hi => by rw [lk]; exact wl i hi
  have lP := put_len (b := b) (s := s) (n := n) ((gapsL row ++ L).zip ((gapsL row ++ L).map fun i => mul b (e i) (pw b ((n - 1 - i) * s)))) (knownL row)
  rw [← hYe] at gP lP
  rw [e1, lk] at lP
  have gw : ∀ k, gd w k = gd (knownL row) k ^^^ e k := fun k => by
    have h := gP k
    rw [e1] at h
    rw [h]
    by_cases c : k ∈ gapsL row ++ L
    · rw [if_pos c]
    · rw [if_neg c, hez k c]
  have ww' : Ws b w := fun x hx => by
    rw [← gd_list w] at hx
    obtain ⟨k, _, rfl⟩ := List.mem_map.mp hx
    rw [gw]
    exact xor_lt hb (gd_lt hb hk k) (he k)
  have wE : Ws b ((List.range n).map e) := fun x hx => by
    obtain ⟨k, _, rfl⟩ := List.mem_map.mp hx
    exact he k
  have lE : ((List.range n).map e).length = n := by simp
  have zw : w = zx (knownL row) ((List.range n).map e) := by
    refine gd_ext (by rw [zx_len, lk, lP]) fun k hk' => ?_
    rw [lP] at hk'
    rw [gd_zx (by rw [lk, lE]), gw, gd_map, if_pos hk']
  have hright : ∀ j, j < m → evl b (pw b (s + j)) w = 0 := fun j hj => by
    have e5 : evl b (pw b (s + j)) ((List.range n).map e) = ps b (((gapsL row).map (pl b n) ++ L.map (pl b n)).zip Y) j := by
      rw [evl_ps hb wE, lE, ← List.map_append, hYe, List.zip_map']
      unfold ps rowP
      rw [List.map_map, List.map_map, List.map_append, xl_app]
      have e6 : (List.range n).map ((fun p : Nat × Nat => mul b p.2 (powT b p.1 j)) ∘ fun i => (pl b n i, mul b (gd ((List.range n).map e) i) (pw b ((n - 1 - i) * s)))) = (List.range n).map ((fun p : Nat × Nat => mul b p.2 (powT b p.1 j)) ∘ fun i => (pl b n i, mul b (e i) (pw b ((n - 1 - i) * s)))) := by
        refine List.map_congr_left fun k hk' => ?_
        show mul b (mul b (gd ((List.range n).map e) k) _) _ = mul b (mul b (e k) _) _
        rw [gd_map, if_pos (List.mem_range.mp hk')]
      rw [e6, ← hL]
      unfold gapsL lyL
      rw [hN]
      refine xl_split _ fun i hi => ⟨fun ⟨h1, h2⟩ => ?_, fun ⟨h1, h2⟩ => ?_⟩
      · show mul b (mul b (e i) _) _ = 0
        rw [hez i, zero_mul hb, zero_mul hb]
        intro hm
        rcases List.mem_append.mp hm with h | h
        · have h3 := (List.mem_filter.mp h).2
          rw [h1] at h3
          cases h3
        · rw [← hL] at h
          have h3 := (List.mem_filter.mp h).2
          unfold gapsL at h3
          rw [hN] at h3
          have h4 := h3.symm.trans h2
          cases h4
      · rw [Bool.and_eq_true] at h2
        have h3 := h2.1
        cases h : og row i with
        | none => rw [h] at h3; cases h3
        | some x => rw [h] at h1; cases h1
    rw [zw, evl_zx hb (by omega) hk wE, e5, ← gS j hj, nS, sq_gd hj, Nat.xor_self]
  have sub : (liesL row w).length ≤ L.length := by
    rw [← hL]
    unfold liesL lyL
    refine filter_le _ fun i hi h => ?_
    rw [Bool.and_eq_true] at h
    have h4 : e i ≠ 0 := fun z => of_decide_eq_true h.2 (by rw [gw, z, Nat.xor_zero])
    have h5 : i ∈ gapsL row ++ L := Classical.byContradiction fun c => h4 (hez i c)
    rcases List.mem_append.mp h5 with h6 | h6
    · have h7 := (hg i h6).2
      have h8 := h.1
      cases h9 : og row i with
      | none => rw [h9] at h8; cases h8
      | some x => rw [h9] at h7; cases h7
    · rw [← hL] at h6
      exact (List.mem_filter.mp h6).2
  have hc : 2 * (liesL row w).length + (gapsL row).length ≤ m := by omega
  refine ⟨lP, ww', hright, hc, ?_⟩
  have h := mend_ok hb (by omega) (by omega) ww' hrow hright hc
  rw [hm0] at h
  exact (Prod.mk.inj (Option.some.inj h)).2
end My

set_option Elab.async false
set_option linter.all false
set_option maxRecDepth 100000
set_option maxHeartbeats 4000000
/-! ### sorted tuples of ints, any number of them -/
namespace SrtO
open PySem PyProof.Rows Srt
section
variable {prog : Program} {w : World} {A : Around} {E : Value → Shared → Prop} {s : Shared}
theorem swo_rank (r : Value → Int) : Swo fun v u => decide (r v < r u) := by
  refine ⟨fun x y h => ?_, fun x y z h1 h2 => ?_⟩
  · have a := of_decide_eq_true h
    exact decide_eq_false (by omega)
  · have a := of_decide_eq_false h1
    have b := of_decide_eq_false h2
    exact decide_eq_false (by omega)
theorem tups_cmp {vs : List Value} {d : Nat} {B : Int} {r : Value → Int} (x : TS.TupsOk s.heap d B vs) (hr : ∀ v ∈ vs, ∀ ns, TS.TupInts s.heap v ns → r v = TS.code B ns) :
    Cmp prog w A s (tuples' true) (fun p => p.1 ∈ vs) (lt2 fun v u => decide (r v < r u)) := by
  intro p q hm hm'
  show wpAny (model prog w) A (keyLt' (tuples' true) p.1 q.1) (fun b s' => s' = s ∧ b = decide (r p.1 < r q.1)) (fun _ _ => False) s
  obtain ⟨ns, tp, lp, bp⟩ := x _ hm
  obtain ⟨ms, tq, lq, bq⟩ := x _ hm'
  rw [hr _ hm _ tp, hr _ hm' _ tq]
  obtain ⟨a, xs, e1, ⟨o, ho, hc, n, hdt⟩, i⟩ := tp
  obtain ⟨a', ys, e2, ⟨o', ho', hc', n', hdt'⟩, i'⟩ := tq
  rw [e1, e2]
  refine PySem.W.kat_lt ho hdt ho' hdt' ?_
  have sz : decide (xs.size < ys.size) = false := by
    have l1 := i.length
    have l2 := i'.length
    rw [Array.length_toList] at l1 l2
    exact decide_eq_false (by omega)
  rw [sz]
  exact TS.lex_ints 0 i i' (by omega) bp bq ⟨rfl, rfl⟩
theorem tups_sortableO {a : Addr} {vs : List Value} {d : Nat} {B : Int} {r : Value → Int} (hd : 1 ≤ d) (h0 : 0 < vs.length) (x : TS.TupsOk s.heap d B vs) (hr : ∀ v ∈ vs, ∀ ns, TS.TupInts s.heap v ns → r v = TS.code B ns)
    (ha : ∀ o, s.heap.get? a = some o → o.cls ≠ .type "tuple") : SortableO prog w A s a vs fun v u => decide (r v < r u) := by
  intro h' keep
  have kk : ∀ b o, s.heap.get? b = some o → o.cls = .type "tuple" → h'.get? b = some o := fun b o e c => keep b o (fun z => by subst z; exact ha o e c) e
  have x' : TS.TupsOk h' d B vs := x.keeps kk
  have hr' : ∀ v ∈ vs, ∀ ns, TS.TupInts h' v ns → r v = TS.code B ns := fun v hv ns t => by
    obtain ⟨ns0, t0, _⟩ := x v hv
    have e : ns = ns0 := t.ints.symm.trans (t0.keeps kk).ints
    rw [e]
    exact hr v hv ns0 t0
  obtain ⟨fs, h1, h2, h3⟩ := TS.firsts_of hd vs x'
  refine ⟨tuples' true, fun Q E hq => ?_, tups_cmp (s := { s with heap := h' }) x' hr'⟩
  refine PySem.W.kat_kind (T := .type "int") h1 (by omega) (fun f hm => ?_) (by rfl) ?_
  · obtain ⟨x, t, rfl⟩ := h3 f hm
    exact PySem.W.Looks.now
  · have e : (Value.type "int" != Value.type "tuple") = true := by first | decide +kernel | rfl | decide
    rw [e]
    exact hq
end
end SrtO
namespace My
open PySem PySem.Spec PyProof.Rows L2
/-- sorted(xs), xs a list of tuples of d ints in [0, B), any number of them: a new list of the same, ascending by code B -/
def rSortN (K : PySem.W.Frag) : List V → Hp → VK → Prop := fun vs H Q => ∃ (a : Addr) (xs : List V) (d : Nat) (B : Int), vs = [V.ref a] ∧ SqL K H a xs ∧ 1 ≤ d ∧ (∀ x ∈ xs, ∃ ns, TupI K H x ns ∧ ns.length = d ∧ TS.Bd B ns) ∧
  ∀ (ys : List V) (p : Addr), ys.Perm xs → ys.Pairwise (fun x y => ∀ n m, TupI K H x n → TupI K H y m → TS.code B n ≤ TS.code B m) → H p = none → Q (.ref p) (upd H p (.lst ys))
theorem cr_sortN {X : Cx} {K : PySem.W.Frag} (hK : X.K = K) : CallR X (.builtin "sorted") (rSortN K) := by
  subst hK
  intro pins s σ H vs us Q I r h
  obtain ⟨a, xs, d, B, rfl, hs, hd, hx, q⟩ := h
  obtain ⟨its, rv, hl, hz⟩ := I.list hs
  rw [Vals.ref1 r]
  obtain ⟨e1, e2⟩ := bkV_refs rv fun x m => by
    obtain ⟨ns, ⟨t, e, _⟩, _⟩ := hx x m
    exact ⟨t, e⟩
  have ok : TS.TupsOk s.heap d B its := fun v hv => by
    obtain ⟨t, rfl⟩ := e2 v hv
    have hm : V.ref t ∈ xs := by
      rw [e1]
      exact List.mem_map.mpr ⟨_, hv, rfl⟩
    obtain ⟨ns, ⟨t', e, ht⟩, hn, hb⟩ := hx _ hm
    cases e
    exact ⟨ns, tupI_raw I ht, hn, hb⟩
  refine SrtO.sorted_ord (SrtO.swo_rank fun v => TS.code B (TS.intsOf s.heap v)) hl.isList (by rw [← rv.length]; exact hz) (fun h2 h₁ a' ha kk => ?_) fun out hsr hst => ?_
  · refine SrtO.tups_sortableO (s := { s with heap := h₁ }) (d := d) (B := B) hd (by omega) (ok.keeps fun b o e _ => (kk b o e).2) (fun v hv ns t => ?_) fun o e => ?_
    · obtain ⟨ns0, t0, _⟩ := ok v hv
      have e : ns = ns0 := t.ints.symm.trans (t0.keeps fun b o e _ => (kk b o e).2).ints
      rw [e]
      show TS.code B (TS.intsOf s.heap v) = _
      rw [t0.ints]
    · have e' : some o = some (seqObj "list" its.toArray 0) := e.symm.trans ha
      cases e'
      intro c
      exact absurd (Value.type.inj c) (by decide)
  · obtain ⟨ep, he'⟩ := PyProof.Rows.sortedAll_at s.heap its out.toArray
    have h3 : ∀ u ∈ out, ∃ a, u = Value.ref a := fun u hu => e2 u (hst.perm.mem_iff.mp hu)
    have hp : (out.map bkV).Perm xs := by
      rw [e1]
      exact hst.perm.map bkV
    have hlen : (out.map bkV).length ≤ sizeLine := by
      rw [hp.length_eq]
      exact hz
    refine ⟨.ref _, upd H (s.heap.objs.size + 1) (.lst (out.map bkV)), I.laid (t' := s.toks) (fun _ _ => PyProof.Rows.sortedAll_old) (Nat.le_succ _) ⟨hlen, out, ep, bkV_vals h3, he'⟩, rfl, q _ _ hp ?_ (I.hok.fresh (Nat.le_succ _))⟩
    rw [List.pairwise_map]
    refine List.Pairwise.imp (fun {u v} huv n m hn hm => ?_) hsr
    obtain ⟨t, et, ht⟩ := hn
    obtain ⟨t', et', ht'⟩ := hm
    have eu := bkV_ref et
    have ev := bkV_ref et'
    have i1 : TS.intsOf s.heap u = n := by
      rw [eu]
      exact (tupI_raw I ht).ints
    have i2 : TS.intsOf s.heap v = m := by
      rw [ev]
      exact (tupI_raw I ht').ints
    have h5 := of_decide_eq_false huv
    rw [← i1, ← i2]
    omega
end My

set_option Elab.async false
set_option linter.all false
set_option maxRecDepth 100000
set_option maxHeartbeats 4000000
/-! ### zip of two sequences, each a list or a tuple -/
namespace My
open PySem
section heap
/-- an iterator over a list (true) or a tuple -/
def It1 : Bool → Heap → Addr → Addr → Nat → Prop
  | true => Heap.IsListIter
  | false => Heap.IsTupleIter
def Sq1 : Bool → Heap → Addr → Array Value → Prop
  | true => Heap.IsList
  | false => Heap.IsTuple
theorem It1.but : ∀ {k : Bool} {h h' : Heap} {a b l : Addr} {i : Nat}, It1 k h a l i → Heap.ExtBut b h h' → a ≠ b → It1 k h' a l i
  | true, _, _, _, _, _, _, x, e, n => Heap.IsListIter.extBut x e n
  | false, _, _, _, _, _, _, x, e, n => Heap.IsTupleIter.extBut x e n
theorem It1.at : ∀ {k : Bool} {h h' : Heap} {a l : Addr} {i : Nat}, It1 k h a l i → (∀ o, h.get? a = some o → h'.get? a = some o) → It1 k h' a l i
  | true, _, _, _, _, _, x, e => Heap.IsListIter.at x e
  | false, _, _, _, _, _, x, e => Heap.IsTupleIter.at x e
theorem It1.obj : ∀ {k : Bool} {h : Heap} {a l : Addr} {i : Nat}, It1 k h a l i → ∃ o, h.get? a = some o ∧ ∃ xs, o.data = .fields xs
  | true, _, _, _, _, ⟨o, e, _, d⟩ => ⟨o, e, _, d⟩
  | false, _, _, _, _, ⟨o, e, _, d⟩ => ⟨o, e, _, d⟩
theorem It1.lt {k : Bool} {h : Heap} {a l : Addr} {i : Nat} (x : It1 k h a l i) : a < h.objs.size := by
  obtain ⟨o, e, _⟩ := x.obj
  exact Heap.lt_size e
theorem Sq1.but : ∀ {k : Bool} {h h' : Heap} {l b : Addr} {xs : Array Value}, Sq1 k h l xs → Heap.ExtBut b h h' → l ≠ b → Sq1 k h' l xs
  | true, _, _, _, _, _, x, e, n => Heap.IsList.extBut x e n
  | false, _, _, _, _, _, x, e, n => Heap.IsTuple.extBut x e n
end heap
section
variable {prog : Program} {w : World} {A : Around} {E : Value → Shared → Prop} {s : Shared}
theorem next1 {it l : Addr} {i : Nat} {xs : Array Value} {x : Value} {Q : Value → Shared → Prop} : ∀ {k : Bool}, It1 k s.heap it l i → Sq1 k s.heap l xs → xs[i]? = some x →
    (∀ h', It1 k h' it l (i + 1) → Heap.SameBut it s.heap h' → Q x { s with heap := h' }) → wpAny (model prog w) A (Builtin.SmallTypes.nextOf (.ref it)) Q E s
  | true, h1, h2, hx, q => wpAny_nextOf_list_item h1 h2 hx q
  | false, h1, h2, hx, q => RZ.nextOf_tuple_item h1 h2 hx q
theorem end1 {it l : Addr} {i : Nat} {xs : Array Value} {Q : Value → Shared → Prop} (hh : A.handled = none) : ∀ {k : Bool}, It1 k s.heap it l i → Sq1 k s.heap l xs → xs[i]? = none →
    (∀ h' e, Heap.ExtBut it s.heap h' → (∃ o, h'.get? e = some o ∧ o.cls = .type "StopIteration") → E (.ref e) { s with heap := h' }) → wpAny (model prog w) A (Builtin.SmallTypes.nextOf (.ref it)) Q E s
  | true, h1, h2, hx, q => wpAny_nextOf_list_end hh h1 h2 hx q
  | false, h1, h2, hx, q => RZ.nextOf_tuple_end hh h1 h2 hx q
/-- all but the zip's own parts stay -/
def Lft (z TO i1 i2 : Addr) (h h' : Heap) : Prop := ∀ c o, c ≠ z → c ≠ TO → c ≠ i1 → c ≠ i2 → h.get? c = some o → h'.get? c = some o
/-- one turn of a zip of two: a new pair, or the end -/
theorem zip_turn {ka kb : Bool} {z TI TO i1 i2 l1 l2 : Addr} {k1 k2 : Nat} {xs ys : Array Value} {a b : Value} {Q : Value → Shared → Prop} (hh : A.handled = none) (D : ZipApart z TI TO i1 i2 l1 l2)
    (hz : IsZip s.heap z TI TO .none) (hTI : IsPair s.heap TI (.ref i1) (.ref i2)) (hTO : IsPair s.heap TO a b)
    (h1 : It1 ka s.heap i1 l1 k1) (h2 : It1 kb s.heap i2 l2 k2) (q1 : Sq1 ka s.heap l1 xs) (q2 : Sq1 kb s.heap l2 ys)
    (hI : ∀ x y, xs[k1]? = some x → ys[k2]? = some y → ∀ h', IsZip h' z TI TO (rawInt s.heap.objs.size) → IsPair h' TO x y → It1 ka h' i1 l1 (k1 + 1) → It1 kb h' i2 l2 (k2 + 1) → IsPair h' s.heap.objs.size x y → Lft z TO i1 i2 s.heap h' → Q (.ref s.heap.objs.size) { s with heap := h' })
    (hE : (xs[k1]? = none ∨ ys[k2]? = none) → ∀ h' e, Lft z TO i1 i2 s.heap h' → (∃ o, h'.get? e = some o ∧ o.cls = .type "StopIteration") → E (.ref e) { s with heap := h' }) :
    wpAny (model prog w) A (Builtin.«zip.__next__» ⟨[.ref z], []⟩) (fun fin s' => ∃ v, fin = .done (.ret v) ∧ Q v s') E s := by
  show wpAny _ _ (field (.ref z) 2 >>= _) _ _ _
  refine wpAny_bind (wpAny_field hz rfl (x := .bool false) rfl ?_)
  show wpAny _ _ (field (.ref z) 3 >>= _) _ _ _
  refine wpAny_bind (wpAny_field hz rfl (x := .ref TI) rfl (wpAny_bind (wpAny_seqItems hTI rfl ?_)))
  show wpAny _ _ (Builtin.SmallTypes.ownedTupleIsFree (.ref z) >>= _) _ _ _
  unfold Builtin.SmallTypes.ownedTupleIsFree
  refine wpAny_bind (wpAny_bind (wpAny_field hz rfl (x := .none) rfl (wpAny_pure ?_)))
  simp only [if_true]
  refine wpAny_bind (wpAny_rule (wpAny_bind (wpAny_field hz rfl (x := .ref TO) rfl (wpAny_bind (wpAny_setField_rec hz (by simp) fun g1 y1 s1 => ?_)))))
  have c1 := s1.extBut
  replace y1 : IsZip g1 z TI TO .ellipsis := y1
  simp only [List.zipIdx_cons, List.zipIdx_nil, List.forIn_cons, List.forIn_nil]
  refine wpAny_bind (wpAny_bind (wpAny_bind (wpAny_onRaise ?_)))
  show wpAny _ _ (Builtin.SmallTypes.nextOf (.ref i1) >>= _) _ _ _
  have stop : ∀ (g : Heap) (e : Addr) (st : Shared) {R : PUnit → Shared → Prop}, st = { s with heap := g } → IsZip g z TI TO .ellipsis → (∃ o, g.get? e = some o ∧ o.cls = .type "StopIteration") → (∀ h', Heap.SameBut z g h' → (∃ o, h'.get? e = some o ∧ o.cls = .type "StopIteration") → R () { s with heap := h' }) →
      wpAny (model prog w) A (setField (.ref z) 0 .none) R E st := fun g e st R es yz he r => by
    subst es
    obtain ⟨o, ho, hc⟩ := he
    have n : e ≠ z := fun x => by subst x; rw [yz] at ho; cases ho; simp at hc
    exact wpAny_setField_rec (s := { s with heap := g }) yz (by simp) fun h' _ sb => r h' sb ⟨o, sb.extBut _ _ n ho, hc⟩
  cases hx : xs[k1]? with
  | none =>
    refine wpAny_bind (end1 hh (h1.but c1 D.i1z) (q1.but c1 D.l1z) hx fun g2 e s2 he => ?_)
    refine stop g2 e _ rfl (s2 _ _ D.i1z.symm y1) he fun h' sb he' => hE (.inl hx) h' e (fun c o n1 _ n3 _ p => sb.extBut _ _ n1 (s2 _ _ n3 (c1 _ _ n1 p))) he'
  | some x =>
    refine wpAny_bind (next1 (h1.but c1 D.i1z) (q1.but c1 D.l1z) hx fun g2 p2 s2 => wpAny_pure ?_)
    have c2 := s2.extBut
    have t2 : IsPair g2 TO a b := c2 _ _ D.TOi1 (c1 _ _ D.TOz hTO)
    refine wpAny_bind (wpAny_seqItems t2 rfl (wpAny_bind (wpAny_updateSeq_pair t2 fun g3 t3 s3 => wpAny_bind (wpAny_letGo (wpAny_pure ?_)))))
    have c3 := s3.extBut
    replace t3 : IsPair g3 TO x b := t3
    have h2' := ((h2.but c1 D.i2z).but c2 D.i12.symm).but c3 D.TOi2.symm
    have q2' := ((q2.but c1 D.l2z).but c2 D.l2i1).but c3 D.l2TO
    have y3 : IsZip g3 z TI TO .ellipsis := c3 _ _ D.TOz.symm (c2 _ _ D.i1z.symm y1)
    refine wpAny_bind (wpAny_bind (wpAny_onRaise ?_))
    show wpAny _ _ (Builtin.SmallTypes.nextOf (.ref i2) >>= _) _ _ _
    cases hy : ys[k2]? with
    | none =>
      refine wpAny_bind (end1 hh h2' q2' hy fun g4 e s4 he => ?_)
      refine stop g4 e _ rfl (s4 _ _ D.i2z.symm y3) he fun h' sb he' => hE (.inr hy) h' e (fun c o n1 n2 n3 n4 p => sb.extBut _ _ n1 (s4 _ _ n4 (c3 _ _ n2 (c2 _ _ n3 (c1 _ _ n1 p))))) he'
    | some y =>
      refine wpAny_bind (next1 h2' q2' hy fun g4 p4 s4 => wpAny_pure ?_)
      have c4 := s4.extBut
      have t4 : IsPair g4 TO x b := c4 _ _ D.TOi2 t3
      refine wpAny_bind (wpAny_seqItems t4 rfl (wpAny_bind (wpAny_updateSeq_pair t4 fun g5 t5 s5 => wpAny_bind (wpAny_letGo (wpAny_pure (wpAny_pure ?_))))))
      have c5 := s5.extBut
      replace t5 : IsPair g5 TO x y := t5
      refine wpAny_bind (wpAny_seqItems t5 rfl (wpAny_bind (wpAny_newTuple ?_)))
      have sz : g5.objs.size = s.heap.objs.size := by rw [s5.1, s4.1, s3.1, s2.1, s1.1]
      have y5 : IsZip g5 z TI TO .ellipsis := c5 _ _ D.TOz.symm (c4 _ _ D.i2z.symm y3)
      have old : Lft z TO i1 i2 s.heap g5 := fun c o n1 n2 n3 n4 p => c5 _ _ n2 (c4 _ _ n4 (c3 _ _ n2 (c2 _ _ n3 (c1 _ _ n1 p))))
      have p1 : It1 ka g5 i1 l1 (k1 + 1) := ((p2.but c3 D.TOi1.symm).but c4 D.i12).but c5 D.TOi1.symm
      have p5 : It1 kb g5 i2 l2 (k2 + 1) := p4.but c5 D.TOi2.symm
      have zl : z < g5.objs.size := Heap.lt_size y5
      show wpAny _ _ (Builtin.SmallTypes.ownedTupleHandOut (.ref z) (.ref g5.objs.size) >>= _) _ _ _
      unfold Builtin.SmallTypes.ownedTupleHandOut
      have y6 : IsZip (g5.push { cls := .type "tuple", data := .seq #[x, y] }) z TI TO .ellipsis := Heap.get?_push_of_some _ y5
      refine wpAny_bind (wpAny_bind (wpAny_setField_rec y6 (by simp) fun g7 y7 s7 => ?_))
      replace y7 : IsZip g7 z TI TO (rawInt g5.objs.size) := y7
      refine wpAny_setField_rec y7 (by simp) fun g8 y8 s8 => ?_
      replace y8 : IsZip g8 z TI TO (rawInt g5.objs.size) := y8
      have up : ∀ c o, c ≠ z → g5.get? c = some o → g8.get? c = some o := fun c o n p => s8.extBut _ _ n (s7.extBut _ _ n (Heap.get?_push_of_some _ p))
      have new : IsPair g8 g5.objs.size x y := s8.extBut _ _ (Nat.ne_of_gt zl) (s7.extBut _ _ (Nat.ne_of_gt zl) (Heap.get?_push_size _ rfl))
      rw [sz] at y8 new
      refine wpAny_pure ⟨_, rfl, ?_⟩
      show Q (.ref g5.objs.size) _
      rw [sz]
      exact hI x y hx hy g8 y8 (up _ _ D.TOz t5) (p1.at fun o e => up _ o D.i1z e) (p5.at fun o e => up _ o D.i2z e) new fun c o n1 n2 n3 n4 p => up c o n1 (old c o n1 n2 n3 n4 p)
theorem zip_ask {ka kb : Bool} {z TI TO i1 i2 l1 l2 : Addr} {k1 k2 : Nat} {xs ys : Array Value} {a b : Value} {Q : Option Value → Shared → Prop} (hh : A.handled = none) (D : ZipApart z TI TO i1 i2 l1 l2)
    (hz : IsZip s.heap z TI TO .none) (hTI : IsPair s.heap TI (.ref i1) (.ref i2)) (hTO : IsPair s.heap TO a b)
    (h1 : It1 ka s.heap i1 l1 k1) (h2 : It1 kb s.heap i2 l2 k2) (q1 : Sq1 ka s.heap l1 xs) (q2 : Sq1 kb s.heap l2 ys)
    (hI : ∀ x y, xs[k1]? = some x → ys[k2]? = some y → ∀ h', IsZip h' z TI TO (rawInt s.heap.objs.size) → IsPair h' TO x y → It1 ka h' i1 l1 (k1 + 1) → It1 kb h' i2 l2 (k2 + 1) → IsPair h' s.heap.objs.size x y → Lft z TO i1 i2 s.heap h' → Q (some (.ref s.heap.objs.size)) { s with heap := h' })
    (hE : (xs[k1]? = none ∨ ys[k2]? = none) → ∀ h', Lft z TO i1 i2 s.heap h' → Q none { s with heap := h' }) : wpAny (model prog w) A (pyNext (.ref z)) Q E s := by
  have hT : s.TypeIs (.ref z) "zip" := ⟨_, hz, rfl⟩
  unfold pyNext
  refine wpAny_bind (wpAny_attempt (wpAny_callSpecial?_slot (name := Str.ofString "__next__") hT F.slot_zip_next (wpAny_call_entry F.slot_zip_next hT F.entry_zip_next
    (zip_turn hh D hz hTI hTO h1 h2 q1 q2 (fun x y hx hy h' a1 a2 a3 a4 a5 a6 => wpAny_pure (hI x y hx hy h' a1 a2 a3 a4 a5 a6)) fun hn h' e lf he => ?_) (F.args_zip_next_1 _))))
  obtain ⟨o, ho, hc⟩ := he
  exact wpAny_bind (wpAny_isInstance (T := "StopIteration") (b := true) ⟨o, ho, hc⟩ isSubtype_stop (wpAny_pure (hE hn h' lf)))
end
end My
namespace My
open PySem PySem.Spec PyProof.Rows L2
section
variable {X : Cx} {pins : List (Addr × Obj)} {σ : L2.St} {H : Hp} {s : Shared}
theorem inv_sq (I : Inv X pins σ H s) : ∀ {k : Bool} {a : Addr} {xs : List V}, SqB k X.K H a xs → ∃ its, Vals xs its ∧ Sq1 k s.heap a its.toArray
  | true, a, xs, h => by
    obtain ⟨its, rv, p, _⟩ := I.list h
    exact ⟨its, rv, p.isList⟩
  | false, a, xs, h => by
    obtain ⟨its, rv, p, _⟩ := I.tuple h
    exact ⟨its, rv, p⟩
theorem inv_sq_inj (I : Inv X pins σ H s) : ∀ {k : Bool} {a : Addr} {xs ys : List V}, SqB k X.K H a xs → SqB k X.K H a ys → xs = ys
  | true, a, xs, ys, h1, h2 => I.list_inj h1 h2
  | false, a, xs, ys, h1, h2 => I.tuple_inj h1 h2
theorem Sq1.lt : ∀ {k : Bool} {h : Heap} {l : Addr} {xs : Array Value}, Sq1 k h l xs → l < h.objs.size
  | true, _, _, _, ⟨o, e, _⟩ => Heap.lt_size e
  | false, _, _, _, ⟨o, e, _⟩ => Heap.lt_size e
end
/-- the two sequences as they stand at each turn, the items in new pairs -/
def ItzB (ka kb : Bool) (K : PySem.W.Frag) (a b : Addr) : It :=
  ⟨fun i H => ∃ (xs ys : List V) (x y : V), SqB ka K H a xs ∧ SqB kb K H b ys ∧ xs[i]? = some x ∧ ys[i]? = some y,
    fun i H v H' => ∃ T x y, v = .ref T ∧ H T = none ∧ H' = upd H T (.tup [x, y]) ∧ (∀ xs, SqB ka K H a xs → xs[i]? = some x) ∧ ∀ ys, SqB kb K H b ys → ys[i]? = some y,
    fun i H => ∃ xs ys : List V, SqB ka K H a xs ∧ SqB kb K H b ys ∧ (xs.length ≤ i ∨ ys.length ≤ i)⟩
theorem walk_zipB {ka kb : Bool} {K : PySem.W.Frag} {a b : Addr} {xs ys : List V} {n : Nat} (hn : n = min xs.length ys.length) : Walk (ItzB ka kb K a b) n (fun H => SqB ka K H a xs ∧ SqB kb K H b ys) (YPair (fun i => xs[i]?) (fun i => ys[i]?)) where
  goes i _ hi q := ⟨xs, ys, xs[i]'(by omega), ys[i]'(by omega), q.1, q.2, List.getElem?_eq_getElem _, List.getElem?_eq_getElem _⟩
  stops _ q := ⟨xs, ys, q.1, q.2, by omega⟩
  yields i H v H' _ q y := by
    obtain ⟨T, x, z, h1, h2, h3, h4, h5⟩ := y
    exact ⟨T, x, z, h1, h2, h3, h4 xs q.1, h5 ys q.2⟩
theorem turn_zipB {ka kb : Bool} {P : Program} {w : World} {K : PySem.W.Frag} {elts : List Expr} {kk : Nat} {tpos : Pos} {a b z TI TO i1 i2 : Addr} (D : ZipApart z TI TO i1 i2 a b) :
    Turn P w K (.Tuple elts kk tpos) (ItzB ka kb K a b) [z, TI, TO, i1, i2] z (fun i h => IsZip h z TI TO .none ∧ IsPair h TI (.ref i1) (.ref i2) ∧ (∃ x y, IsPair h TO x y) ∧ It1 ka h i1 a i ∧ It1 kb h i2 b i) where
  mem := by simp
  obj := fun i h st c hc => by
    obtain ⟨hz, hTI, ⟨x, y, hTO⟩, h1, h2⟩ := st
    obtain ⟨o1, e1, f1, d1⟩ := h1.obj
    obtain ⟨o2, e2, f2, d2⟩ := h2.obj
    simp only [List.mem_cons, List.not_mem_nil, or_false] at hc
    rcases hc with q | q | q | q | q
    · exact q ▸ ⟨_, hz, fun v q => nomatch q⟩
    · exact q ▸ ⟨_, hTI, fun v q => nomatch q⟩
    · exact q ▸ ⟨_, hTO, fun v q => nomatch q⟩
    · exact q ▸ ⟨o1, e1, fun v q => by rw [d1] at q; cases q⟩
    · exact q ▸ ⟨o2, e2, fun v q => by rw [d2] at q; cases q⟩
  keep := fun i h h' st k => by
    obtain ⟨hz, hTI, ⟨x, y, hTO⟩, h1, h2⟩ := st
    exact ⟨k z (by simp) _ hz, k TI (by simp) _ hTI, ⟨x, y, k TO (by simp) _ hTO⟩, h1.at fun o q => k i1 (by simp) o q, h2.at fun o q => k i2 (by simp) o q⟩
  item := by
    intro X hP hw hK hc i pins s σ H E I hf st hg
    subst hP hw hK
    obtain ⟨hz, hTI, ⟨x0, y0, hTO⟩, h1, h2⟩ := st
    obtain ⟨xs, ys, x, y, hqx, hqy, hx, hy⟩ := hg
    obtain ⟨its, rv, p⟩ := inv_sq I hqx
    obtain ⟨its2, rv2, p2⟩ := inv_sq I hqy
    obtain ⟨u, hu, ru⟩ := rv.get hx
    obtain ⟨u2, hu2, ru2⟩ := rv2.get hy
    have hzl : z < s.heap.objs.size := Heap.lt_size hz
    have hx' : its.toArray[i]? = some u := by simpa using hu
    have hy' : its2.toArray[i]? = some u2 := by simpa using hu2
    refine zip_ask (I.ok.hd hc) D hz hTI hTO h1 h2 p p2 (fun x1 y1 e1 e2 h' z' TO' h1' h2' hT lf => ?_) (fun hn => ?_)
    · rw [hx'] at e1
      rw [hy'] at e2
      cases e1
      cases e2
      refine ⟨_, rfl, wpAny_letOwnedTupleGo_zip (s := { s with heap := h' }) z' fun h'' z'' sb => ?_⟩
      have hT2 : IsPair h'' s.heap.objs.size u u2 := (sb.2 _ (Nat.ne_of_gt hzl)).trans hT
      have new : ObjOk X.prog X.w (upd H s.heap.objs.size (.tup [x, y])) h'' s.heap.objs.size (.tup [x, y]) :=
        ⟨by show 2 ≤ sizeLine; decide, [u, u2], .cons ru (.cons ru2 .nil), ⟨_, hT2, rfl, _, rfl⟩⟩
      have old : ∀ c o, c ∉ [z, TI, TO, i1, i2] → s.heap.get? c = some o → h''.get? c = some o := fun c o hb q => by
        simp only [List.mem_cons, List.not_mem_nil, or_false, not_or] at hb
        exact (sb.2 c hb.1).trans (lf c o hb.1 hb.2.2.1 hb.2.2.2.1 hb.2.2.2.2 q)
      have I1 : Inv X pins σ (upd H s.heap.objs.size (.tup [x, y])) { s with heap := h'' } := I.turnedNew (t' := s.toks) (ch := [z, TI, TO, i1, i2]) old hf (Nat.le_refl _) new
      refine ⟨.ref s.heap.objs.size, _, I1, rfl, ⟨_, x, y, rfl, I.hok.fresh (Nat.le_refl _), rfl, fun l hl => by rw [inv_sq_inj I hl hqx]; exact hx, fun l hl => by rw [inv_sq_inj I hl hqy]; exact hy⟩, ⟨z'', ?_, ⟨u, u2, ?_⟩, ?_, ?_⟩, fun c hcm => ?_⟩
      · exact (sb.2 _ D.TIz).trans (lf _ _ D.TIz D.TITO D.TIi1 D.TIi2 hTI)
      · exact (sb.2 _ D.TOz).trans TO'
      · exact h1'.at fun o q => (sb.2 _ D.i1z).trans q
      · exact h2'.at fun o q => (sb.2 _ D.i2z).trans q
      · have hlt : c < s.heap.objs.size := by
          simp only [List.mem_cons, List.not_mem_nil, or_false] at hcm
          rcases hcm with q | q | q | q | q
          · exact q ▸ hzl
          · exact q ▸ Heap.lt_size hTI
          · exact q ▸ Heap.lt_size hTO
          · exact q ▸ h1.lt
          · exact q ▸ h2.lt
        rw [upd_ne (Nat.ne_of_lt hlt)]
        exact (hf c hcm).1
    · rw [hx', hy'] at hn
      rcases hn with h | h <;> cases h
  done := by
    intro X hP hw hK hc i pins s σ H E I hf st hg
    subst hP hw hK
    obtain ⟨hz, hTI, ⟨x0, y0, hTO⟩, h1, h2⟩ := st
    obtain ⟨xs, ys, hqx, hqy, hend⟩ := hg
    obtain ⟨its, rv, p⟩ := inv_sq I hqx
    obtain ⟨its2, rv2, p2⟩ := inv_sq I hqy
    have l1 := rv.length
    have l2 := rv2.length
    refine zip_ask (I.ok.hd hc) D hz hTI hTO h1 h2 p p2 (fun x1 y1 e1 e2 => ?_) (fun _ h' lf => ⟨rfl, I.turnedL (t' := s.toks) (ch := [z, TI, TO, i1, i2]) (fun c o hb q => ?_) hf⟩)
    · have g1 : i < its.length := by
        have := (Array.getElem?_eq_some_iff.mp e1).1
        simpa using this
      have g2 : i < its2.length := by
        have := (Array.getElem?_eq_some_iff.mp e2).1
        simpa using this
      omega
    · simp only [List.mem_cons, List.not_mem_nil, or_false, not_or] at hb
      exact lf c o hb.1 hb.2.2.1 hb.2.2.2.1 hb.2.2.2.2 q
  self := fun A i s Q E st h => wpAny_pyIter_zip st.1 h
end My

set_option Elab.async false
set_option linter.all false
set_option maxRecDepth 100000
set_option maxHeartbeats 400000
/-! ### zip of a list and a tuple, called -/
namespace My
open PySem
open PySem.Sem (wp)
abbrev zA (h : Heap) (l1 : Addr) : Heap := h.push { cls := .type "list_iterator", data := .fields #[.ref l1, .int 0 0] }
abbrev zB (h : Heap) (l1 l2 : Addr) : Heap := (zA h l1).push { cls := .type "tuple_iterator", data := .fields #[.ref l2, .int 0 0] }
abbrev zC (h : Heap) (l1 l2 : Addr) : Heap := (zB h l1 l2).push { cls := .type "tuple", data := .seq #[.ref h.objs.size, .ref (zA h l1).objs.size] }
abbrev zD (h : Heap) (l1 l2 : Addr) : Heap := (zC h l1 l2).push { cls := .type "tuple", data := .seq #[.none, .none] }
abbrev zE (h : Heap) (l1 l2 : Addr) : Heap := (zD h l1 l2).push { cls := .type "zip", data := .fields #[.none, .bool false, .bool false, .ref (zB h l1 l2).objs.size, .ref (zC h l1 l2).objs.size] }
theorem meets_zipLT (l1 l2 : Addr) (xs ys : Array Value) :
    Meets (Builtin.«zip.__new__» ⟨[.type "zip", .ref l1, .ref l2], []⟩) (fun _ R s => s.heap.IsList l1 xs ∧ s.heap.IsTuple l2 ys ∧
      R (.ok (.ret (.ref (zD s.heap l1 l2).objs.size))) { s with heap := zE s.heap l1 l2 }) :=
  .of_wp fun prog w A R s h => by
    obtain ⟨hp, g, d, tk, os⟩ := s
    obtain ⟨hl1, hl2, h⟩ := h
    have hsub := sub_zip
    have hL1 : Heap.IsList (Shared.heap ⟨hp, g, d, tk, os⟩) l1 xs := hl1
    have hL2 : Heap.IsTuple (Shared.heap ⟨hp.push { cls := .type "list_iterator", data := .fields #[.ref l1, .int 0 0] }, g, d, tk, os⟩) l2 ys := Heap.IsTuple.push hl2 _
    wp_walk using wpAny_pyIter_list hL1, wpAny_pyIter_tuple hL2
    exact ⟨_, rfl, h⟩
section
variable {prog : Program} {w : World} {A : Around} {E : Value → Shared → Prop} {s : Shared}
theorem call_zipLT {l1 l2 : Addr} {xs ys : Array Value} {Q : Value → Shared → Prop} (hl1 : s.heap.IsList l1 xs) (hl2 : s.heap.IsTuple l2 ys)
    (h : ∀ h', IsZip h' (s.heap.objs.size + 4) (s.heap.objs.size + 2) (s.heap.objs.size + 3) .none → IsPair h' (s.heap.objs.size + 2) (.ref s.heap.objs.size) (.ref (s.heap.objs.size + 1)) →
      IsPair h' (s.heap.objs.size + 3) .none .none → h'.IsListIter s.heap.objs.size l1 0 → h'.IsTupleIter (s.heap.objs.size + 1) l2 0 → (∀ c o, s.heap.get? c = some o → h'.get? c = some o) → Q (.ref (s.heap.objs.size + 4)) { s with heap := h' }) :
    wpAny (model prog w) A (call (.type "zip") [.ref l1, .ref l2]) Q E s := by
  refine callType_new F.called_zip (by decide) (F.typeCall_zip_2 _ _) (F.newCall_zip_2 _ _) (fun obj => F.args_object_init_3 obj _ _) F.entry_zip_new (meets_zipLT l1 l2 xs ys) ⟨hl1, hl2, ?_⟩
  have n1 : (zA s.heap l1).objs.size = s.heap.objs.size + 1 := Heap.size_push ..
  have n2 : (zB s.heap l1 l2).objs.size = s.heap.objs.size + 2 := (Heap.size_push ..).trans (congrArg (· + 1) n1)
  have n3 : (zC s.heap l1 l2).objs.size = s.heap.objs.size + 3 := (Heap.size_push ..).trans (congrArg (· + 1) n2)
  have n4 : (zD s.heap l1 l2).objs.size = s.heap.objs.size + 4 := (Heap.size_push ..).trans (congrArg (· + 1) n3)
  have g5 : (zE s.heap l1 l2).get? (zD s.heap l1 l2).objs.size = some _ := Heap.get?_push_size _ rfl
  have g4 : (zE s.heap l1 l2).get? (zC s.heap l1 l2).objs.size = some _ := Heap.get?_push_of_some _ (Heap.get?_push_size _ rfl)
  have g3 : (zE s.heap l1 l2).get? (zB s.heap l1 l2).objs.size = some _ := Heap.get?_push_of_some _ (Heap.get?_push_of_some _ (Heap.get?_push_size _ rfl))
  have g2 : (zE s.heap l1 l2).get? (zA s.heap l1).objs.size = some _ := Heap.get?_push_of_some _ (Heap.get?_push_of_some _ (Heap.get?_push_of_some _ (Heap.get?_push_size _ rfl)))
  have g1 : (zE s.heap l1 l2).get? s.heap.objs.size = some _ := Heap.get?_push_of_some _ (Heap.get?_push_of_some _ (Heap.get?_push_of_some _ (Heap.get?_push_of_some _ (Heap.get?_push_size _ rfl))))
  show _ ∧ _
  rw [n2, n3, n4] at g5
  rw [n3] at g4
  rw [n1, n2] at g3
  rw [n1] at g2
  rw [n4]
  exact ⟨⟨_, g5, rfl⟩, h _ g5 g3 g4 ⟨_, g1, rfl, rfl⟩ ⟨_, g2, rfl, rfl⟩ fun c o x => Heap.get?_push_of_some _ (Heap.get?_push_of_some _ (Heap.get?_push_of_some _ (Heap.get?_push_of_some _ (Heap.get?_push_of_some _ x))))⟩
end
end My
namespace My
open PySem PySem.Spec PyProof.Rows L2
/-- zip of a list and a tuple -/
def iZipLT (K : PySem.W.Frag) (ta : TA) : TI := fun σ H R => ta σ H fun vs H1 => ∃ a b xs ys, vs = [.ref a, .ref b] ∧ SqB true K H1 a xs ∧ SqB false K H1 b ys ∧ R (ItzB true false K a b) H1
theorem pi_zipLT {X : Cx} {K : PySem.W.Frag} {e e2 : Expr} {ta : TA} {p pos tpos : Pos} {elts : List Expr} {kk : Nat} (hK : X.K = K) (hg : Gl X "zip") (hm : X.mg "zip" = none) (ha : PA X [e, e2] ta)
    (hs : starEach [e, e2] X.env = (false, eval e X.env) :: starEach [e2] X.env := by rfl) (hpl : (backTo pos (starEach [e2] X.env)).any (·.1) = false := by rfl) :
    PI X (.Tuple elts kk tpos) (.Call (.Name "zip" p) [e, e2] [] pos) (iZipLT K ta) := by
  subst hK
  refine ⟨fun pins s σ H R I h => ?_⟩
  refine Call_ (ld_blt I hg hm PyProof.Rows.boot_zip (PyProof.Rows.callWith_type1 (thn (ha.run pos pins s σ H _ I h) fun us s1 ⟨vs, H1, I1, r1, q1⟩ => ?_) hs hpl))
  obtain ⟨a, b, xs, ys, ex, hqx, hqy, q⟩ := q1
  subst ex
  obtain ⟨its, rv, p1⟩ := inv_sq I1 hqx
  obtain ⟨its2, rv2, p2⟩ := inv_sq I1 hqy
  cases r1 with
  | cons r rr =>
    cases rr with
    | cons r' rr =>
      cases rr
      cases r
      cases r'
      have fr : ∀ c, s1.heap.objs.size ≤ c → FpOk X pins H1 c := fun c hle => I1.fpOk hle (I1.hok.fresh hle)
      have fr5 : ∀ c, c ∈ [s1.heap.objs.size + 4, s1.heap.objs.size + 2, s1.heap.objs.size + 3, s1.heap.objs.size, s1.heap.objs.size + 1] → FpOk X pins H1 c := fun c hcm => by
        refine fr c ?_
        have e' : c = s1.heap.objs.size + 4 ∨ c = s1.heap.objs.size + 2 ∨ c = s1.heap.objs.size + 3 ∨ c = s1.heap.objs.size ∨ c = s1.heap.objs.size + 1 := by simpa using hcm
        rcases e' with z | z | z | z | z
        · rw [z]; exact Nat.le_add_right _ _
        · rw [z]; exact Nat.le_add_right _ _
        · rw [z]; exact Nat.le_add_right _ _
        · rw [z]; exact Nat.le_refl _
        · rw [z]; exact Nat.le_add_right _ _
      refine call_zipLT p1 p2 fun h' hz hTI hTO h1 h2 hk => wpAny_pyIter_zip hz ?_
      have I2 : Inv X pins σ H1 { s1 with heap := h' } := I1.kept (t' := s1.toks) hk
      have T : Turn X.prog X.w X.K (.Tuple elts kk tpos) (ItzB true false X.K a b) _ _ _ := turn_zipB (PySem.W.ktu_apart s1.heap.objs.size a b (Sq1.lt p1) (Sq1.lt p2))
      exact ⟨s1.heap.objs.size + 4, [s1.heap.objs.size + 4, s1.heap.objs.size + 2, s1.heap.objs.size + 3, s1.heap.objs.size, s1.heap.objs.size + 1], _, _, H1, rfl, I2, T, ⟨hz, hTI, ⟨_, _, hTO⟩, h1, h2⟩, fr5, q⟩
end My

set_option Elab.async false
set_option linter.all false
set_option maxRecDepth 100000
set_option maxHeartbeats 4000000
/-! ### all right rows are the sums of those with one bit of data -/
namespace My
structure Rt (b m s n : Nat) (w : List Nat) : Prop where
  len : w.length = n
  ws : Ws b w
  zero : ∀ j, j < m → evl b (pw b (s + j)) w = 0
theorem evl_nought {b t n : Nat} (hb : Wd b) (ht : t < span b) : evl b t (List.replicate n 0) = 0 := by
  have hw : Ws b (List.replicate n 0) := fun x hx => by
    rw [(List.mem_replicate.mp hx).2]
    exact zero_lt hb
  rw [evl_idx hb ht _ hw]
  refine xl_zero _ fun i hi => ?_
  have e : gd (List.replicate n 0) i = 0 := by
    unfold gd
    rw [List.getD_eq_getElem?_getD, List.getElem?_replicate]
    split <;> rfl
  rw [e]
  exact zero_mul hb
theorem Rt.nought {b m s n : Nat} (hb : Wd b) : Rt b m s n (List.replicate n 0) :=
  ⟨List.length_replicate, fun x hx => by rw [(List.mem_replicate.mp hx).2]; exact zero_lt hb, fun j _ => evl_nought hb (pw_lt hb _)⟩
theorem Rt.zx {b m s n : Nat} {w v : List Nat} (hb : Wd b) (h1 : Rt b m s n w) (h2 : Rt b m s n v) : Rt b m s n (zx w v) :=
  ⟨by rw [zx_len]; exact h1.len, zx_ws hb h1.ws h2.ws, fun j hj => by rw [evl_zx hb (by rw [h1.len, h2.len]) h1.ws h2.ws, h1.zero j hj, h2.zero j hj]; rfl⟩
theorem Rt.none {b m s n : Nat} {w : List Nat} (hb : Wd b) (h : Rt b m s n w) (hm : m ≤ n) (hn : n ≤ turn b) (hz : ∀ i, i < n - m → gd w i = 0) : w = List.replicate n 0 := by
  have hg : ∀ i, gd w i < span b := fun i => gd_lt hb h.ws i
  have split : List.range n = List.range (n - m) ++ (List.range m).map (n - m + ·) := by
    rw [← List.range_add]
    congr 1
    omega
  have hps : ∀ j, j < m → ps b (rowP b s n (gd w) ((List.range m).map (n - m + ·))) j = 0 := fun j hj => by
    have e := h.zero j hj
    rw [evl_ps hb h.ws, h.len, split] at e
    unfold rowP at e
    rw [List.map_append, ps_app, ps_zero hb, Nat.zero_xor] at e
    · exact e
    · intro p hp
      obtain ⟨i, hi, rfl⟩ := List.mem_map.mp hp
      show mul b (gd w i) _ = 0
      rw [hz i (List.mem_range.mp hi), zero_mul hb]
  have v := vander hb m _ (by unfold rowP; simp) (rowP_ok hb hg _) (by
    rw [rowP_fst]
    refine nodup_map _ (nodup_map _ List.nodup_range fun i _ j _ e => by omega) fun i hi j hj e => ?_
    obtain ⟨i', hi', rfl⟩ := List.mem_map.mp hi
    obtain ⟨j', hj', rfl⟩ := List.mem_map.mp hj
    have := List.mem_range.mp hi'
    have := List.mem_range.mp hj'
    exact pl_inj hb hn (by omega) (by omega) e) hps
  refine gd_ext (by rw [h.len, List.length_replicate]) fun k hk => ?_
  rw [h.len] at hk
  have e : gd (List.replicate n 0) k = 0 := by
    unfold gd
    rw [List.getD_eq_getElem?_getD, List.getElem?_replicate]
    split <;> rfl
  rw [e]
  by_cases c : k < n - m
  · exact hz k c
  · have h1 := v (pl b n k, mul b (gd w k) (pw b ((n - 1 - k) * s))) (List.mem_map.mpr ⟨k, List.mem_map.mpr ⟨k - (n - m), List.mem_range.mpr (by omega), by show n - m + (k - (n - m)) = k; omega⟩, rfl⟩)
    exact mul_eq0 hb (hg k) (pw_lt hb _) h1 (pw_ne hb _)
/-- every right row whose data has nothing behind a place, and few bits there, is among some -/
def Cov (b m s n : Nat) (rows : List (List Nat)) (at' k : Nat) : Prop := ∀ w, Rt b m s n w → (∀ j, at' < j → j < n - m → gd w j = 0) → (at' < n - m → gd w at' < 2 ^ k) → w ∈ rows
theorem Cov.start {b m s n : Nat} (hb : Wd b) (hm : m ≤ n) (hn : n ≤ turn b) : Cov b m s n [List.replicate n 0] 0 0 := fun w h h1 h2 => by
  refine List.mem_singleton.mpr (h.none hb hm hn fun i hi => ?_)
  rcases Nat.eq_zero_or_pos i with rfl | hp
  · have := h2 hi
    rw [Nat.pow_zero] at this
    omega
  · exact h1 i hp hi
theorem top_bit : ∀ k, k < 8 → ∀ x, x < 2 ^ (k + 1) → 2 ^ k ≤ x → 2 ^ k ^^^ x < 2 ^ k := by
  have h : ∀ k : Fin 8, ∀ x : Fin 256, x.val < 2 ^ (k.val + 1) → 2 ^ k.val ≤ x.val → 2 ^ k.val ^^^ x.val < 2 ^ k.val := by decide +kernel
  intro k hk x hx h2
  have : 2 ^ (k + 1) ≤ 2 ^ 8 := Nat.pow_le_pow_right (by decide) (by omega)
  exact h ⟨k, hk⟩ ⟨x, by omega⟩ hx h2
theorem Cov.step {b m s n at' k : Nat} {rows : List (List Nat)} {part : List Nat} (hb : Wd b) (h : Cov b m s n rows at' k) (hk : k < b) (hp : Rt b m s n part) (hlt : at' < n - m) (hmn : m ≤ n) (hd : ∀ j, j < n - m → gd part j = if j = at' then 2 ^ k else 0) :
    Cov b m s n (rows ++ rows.map fun w => zx part w) at' (k + 1) := fun w hw h1 h2 => by
  have hx := h2 hlt
  by_cases c : gd w at' < 2 ^ k
  · exact List.mem_append_left _ (h w hw h1 fun _ => c)
  · have hk8 : k < 8 := by rcases hb with rfl | rfl <;> omega
    refine List.mem_append_right _ (List.mem_map.mpr ⟨zx part w, h _ (hp.zx hb hw) (fun j j1 j2 => ?_) (fun _ => ?_), ?_⟩)
    · rw [gd_zx (by rw [hp.len, hw.len]), hd j j2, h1 j j1 j2, if_neg (by omega)]
      rfl
    · rw [gd_zx (by rw [hp.len, hw.len]), hd at' hlt, if_pos rfl]
      exact top_bit k hk8 _ hx (by omega)
    · refine gd_ext (by rw [zx_len, hp.len, hw.len]) fun j _ => ?_
      rw [gd_zx (by rw [zx_len]), gd_zx (by rw [hp.len, hw.len]), ← Nat.xor_assoc, Nat.xor_self, Nat.zero_xor]
theorem Cov.next {b m s n at' : Nat} {rows : List (List Nat)} (hb : Wd b) (h : Cov b m s n rows at' b) : Cov b m s n rows (at' + 1) 0 := fun w hw h1 h2 => by
  refine h w hw (fun j j1 j2 => ?_) fun _ => ?_
  · by_cases c : j = at' + 1
    · subst c
      have := h2 j2
      rw [Nat.pow_zero] at this
      omega
    · exact h1 j (by omega) j2
  · rw [← span_pow hb]
    exact gd_lt hb hw.ws _
theorem Cov.all {b m s n : Nat} {rows : List (List Nat)} (h : Cov b m s n rows (n - m) 0) (w : List Nat) (hw : Rt b m s n w) : w ∈ rows := h w hw (fun j j1 j2 => by omega) fun c => by omega
theorem perm_map_inv {α β : Type} {f : α → β} {ys zs : List β} (h : ys.Perm zs) : ∀ ps : List α, zs = ps.map f → ∃ ps' : List α, ps'.Perm ps ∧ ys = ps'.map f := by
  induction h with
  | nil => exact fun ps e => ⟨[], by rw [List.map_eq_nil_iff.mp e.symm], rfl⟩
  | cons x p ih =>
    intro ps e
    cases ps with
    | nil => cases e
    | cons a r =>
      obtain ⟨e1, e2⟩ := List.cons.inj e
      obtain ⟨r', h1, h2⟩ := ih r e2
      exact ⟨a :: r', h1.cons a, by rw [List.map_cons, ← e1, ← h2]⟩
  | swap x y l =>
    intro ps e
    match ps, e with
    | [], e => cases e
    | [a], e => cases e
    | a :: c :: r, e =>
      obtain ⟨e1, e3⟩ := List.cons.inj e
      obtain ⟨e2, e4⟩ := List.cons.inj e3
      exact ⟨c :: a :: r, List.Perm.swap a c r, by rw [List.map_cons, List.map_cons, ← e1, ← e2, ← e4]⟩
  | trans p q ih1 ih2 =>
    intro ps e
    obtain ⟨ps1, h1, h2⟩ := ih2 ps e
    obtain ⟨ps2, h3, h4⟩ := ih1 ps1 h2
    exact ⟨ps2, h3.trans h1, h4⟩
/-- which right row is told: that of mendF, and none where there is none -/
theorem due_is {b s m : Nat} {row : List (Option Nat)} (hb : Wd b) (hn : row.length ≤ turn b) (hrow : RowOk b row) :
    (∀ w ly, mendF b s row ((List.range m).map fun j => evl b (pw b (s + j)) (knownL row)) = some (w, ly) → Rt b m s row.length w ∧ 2 * (liesL row w).length + (gapsL row).length ≤ m ∧ ly = liesL row w) ∧
    (∀ w, Rt b m s row.length w → 2 * (liesL row w).length + (gapsL row).length ≤ m → mendF b s row ((List.range m).map fun j => evl b (pw b (s + j)) (knownL row)) = some (w, liesL row w)) := by
  refine ⟨fun w ly h => ?_, fun w h hc => mend_ok hb h.len.symm hn h.ws hrow h.zero hc⟩
  obtain ⟨h1, h2, h3, h4, h5⟩ := mend_sound hb hn hrow h
  exact ⟨⟨h1, h2, h3⟩, h4, h5⟩
end My

set_option Elab.async false
set_option linter.all false
set_option maxRecDepth 100000
set_option maxHeartbeats 1000000
/-! ### xs.count(x), flat items -/
namespace My
open PySem PySem.Spec PyProof.Rows L2
def rCountF (K : PySem.W.Frag) : V → List V → Hp → VK → Prop := fun x xs H Q => ∃ (a : Addr) (ys : List V) (y : V), x = V.ref a ∧ xs = [y] ∧ SqL K H a ys ∧ flatV y = true ∧ ys.all flatV = true ∧ Q (.int ((ys.countP fun z => eqV z y : Nat) : Int)) H
theorem count_vals {y : V} : ∀ {ys : List V} {us : List Value}, Vals ys us → ys.all flatV = true → us.countP (eqU y) = ys.countP fun z => eqV z y
  | _, _, .nil, _ => rfl
  | z :: ys, u :: us, .cons r t, h => by
    rw [List.all_cons, Bool.and_eq_true] at h
    rw [List.countP_cons, List.countP_cons, count_vals t h.2, eqU_of r h.1]
theorem mt_countF {X : Cx} {K : PySem.W.Frag} (hK : X.K = K) : MtR X "list.count" (rCountF K) := by
  subst hK
  intro pins s σ H x xs v us Q I rx rxs h
  obtain ⟨a, ys, y, rfl, rfl, hs, fy, fys, q⟩ := h
  cases rx
  cases rxs with
  | cons ry rt =>
    rename_i uy ut
    cases rt
    obtain ⟨its, rv, ⟨⟨cls, dd, data, sl⟩, n, ho, hc, hdn, hd⟩, hlen⟩ := I.list hs
    simp only at hc hd
    subst hc hd
    refine call_meets PySem.F.slot_list_count ⟨_, ho, rfl⟩ PySem.F.entry_list_count (PySem.F.args_list_count_2 _ _) (SeqAt.list_countAt a its.toArray n dd sl uy (eqU y)) ⟨ho, fun u' hu' => mem_eqAt ry fy rv fys u' (by simpa using hu'), ?_⟩
    have e : its.toArray.toList.countP (eqU y) = ys.countP fun z => eqV z y := count_vals rv fys
    rw [e]
    exact ⟨.int _, H, I.tok _, ⟨_, rfl⟩, q⟩
theorem vO_flat (row : List (Option Nat)) : (row.map vO).all flatV = true := by
  rw [List.all_map, List.all_eq_true]
  intro o _
  cases o <;> rfl
theorem vO_count (row : List (Option Nat)) : ((row.map vO).countP fun z => eqV z .non) = (gapsL row).length := by
  have h : ∀ r : List (Option Nat), ((r.map vO).countP fun z => eqV z .non) = (r.filter fun o => o.isNone).length := fun r => by
    induction r with
    | nil => rfl
    | cons o r ih =>
      rw [List.map_cons, List.countP_cons, ih, List.filter_cons]
      cases o with
      | none => simp [vO, eqV]
      | some x =>
        have e : eqV (vO (some x)) .non = false := rfl
        rw [e]
        simp
  rw [h]
  have e : row = (List.range row.length).map (og row) := by
    refine List.ext_getElem? fun k => ?_
    rw [List.getElem?_map]
    by_cases c : k < row.length
    · rw [List.getElem?_range c, List.getElem?_eq_getElem c]
      unfold og
      rw [Option.map_some, List.getD_eq_getElem?_getD, List.getElem?_eq_getElem c]
      rfl
    · rw [List.getElem?_eq_none (by omega), List.getElem?_eq_none (by rw [List.length_range]; omega)]
      rfl
  conv => lhs; rw [e]
  rw [List.filter_map, List.length_map]
  rfl
theorem pe_tupleOfK {X : Cx} {K : PySem.W.Frag} {a : Expr} {ta : TE} {p pos : Pos} (hK : X.K = K) (hg : Gl X "tuple") (hm : X.mg "tuple" = none) (ha : PE X a ta) (na : starEach [a] X.env = (false, eval a X.env) :: starEach [] X.env := by rfl) :
    PE X (.Call (.Name "tuple" p) [a] [] pos) (tThen ta (kTup K)) := by
  subst hK
  exact pe_tupleOf hg hm ha na
end My

set_option Elab.async false
set_option linter.all false
set_option maxRecDepth 100000
set_option maxHeartbeats 4000000
namespace My
open PySem PySem.Spec PyProof.Rows L2
/-- the scope of the comprehension over the rows so far -/
abbrev sc_lc_every : Scope := { kind := .function, names := [(".0", .local), ("_law_some", .local), ("tuple", .globalImplicit), ("zip", .globalImplicit), ("_law_part", .cell)], isGenerator := false, isCoroutine := false }
def topS (i : Nat) : Stmt := PySem.Challenge.pw_dotquilts_k10_whole_repairs_of_any_rows.main.body.getD i (.Pass ⟨0, 0, 0, 0⟩)
abbrev s_is_number : Stmt := topS 1
theorem sc_is_number : FnScope ["thing"] ["thing"] (defScope s_is_number) := ⟨rfl, rfl, rfl, by decide +kernel, rfl, by decide +kernel, by decide +kernel⟩
abbrev s_is_number_to : Stmt := topS 2
theorem sc_is_number_to : FnScope ["thing", "least", "most"] ["thing", "least", "most"] (defScope s_is_number_to) := ⟨rfl, rfl, rfl, by decide +kernel, rfl, by decide +kernel, by decide +kernel⟩
abbrev s_is_word : Stmt := topS 14
theorem sc_is_word : FnScope ["bits", "thing"] ["bits", "thing"] (defScope s_is_word) := ⟨rfl, rfl, rfl, by decide +kernel, rfl, by decide +kernel, by decide +kernel⟩
abbrev s_is_row : Stmt := topS 4
theorem sc_is_row : FnScope ["thing"] ["thing"] (defScope s_is_row) := ⟨rfl, rfl, rfl, by decide +kernel, rfl, by decide +kernel, by decide +kernel⟩
abbrev s_are_plain_words : Stmt := topS 3
theorem sc_are_plain_words : FnScope ["bits", "things", "thing"] ["bits", "things"] (defScope s_are_plain_words) := ⟨rfl, rfl, rfl, by decide +kernel, rfl, by decide +kernel, by decide +kernel⟩
abbrev s_need_words : Stmt := topS 15
theorem sc_need_words : FnScope ["bits", "part", "words", "at", "word"] ["bits", "part", "words"] (defScope s_need_words) := ⟨rfl, rfl, rfl, by decide +kernel, rfl, by decide +kernel, by decide +kernel⟩
abbrev s_Field___init__ : Stmt := inClass (topS 13) 0
theorem sc_Field___init__ : FnScope ["self", "bits"] ["self", "bits"] (defScope s_Field___init__) := ⟨rfl, rfl, rfl, by decide +kernel, rfl, by decide +kernel, by decide +kernel⟩
abbrev s_Field_multiple : Stmt := inClass (topS 13) 4
theorem sc_Field_multiple : FnScope ["self", "words", "factor", "powers", "exponents", "shift", "word"] ["self", "words", "factor"] (defScope s_Field_multiple) := ⟨rfl, rfl, rfl, by decide +kernel, rfl, by decide +kernel, by decide +kernel⟩
abbrev s_Field_over : Stmt := inClass (topS 13) 3
theorem sc_Field_over : FnScope ["self", "one", "other"] ["self", "one", "other"] (defScope s_Field_over) := ⟨rfl, rfl, rfl, by decide +kernel, rfl, by decide +kernel, by decide +kernel⟩
abbrev s_Field_two_to : Stmt := inClass (topS 13) 1
theorem sc_Field_two_to : FnScope ["self", "times"] ["self", "times"] (defScope s_Field_two_to) := ⟨rfl, rfl, rfl, by decide +kernel, rfl, by decide +kernel, by decide +kernel⟩
abbrev s_Field_times : Stmt := inClass (topS 13) 2
theorem sc_Field_times : FnScope ["self", "one", "other"] ["self", "one", "other"] (defScope s_Field_times) := ⟨rfl, rfl, rfl, by decide +kernel, rfl, by decide +kernel, by decide +kernel⟩
abbrev s_check_factor : Stmt := topS 18
theorem sc_check_factor : FnScope ["field", "many", "start", "found", "exponent", "step", "upper", "lower"] ["field", "many", "start"] (defScope s_check_factor) := ⟨rfl, rfl, rfl, by decide +kernel, rfl, by decide +kernel, by decide +kernel⟩
abbrev s_next_rest : Stmt := topS 19
theorem sc_next_rest : FnScope ["field", "factor", "rest", "word", "share", "one", "other"] ["field", "factor", "rest", "word"] (defScope s_next_rest) := ⟨rfl, rfl, rfl, by decide +kernel, rfl, by decide +kernel, by decide +kernel⟩
abbrev s_with_checks : Stmt := topS 20
theorem sc_with_checks : FnScope ["field", "many", "start", "words", "factor", "rest", "word"] ["field", "many", "start", "words"] (defScope s_with_checks) := ⟨rfl, rfl, rfl, by decide +kernel, rfl, by decide +kernel, by decide +kernel⟩
abbrev s_is_code : Stmt := topS 32
theorem sc_is_code : FnScope ["code", "bits", "many", "start"] ["code"] (defScope s_is_code) := ⟨rfl, rfl, rfl, by decide +kernel, rfl, by decide +kernel, by decide +kernel⟩
abbrev s_need_code : Stmt := topS 33
theorem sc_need_code : FnScope ["code"] ["code"] (defScope s_need_code) := ⟨rfl, rfl, rfl, by decide +kernel, rfl, by decide +kernel, by decide +kernel⟩
abbrev s_most_words : Stmt := topS 34
theorem sc_most_words : FnScope ["bits"] ["bits"] (defScope s_most_words) := ⟨rfl, rfl, rfl, by decide +kernel, rfl, by decide +kernel, by decide +kernel⟩
abbrev s_is_length : Stmt := topS 35
theorem sc_is_length : FnScope ["code", "length", "bits", "many", "_"] ["code", "length"] (defScope s_is_length) := ⟨rfl, rfl, rfl, by decide +kernel, rfl, by decide +kernel, by decide +kernel⟩
abbrev s_check_words : Stmt := topS 37
theorem sc_check_words : FnScope ["code", "words", "bits", "many", "start"] ["code", "words"] (defScope s_check_words) := ⟨rfl, rfl, rfl, by decide +kernel, rfl, by decide +kernel, by decide +kernel⟩
abbrev s_value_at : Stmt := topS 16
theorem sc_value_at : FnScope ["field", "words", "at", "powers", "exponents", "shift", "total", "word"] ["field", "words", "at"] (defScope s_value_at) := ⟨rfl, rfl, rfl, by decide +kernel, rfl, by decide +kernel, by decide +kernel⟩
abbrev s_sums_of : Stmt := topS 22
theorem sc_sums_of : FnScope ["field", "many", "start", "row", "step"] ["field", "many", "start", "row"] (defScope s_sums_of) := ⟨rfl, rfl, rfl, by decide +kernel, rfl, by decide +kernel, by decide +kernel⟩
abbrev s_without_place : Stmt := topS 23
theorem sc_without_place : FnScope ["field", "sums", "place", "at"] ["field", "sums", "place"] (defScope s_without_place) := ⟨rfl, rfl, rfl, by decide +kernel, rfl, by decide +kernel, by decide +kernel⟩
abbrev s_heads_and_rest : Stmt := topS 24
theorem sc_heads_and_rest : FnScope ["field", "sums", "places", "heads", "place"] ["field", "sums", "places"] (defScope s_heads_and_rest) := ⟨rfl, rfl, rfl, by decide +kernel, rfl, by decide +kernel, by decide +kernel⟩
abbrev s_corrected : Stmt := topS 25
theorem sc_corrected : FnScope ["field", "rule", "last", "shift", "factor", "found", "at", "word"] ["field", "rule", "last", "shift", "factor"] (defScope s_corrected) := ⟨rfl, rfl, rfl, by decide +kernel, rfl, by decide +kernel, by decide +kernel⟩
abbrev s_shortest_rule : Stmt := topS 26
theorem sc_shortest_rule : FnScope ["field", "sums", "rule", "last", "length", "shift", "divisor", "at", "miss", "back", "mended"] ["field", "sums"] (defScope s_shortest_rule) := ⟨rfl, rfl, rfl, by decide +kernel, rfl, by decide +kernel, by decide +kernel⟩
abbrev s_wrong_words : Stmt := topS 27
theorem sc_wrong_words : FnScope ["field", "places", "heads", "shares", "own", "later", "share", "rest", "place"] ["field", "places", "heads"] (defScope s_wrong_words) := ⟨rfl, rfl, rfl, by decide +kernel, rfl, by decide +kernel, by decide +kernel⟩
abbrev s_mended_row : Stmt := topS 28
theorem sc_mended_row : FnScope ["field", "start", "row", "sums", "at", "gaps", "places", "heads", "rule", "lying", "more", "rest", "found", "wrong", "share", "word"] ["field", "start", "row", "sums"] (defScope s_mended_row) := ⟨rfl, rfl, rfl, by decide +kernel, rfl, by decide +kernel, by decide +kernel⟩
abbrev s_need_gapped_row : Stmt := topS 36
theorem sc_need_gapped_row : FnScope ["code", "row", "at", "word"] ["code", "row"] (defScope s_need_gapped_row) := ⟨rfl, rfl, rfl, by decide +kernel, rfl, by decide +kernel, by decide +kernel⟩
abbrev s_repaired_row : Stmt := topS 29
theorem sc_repaired_row : FnScope ["field", "many", "start", "row", "known", "word"] ["field", "many", "start", "row"] (defScope s_repaired_row) := ⟨rfl, rfl, rfl, by decide +kernel, rfl, by decide +kernel, by decide +kernel⟩
abbrev s_repaired : Stmt := topS 38
theorem sc_repaired : FnScope ["code", "row", "bits", "many", "start"] ["code", "row"] (defScope s_repaired) := ⟨rfl, rfl, rfl, by decide +kernel, rfl, by decide +kernel, by decide +kernel⟩
abbrev s__law_draw : Stmt := topS 40
theorem sc__law_draw : FnScope ["_law_well", "_law_many", "_law_digit", "_law_mixed"] ["_law_well", "_law_many"] (defScope s__law_draw) := ⟨rfl, rfl, rfl, by decide +kernel, rfl, by decide +kernel, by decide +kernel⟩
abbrev s__law_pick : Stmt := topS 41
theorem sc__law_pick : FnScope ["_law_well", "_law_some"] ["_law_well", "_law_some"] (defScope s__law_pick) := ⟨rfl, rfl, rfl, by decide +kernel, rfl, by decide +kernel, by decide +kernel⟩
abbrev s__law_small : Stmt := topS 42
theorem sc__law_small : FnScope ["_law_well", "_law_bits", "_law_kit"] ["_law_well"] (defScope s__law_small) := ⟨rfl, rfl, rfl, by decide +kernel, rfl, by decide +kernel, by decide +kernel⟩
abbrev s__law_every : Stmt := topS 43
theorem sc__law_every : FnScope ["_law_kit", "_law_size", "_law_found", "_law_many", "_law_at", "_law_k", "_law_data", "_law_part", "_law_some", "_law_one", "_law_other"] ["_law_kit", "_law_size"] (defScope s__law_every) := ⟨rfl, rfl, rfl, by decide +kernel, rfl, by decide +kernel, by decide +kernel⟩
abbrev s__law_gap : Stmt := topS 44
theorem sc__law_gap : FnScope ["_law_torn_here", "_law_some", "_law_one", "_law_other"] ["_law_torn_here", "_law_some"] (defScope s__law_gap) := ⟨rfl, rfl, rfl, by decide +kernel, rfl, by decide +kernel, by decide +kernel⟩
abbrev s__law_torn : Stmt := topS 45
theorem sc__law_torn : FnScope ["_law_well", "_law_kit", "_law_size", "_law_every_here", "_law_top", "_law_way", "_law_torn_here", "_law_other", "_law_turn", "_law_k", "_law_one", "_law_two"] ["_law_well", "_law_kit", "_law_size", "_law_every_here"] (defScope s__law_torn) := ⟨rfl, rfl, rfl, by decide +kernel, rfl, by decide +kernel, by decide +kernel⟩
abbrev s__law_due : Stmt := topS 46
theorem sc__law_due : FnScope ["_law_kit", "_law_torn_here", "_law_every_here", "_law_holes", "_law_found", "_law_some", "_law_lies", "_law_k", "_law_word"] ["_law_kit", "_law_torn_here", "_law_every_here"] (defScope s__law_due) := ⟨rfl, rfl, rfl, by decide +kernel, rfl, by decide +kernel, by decide +kernel⟩
abbrev s__law_right : Stmt := topS 47
theorem sc__law_right : FnScope ["_law_well", "_law_kit", "_law_size", "_law_every_here", "_law_turn", "_law_torn_here", "_law_due_here", "_law_kept", "_law_said"] ["_law_well"] (defScope s__law_right) := ⟨rfl, rfl, rfl, by decide +kernel, rfl, by decide +kernel, by decide +kernel⟩
abbrev s_law : Stmt := topS 48
theorem sc_law : FnScope ["_law_script", "_law_k", "_law_cell", "_law_well"] ["_law_script"] (defScope s_law) := ⟨rfl, rfl, rfl, by decide +kernel, rfl, by decide +kernel, by decide +kernel⟩
structure Txt (K : PySem.W.Frag) (mg : Str → Option Value) where
  f_is_number : Addr
  d_is_number : FuncData
  F_is_number : Fun K "is_number" "is_number" s_is_number f_is_number d_is_number
  g_is_number : mg "is_number" = some (.ref f_is_number)
  b_is_number : Binds K d_is_number ["thing"] []
  f_is_number_to : Addr
  d_is_number_to : FuncData
  F_is_number_to : Fun K "is_number_to" "is_number_to" s_is_number_to f_is_number_to d_is_number_to
  g_is_number_to : mg "is_number_to" = some (.ref f_is_number_to)
  b_is_number_to : Binds K d_is_number_to ["thing", "least", "most"] []
  f_is_word : Addr
  d_is_word : FuncData
  F_is_word : Fun K "is_word" "is_word" s_is_word f_is_word d_is_word
  g_is_word : mg "is_word" = some (.ref f_is_word)
  b_is_word : Binds K d_is_word ["bits", "thing"] []
  f_is_row : Addr
  d_is_row : FuncData
  F_is_row : Fun K "is_row" "is_row" s_is_row f_is_row d_is_row
  g_is_row : mg "is_row" = some (.ref f_is_row)
  b_is_row : Binds K d_is_row ["thing"] []
  f_are_plain_words : Addr
  d_are_plain_words : FuncData
  F_are_plain_words : Fun K "are_plain_words" "are_plain_words" s_are_plain_words f_are_plain_words d_are_plain_words
  g_are_plain_words : mg "are_plain_words" = some (.ref f_are_plain_words)
  b_are_plain_words : Binds K d_are_plain_words ["bits", "things"] []
  f_need_words : Addr
  d_need_words : FuncData
  F_need_words : Fun K "need_words" "need_words" s_need_words f_need_words d_need_words
  g_need_words : mg "need_words" = some (.ref f_need_words)
  b_need_words : Binds K d_need_words ["bits", "part", "words"] []
  f_Field___init__ : Addr
  d_Field___init__ : FuncData
  F_Field___init__ : Fun K "__init__" "Field.__init__" s_Field___init__ f_Field___init__ d_Field___init__
  b_Field___init__ : Binds K d_Field___init__ ["self", "bits"] []
  f_Field_multiple : Addr
  d_Field_multiple : FuncData
  F_Field_multiple : Fun K "multiple" "Field.multiple" s_Field_multiple f_Field_multiple d_Field_multiple
  b_Field_multiple : Binds K d_Field_multiple ["self", "words", "factor"] []
  f_Field_over : Addr
  d_Field_over : FuncData
  F_Field_over : Fun K "over" "Field.over" s_Field_over f_Field_over d_Field_over
  b_Field_over : Binds K d_Field_over ["self", "one", "other"] []
  f_Field_two_to : Addr
  d_Field_two_to : FuncData
  F_Field_two_to : Fun K "two_to" "Field.two_to" s_Field_two_to f_Field_two_to d_Field_two_to
  b_Field_two_to : Binds K d_Field_two_to ["self", "times"] []
  f_Field_times : Addr
  d_Field_times : FuncData
  F_Field_times : Fun K "times" "Field.times" s_Field_times f_Field_times d_Field_times
  b_Field_times : Binds K d_Field_times ["self", "one", "other"] []
  f_check_factor : Addr
  d_check_factor : FuncData
  F_check_factor : Fun K "check_factor" "check_factor" s_check_factor f_check_factor d_check_factor
  g_check_factor : mg "check_factor" = some (.ref f_check_factor)
  b_check_factor : Binds K d_check_factor ["field", "many", "start"] []
  f_next_rest : Addr
  d_next_rest : FuncData
  F_next_rest : Fun K "next_rest" "next_rest" s_next_rest f_next_rest d_next_rest
  g_next_rest : mg "next_rest" = some (.ref f_next_rest)
  b_next_rest : Binds K d_next_rest ["field", "factor", "rest", "word"] []
  f_with_checks : Addr
  d_with_checks : FuncData
  F_with_checks : Fun K "with_checks" "with_checks" s_with_checks f_with_checks d_with_checks
  g_with_checks : mg "with_checks" = some (.ref f_with_checks)
  b_with_checks : Binds K d_with_checks ["field", "many", "start", "words"] []
  f_is_code : Addr
  d_is_code : FuncData
  F_is_code : Fun K "is_code" "is_code" s_is_code f_is_code d_is_code
  g_is_code : mg "is_code" = some (.ref f_is_code)
  b_is_code : Binds K d_is_code ["code"] []
  f_need_code : Addr
  d_need_code : FuncData
  F_need_code : Fun K "need_code" "need_code" s_need_code f_need_code d_need_code
  g_need_code : mg "need_code" = some (.ref f_need_code)
  b_need_code : Binds K d_need_code ["code"] []
  f_most_words : Addr
  d_most_words : FuncData
  F_most_words : Fun K "most_words" "most_words" s_most_words f_most_words d_most_words
  g_most_words : mg "most_words" = some (.ref f_most_words)
  b_most_words : Binds K d_most_words ["bits"] []
  f_is_length : Addr
  d_is_length : FuncData
  F_is_length : Fun K "is_length" "is_length" s_is_length f_is_length d_is_length
  g_is_length : mg "is_length" = some (.ref f_is_length)
  b_is_length : Binds K d_is_length ["code", "length"] []
  f_check_words : Addr
  d_check_words : FuncData
  F_check_words : Fun K "check_words" "check_words" s_check_words f_check_words d_check_words
  g_check_words : mg "check_words" = some (.ref f_check_words)
  b_check_words : Binds K d_check_words ["code", "words"] []
  f_value_at : Addr
  d_value_at : FuncData
  F_value_at : Fun K "value_at" "value_at" s_value_at f_value_at d_value_at
  g_value_at : mg "value_at" = some (.ref f_value_at)
  b_value_at : Binds K d_value_at ["field", "words", "at"] []
  f_sums_of : Addr
  d_sums_of : FuncData
  F_sums_of : Fun K "sums_of" "sums_of" s_sums_of f_sums_of d_sums_of
  g_sums_of : mg "sums_of" = some (.ref f_sums_of)
  b_sums_of : Binds K d_sums_of ["field", "many", "start", "row"] []
  f_without_place : Addr
  d_without_place : FuncData
  F_without_place : Fun K "without_place" "without_place" s_without_place f_without_place d_without_place
  g_without_place : mg "without_place" = some (.ref f_without_place)
  b_without_place : Binds K d_without_place ["field", "sums", "place"] []
  f_heads_and_rest : Addr
  d_heads_and_rest : FuncData
  F_heads_and_rest : Fun K "heads_and_rest" "heads_and_rest" s_heads_and_rest f_heads_and_rest d_heads_and_rest
  g_heads_and_rest : mg "heads_and_rest" = some (.ref f_heads_and_rest)
  b_heads_and_rest : Binds K d_heads_and_rest ["field", "sums", "places"] []
  f_corrected : Addr
  d_corrected : FuncData
  F_corrected : Fun K "corrected" "corrected" s_corrected f_corrected d_corrected
  g_corrected : mg "corrected" = some (.ref f_corrected)
  b_corrected : Binds K d_corrected ["field", "rule", "last", "shift", "factor"] []
  f_shortest_rule : Addr
  d_shortest_rule : FuncData
  F_shortest_rule : Fun K "shortest_rule" "shortest_rule" s_shortest_rule f_shortest_rule d_shortest_rule
  g_shortest_rule : mg "shortest_rule" = some (.ref f_shortest_rule)
  b_shortest_rule : Binds K d_shortest_rule ["field", "sums"] []
  f_wrong_words : Addr
  d_wrong_words : FuncData
  F_wrong_words : Fun K "wrong_words" "wrong_words" s_wrong_words f_wrong_words d_wrong_words
  g_wrong_words : mg "wrong_words" = some (.ref f_wrong_words)
  b_wrong_words : Binds K d_wrong_words ["field", "places", "heads"] []
  f_mended_row : Addr
  d_mended_row : FuncData
  F_mended_row : Fun K "mended_row" "mended_row" s_mended_row f_mended_row d_mended_row
  g_mended_row : mg "mended_row" = some (.ref f_mended_row)
  b_mended_row : Binds K d_mended_row ["field", "start", "row", "sums"] []
  f_need_gapped_row : Addr
  d_need_gapped_row : FuncData
  F_need_gapped_row : Fun K "need_gapped_row" "need_gapped_row" s_need_gapped_row f_need_gapped_row d_need_gapped_row
  g_need_gapped_row : mg "need_gapped_row" = some (.ref f_need_gapped_row)
  b_need_gapped_row : Binds K d_need_gapped_row ["code", "row"] []
  f_repaired_row : Addr
  d_repaired_row : FuncData
  F_repaired_row : Fun K "repaired_row" "repaired_row" s_repaired_row f_repaired_row d_repaired_row
  g_repaired_row : mg "repaired_row" = some (.ref f_repaired_row)
  b_repaired_row : Binds K d_repaired_row ["field", "many", "start", "row"] []
  f_repaired : Addr
  d_repaired : FuncData
  F_repaired : Fun K "repaired" "repaired" s_repaired f_repaired d_repaired
  g_repaired : mg "repaired" = some (.ref f_repaired)
  b_repaired : Binds K d_repaired ["code", "row"] []
  f__law_draw : Addr
  d__law_draw : FuncData
  F__law_draw : Fun K "_law_draw" "_law_draw" s__law_draw f__law_draw d__law_draw
  g__law_draw : mg "_law_draw" = some (.ref f__law_draw)
  b__law_draw : Binds K d__law_draw ["_law_well", "_law_many"] []
  f__law_pick : Addr
  d__law_pick : FuncData
  F__law_pick : Fun K "_law_pick" "_law_pick" s__law_pick f__law_pick d__law_pick
  g__law_pick : mg "_law_pick" = some (.ref f__law_pick)
  b__law_pick : Binds K d__law_pick ["_law_well", "_law_some"] []
  f__law_small : Addr
  d__law_small : FuncData
  F__law_small : Fun K "_law_small" "_law_small" s__law_small f__law_small d__law_small
  g__law_small : mg "_law_small" = some (.ref f__law_small)
  b__law_small : Binds K d__law_small ["_law_well"] []
  f__law_every : Addr
  d__law_every : FuncData
  F__law_every : Fun K "_law_every" "_law_every" s__law_every f__law_every d__law_every
  g__law_every : mg "_law_every" = some (.ref f__law_every)
  b__law_every : Binds K d__law_every ["_law_kit", "_law_size"] []
  f__law_gap : Addr
  d__law_gap : FuncData
  F__law_gap : Fun K "_law_gap" "_law_gap" s__law_gap f__law_gap d__law_gap
  g__law_gap : mg "_law_gap" = some (.ref f__law_gap)
  b__law_gap : Binds K d__law_gap ["_law_torn_here", "_law_some"] []
  f__law_torn : Addr
  d__law_torn : FuncData
  F__law_torn : Fun K "_law_torn" "_law_torn" s__law_torn f__law_torn d__law_torn
  g__law_torn : mg "_law_torn" = some (.ref f__law_torn)
  b__law_torn : Binds K d__law_torn ["_law_well", "_law_kit", "_law_size", "_law_every_here"] []
  f__law_due : Addr
  d__law_due : FuncData
  F__law_due : Fun K "_law_due" "_law_due" s__law_due f__law_due d__law_due
  g__law_due : mg "_law_due" = some (.ref f__law_due)
  b__law_due : Binds K d__law_due ["_law_kit", "_law_torn_here", "_law_every_here"] []
  f__law_right : Addr
  d__law_right : FuncData
  F__law_right : Fun K "_law_right" "_law_right" s__law_right f__law_right d__law_right
  g__law_right : mg "_law_right" = some (.ref f__law_right)
  b__law_right : Binds K d__law_right ["_law_well"] []
  f_law : Addr
  d_law : FuncData
  F_law : Fun K "law" "law" s_law f_law d_law
  g_law : mg "law" = some (.ref f_law)
  b_law : Binds K d_law ["_law_script"] []
  C_Field : Addr
  g_Field : mg "Field" = some (.ref C_Field)
  cl_Field : Cls K C_Field
  m_Field___init__ : Meth K C_Field "__init__" f_Field___init__
  m_Field_multiple : Meth K C_Field "multiple" f_Field_multiple
  m_Field_over : Meth K C_Field "over" f_Field_over
  m_Field_two_to : Meth K C_Field "two_to" f_Field_two_to
  m_Field_times : Meth K C_Field "times" f_Field_times
  mk_Field : Mk K C_Field f_Field___init__
  a_Field_bits : NoAttr K C_Field "bits"
  a_Field_span : NoAttr K C_Field "span"
  a_Field_turn : NoAttr K C_Field "turn"
  a_Field_powers : NoAttr K C_Field "powers"
  a_Field_exponents : NoAttr K C_Field "exponents"
  n_any : mg "any" = none
  n_bool : mg "bool" = none
  n_enumerate : mg "enumerate" = none
  n_int : mg "int" = none
  n_isinstance : mg "isinstance" = none
  n_len : mg "len" = none
  n_list : mg "list" = none
  n_max : mg "max" = none
  n_min : mg "min" = none
  n_range : mg "range" = none
  n_sorted : mg "sorted" = none
  n_tuple : mg "tuple" = none
  n_type : mg "type" = none
  n_zip : mg "zip" = none
  c_EXPONENTS0 : Addr
  t_EXPONENTS0 : tupB K c_EXPONENTS0 [0, 0, 1, 12, 2, 9, 13, 7, 3, 4, 10, 5, 14, 11, 8, 6] = true
  c_EXPONENTS1 : Addr
  t_EXPONENTS1 : tupB K c_EXPONENTS1 [0, 0, 1, 231, 2, 207, 232, 59, 3, 35, 208, 154, 233, 20, 60, 183, 4, 159, 36, 66, 209, 118, 155, 251, 234, 245, 21, 11, 61, 130, 184, 146, 5, 122, 160, 79, 37, 113, 67, 106, 210, 224, 119, 221, 156, 242, 252, 32, 235, 213, 246, 135, 22, 42, 12, 140, 62, 227, 131, 75, 185, 191, 147, 94, 6, 70, 123, 195, 161, 53, 80, 167, 38, 109, 114, 203, 68, 51, 107, 49, 211, 40, 225, 189, 120, 111, 222, 240, 157, 116, 243, 128, 253, 205, 33, 18, 236, 163, 214, 98, 247, 55, 136, 102, 23, 82, 43, 177, 13, 169, 141, 89, 63, 8, 228, 151, 132, 72, 76, 218, 186, 125, 192, 200, 148, 197, 95, 174, 7, 150, 71, 217, 124, 199, 196, 173, 162, 97, 54, 101, 81, 176, 168, 88, 39, 188, 110, 239, 115, 127, 204, 17, 69, 194, 52, 166, 108, 202, 50, 48, 212, 134, 41, 139, 226, 74, 190, 93, 121, 78, 112, 105, 223, 220, 241, 31, 158, 65, 117, 250, 244, 10, 129, 145, 254, 230, 206, 58, 34, 153, 19, 182, 237, 15, 164, 46, 215, 171, 99, 86, 248, 143, 56, 180, 137, 91, 103, 29, 24, 25, 83, 26, 44, 84, 178, 27, 14, 45, 170, 85, 142, 179, 90, 28, 64, 249, 9, 144, 229, 57, 152, 181, 133, 138, 73, 92, 77, 104, 219, 30, 187, 238, 126, 16, 193, 165, 201, 47, 149, 216, 198, 172, 96, 100, 175, 87] = true
  a_EXPONENTS : Addr
  g_EXPONENTS : mg "EXPONENTS" = some (.ref a_EXPONENTS)
  l_EXPONENTS : KRef K a_EXPONENTS [(4, c_EXPONENTS0), (8, c_EXPONENTS1)]
  a_MOST_CHECKS : Addr
  g_MOST_CHECKS : mg "MOST_CHECKS" = some (.ref a_MOST_CHECKS)
  l_MOST_CHECKS : KInt K a_MOST_CHECKS [(4, 14), (8, 40)]
  c_POWERS0 : Addr
  t_POWERS0 : tupB K c_POWERS0 [1, 2, 4, 8, 9, 11, 15, 7, 14, 5, 10, 13, 3, 6, 12] = true
  c_POWERS1 : Addr
  t_POWERS1 : tupB K c_POWERS1 [1, 2, 4, 8, 16, 32, 64, 128, 113, 226, 181, 27, 54, 108, 216, 193, 243, 151, 95, 190, 13, 26, 52, 104, 208, 209, 211, 215, 223, 207, 239, 175, 47, 94, 188, 9, 18, 36, 72, 144, 81, 162, 53, 106, 212, 217, 195, 247, 159, 79, 158, 77, 154, 69, 138, 101, 202, 229, 187, 7, 14, 28, 56, 112, 224, 177, 19, 38, 76, 152, 65, 130, 117, 234, 165, 59, 118, 236, 169, 35, 70, 140, 105, 210, 213, 219, 199, 255, 143, 111, 222, 205, 235, 167, 63, 126, 252, 137, 99, 198, 253, 139, 103, 206, 237, 171, 39, 78, 156, 73, 146, 85, 170, 37, 74, 148, 89, 178, 21, 42, 84, 168, 33, 66, 132, 121, 242, 149, 91, 182, 29, 58, 116, 232, 161, 51, 102, 204, 233, 163, 55, 110, 220, 201, 227, 183, 31, 62, 124, 248, 129, 115, 230, 189, 11, 22, 44, 88, 176, 17, 34, 68, 136, 97, 194, 245, 155, 71, 142, 109, 218, 197, 251, 135, 127, 254, 141, 107, 214, 221, 203, 231, 191, 15, 30, 60, 120, 240, 145, 83, 166, 61, 122, 244, 153, 67, 134, 125, 250, 133, 123, 246, 157, 75, 150, 93, 186, 5, 10, 20, 40, 80, 160, 49, 98, 196, 249, 131, 119, 238, 173, 43, 86, 172, 41, 82, 164, 57, 114, 228, 185, 3, 6, 12, 24, 48, 96, 192, 241, 147, 87, 174, 45, 90, 180, 25, 50, 100, 200, 225, 179, 23, 46, 92, 184] = true
  a_POWERS : Addr
  g_POWERS : mg "POWERS" = some (.ref a_POWERS)
  l_POWERS : KRef K a_POWERS [(4, c_POWERS0), (8, c_POWERS1)]
  a_SPANS : Addr
  g_SPANS : mg "SPANS" = some (.ref a_SPANS)
  l_SPANS : KInt K a_SPANS [(4, 16), (8, 256)]
theorem getI_span {b : Nat} (hb : Wd b) : getI (b : Int) [(4, 16), (8, 256)] = some (span b : Int) := by rcases hb with rfl | rfl <;> rfl
theorem span_eq {b : Nat} (hb : Wd b) : span b = turn b + 1 := by rcases hb with rfl | rfl <;> rfl
theorem span_small {b : Nat} (hb : Wd b) : span b ≤ 256 := by rcases hb with rfl | rfl <;> decide
section
variable {P : Program} {w : World} {K : PySem.W.Frag} {mg : Str → Option Value} {base : Heap}
/-! ### the program's defs -/
def sp_is_number : Sp := fun vs H Q _ => ∃ i : Int, vs = [.int i] ∧ Q (.bl true) H
theorem ok_is_number (T : Txt K mg) : FnOk P w K mg base CX0 1 T.f_is_number T.d_is_number ["thing"] sp_is_number := by
  refine T.F_is_number.ok sc_is_number (fun vs H Q E h => ?_) (fun cdv A outer s H vs Q E hr h => ?_)
  · obtain ⟨i, rfl, _⟩ := h
    rfl
  · obtain ⟨i, rfl, q⟩ := h
    refine ⟨_, (pss_one (ps_ret (pe_and (pe_callB call_isi (by rfl) T.n_isinstance (by decide +kernel) (pa_cons (pv 0) (pa_cons (pe_bltn (v := .ty "int") (by rfl) T.n_int (by decide +kernel) rfl) pa_nil))) (pe_one (pe_not (pe_callB call_isi (by rfl) T.n_isinstance (by decide +kernel) (pa_cons (pv 0) (pa_cons (pe_bltn (v := .ty "bool") (by rfl) T.n_bool (by decide +kernel) rfl) pa_nil)))))))), ?_⟩
    refine ⟨_, rfl, .int i, .ty "int", .type "int", .type "int", true, rfl, .ty _, .base (.int i), kit_ty (by decide +kernel), true, rfl, ?_⟩
    exact ⟨_, rfl, .int i, .ty "bool", .type "int", .type "bool", false, rfl, .ty _, .base (.int i), kit_ty (by decide +kernel), _, rfl, q⟩
def sp_is_number_to : Sp := fun vs H Q _ => ∃ i l m : Int, vs = [.int i, .int l, .int m] ∧ Q (.bl (decide (l ≤ i) && decide (i ≤ m))) H
theorem ok_is_number_to (T : Txt K mg) : FnOk P w K mg base CX0 2 T.f_is_number_to T.d_is_number_to ["thing", "least", "most"] sp_is_number_to := by
  refine T.F_is_number_to.ok sc_is_number_to (fun vs H Q E h => ?_) (fun cdv A outer s H vs Q E hr h => ?_)
  · obtain ⟨i, l, m, rfl, _⟩ := h
    rfl
  · obtain ⟨i, l, m, rfl, q⟩ := h
    refine ⟨_, (pss_one (ps_ret (pe_and (pe_callB call_isi (by rfl) T.n_isinstance (by decide +kernel) (pa_cons (pv 0) (pa_cons (pe_bltn (v := .ty "int") (by rfl) T.n_int (by decide +kernel) rfl) pa_nil))) (pe_and (pe_not (pe_callB call_isi (by rfl) T.n_isinstance (by decide +kernel) (pa_cons (pv 0) (pa_cons (pe_bltn (v := .ty "bool") (by rfl) T.n_bool (by decide +kernel) rfl) pa_nil)))) (pe_one (pe_chain op_le op_le (pv 1) (pv 0) (pv 2))))))), ?_⟩
    refine ⟨_, rfl, .int i, .ty "int", .type "int", .type "int", true, rfl, .ty _, .base (.int i), kit_ty (by decide +kernel), true, rfl, ?_⟩
    refine ⟨_, rfl, .int i, .ty "bool", .type "int", .type "bool", false, rfl, .ty _, .base (.int i), kit_ty (by decide +kernel), _, rfl, true, rfl, ?_⟩
    refine ⟨_, rfl, _, rfl, _, _, rfl, rfl, _, rfl, ?_⟩
    refine ite2 (fun c => ?_) (fun c => ?_)
    · refine ⟨_, rfl, _, _, rfl, rfl, ?_⟩
      rw [show decide (l ≤ i) = true from c, Bool.true_and] at q
      exact q
    · rw [show decide (l ≤ i) = false by simpa using c, Bool.false_and] at q
      exact q
def sp_is_word : Sp := fun vs H Q _ => ∃ b x : Nat, vs = [vN b, vN x] ∧ Wd b ∧ x < span b ∧ Q (.bl true) H
theorem ok_is_word (T : Txt K mg) : FnOk P w K mg base CX0 3 T.f_is_word T.d_is_word ["bits", "thing"] sp_is_word := by
  refine T.F_is_word.ok sc_is_word (fun vs H Q E h => ?_) (fun cdv A outer s H vs Q E hr h => ?_)
  · obtain ⟨b, x, rfl, _⟩ := h
    rfl
  · obtain ⟨b, x, rfl, hb, hx, q⟩ := h
    refine ⟨_, (pss_one (ps_ret (pe_call (ok_is_number_to T) (hr.mono (by decide)) (by rfl) T.g_is_number_to T.F_is_number_to.kp T.b_is_number_to .nil pass0 (pa_cons (pv 1) (pa_cons pe_int (pa_cons (pe_op op_sub (pe_ix (ix_kint T.l_SPANS) (pe_glob (v := .ref T.a_SPANS) (by rfl) T.g_SPANS rfl) (pv 0) (fun _ _ => rfl)) pe_int) pa_nil)))))), ?_⟩
    refine ⟨_, rfl, _, rfl, _, _, rfl, rfl, getI_span hb, _, _, rfl, rfl, _, _, _, rfl, ?_⟩
    have e : (decide ((0 : Int) ≤ (x : Int)) && decide ((x : Int) ≤ (span b : Int) - 1)) = true := by
      simp
      omega
    rw [e]
    exact q
def sp_is_row (K : PySem.W.Frag) : Sp := fun vs H Q _ => ∃ (a : Addr) (k : Bool) (xs : List V), vs = [.ref a] ∧ SqB k K H a xs ∧ ∀ H', Same H H' → Q (.bl true) H'
theorem ok_is_row (T : Txt K mg) : FnOk P w K mg base CX0 1 T.f_is_row T.d_is_row ["thing"] (sp_is_row K) := by
  refine T.F_is_row.ok sc_is_row (fun vs H Q E h => ?_) (fun cdv A outer s H vs Q E hr h => ?_)
  · obtain ⟨a, k, xs, rfl, _⟩ := h
    rfl
  · obtain ⟨a, k, xs, rfl, hq, q⟩ := h
    refine ⟨_, (pss_one (ps_ret (pe_callB call_isiT (by rfl) T.n_isinstance (by decide +kernel) (pa_cons (pv 0) (pa_cons (pe_tup (pa_cons (pe_bltn (v := .ty "list") (by rfl) T.n_list (by decide +kernel) rfl) (pa_cons (pe_bltn (v := .ty "tuple") (by rfl) T.n_tuple (by decide +kernel) rfl) pa_nil))) pa_nil))))), ?_⟩
    refine ⟨_, rfl, (by show 2 ≤ sizeLine; decide), fun tp htp => ?_⟩
    have hq2 := Same.sqb (same_upd (o := .tup [.ty "list", .ty "tuple"]) htp) hq
    refine ⟨.ref a, tp, [.ty "list", .ty "tuple"], .type (if k = true then "list" else "tuple"), [.type "list", .type "tuple"], true, rfl, upd_same, .cons (.ty _) (.cons (.ty _) .nil), hq2.ty, ?_, q _ (same_upd htp)⟩
    cases k
    · exact kitAny_cons (kit_ty (r := false) (by decide +kernel)) (fun _ => kitAny_cons (kit_ty (r := true) (by decide +kernel)) (fun z => by cases z) (fun _ => rfl)) (fun z => by cases z)
    · exact kitAny_cons (kit_ty (r := true) (by decide +kernel)) (fun z => by cases z) (fun _ => rfl)
def sp_plain (K : PySem.W.Frag) : Sp := fun vs H Q _ => ∃ (b : Nat) (a : Addr) (k : Bool) (ws : List Nat), vs = [vN b, .ref a] ∧ Wd b ∧ SqB k K H a (ws.map vN) ∧ Ws b ws ∧ ∀ H', Same H H' → Q (.bl true) H'
theorem ok_are_plain_words (T : Txt K mg) : FnOk P w K mg base CX0 1 T.f_are_plain_words T.d_are_plain_words ["bits", "things"] (sp_plain K) := by
  refine T.F_are_plain_words.ok sc_are_plain_words (fun vs H Q E h => ?_) (fun cdv A outer s H vs Q E hr h => ?_)
  · obtain ⟨b, a, k, ws, rfl, _⟩ := h
    rfl
  · obtain ⟨b, a, k, ws, rfl, hb, hq, hw, q⟩ := h
    refine ⟨_, (pss_one (ps_ret (pe_notT (pe_lc (own := [("thing", 2)]) rfl sc_are_plain_words.nd (pi_seq (pv 1)) (blkOk_by (N := ["bits", "things", "thing"]) (sc := defScope s_are_plain_words) (by decide +kernel)) (fun _ _ _ _ _ => by exact (pg_name (i := 2) sc_are_plain_words.nd rfl (.inl rfl))) (fun _ _ _ _ _ => by exact (pts_one (PW.pt (pw_or (pt_cmpR op_isNotTy (pe_callTy RZ.call_type4 (by rfl) T.n_type (by decide +kernel) (pa_cons (pv 2) pa_nil)) (pe_bltn (v := .ty "int") (by rfl) T.n_int (by decide +kernel) rfl) (nomark _)) (pw_or1 (pt_truthK (K := K) rfl (pe_op op_shr (pv 2) (pv 0)) (fun _ => rfl))))))) (fun _ _ _ _ _ => by exact (pv 2)))))), ?_⟩
    refine ⟨_, rfl, a, _, k, rfl, hq, fun D hD => ?_⟩
    refine lc_it (walk_seq (b := k) (K := K) (a := a) (xs := ws.map vN)) (fun i H' => Same H H' ∧ H' D = some (.lst [])) ⟨same_upd hD, upd_same⟩ (fun i H' _ h => Same.sqb h.1 hq) ?_ ?_
    · rintro i v H1 H2 hi ⟨sm, g⟩ ⟨rfl, e2⟩
      rw [List.length_map] at hi
      have ey : v = vN (gd ws i) := by
        rw [List.getElem?_map, gd_in hi] at e2
        exact (Option.some.inj e2).symm
      subst ey
      refine ⟨rfl, ?_⟩
      refine ⟨_, rfl, _, "int", rfl, .int _, "int", "int", rfl, rfl, _, rfl, iteF ?_⟩
      refine ⟨_, rfl, _, rfl, _, _, rfl, rfl, by omega, _, rfl, ?_⟩
      rw [word_shr hb (gd_lt hb hw i)]
      exact iteF ⟨sm, g⟩
    · rintro H1 ⟨sm, g⟩
      exact ⟨_, SqB.truB (b := true) (.inl (.inl g)), q H1 sm⟩
def sp_need_words (K : PySem.W.Frag) : Sp := fun vs H Q _ => ∃ (b : Nat) (p : Str) (a : Addr) (k : Bool) (ws : List Nat), vs = [vN b, .str p, .ref a] ∧ Wd b ∧ SqB k K H a (ws.map vN) ∧ Ws b ws ∧ ∀ H', Same H H' → Q .non H'
theorem ok_need_words (T : Txt K mg) : FnOk P w K mg base CX0 4 T.f_need_words T.d_need_words ["bits", "part", "words"] (sp_need_words K) := by
  refine T.F_need_words.ok sc_need_words (fun vs H Q E h => ?_) (fun cdv A outer s H vs Q E hr h => ?_)
  · obtain ⟨b, p, a, k, ws, rfl, _⟩ := h
    rfl
  · obtain ⟨b, p, a, k, ws, rfl, hb, hq, hw, q⟩ := h
    refine ⟨_, (pss_cons (ps_if (pt_val (pe_call (ok_are_plain_words T) (hr.mono (by decide)) (by rfl) T.g_are_plain_words T.F_are_plain_words.kp T.b_are_plain_words .nil pass0 (pa_cons (pv 0) (pa_cons (pv 2) pa_nil)))) (pss_one ps_retN) pss_nil)
      (pss_one (ps_for PassesOwn.never rfl (pi_enumS (by rfl) T.n_enumerate (pa_cons (pv 2) pa_nil)) (pg_tup rfl (pgs_cons (pg_name (i := 3) sc_need_words.nd rfl (.inl rfl)) (pgs_cons (pg_name (i := 4) sc_need_words.nd rfl (.inl rfl)) pgs_nil))) (pss_one (ps_if (pt_not (pt_val (pe_call (ok_is_word T) (hr.mono (by decide)) (by rfl) T.g_is_word T.F_is_word.kp T.b_is_word .nil pass0 (pa_cons (pv 0) (pa_cons (pv 4) pa_nil))))) (pss_one ps_never) pss_nil))))), ?_⟩
    exact ⟨_, rfl, _, rfl, b, a, k, ws, rfl, hb, hq, hw, fun H1 s1 => ⟨_, rfl, iteT (q H1 s1)⟩⟩
/-! ### the class Field -/
def fl (b : Nat) (q r : Addr) : List (Str × V) := putF "exponents" (.ref r) (putF "powers" (.ref q) (putF "turn" (vN (turn b)) (putF "span" (vN (span b)) (putF "bits" (vN b) []))))
theorem fl_exponents (b : Nat) (q r : Addr) : (fl b q r).lookup ("exponents" : Str) = some (.ref r) := by
  unfold fl
  rw [lookup_putF, if_pos rfl]
theorem fl_powers (b : Nat) (q r : Addr) : (fl b q r).lookup ("powers" : Str) = some (.ref q) := by
  unfold fl
  rw [lookup_putF, if_neg (by decide +kernel), lookup_putF, if_pos rfl]
theorem fl_turn (b : Nat) (q r : Addr) : (fl b q r).lookup ("turn" : Str) = some (vN (turn b)) := by
  unfold fl
  rw [lookup_putF, if_neg (by decide +kernel), lookup_putF, if_neg (by decide +kernel), lookup_putF, if_pos rfl]
theorem fl_span (b : Nat) (q r : Addr) : (fl b q r).lookup ("span" : Str) = some (vN (span b)) := by
  unfold fl
  rw [lookup_putF, if_neg (by decide +kernel), lookup_putF, if_neg (by decide +kernel), lookup_putF, if_neg (by decide +kernel), lookup_putF, if_pos rfl]
theorem fl_no (b : Nat) (q r : Addr) {m : Str} (h1 : ¬ m = "exponents") (h2 : ¬ m = "powers") (h3 : ¬ m = "turn") (h4 : ¬ m = "span") (h5 : ¬ m = "bits" := by decide +kernel) : (fl b q r).lookup m = none := by
  unfold fl
  rw [lookup_putF, if_neg h1, lookup_putF, if_neg h2, lookup_putF, if_neg h3, lookup_putF, if_neg h4, lookup_putF, if_neg h5]
  rfl
structure FieldAt (K : PySem.W.Frag) (C : Addr) (H : Hp) (p : Addr) (b : Nat) : Prop where
  ex : ∃ dx q r, H p = some (.ins C dx (fl b q r)) ∧ H q = some (.tup (PP b)) ∧ SqT K H r ((tabE b).map V.int)
theorem FieldAt.same {C p : Addr} {H H' : Hp} {b : Nat} (F : FieldAt K C H p b) (s : Same H H') : FieldAt K C H' p b := by
  obtain ⟨dx, q, r, h1, h2, h3⟩ := F.ex
  exact ⟨⟨dx, q, r, s _ _ h1, s _ _ h2, Same.sqt s h3⟩⟩
theorem lg_pw {b i : Nat} (hb : Wd b) (h : i < turn b) : lg b (pw b i) = i := by
  have q : ((List.range (turn b)).all fun i => Nat.beq (lg b (pw b i)) i) = true := by rcases hb with rfl | rfl <;> decide +kernel
  exact Nat.eq_of_beq_eq_true (List.all_eq_true.mp q i (List.mem_range.mpr h))
theorem ixN_nat {n j : Nat} (h : j < n) : ixN n (j : Int) = some j := by
  unfold ixN
  rw [if_pos (by omega), if_pos (by omega), Int.toNat_natCast]
def expA (T : Txt K mg) (b : Nat) : Addr := cond (Nat.beq b 4) T.c_EXPONENTS0 T.c_EXPONENTS1
theorem tab_of (T : Txt K mg) {b : Nat} (hb : Wd b) : getA (b : Int) [(4, T.c_EXPONENTS0), (8, T.c_EXPONENTS1)] = some (expA T b) ∧ ∀ H, SqT K H (expA T b) ((tabE b).map V.int) := by
  rcases hb with rfl | rfl
  · exact ⟨rfl, fun H => tupB_ok (xs := E4) T.t_EXPONENTS0⟩
  · exact ⟨rfl, fun H => tupB_ok (xs := E8) T.t_EXPONENTS1⟩
def powA (T : Txt K mg) (b : Nat) : Addr := cond (Nat.beq b 4) T.c_POWERS0 T.c_POWERS1
theorem pow_of (T : Txt K mg) {b : Nat} (hb : Wd b) : getA (b : Int) [(4, T.c_POWERS0), (8, T.c_POWERS1)] = some (powA T b) ∧ ∀ H, SqT K H (powA T b) ((tabP b).map V.int) := by
  rcases hb with rfl | rfl
  · exact ⟨rfl, fun H => tupB_ok (xs := P4) T.t_POWERS0⟩
  · exact ⟨rfl, fun H => tupB_ok (xs := P8) T.t_POWERS1⟩
def sp_init (K : PySem.W.Frag) (C : Addr) : Sp := fun vs H Q _ => ∃ (p dx : Addr) (b : Nat), vs = [.ref p, vN b] ∧ Wd b ∧ H p = some (.ins C dx []) ∧ ∀ H', (∀ c o, H c = some o → c ≠ p → H' c = some o) → FieldAt K C H' p b → Q .non H'
theorem ok_Field___init__ (T : Txt K mg) : FnOk P w K mg base CX0 3 T.f_Field___init__ T.d_Field___init__ ["self", "bits"] (sp_init K T.C_Field) := by
  refine T.F_Field___init__.ok sc_Field___init__ (fun vs H Q E h => ?_) (fun cdv A outer s H vs Q E hr h => ?_)
  · obtain ⟨p, dx, b, rfl, _⟩ := h
    rfl
  · obtain ⟨p, dx, b, rfl, hb, hp, q⟩ := h
    refine ⟨_, (pss_cons (ps_fld (pv 0) (pv 1) rfl)
      (pss_cons (ps_fld (pv 0) (pe_ix (ix_kint T.l_SPANS) (pe_glob (v := .ref T.a_SPANS) (by rfl) T.g_SPANS rfl) (pv 1) (fun _ _ => rfl)) rfl)
      (pss_cons (ps_fld (pv 0) (pe_op op_sub (pe_fld (pv 0) rfl) pe_int) rfl)
      (pss_cons (ps_fld (pv 0) (pe_op op_repT (pe_ix (ix_kref T.l_POWERS) (pe_glob (v := .ref T.a_POWERS) (by rfl) T.g_POWERS rfl) (pv 1) (fun _ _ => rfl)) pe_int) rfl)
      (pss_one (ps_fld (pv 0) (pe_ix (ix_kref T.l_EXPONENTS) (pe_glob (v := .ref T.a_EXPONENTS) (by rfl) T.g_EXPONENTS rfl) (pv 1) (fun _ _ => rfl)) rfl)))))), ?_⟩
    have hcl := T.cl_Field
    have hse := span_eq hb
    refine ⟨_, rfl, _, rfl, p, T.C_Field, dx, _, rfl, hp, hcl, T.a_Field_bits, (by show 0 < 1000; decide), ?_⟩
    refine ⟨_, rfl, _, _, rfl, rfl, getI_span hb, _, rfl, p, T.C_Field, dx, _, rfl, upd_same, hcl, T.a_Field_span, (by show 1 < 1000; decide), ?_⟩
    refine ⟨_, rfl, p, T.C_Field, dx, _, _, rfl, upd_same, hcl, T.a_Field_span, (by rw [lookup_putF, if_pos rfl]), _, _, rfl, rfl, _, rfl, p, T.C_Field, dx, _, rfl, upd_same, hcl, T.a_Field_turn, (by show 2 < 1000; decide), ?_⟩
    refine ⟨_, rfl, _, _, rfl, rfl, (pow_of T hb).1, _, 2, _, rfl, rfl, (pow_of T hb).2 _, (tabP_small hb).2, by decide, by decide, (tabP_small hb).1, fun q1 hq1 => ?_⟩
    have npq : p ≠ q1 := ne_of_none upd_same hq1
    refine ⟨_, rfl, p, T.C_Field, dx, _, rfl, by rw [upd_ne npq]; exact upd_same, hcl, T.a_Field_powers, (by show 3 < 1000; decide), ?_⟩
    refine ⟨_, rfl, _, _, rfl, rfl, (tab_of T hb).1, _, rfl, p, T.C_Field, dx, _, rfl, upd_same, hcl, T.a_Field_exponents, (by show 4 < 1000; decide), ?_⟩
    refine q _ (fun c o hc hcp => ?_) ⟨⟨dx, q1, expA T b, ?_, ?_, (tab_of T hb).2 _⟩⟩
    · have hcq : c ≠ q1 := ne_of_none (by rw [upd_ne hcp, upd_ne hcp, upd_ne hcp]; exact hc) hq1
      rw [upd_ne hcp, upd_ne hcp, upd_ne hcq, upd_ne hcp, upd_ne hcp, upd_ne hcp]
      exact hc
    · rw [upd_same]
      unfold fl
      rw [show vN (turn b) = V.int ((span b : Int) - 1) from congrArg V.int (by omega)]
      rfl
    · rw [upd_ne npq.symm, upd_ne npq.symm, upd_same]
      rfl
def sp_multiple (K : PySem.W.Frag) (C : Addr) : Sp := fun vs H Q _ => ∃ (p a : Addr) (k : Bool) (b y : Nat) (ws : List Nat), vs = [.ref p, .ref a, vN y] ∧ Wd b ∧ FieldAt K C H p b ∧ SqB k K H a (ws.map vN) ∧ Ws b ws ∧ y < span b ∧ ws.length ≤ 1000 ∧
  ∀ l H', Same H H' → H l = none → H' l = some (.lst ((ws.map fun x => mul b x y).map vN)) → Q (.ref l) H'
theorem flat_nought (n : Nat) : (List.replicate n [V.int 0]).flatten = List.replicate n (vN 0) := by
  induction n with
  | zero => rfl
  | succ n ih =>
    rw [List.replicate_succ, List.flatten_cons, ih, List.replicate_succ]
    rfl
theorem ok_Field_multiple (T : Txt K mg) : FnOk P w K mg base CX0 1 T.f_Field_multiple T.d_Field_multiple ["self", "words", "factor"] (sp_multiple K T.C_Field) := by
  refine T.F_Field_multiple.ok sc_Field_multiple (fun vs H Q E h => ?_) (fun cdv A outer s H vs Q E hr h => ?_)
  · obtain ⟨p, a, k, b, y, ws, rfl, _⟩ := h
    rfl
  · obtain ⟨p, a, k, b, y, ws, rfl, hb, hF, hq, hw, hy, hl, q⟩ := h
    obtain ⟨dx, q1, r, g1, g2, g3⟩ := hF.ex
    refine ⟨_, (pss_cons (ps_if (pt_cmpR op_eq (pv 2) pe_int (nomark _)) (pss_one (ps_ret (pe_op op_rep (pe_lst (pa_cons pe_int pa_nil)) (pe_callB call_len_seq (by rfl) T.n_len (by decide +kernel) (pa_cons (pv 1) pa_nil))))) pss_nil)
      (pss_cons (ps_set (i := 3) sc_Field_multiple.nd rfl (.inr rfl) (pe_fld (pv 0) rfl))
      (pss_cons (ps_set (i := 4) sc_Field_multiple.nd rfl (.inr rfl) (pe_fld (pv 0) rfl))
      (pss_cons (ps_set (i := 5) sc_Field_multiple.nd rfl (.inr rfl) (pe_ix ix_rowB (pv 4) (pv 2) (fun _ _ => rfl)))
      (pss_one (ps_ret (pe_lc (own := [("word", 6)]) rfl sc_Field_multiple.nd (pi_seq (pv 1)) (blkOk_by (N := ["self", "words", "factor", "powers", "exponents", "shift", "word"]) (sc := defScope s_Field_multiple) (by decide +kernel)) (fun _ _ _ _ _ => by exact (pg_name (i := 6) sc_Field_multiple.nd rfl (.inl rfl))) (fun _ _ _ _ _ => by exact pts_nil) (fun _ _ _ _ _ => by exact (pe_ifName (K := K) rfl (pv 6) (pe_ix (ix_rowBK (K := K) rfl) (pv 3) (pe_op op_add (pe_ix (ix_rowBK (K := K) rfl) (pv 4) (pv 6) (fun _ _ => rfl)) (pv 5)) (fun _ _ => rfl)) pe_int))))))))), ?_⟩
    have hcl := T.cl_Field
    refine ⟨_, rfl, rfl, _, rfl, ?_⟩
    refine ite2 (fun c => ?_) (fun c => ?_)
    · have e : y = 0 := by have := V.int.inj (of_decide_eq_true c); omega
      subst e
      refine ⟨(by show 1 ≤ sizeLine; decide), fun z hz => ?_⟩
      have sz := same_upd (o := .lst [.int 0]) hz
      refine ⟨_, rfl, a, _, rfl, (Same.sqb sz hq).or, z, _, _, rfl, rfl, upd_same, by omega, by simp; omega, ?_, fun l hl2 => ?_⟩
      · simp only [List.length_map, List.length_singleton]
        exact Nat.le_of_lt (small1000 (by omega))
      refine q l _ (sz.trans (same_upd hl2)) (Same.free sz hl2) ?_
      rw [upd_same, List.length_map, Int.toNat_natCast, flat_nought, List.map_map]
      refine congrArg (fun l => some (HO.lst l)) ?_
      refine (List.ext_getElem? fun i => ?_)
      rw [List.getElem?_replicate, List.getElem?_map]
      by_cases hi : i < ws.length
      · rw [if_pos hi, List.getElem?_eq_getElem hi]
        show _ = some (vN (mul b _ 0))
        rw [mul_zero]
      · rw [if_neg hi, List.getElem?_eq_none (by omega)]
        rfl
    · have h1 : y ≠ 0 := fun z => c (by rw [z]; rfl)
      refine ⟨_, rfl, p, _, dx, _, _, rfl, g1, hcl, T.a_Field_powers, fl_powers b q1 r, ?_⟩
      refine ⟨_, rfl, p, _, dx, _, _, rfl, g1, hcl, T.a_Field_exponents, fl_exponents b q1 r, ?_⟩
      refine ⟨_, rfl, _, rfl, r, _, _, _, false, rfl, rfl, g3, atI_nat (by rw [List.getElem?_map, tabE_at hb hy h1]; rfl), ?_⟩
      refine ⟨_, rfl, a, _, k, rfl, hq, fun D hD => ?_⟩
      refine lc_it (walk_seq (b := k) (K := K) (a := a) (xs := ws.map vN)) (fun i H' => Same H H' ∧ H' D = some (.lst (((ws.take i).map fun x => mul b x y).map vN)))
        ⟨same_upd hD, upd_same⟩ (fun i H' _ h => Same.sqb h.1 hq) ?_ ?_
      · rintro i v H1 H2 hi ⟨sm, g⟩ ⟨rfl, e2⟩
        rw [List.length_map] at hi
        have ey : v = vN (gd ws i) := by
          rw [List.getElem?_map, gd_in hi] at e2
          exact (Option.some.inj e2).symm
        subst ey
        have hx := gd_lt hb hw i
        have tk : ws.take (i + 1) = ws.take i ++ [gd ws i] := by
          rw [List.take_add_one, gd_in hi]
          rfl
        have fin : ∀ z : V, z = vN (mul b (gd ws i) y) → ∃ acc, H2 D = some (.lst acc) ∧ acc.length < sizeLine ∧ Same H (upd H2 D (.lst (acc ++ [z]))) ∧ (upd H2 D (.lst (acc ++ [z]))) D = some (.lst (((ws.take (i + 1)).map fun x => mul b x y).map vN)) := by
          rintro z rfl
          refine ⟨_, g, ?_, fun c o hc => ?_, ?_⟩
          · simp only [List.length_map, List.length_take]
            exact small1000 (by omega)
          · rw [upd_ne (ne_of_none hc hD)]
            exact sm _ _ hc
          · rw [upd_same, tk, List.map_append, List.map_append]
            rfl
        refine ⟨rfl, ?_⟩
        refine ⟨_, rfl, _, rfl, ?_⟩
        by_cases h0 : gd ws i = 0
        · have e : (((gd ws i : Nat) : Int) != 0) = false := by rw [h0]; rfl
          rw [e]
          refine iteF (fin _ ?_)
          rw [h0, zero_mul hb]
          rfl
        · have e : (((gd ws i : Nat) : Int) != 0) = true := by simp; omega
          rw [e]
          refine iteT ?_
          refine ⟨_, rfl, _, rfl, _, rfl, r, _, _, _, false, rfl, rfl, Same.sqt sm g3, atI_nat (by rw [List.getElem?_map, tabE_at hb hx h0]; rfl), ?_⟩
          exact ⟨_, rfl, _, _, rfl, rfl, q1, _, _, _, false, rfl, rfl, .tup (sm _ _ g2), sum_at hb hx hy h0 h1, fin _ rfl⟩
      · rintro H1 ⟨sm, g⟩
        rw [List.length_map, List.take_length] at g
        exact q D H1 sm hD g
def sp_over (K : PySem.W.Frag) (C : Addr) : Sp := fun vs H Q _ => ∃ (p : Addr) (b x y : Nat), vs = [.ref p, vN x, vN y] ∧ Wd b ∧ FieldAt K C H p b ∧ x < span b ∧ y < span b ∧ y ≠ 0 ∧ Q (vN (quo b x y)) H
theorem ok_Field_over (T : Txt K mg) : FnOk P w K mg base CX0 1 T.f_Field_over T.d_Field_over ["self", "one", "other"] (sp_over K T.C_Field) := by
  refine T.F_Field_over.ok sc_Field_over (fun vs H Q E h => ?_) (fun cdv A outer s H vs Q E hr h => ?_)
  · obtain ⟨p, b, x, y, rfl, _⟩ := h
    rfl
  · obtain ⟨p, b, x, y, rfl, hb, hF, hx, hy, h1, q⟩ := h
    obtain ⟨dx, q1, r, g1, g2, g3⟩ := hF.ex
    refine ⟨_, (pss_cons (ps_if (pt_cmpR op_eq (pv 1) pe_int (nomark _)) (pss_one (ps_ret pe_int)) pss_nil)
      (pss_one (ps_ret (pe_ix ix_rowB (pe_fld (pv 0) rfl) (pe_op op_add (pe_op op_sub (pe_ix ix_rowB (pe_fld (pv 0) rfl) (pv 1) (fun _ _ => rfl)) (pe_ix ix_rowB (pe_fld (pv 0) rfl) (pv 2) (fun _ _ => rfl))) (pe_fld (pv 0) rfl)) (fun _ _ => rfl))))), ?_⟩
    have hcl := T.cl_Field
    refine ⟨_, rfl, rfl, _, rfl, ?_⟩
    refine ite2 (fun c => ?_) (fun c => ?_)
    · have e : x = 0 := by have := V.int.inj (of_decide_eq_true c); omega
      subst e
      have e2 : quo b 0 y = 0 := zero_mul hb
      rw [e2] at q
      exact q
    · have h0 : x ≠ 0 := fun z => c (by rw [z]; rfl)
      refine ⟨_, rfl, p, _, dx, _, _, rfl, g1, hcl, T.a_Field_powers, fl_powers b q1 r, ?_⟩
      refine ⟨_, rfl, p, _, dx, _, _, rfl, g1, hcl, T.a_Field_exponents, fl_exponents b q1 r, _, rfl, r, _, _, _, false, rfl, rfl, g3, atI_nat (by rw [List.getElem?_map, tabE_at hb hx h0]; rfl), ?_⟩
      refine ⟨_, rfl, p, _, dx, _, _, rfl, g1, hcl, T.a_Field_exponents, fl_exponents b q1 r, _, rfl, r, _, _, _, false, rfl, rfl, g3, atI_nat (by rw [List.getElem?_map, tabE_at hb hy h1]; rfl), _, _, rfl, rfl, ?_⟩
      exact ⟨_, rfl, p, _, dx, _, _, rfl, g1, hcl, T.a_Field_turn, fl_turn b q1 r, _, _, rfl, rfl, q1, _, _, _, false, rfl, rfl, .tup g2, diff_at hb hx hy h0 h1, q⟩
def sp_two_to (K : PySem.W.Frag) (C : Addr) : Sp := fun vs H Q _ => ∃ (p : Addr) (b : Nat) (t : Int), vs = [.ref p, .int t] ∧ Wd b ∧ FieldAt K C H p b ∧ Q (vN (pwI b t)) H
theorem pp_at {b : Nat} {t : Int} (hb : Wd b) : atI (PP b) (t % (turn b : Int)) = some (vN (pwI b t)) := by
  have ht : (0 : Int) < (turn b : Int) := by have := turn_pos hb; omega
  have h0 := Int.emod_nonneg t (by omega : (turn b : Int) ≠ 0)
  have h1 := Int.emod_lt_of_pos t ht
  rw [show t % (turn b : Int) = ((t % (turn b : Int)).toNat : Int) from (Int.toNat_of_nonneg h0).symm]
  refine atI_nat ?_
  rw [PP_at hb (by omega)]
  rfl
theorem ok_Field_two_to (T : Txt K mg) : FnOk P w K mg base CX0 1 T.f_Field_two_to T.d_Field_two_to ["self", "times"] (sp_two_to K T.C_Field) := by
  refine T.F_Field_two_to.ok sc_Field_two_to (fun vs H Q E h => ?_) (fun cdv A outer s H vs Q E hr h => ?_)
  · obtain ⟨p, b, t, rfl, _⟩ := h
    rfl
  · obtain ⟨p, b, t, rfl, hb, hF, q⟩ := h
    obtain ⟨dx, q1, r, g1, g2, g3⟩ := hF.ex
    refine ⟨_, (pss_one (ps_ret (pe_ix ix_rowB (pe_fld (pv 0) rfl) (pe_op op_mod (pv 1) (pe_fld (pv 0) rfl)) (fun _ _ => rfl)))), ?_⟩
    have hcl := T.cl_Field
    have ht : (0 : Int) < (turn b : Int) := by have := turn_pos hb; omega
    refine ⟨_, rfl, p, _, dx, _, _, rfl, g1, hcl, T.a_Field_powers, fl_powers b q1 r, ?_⟩
    exact ⟨_, rfl, _, rfl, p, _, dx, _, _, rfl, g1, hcl, T.a_Field_turn, fl_turn b q1 r, _, _, rfl, rfl, ht, q1, _, _, _, false, rfl, rfl, .tup g2, pp_at hb, q⟩
/-- a fresh Field -/
theorem keep_same {H H' : Hp} {x dx C : Addr} (hx : H x = none) (hdx : H dx = none) (k : ∀ c o, (upd (upd H dx (.own x)) x (.ins C dx [])) c = some o → c ≠ x → H' c = some o) : Same H H' := fun c o hc =>
  k c o (by rw [upd_ne (ne_of_none hc hx), upd_ne (ne_of_none hc hdx)]; exact hc) (ne_of_none hc hx)
theorem flat_one (n : Nat) : (List.replicate n [V.int 0]).flatten = List.replicate n (vN 0) := flat_nought n
theorem cut_from (xs : List V) (k : Nat) (h : k ≤ xs.length) : cutV xs (some (k : Int)) none = xs.drop k := by
  unfold cutV
  rw [HT.sIx_none, HT.sIx_nat, Nat.min_eq_left h]
  exact List.take_of_length_le (by rw [List.length_drop]; omega)
theorem tE_at {b x : Nat} (hb : Wd b) (hx : x < span b) : ∃ e : Int, (tabE b)[x]? = some e ∧ tE b x = e := by
  have hl := tabE_len hb
  refine ⟨(tabE b)[x], List.getElem?_eq_getElem (by omega), ?_⟩
  unfold tE
  rw [List.getElem?_eq_getElem (by omega)]
  rfl
def sp_times (K : PySem.W.Frag) (C : Addr) : Sp := fun vs H Q _ => ∃ (p : Addr) (b x y : Nat), vs = [.ref p, vN x, vN y] ∧ Wd b ∧ FieldAt K C H p b ∧ x < span b ∧ y < span b ∧ Q (vN (mul b x y)) H
theorem ok_Field_times (T : Txt K mg) : FnOk P w K mg base CX0 1 T.f_Field_times T.d_Field_times ["self", "one", "other"] (sp_times K T.C_Field) := by
  refine T.F_Field_times.ok sc_Field_times (fun vs H Q E h => ?_) (fun cdv A outer s H vs Q E hr h => ?_)
  · obtain ⟨p, b, x, y, rfl, _⟩ := h
    rfl
  · obtain ⟨p, b, x, y, rfl, hb, hF, hx, hy, q⟩ := h
    obtain ⟨dx, q1, r, g1, g2, g3⟩ := hF.ex
    refine ⟨_, (pss_cons (ps_if (PW.pt (pw_or (pt_cmpR op_eq (pv 1) pe_int (nomark _)) (pw_or1 (pt_cmpR op_eq (pv 2) pe_int (nomark _))))) (pss_one (ps_ret pe_int)) pss_nil)
      (pss_one (ps_ret (pe_ix ix_rowB (pe_fld (pv 0) rfl) (pe_op op_add (pe_ix ix_rowB (pe_fld (pv 0) rfl) (pv 1) (fun _ _ => rfl)) (pe_ix ix_rowB (pe_fld (pv 0) rfl) (pv 2) (fun _ _ => rfl))) (fun _ _ => rfl))))), ?_⟩
    have hcl := T.cl_Field
    refine ⟨_, rfl, rfl, _, rfl, ?_⟩
    refine ite2 (fun c => ?_) (fun c => ?_)
    · have e : x = 0 := by have := V.int.inj (of_decide_eq_true c); omega
      subst e
      rw [zero_mul hb] at q
      exact q
    · have h0 : x ≠ 0 := fun z => c (by rw [z]; rfl)
      refine ⟨_, rfl, rfl, _, rfl, ?_⟩
      refine ite2 (fun c2 => ?_) (fun c2 => ?_)
      · have e : y = 0 := by have := V.int.inj (of_decide_eq_true c2); omega
        subst e
        rw [mul_zero] at q
        exact q
      · have h1 : y ≠ 0 := fun z => c2 (by rw [z]; rfl)
        refine ⟨_, rfl, p, _, dx, _, _, rfl, g1, hcl, T.a_Field_powers, fl_powers b q1 r, ?_⟩
        refine ⟨_, rfl, p, _, dx, _, _, rfl, g1, hcl, T.a_Field_exponents, fl_exponents b q1 r, _, rfl, r, _, _, _, false, rfl, rfl, g3, atI_nat (by rw [List.getElem?_map, tabE_at hb hx h0]; rfl), ?_⟩
        refine ⟨_, rfl, p, _, dx, _, _, rfl, g1, hcl, T.a_Field_exponents, fl_exponents b q1 r, _, rfl, r, _, _, _, false, rfl, rfl, g3, atI_nat (by rw [List.getElem?_map, tabE_at hb hy h1]; rfl), _, _, rfl, rfl, ?_⟩
        exact ⟨q1, _, _, _, false, rfl, rfl, .tup g2, sum_at hb hx hy h0 h1, q⟩
def sp_check_factor (K : PySem.W.Frag) (C : Addr) : Sp := fun vs H Q _ => ∃ (p : Addr) (b m s : Nat), vs = [.ref p, vN m, vN s] ∧ Wd b ∧ FieldAt K C H p b ∧ m ≤ 500 ∧ ∀ l H', Same H H' → H l = none → H' l = some (.lst ((cfL b s m).map vN)) → Q (.ref l) H'
theorem ok_check_factor (T : Txt K mg) : FnOk P w K mg base CX0 2 T.f_check_factor T.d_check_factor ["field", "many", "start"] (sp_check_factor K T.C_Field) := by
  refine T.F_check_factor.ok sc_check_factor (fun vs H Q E h => ?_) (fun cdv A outer s H vs Q E hr h => ?_)
  · obtain ⟨p, b, m, s, rfl, _⟩ := h
    rfl
  · obtain ⟨p, b, m, s0, rfl, hb, hF, hm, q⟩ := h
    refine ⟨_, (pss_cons (ps_set (i := 3) sc_check_factor.nd rfl (.inl rfl) (pe_lst pa_nil))
      (pss_cons (ps_set (i := 4) sc_check_factor.nd rfl (.inl rfl) pe_int)
      (pss_cons (ps_for PassesOwn.never rfl (pi_range1 (by rfl) T.n_range (pa_cons (pv 1) pa_nil)) (pg_name (i := 5) sc_check_factor.nd rfl (.inl rfl)) (pss_cons (ps_set (i := 6) sc_check_factor.nd rfl (.inl rfl) (pe_op op_xor (pe_meth (pv 0) T.cl_Field T.m_Field_two_to (ok_Field_two_to T) (hr.mono (by decide)) T.b_Field_two_to .nil pass0 (pa_cons (pe_op op_sub (pv 1) (pv 5)) pa_nil)) pe_int))
      (pss_cons (ps_set (i := 7) sc_check_factor.nd rfl (.inl rfl) (pe_op op_xor (pe_meth (pv 0) T.cl_Field T.m_Field_two_to (ok_Field_two_to T) (hr.mono (by decide)) T.b_Field_two_to .nil pass0 (pa_cons (pe_op op_add (pv 5) pe_int) pa_nil)) pe_int))
      (pss_cons (ps_aug (i := 4) sc_check_factor.nd rfl (.inl rfl) (pe_op op_sub (pe_op op_add (pe_op op_add (pv 2) (pv 5)) (pe_ix ix_rowB (pe_fld (pv 0) rfl) (pv 6) (fun _ _ => rfl))) (pe_ix ix_rowB (pe_fld (pv 0) rfl) (pv 7) (fun _ _ => rfl))) ip_add)
      (pss_one (ps_expr (pe_bm PySem.F.plainAttrs_list PySem.F.slot_list_append PySem.F.type_list_append mt_append (pv 3) (pa_cons (pe_meth (pv 0) T.cl_Field T.m_Field_two_to (ok_Field_two_to T) (hr.mono (by decide)) T.b_Field_two_to .nil pass0 (pa_cons (pv 4) pa_nil)) pa_nil))))))))
      (pss_one (ps_ret (pv 3)))))), ?_⟩
    have hcl := T.cl_Field
    have hs1 := span_pos hb
    refine ⟨Nat.zero_le _, fun l hl => ?_⟩
    have sl := same_upd (o := .lst []) hl
    refine ⟨_, rfl, _, rfl, by omega, by omega, ?_⟩
    refine for_range (fun j σ H' => ∃ z5 z6 z7 : Option V, σ = [some (.ref p), some (vN m), some (vN s0), some (.ref l), some (.int (cfE b s0 m j)), z5, z6, z7] ∧ Same H H' ∧ H' l = some (.lst (((List.range j).map fun k => pwI b (cfE b s0 m (k + 1))).map vN)))
      ⟨_, _, _, rfl, sl, upd_same⟩ ?_ ?_
    · rintro j σ H1 hj ⟨z5, z6, z7, rfl, sm, hL⟩
      have hj2 : j < m := by simpa using hj
      obtain ⟨dx, q1, r, g1, g2, g3⟩ := (hF.same sm).ex
      have u1 : pw b (m - j) ^^^ 1 < span b := xor_lt hb (pw_lt hb _) hs1
      have u2 : pw b (j + 1) ^^^ 1 < span b := xor_lt hb (pw_lt hb _) hs1
      obtain ⟨eU, hU, tU⟩ := tE_at hb u1
      obtain ⟨eL, hE, tL⟩ := tE_at hb u2
      have X1 : Builtin.bitXor ((pwI b ((m : Int) - (0 + (j : Int))) : Nat) : Int) 1 = ((pw b (m - j) ^^^ 1 : Nat) : Int) := by
        rw [show (m : Int) - (0 + (j : Int)) = ((m - j : Nat) : Int) by omega, pwI_nat hb]
        exact bx _ 1
      have X2 : Builtin.bitXor ((pwI b (0 + (j : Int) + 1) : Nat) : Int) 1 = ((pw b (j + 1) ^^^ 1 : Nat) : Int) := by
        rw [show 0 + (j : Int) + 1 = ((j + 1 : Nat) : Int) by omega, pwI_nat hb]
        exact bx _ 1
      have no4 := fl_no b q1 r (m := "two_to") (by decide +kernel) (by decide +kernel) (by decide +kernel) (by decide +kernel)
      refine ⟨_, rfl, p, dx, _, rfl, g1, no4, _, rfl, _, rfl, _, _, rfl, rfl, p, b, _, rfl, hb, hF.same sm, _, _, rfl, rfl, ?_⟩
      refine ⟨_, rfl, p, dx, _, rfl, g1, no4, _, rfl, _, _, rfl, rfl, p, b, _, rfl, hb, hF.same sm, _, _, rfl, rfl, ?_⟩
      refine ⟨_, rfl, _, rfl, _, rfl, _, _, rfl, rfl, ?_⟩
      refine ⟨_, rfl, p, _, dx, _, _, rfl, g1, hcl, T.a_Field_exponents, fl_exponents b q1 r, _, rfl, r, _, _, _, false, rfl, rfl, g3, (by rw [X1]; exact atI_nat (by rw [List.getElem?_map, hU]; rfl)), _, _, rfl, rfl, ?_⟩
      refine ⟨_, rfl, p, _, dx, _, _, rfl, g1, hcl, T.a_Field_exponents, fl_exponents b q1 r, _, rfl, r, _, _, _, false, rfl, rfl, g3, (by rw [X2]; exact atI_nat (by rw [List.getElem?_map, hE]; rfl)), _, _, rfl, rfl, ?_⟩
      refine ⟨_, _, rfl, rfl, ?_⟩
      have eN : cfE b s0 m j + ((s0 : Int) + (0 + (j : Int)) + eU - eL) = cfE b s0 m (j + 1) := by
        show _ = cfE b s0 m j + ((s0 : Int) + (j : Int) + tE b (pw b (m - j) ^^^ 1) - tE b (pw b (j + 1) ^^^ 1))
        rw [tU, tL, Int.zero_add]
      refine ⟨.ref l, rfl, .inl ⟨rfl, _, .inl (.inl hL)⟩, ?_⟩
      refine ⟨_, rfl, p, dx, _, rfl, g1, no4, _, rfl, p, b, _, rfl, hb, hF.same sm, l, _, _, rfl, rfl, hL, ?_, ?_⟩
      · simp only [List.length_map, List.length_range]
        exact small1000 (by omega)
      refine ⟨some (.int (0 + (j : Int))), some (.int (Builtin.bitXor ((pwI b ((m : Int) - (0 + (j : Int))) : Nat) : Int) 1)), some (.int (Builtin.bitXor ((pwI b (0 + (j : Int) + 1) : Nat) : Int) 1)), ?_, fun c o hc => ?_, ?_⟩
      rotate_left
      · rw [upd_ne (ne_of_none hc hl)]
        exact sm _ _ hc
      · rw [upd_same, List.range_succ, List.map_append, List.map_append]
        show some (HO.lst (_ ++ [vN (pwI b (cfE b s0 m j + ((s0 : Int) + (0 + (j : Int)) + eU - eL)))])) = _
        rw [eN]
        rfl
      · rw [← eN]
        rfl
    · rintro σ H1 ⟨z5, z6, z7, rfl, sm, hL⟩
      rw [Int.toNat_natCast] at hL
      exact ⟨_, rfl, q l H1 sm hl hL⟩

def sp_next_rest (K : PySem.W.Frag) (C : Addr) : Sp := fun vs H Q _ => ∃ (p a a2 : Addr) (b m x : Nat) (gs rs : List Nat), vs = [.ref p, .ref a, .ref a2, vN x] ∧ Wd b ∧ FieldAt K C H p b ∧ H a = some (.lst (gs.map vN)) ∧ H a2 = some (.lst (rs.map vN)) ∧ Ws b gs ∧ Ws b rs ∧ gs.length = m ∧ rs.length = m ∧ 0 < m ∧ m ≤ 500 ∧ x < span b ∧
  ∀ l H', Same H H' → H l = none → H' l = some (.lst ((nxt b m gs rs x).map vN)) → Q (.ref l) H'
theorem ok_next_rest (T : Txt K mg) : FnOk P w K mg base CX0 2 T.f_next_rest T.d_next_rest ["field", "factor", "rest", "word"] (sp_next_rest K T.C_Field) := by
  refine T.F_next_rest.ok sc_next_rest (fun vs H Q E h => ?_) (fun cdv A outer s H vs Q E hr h => ?_)
  · obtain ⟨p, a, a2, b, m, x, gs, rs, rfl, _⟩ := h
    rfl
  · obtain ⟨p, a, a2, b, m, x, gs, rs, rfl, hb, hF, hg, hr2, wg, wr, lg', lr, hm, hm5, hx, q⟩ := h
    refine ⟨_, (pss_cons (ps_set (i := 4) sc_next_rest.nd rfl (.inl rfl) (pe_meth (pv 0) T.cl_Field T.m_Field_multiple (ok_Field_multiple T) (hr.mono (by decide)) T.b_Field_multiple .nil pass0 (pa_cons (pv 1) (pa_cons (pe_op op_xor (pe_ix ix_list (pv 2) pe_int (fun _ _ => rfl)) (pv 3)) pa_nil))))
      (pss_one (ps_ret (pe_lc (own := [("one", 5), ("other", 6)]) (g := gTup K 2 (gCons (gName 5) (gCons (gName 6) gNil))) rfl sc_next_rest.nd (pi_zip (by rfl) T.n_zip (pa_cons (pe_op op_cat (pe_slice sl_list (pv 2) (po_some pe_int) po_none) (pe_lst (pa_cons pe_int pa_nil))) (pa_cons (pv 4) pa_nil))) (blkOk_by (N := ["field", "factor", "rest", "word", "share", "one", "other"]) (sc := defScope s_next_rest) (by decide +kernel)) (fun _ _ _ _ _ => by (refine pg_tup ?_ ?_); (exact rfl); (refine pgs_cons ?_ ?_); (exact (pg_name (i := 5) sc_next_rest.nd rfl (.inl rfl))); (refine pgs_cons ?_ ?_); (exact (pg_name (i := 6) sc_next_rest.nd rfl (.inl rfl))); (exact pgs_nil)) (fun _ _ _ _ _ => by exact pts_nil) (fun _ _ _ _ _ => by exact (pe_op op_xor (pv 5) (pv 6))))))), ?_⟩
    obtain ⟨dx, q1, r, g1, g2, g3⟩ := hF.ex
    have X1 : Builtin.bitXor ((gd rs 0 : Nat) : Int) (x : Int) = ((gd rs 0 ^^^ x : Nat) : Int) := bx _ _
    have hc : gd rs 0 ^^^ x < span b := xor_lt hb (gd_lt hb wr 0) hx
    refine ⟨_, rfl, p, dx, _, rfl, g1, fl_no b q1 r (by decide +kernel) (by decide +kernel) (by decide +kernel) (by decide +kernel), _, rfl, _, rfl, a2, _, 0, vN (gd rs 0), rfl, rfl, .inl (.inl hr2), atI_nat (j := 0) (by rw [List.getElem?_map, gd_in (by omega)]; rfl), _, rfl, _, _, rfl, rfl, ?_⟩
    refine ⟨p, a, true, b, gd rs 0 ^^^ x, gs, congrArg (fun z => [V.ref p, V.ref a, V.int z]) X1, hb, hF, .lst hg, wg, hc, by omega, fun l2 H1 s1 n1 e1 => ?_⟩
    refine ⟨_, rfl, 1, rfl, a2, _, rfl, .inl (.inl (s1 _ _ hr2)), fun c1 hc1 => ?_⟩
    have ecut : cutV (rs.map vN) (some 1) none = (rs.drop 1).map vN := by
      have e := cut_from (rs.map vN) 1 (by rw [List.length_map]; omega)
      rw [← List.map_drop] at e
      exact e
    rw [ecut]
    have sc1 := same_upd (o := .lst ((rs.drop 1).map vN)) hc1
    refine ⟨(by show 1 ≤ sizeLine; decide), fun z hz => ?_⟩
    have sz := same_upd (o := .lst [.int 0]) hz
    refine ⟨c1, z, _, _, rfl, rfl, sz _ _ upd_same, upd_same, ?_, fun d hd => ?_⟩
    · simp only [List.length_map, List.length_drop, List.length_singleton]
      exact Nat.le_of_lt (small1000 (by omega))
    have e0 : (rs.drop 1).map vN ++ [V.int 0] = (rs.drop 1 ++ [0]).map vN := by
      rw [List.map_append]
      rfl
    rw [e0]
    have sd := same_upd (o := .lst ((rs.drop 1 ++ [0]).map vN)) hd
    have sA := sc1.trans (sz.trans sd)
    have hX : (upd (upd (upd H1 c1 (.lst ((rs.drop 1).map vN))) z (.lst [.int 0])) d (.lst ((rs.drop 1 ++ [0]).map vN))) d = some (.lst ((rs.drop 1 ++ [0]).map vN)) := upd_same
    have hY := sA _ _ e1
    have sB := s1.trans sA
    generalize (upd (upd (upd H1 c1 (.lst ((rs.drop 1).map vN))) z (.lst [.int 0])) d (.lst ((rs.drop 1 ++ [0]).map vN))) = H2 at hX hY sA sB ⊢
    have LX : (rs.drop 1 ++ [0]).length = m := by
      rw [List.length_append, List.length_drop, List.length_singleton]
      omega
    have LY : (gs.map fun x_1 => mul b x_1 (gd rs 0 ^^^ x)).length = m := by rw [List.length_map, lg']
    refine ⟨_, rfl, d, l2, _, _, rfl, .inl (.inl hX), .inl (.inl hY), fun D hD => ?_⟩
    refine lc_it (walk_zip (K := K) (a := d) (b := l2) (xs := (rs.drop 1 ++ [0]).map vN) (ys := (gs.map fun x_1 => mul b x_1 (gd rs 0 ^^^ x)).map vN) (n := m) (by rw [List.length_map, List.length_map, LX, LY]; omega))
      (fun i H' => Same H2 H' ∧ H' D = some (.lst (((List.range i).map fun k => gd (rs.drop 1 ++ [0]) k ^^^ gd (gs.map fun x_1 => mul b x_1 (gd rs 0 ^^^ x)) k).map vN)))
      ⟨same_upd hD, upd_same⟩ (fun i H' _ h => ⟨.inl (.inl (h.1 _ _ hX)), .inl (.inl (h.1 _ _ hY))⟩) ?_ ?_
    · rintro i xv H3 H4 hi ⟨sm, g3⟩ ⟨T1, x1, y1, rfl, hT, rfl, e3, e4⟩
      have ex : x1 = vN (gd (rs.drop 1 ++ [0]) i) := by
        have e5 : ((rs.drop 1 ++ [0]).map vN)[i]? = some x1 := e3
        rw [List.getElem?_map, gd_in (by rw [LX]; exact hi)] at e5
        exact (Option.some.inj e5).symm
      have ey : y1 = vN (gd (gs.map fun x_1 => mul b x_1 (gd rs 0 ^^^ x)) i) := by
        have e5 : ((gs.map fun x_1 => mul b x_1 (gd rs 0 ^^^ x)).map vN)[i]? = some y1 := e4
        rw [List.getElem?_map, gd_in (by rw [LY]; exact hi)] at e5
        exact (Option.some.inj e5).symm
      subst ex
      subst ey
      have sT := same_upd (o := .tup [vN (gd (rs.drop 1 ++ [0]) i), vN (gd (gs.map fun x_1 => mul b x_1 (gd rs 0 ^^^ x)) i)]) hT
      refine ⟨T1, [_, _], rfl, .inl (.inl upd_same), rfl, _, [_], rfl, _, [], rfl, rfl, rfl, ?_⟩
      refine ⟨_, rfl, _, rfl, _, _, rfl, rfl, _, sT _ _ g3, ?_, fun c o hc => ?_, ?_⟩
      · simp only [List.length_map, List.length_range]
        exact small1000 (by omega)
      · rw [upd_ne (ne_of_none hc hD)]
        exact sT _ _ (sm _ _ hc)
      · rw [upd_same, List.range_succ, List.map_append, List.map_append]
        show some (HO.lst (_ ++ [V.int (Builtin.bitXor _ _)])) = _
        rw [bx]
        rfl
    · rintro H3 ⟨sm, g3⟩
      refine q D H3 (sB.trans sm) (Same.free sB hD) ?_
      rw [g3]
      refine congrArg (fun l : List Nat => some (HO.lst (l.map vN))) ?_
      unfold nxt
      refine List.map_congr_left fun k hk => ?_
      have hk := List.mem_range.mp hk
      have ea : gd (rs.drop 1 ++ [0]) k = gd rs (k + 1) := by
        unfold gd
        by_cases h : k < rs.length - 1
        · rw [List.getD_eq_getElem?_getD, List.getD_eq_getElem?_getD, List.getElem?_append_left (by rw [List.length_drop]; exact h), List.getElem?_drop, Nat.add_comm 1 k]
        · rw [List.getD_eq_getElem?_getD, List.getD_eq_getElem?_getD, List.getElem?_append_right (by rw [List.length_drop]; omega), List.getElem?_eq_none (show rs.length ≤ k + 1 by omega), List.length_drop, show k - (rs.length - 1) = 0 by omega]
          rfl
      have eb : gd (gs.map fun x_1 => mul b x_1 (gd rs 0 ^^^ x)) k = mul b (gd gs k) (gd rs 0 ^^^ x) := by
        have e := gd_in (ws := gs) (i := k) (by omega)
        have e2 : (gs.map fun x_1 => mul b x_1 (gd rs 0 ^^^ x))[k]? = some (mul b (gd gs k) (gd rs 0 ^^^ x)) := by
          rw [List.getElem?_map, e]
          rfl
        show (gs.map fun x_1 => mul b x_1 (gd rs 0 ^^^ x)).getD k 0 = _
        rw [List.getD_eq_getElem?_getD, e2]
        rfl
      rw [ea, eb]
def sp_with_checks (K : PySem.W.Frag) (C : Addr) : Sp := fun vs H Q _ => ∃ (p a : Addr) (k : Bool) (b m s : Nat) (ws : List Nat), vs = [.ref p, vN m, vN s, .ref a] ∧ Wd b ∧ FieldAt K C H p b ∧ SqB k K H a (ws.map vN) ∧ Ws b ws ∧ ws.length + m ≤ 500 ∧ 0 < m ∧
  ∀ l H', Same H H' → H l = none → H' l = some (.lst ((ws ++ chk b s m ws).map vN)) → Q (.ref l) H'
theorem take_one {ws : List Nat} {i : Nat} (h : i < ws.length) : ws.take (i + 1) = ws.take i ++ [gd ws i] := by
  rw [List.take_add_one, gd_in h]
  rfl
theorem chkF_snoc (b m : Nat) (g r ws : List Nat) (w : Nat) : chkF b m g r (ws ++ [w]) = nxt b m g (chkF b m g r ws) w := by
  unfold chkF
  rw [List.foldl_append]
  rfl
theorem ok_with_checks (T : Txt K mg) : FnOk P w K mg base CX0 3 T.f_with_checks T.d_with_checks ["field", "many", "start", "words"] (sp_with_checks K T.C_Field) := by
  refine T.F_with_checks.ok sc_with_checks (fun vs H Q E h => ?_) (fun cdv A outer s H vs Q E hr h => ?_)
  · obtain ⟨p, a, k, b, m, s, ws, rfl, _⟩ := h
    rfl
  · obtain ⟨p, a, k, b, m, s0, ws, rfl, hb, hF, hq, hw, hl, hm, q⟩ := h
    refine ⟨_, (pss_cons (ps_set (i := 4) sc_with_checks.nd rfl (.inl rfl) (pe_call (ok_check_factor T) (hr.mono (by decide)) (by rfl) T.g_check_factor T.F_check_factor.kp T.b_check_factor .nil pass0 (pa_cons (pv 0) (pa_cons (pv 1) (pa_cons (pv 2) pa_nil)))))
      (pss_cons (ps_set (i := 5) sc_with_checks.nd rfl (.inl rfl) (pe_op op_rep (pe_lst (pa_cons pe_int pa_nil)) (pv 1)))
      (pss_cons (ps_for PassesOwn.never rfl (pi_seq (pv 3)) (pg_name (i := 6) sc_with_checks.nd rfl (.inl rfl)) (pss_one (ps_set (i := 5) sc_with_checks.nd rfl (.inl rfl) (pe_call (ok_next_rest T) (hr.mono (by decide)) (by rfl) T.g_next_rest T.F_next_rest.kp T.b_next_rest .nil pass0 (pa_cons (pv 0) (pa_cons (pv 4) (pa_cons (pv 5) (pa_cons (pv 6) pa_nil))))))))
      (pss_one (ps_ret (pe_op op_cat (pe_callTy call_list_of (by rfl) T.n_list (by decide +kernel) (pa_cons (pv 3) pa_nil)) (pv 5))))))), ?_⟩
    refine ⟨_, rfl, _, rfl, _, rfl, p, b, m, s0, rfl, hb, hF, by omega, fun g H1 s1 n1 e1 => ?_⟩
    refine ⟨(by show 1 ≤ sizeLine; decide), fun z hz => ?_⟩
    have sz := same_upd (o := .lst [.int 0]) hz
    refine ⟨_, rfl, z, _, _, rfl, rfl, upd_same, by omega, by omega, ?_, fun r0 hr0 => ?_⟩
    · rw [Int.toNat_natCast]
      simp only [List.length_singleton]
      exact Nat.le_of_lt (small1000 (by omega))
    have sr := same_upd (o := .lst (List.replicate (m : Int).toNat [V.int 0]).flatten) hr0
    have s2 := s1.trans (sz.trans sr)
    have eR : (List.replicate (m : Int).toNat [V.int 0]).flatten = (List.replicate m 0).map vN := by
      rw [Int.toNat_natCast, flat_one, List.map_replicate]
    have wg := cfL_ws (s := s0) (m := m) hb
    refine ⟨_, rfl, a, _, k, rfl, Same.sqb s2 hq, ?_⟩
    refine for_it (walk_seq (b := k) (K := K) (a := a) (xs := ws.map vN)) (fun i σ H' => ∃ (rA : Addr) (z6 : Option V), σ = [some (.ref p), some (vN m), some (vN s0), some (.ref a), some (.ref g), some (.ref rA), z6] ∧ Same H H' ∧ H' g = some (.lst ((cfL b s0 m).map vN)) ∧ H' rA = some (.lst ((chk b s0 m (ws.take i)).map vN)))
      ⟨r0, _, rfl, s2, sr _ _ (sz _ _ e1), by rw [upd_same, eR]; rfl⟩ (fun i σ H' _ ⟨_, _, _, sm, _⟩ => Same.sqb sm hq) ?_ ?_
    · rintro i x σ H2 H3 hi ⟨rA, z6, rfl, sm, g1, g2⟩ ⟨rfl, e2⟩
      rw [List.length_map] at hi
      have ey : x = vN (gd ws i) := by
        rw [List.getElem?_map, gd_in hi] at e2
        exact (Option.some.inj e2).symm
      subst ey
      have wt : Ws b (ws.take i) := fun y hy => hw y (List.mem_of_mem_take hy)
      refine ⟨_, rfl, _, rfl, _, rfl, _, rfl, p, g, rA, b, m, gd ws i, cfL b s0 m, chk b s0 m (ws.take i), rfl, hb, hF.same sm, g1, g2, wg, chk_ws hb wt, cfL_len _ _ _, chk_len hb, hm, by omega, gd_lt hb hw i, fun l H4 s4 n4 e4 => ?_⟩
      refine ⟨l, _, rfl, sm.trans s4, s4 _ _ g1, ?_⟩
      rw [e4, take_one hi]
      unfold chk
      rw [chkF_snoc]
    · rintro σ H2 ⟨rA, z6, rfl, sm, g1, g2⟩
      rw [List.length_map, List.take_length] at g2
      refine ⟨_, rfl, a, _, rfl, (Same.sqb sm hq).or, fun c hc => ?_⟩
      have sc := same_upd (o := .lst (ws.map vN)) hc
      have lc := chk_len (s := s0) (m := m) (ws := ws) hb
      refine ⟨_, rfl, c, rA, _, _, rfl, rfl, upd_same, sc _ _ g2, ?_, fun d hd => ?_⟩
      · simp only [List.length_map]
        exact Nat.le_of_lt (small1000 (by omega))
      have sA := sm.trans sc
      refine q d _ (sA.trans (same_upd hd)) (Same.free sA hd) ?_
      rw [upd_same, List.map_append]
def mostC (b : Nat) : Nat := if b = 4 then 14 else 40
theorem getI_most {b : Nat} (hb : Wd b) : getI (b : Int) [(4, 14), (8, 40)] = some (mostC b : Int) := by rcases hb with rfl | rfl <;> rfl
/-- a code that is one -/
def CodeOk (b m s : Nat) : Prop := Wd b ∧ 1 ≤ m ∧ m ≤ mostC b ∧ s + 2 ≤ span b
def sp_is_code (K : PySem.W.Frag) : Sp := fun vs H Q _ => ∃ (a : Addr) (b m s : Nat), vs = [.ref a] ∧ SqT K H a [vN b, vN m, vN s] ∧ CodeOk b m s ∧ Q (.bl true) H
theorem ok_is_code (T : Txt K mg) : FnOk P w K mg base CX0 3 T.f_is_code T.d_is_code ["code"] (sp_is_code K) := by
  refine T.F_is_code.ok sc_is_code (fun vs H Q E h => ?_) (fun cdv A outer s H vs Q E hr h => ?_)
  · obtain ⟨a, b, m, s, rfl, _⟩ := h
    rfl
  · obtain ⟨a, b, m, s0, rfl, hq, ⟨hb, h1, h2, h3⟩, q⟩ := h
    refine ⟨_, (pss_cons (ps_if (PW.pt (pw_or (pt_not (pt_val (pe_callB call_isi (by rfl) T.n_isinstance (by decide +kernel) (pa_cons (pv 0) (pa_cons (pe_bltn (v := .ty "tuple") (by rfl) T.n_tuple (by decide +kernel) rfl) pa_nil))))) (pw_or1 (pt_cmpR op_ne (pe_callB call_len_seq (by rfl) T.n_len (by decide +kernel) (pa_cons (pv 0) pa_nil)) pe_int (nomark _))))) (pss_one (ps_ret pe_bl)) pss_nil)
      (pss_cons (ps_asg (pv 0) (pg_tup rfl (pgs_cons (pg_name (i := 1) sc_is_code.nd rfl (.inl rfl)) (pgs_cons (pg_name (i := 2) sc_is_code.nd rfl (.inl rfl)) (pgs_cons (pg_name (i := 3) sc_is_code.nd rfl (.inl rfl)) pgs_nil)))))
      (pss_cons (ps_if (PW.pt (pw_or (pt_not (pt_val (pe_call (ok_is_number T) (hr.mono (by decide)) (by rfl) T.g_is_number T.F_is_number.kp T.b_is_number .nil pass0 (pa_cons (pv 1) pa_nil)))) (pw_or1 (pt_cmpR (op_notInKI T.l_MOST_CHECKS) (pv 1) (pe_glob (v := .ref T.a_MOST_CHECKS) (by rfl) T.g_MOST_CHECKS rfl) (by rfl))))) (pss_one (ps_ret pe_bl)) pss_nil)
      (pss_one (ps_ret (pe_and (pe_call (ok_is_number_to T) (hr.mono (by decide)) (by rfl) T.g_is_number_to T.F_is_number_to.kp T.b_is_number_to .nil pass0 (pa_cons (pv 2) (pa_cons pe_int (pa_cons (pe_ix (ix_kint T.l_MOST_CHECKS) (pe_glob (v := .ref T.a_MOST_CHECKS) (by rfl) T.g_MOST_CHECKS rfl) (pv 1) (fun _ _ => rfl)) pa_nil)))) (pe_one (pe_call (ok_is_number_to T) (hr.mono (by decide)) (by rfl) T.g_is_number_to T.F_is_number_to.kp T.b_is_number_to .nil pass0 (pa_cons (pv 3) (pa_cons pe_int (pa_cons (pe_op op_sub (pe_ix (ix_kint T.l_SPANS) (pe_glob (v := .ref T.a_SPANS) (by rfl) T.g_SPANS rfl) (pv 1) (fun _ _ => rfl)) pe_int) pa_nil))))))))))), ?_⟩
    refine ⟨_, rfl, .ref a, .ty "tuple", .type "tuple", .type "tuple", true, rfl, .ty _, SqB.ty (b := false) hq, kit_ty (by decide +kernel), true, rfl, iteF ?_⟩
    refine ⟨_, rfl, a, _, rfl, .inr hq, rfl, _, rfl, iteF ?_⟩
    refine ⟨_, rfl, a, [_, _, _], rfl, hq, rfl, _, [_, _], rfl, _, [_], rfl, _, [], rfl, rfl, ?_⟩
    refine ⟨_, rfl, _, rfl, true, rfl, iteF ?_⟩
    refine ⟨_, rfl, _, rfl, rfl, _, rfl, ?_⟩
    rw [getI_most hb]
    refine iteF ?_
    refine ⟨_, rfl, _, rfl, _, _, rfl, rfl, getI_most hb, _, _, _, rfl, ?_⟩
    have e : (decide ((1 : Int) ≤ (m : Int)) && decide ((m : Int) ≤ (mostC b : Int))) = true := by
      simp
      omega
    rw [e]
    refine ⟨_, rfl, iteT ?_⟩
    refine ⟨_, rfl, _, rfl, _, _, rfl, rfl, getI_span hb, _, _, rfl, rfl, _, _, _, rfl, ?_⟩
    have e : (decide ((0 : Int) ≤ (s0 : Int)) && decide ((s0 : Int) ≤ (span b : Int) - 2)) = true := by
      simp
      omega
    rw [e]
    exact q
def sp_need_code (K : PySem.W.Frag) : Sp := fun vs H Q _ => ∃ (a : Addr) (b m s : Nat), vs = [.ref a] ∧ SqT K H a [vN b, vN m, vN s] ∧ CodeOk b m s ∧ Q .non H
theorem ok_need_code (T : Txt K mg) : FnOk P w K mg base CX0 4 T.f_need_code T.d_need_code ["code"] (sp_need_code K) := by
  refine T.F_need_code.ok sc_need_code (fun vs H Q E h => ?_) (fun cdv A outer s H vs Q E hr h => ?_)
  · obtain ⟨a, b, m, s, rfl, _⟩ := h
    rfl
  · obtain ⟨a, b, m, s0, rfl, hq, hc, q⟩ := h
    refine ⟨_, (pss_one (ps_if (pt_not (pt_val (pe_call (ok_is_code T) (hr.mono (by decide)) (by rfl) T.g_is_code T.F_is_code.kp T.b_is_code .nil pass0 (pa_cons (pv 0) pa_nil)))) (pss_one ps_never) pss_nil)), ?_⟩
    exact ⟨_, rfl, a, b, m, s0, rfl, hq, hc, _, rfl, iteF q⟩
def sp_most_words : Sp := fun vs H Q _ => ∃ b : Nat, vs = [vN b] ∧ Wd b ∧ Q (vN (turn b)) H
theorem ok_most_words (T : Txt K mg) : FnOk P w K mg base CX0 1 T.f_most_words T.d_most_words ["bits"] sp_most_words := by
  refine T.F_most_words.ok sc_most_words (fun vs H Q E h => ?_) (fun cdv A outer s H vs Q E hr h => ?_)
  · obtain ⟨b, rfl, _⟩ := h
    rfl
  · obtain ⟨b, rfl, hb, q⟩ := h
    refine ⟨_, (pss_one (ps_ret (pe_op op_sub (pe_ix (ix_kint T.l_SPANS) (pe_glob (v := .ref T.a_SPANS) (by rfl) T.g_SPANS rfl) (pv 0) (fun _ _ => rfl)) pe_int))), ?_⟩
    refine ⟨_, rfl, _, _, rfl, rfl, getI_span hb, _, _, rfl, rfl, ?_⟩
    have e : vN (turn b) = V.int ((span b : Int) - 1) := by
      unfold vN
      have := span_eq hb
      exact congrArg V.int (by omega)
    rw [e] at q
    exact q
def sp_is_length (K : PySem.W.Frag) : Sp := fun vs H Q _ => ∃ (a : Addr) (b m s n : Nat), vs = [.ref a, vN n] ∧ SqT K H a [vN b, vN m, vN s] ∧ CodeOk b m s ∧ m < n ∧ n < span b ∧ Q (.bl true) H
theorem ok_is_length (T : Txt K mg) : FnOk P w K mg base CX0 3 T.f_is_length T.d_is_length ["code", "length"] (sp_is_length K) := by
  refine T.F_is_length.ok sc_is_length (fun vs H Q E h => ?_) (fun cdv A outer s H vs Q E hr h => ?_)
  · obtain ⟨a, b, m, s, n, rfl, _⟩ := h
    rfl
  · obtain ⟨a, b, m, s0, n, rfl, hq, ⟨hb, h1, h2, h3⟩, hm, hn, q⟩ := h
    refine ⟨_, (pss_cons (ps_asg (pv 0) (pg_tup rfl (pgs_cons (pg_name (i := 2) sc_is_length.nd rfl (.inl rfl)) (pgs_cons (pg_name (i := 3) sc_is_length.nd rfl (.inl rfl)) (pgs_cons (pg_name (i := 4) sc_is_length.nd rfl (.inl rfl)) pgs_nil)))))
      (pss_one (ps_ret (pe_call (ok_is_number_to T) (hr.mono (by decide)) (by rfl) T.g_is_number_to T.F_is_number_to.kp T.b_is_number_to .nil pass0 (pa_cons (pv 1) (pa_cons (pe_op op_add (pv 3) pe_int) (pa_cons (pe_call (ok_most_words T) (hr.mono (by decide)) (by rfl) T.g_most_words T.F_most_words.kp T.b_most_words .nil pass0 (pa_cons (pv 2) pa_nil)) pa_nil))))))), ?_⟩
    refine ⟨_, rfl, a, [_, _, _], rfl, hq, rfl, _, [_, _], rfl, _, [_], rfl, _, [], rfl, rfl, ?_⟩
    refine ⟨_, rfl, _, rfl, _, _, rfl, rfl, _, rfl, b, rfl, hb, _, _, _, rfl, ?_⟩
    have e : (decide ((m : Int) + 1 ≤ (n : Int)) && decide ((n : Int) ≤ (turn b : Int))) = true := by
      have := span_eq hb
      simp
      omega
    rw [e]
    exact q
theorem most_le {b m s : Nat} (h : CodeOk b m s) : m ≤ mostN b := by
  obtain ⟨hb, _, h2, _⟩ := h
  rcases hb with rfl | rfl
  · exact h2
  · exact h2
def sp_check_words (K : PySem.W.Frag) : Sp := fun vs H Q _ => ∃ (c a : Addr) (k : Bool) (b m s : Nat) (ws : List Nat), vs = [.ref c, .ref a] ∧ SqT K H c [vN b, vN m, vN s] ∧ CodeOk b m s ∧ SqB k K H a (ws.map vN) ∧ Ws b ws ∧ 0 < ws.length ∧ ws.length + m < span b ∧
  ∀ l H', Same H H' → H l = none → H' l = some (.lst ((chk b s m ws).map vN)) → Q (.ref l) H'
theorem ok_check_words (T : Txt K mg) : FnOk P w K mg base CX0 5 T.f_check_words T.d_check_words ["code", "words"] (sp_check_words K) := by
  refine T.F_check_words.ok sc_check_words (fun vs H Q E h => ?_) (fun cdv A outer s H vs Q E hr h => ?_)
  · obtain ⟨c, a, k, b, m, s, ws, rfl, _⟩ := h
    rfl
  · obtain ⟨c, a, k, b, m, s0, ws, rfl, hc, hok, hq, hw, h0, hl, q⟩ := h
    refine ⟨_, (pss_cons (ps_expr (pe_call (ok_need_code T) (hr.mono (by decide)) (by rfl) T.g_need_code T.F_need_code.kp T.b_need_code .nil pass0 (pa_cons (pv 0) pa_nil)))
      (pss_cons (ps_asg (pv 0) (pg_tup rfl (pgs_cons (pg_name (i := 2) sc_check_words.nd rfl (.inl rfl)) (pgs_cons (pg_name (i := 3) sc_check_words.nd rfl (.inl rfl)) (pgs_cons (pg_name (i := 4) sc_check_words.nd rfl (.inl rfl)) pgs_nil)))))
      (pss_cons (ps_if (PW.pt (pw_or (pt_not (pt_val (pe_call (ok_is_row T) (hr.mono (by decide)) (by rfl) T.g_is_row T.F_is_row.kp T.b_is_row .nil pass0 (pa_cons (pv 1) pa_nil)))) (pw_or1 (pt_not (pt_val (pe_call (ok_is_length T) (hr.mono (by decide)) (by rfl) T.g_is_length T.F_is_length.kp T.b_is_length .nil pass0 (pa_cons (pv 0) (pa_cons (pe_op op_add (pe_callB call_len_seq (by rfl) T.n_len (by decide +kernel) (pa_cons (pv 1) pa_nil)) (pv 3)) pa_nil)))))))) (pss_one ps_never) pss_nil)
      (pss_cons (ps_expr (pe_call (ok_need_words T) (hr.mono (by decide)) (by rfl) T.g_need_words T.F_need_words.kp T.b_need_words .nil pass0 (pa_cons (pv 2) (pa_cons pe_str (pa_cons (pv 1) pa_nil)))))
      (pss_one (ps_ret (pe_slice sl_list (pe_call (ok_with_checks T) (hr.mono (by decide)) (by rfl) T.g_with_checks T.F_with_checks.kp T.b_with_checks .nil pass0 (pa_cons (pe_make T.mk_Field (ok_Field___init__ T) (hr.mono (by decide)) (by rfl) T.g_Field T.b_Field___init__ .nil pass0 (pa_cons (pv 2) pa_nil)) (pa_cons (pv 3) (pa_cons (pv 4) (pa_cons (pv 1) pa_nil))))) (po_some (pe_callB call_len_seq (by rfl) T.n_len (by decide +kernel) (pa_cons (pv 1) pa_nil))) po_none))))))), ?_⟩
    have hb := hok.1
    have hs2 := span_small hb
    refine ⟨_, rfl, c, b, m, s0, rfl, hc, hok, ?_⟩
    refine ⟨_, rfl, c, [_, _, _], rfl, hc, rfl, _, [_, _], rfl, _, [_], rfl, _, [], rfl, rfl, ?_⟩
    refine ⟨_, rfl, a, k, _, rfl, hq, fun H1 s1 => ⟨_, rfl, iteF ?_⟩⟩
    refine ⟨_, rfl, _, rfl, a, _, rfl, (Same.sqb s1 hq).or, _, rfl, _, _, rfl, rfl, c, b, m, s0, ws.length + m, ?_, Same.sqt s1 hc, hok, by omega, by omega, _, rfl, iteF ?_⟩
    · rw [List.length_map]
      rfl
    refine ⟨_, rfl, _, rfl, b, _, a, k, ws, rfl, hb, Same.sqb s1 hq, hw, fun H2 s2 => ?_⟩
    refine ⟨_, rfl, fun x dx hx hdx ne => ⟨x, dx, b, rfl, hb, upd_same, fun H3 hk hF => ⟨rfl, ?_⟩⟩⟩
    have s3 := (s1.trans s2).trans (keep_same hx hdx hk)
    refine ⟨_, rfl, _, rfl, _, rfl, x, a, k, b, m, s0, ws, rfl, hb, hF, Same.sqb s3 hq, hw, by omega, hok.2.1, fun l H4 s4 n4 e4 => ?_⟩
    have s34 := s3.trans s4
    refine ⟨_, rfl, a, _, rfl, (Same.sqb s34 hq).or, _, rfl, l, _, rfl, .inl (.inl e4), fun out ho => ?_⟩
    refine q out _ (s34.trans (same_upd ho)) (Same.free s34 ho) ?_
    rw [upd_same, List.length_map, cut_from _ _ (by simp), List.map_append, List.drop_left' (by simp)]
/-! CUT -/
def sp_value_at (K : PySem.W.Frag) (C : Addr) : Sp := fun vs H Q _ => ∃ (p a : Addr) (k : Bool) (b t : Nat) (ws : List Nat), vs = [.ref p, .ref a, vN t] ∧ Wd b ∧ FieldAt K C H p b ∧ SqB k K H a (ws.map vN) ∧ Ws b ws ∧ t < span b ∧ Q (vN (evl b t ws)) H
theorem ok_value_at (T : Txt K mg) : FnOk P w K mg base CX0 2 T.f_value_at T.d_value_at ["field", "words", "at"] (sp_value_at K T.C_Field) := by
  refine T.F_value_at.ok sc_value_at (fun vs H Q E h => ?_) (fun cdv A outer s H vs Q E hr h => ?_)
  · obtain ⟨p, a, k, b, t, ws, rfl, _⟩ := h
    rfl
  · obtain ⟨p, a, k, b, t, ws, rfl, hb, hF, hq, hw, ht, q⟩ := h
    refine ⟨_, (pss_cons (ps_if (pt_cmpR op_eq (pv 2) pe_int (nomark _)) (pss_one (ps_ret (pe_ifExp (pt_truth (pv 1) (by intro _; rfl)) (pe_ix ix_rowB (pv 1) (pe_un un_neg pe_int) (fun _ _ => rfl)) pe_int))) pss_nil)
      (pss_cons (ps_set (i := 3) sc_value_at.nd rfl (.inl rfl) (pe_fld (pv 0) rfl))
      (pss_cons (ps_set (i := 4) sc_value_at.nd rfl (.inl rfl) (pe_fld (pv 0) rfl))
      (pss_cons (ps_set (i := 5) sc_value_at.nd rfl (.inl rfl) (pe_ix ix_rowB (pv 4) (pv 2) (fun _ _ => rfl)))
      (pss_cons (ps_set (i := 6) sc_value_at.nd rfl (.inl rfl) pe_int)
      (pss_cons (ps_for PassesOwn.never rfl (pi_seq (pv 1)) (pg_name (i := 7) sc_value_at.nd rfl (.inl rfl)) (pss_one (ps_set (i := 6) sc_value_at.nd rfl (.inl rfl) (pe_ifExp (pt_truth (pv 6) (by intro _; rfl)) (pe_op op_xor (pe_ix ix_rowB (pv 3) (pe_op op_add (pe_ix ix_rowB (pv 4) (pv 6) (fun _ _ => rfl)) (pv 5)) (fun _ _ => rfl)) (pv 7)) (pv 7)))))
      (pss_one (ps_ret (pv 6))))))))), ?_⟩
    obtain ⟨dx, q1, r, g1, g2, g3⟩ := hF.ex
    have hcl := T.cl_Field
    refine ⟨_, rfl, rfl, _, rfl, ?_⟩
    refine ite2 (fun c => ?_) (fun c => ?_)
    · have e : t = 0 := by have := V.int.inj (of_decide_eq_true c); omega
      subst e
      rw [evl_at0] at q
      refine ⟨_, rfl, _, hq.truB, ?_⟩
      rcases List.eq_nil_or_concat ws with rfl | ⟨u, x, rfl⟩
      · exact iteF q
      · rw [List.concat_eq_append] at hq q ⊢
        have e : (!((u ++ [x]).map vN).isEmpty) = true := by simp
        rw [e]
        refine iteT ?_
        refine ⟨_, rfl, _, rfl, a, _, -1, vN x, k, rfl, rfl, hq, ?_, ?_⟩
        · rw [List.map_append]
          exact atI_last (u.map vN) (vN x)
        · simpa using q
    · have h1 : t ≠ 0 := fun z => c (by rw [z]; rfl)
      refine ⟨_, rfl, p, _, dx, _, _, rfl, g1, hcl, T.a_Field_powers, fl_powers b q1 r, ?_⟩
      refine ⟨_, rfl, p, _, dx, _, _, rfl, g1, hcl, T.a_Field_exponents, fl_exponents b q1 r, ?_⟩
      refine ⟨_, rfl, _, rfl, r, _, _, _, false, rfl, rfl, g3, atI_nat (by rw [List.getElem?_map, tabE_at hb ht h1]; rfl), ?_⟩
      refine ⟨_, rfl, a, _, k, rfl, hq, ?_⟩
      refine for_it (walk_seq (b := k) (K := K) (a := a) (xs := ws.map vN)) (fun i σ H' => ∃ z : Option V, σ = [some (.ref p), some (.ref a), some (vN t), some (.ref q1), some (.ref r), some (vN (lg b t)), some (vN (evl b t (ws.take i))), z] ∧ H' = H) ⟨_, rfl, rfl⟩ (fun i σ H' _ ⟨_, _, e⟩ => by rw [e]; exact hq) ?_ ?_
      · rintro i x σ H1 H2 hi ⟨z, rfl, rfl⟩ ⟨rfl, e2⟩
        rw [List.length_map] at hi
        have ey : x = vN (gd ws i) := by
          rw [List.getElem?_map, gd_in hi] at e2
          exact (Option.some.inj e2).symm
        subst ey
        have w1 : Ws b (ws.take i) := fun y hy => hw y (List.mem_of_mem_take hy)
        have l1 := evl_lt (t := t) hb w1
        have tk := take_one hi
        have sn := evl_snoc (b := b) (t := t) (w := gd ws i) (r := ws.take i)
        refine ⟨_, rfl, _, rfl, ?_⟩
        by_cases h0 : evl b t (ws.take i) = 0
        · have e : (((evl b t (ws.take i) : Nat) : Int) != 0) = false := by rw [h0]; rfl
          rw [e]
          refine iteF ⟨_, rfl, ?_⟩
          refine ⟨some (vN (gd ws i)), ?_, rfl⟩
          rw [tk, sn, h0, zero_mul hb, Nat.zero_xor]
          rfl
        · have e : (((evl b t (ws.take i) : Nat) : Int) != 0) = true := by simp; omega
          rw [e]
          refine iteT ?_
          refine ⟨_, rfl, _, rfl, _, rfl, r, _, _, _, false, rfl, rfl, g3, atI_nat (by rw [List.getElem?_map, tabE_at hb l1 h0]; rfl), ?_⟩
          refine ⟨_, rfl, _, _, rfl, rfl, q1, _, _, _, false, rfl, rfl, .tup g2, sum_at hb l1 ht h0 h1, _, rfl, _, _, rfl, rfl, ?_⟩
          refine ⟨some (vN (gd ws i)), ?_, rfl⟩
          show [_, _, _, _, _, _, some (V.int (Builtin.bitXor _ _)), _] = _
          rw [bx, tk, sn]
          rfl
      · rintro σ H' ⟨z, rfl, rfl⟩
        rw [List.length_map, List.take_length]
        exact ⟨_, rfl, q⟩
def sp_sums_of (K : PySem.W.Frag) (C : Addr) : Sp := fun vs H Q _ => ∃ (p a : Addr) (k : Bool) (b m s : Nat) (ws : List Nat), vs = [.ref p, vN m, vN s, .ref a] ∧ Wd b ∧ m ≤ 500 ∧ FieldAt K C H p b ∧ SqB k K H a (ws.map vN) ∧ Ws b ws ∧
  ∀ l H', Same H H' → H l = none → H' l = some (.lst (((List.range m).map fun j => evl b (pw b (s + j)) ws).map vN)) → Q (.ref l) H'
theorem ok_sums_of (T : Txt K mg) : FnOk P w K mg base CX0 3 T.f_sums_of T.d_sums_of ["field", "many", "start", "row"] (sp_sums_of K T.C_Field) := by
  refine T.F_sums_of.ok sc_sums_of (fun vs H Q E h => ?_) (fun cdv A outer s H vs Q E hr h => ?_)
  · obtain ⟨p, a, k, b, m, s, ws, rfl, _⟩ := h
    rfl
  · obtain ⟨p, a, k, b, m, s0, ws, rfl, hb, hm, hF, hq, hw, q⟩ := h
    refine ⟨_, (pss_one (ps_ret (pe_lc (own := [("step", 4)]) rfl sc_sums_of.nd (pi_range1 (by rfl) T.n_range (pa_cons (pv 1) pa_nil)) (blkOk_by (N := ["field", "many", "start", "row", "step"]) (sc := defScope s_sums_of) (by decide +kernel)) (fun _ _ _ _ _ => by exact (pg_name (i := 4) sc_sums_of.nd rfl (.inl rfl))) (fun _ _ _ _ _ => by exact pts_nil) (fun _ _ _ _ _ => by exact (pe_call (ok_value_at T) (hr.mono (by decide)) (by rfl) T.g_value_at T.F_value_at.kp T.b_value_at .nil pass0 (pa_cons (pv 0) (pa_cons (pv 3) (pa_cons (pe_meth (pv 0) T.cl_Field T.m_Field_two_to (ok_Field_two_to T) (hr.mono (by decide)) T.b_Field_two_to .nil pass0 (pa_cons (pe_op op_add (pv 2) (pv 4)) pa_nil)) pa_nil)))))))), ?_⟩
    refine ⟨_, rfl, _, rfl, by omega, by omega, fun D hD => ?_⟩
    refine lc_range (lo := 0) (n := m) (fun i H' => Same H H' ∧ H' D = some (.lst (((List.range i).map fun j => evl b (pw b (s0 + j)) ws).map vN))) ⟨same_upd hD, upd_same⟩ ?_ ?_
    · rintro i H' hi ⟨sm, g⟩
      obtain ⟨dx, q1, r, g1, g2, g3⟩ := (hF.same sm).ex
      refine ⟨rfl, ?_⟩
      refine ⟨_, rfl, _, rfl, _, rfl, p, dx, _, rfl, g1, rfl, _, rfl, _, rfl, _, _, rfl, rfl, p, b, _, rfl, hb, hF.same sm, ?_⟩
      have e : pwI b ((s0 : Int) + (0 + (i : Int))) = pw b (s0 + i) := by
        rw [show (s0 : Int) + (0 + (i : Int)) = ((s0 + i : Nat) : Int) by omega]
        exact pwI_nat hb _
      rw [e]
      refine ⟨p, a, k, b, pw b (s0 + i), ws, rfl, hb, hF.same sm, Same.sqb sm hq, hw, pw_lt hb _, _, g, ?_, fun d o hd => ?_, ?_⟩
      · rw [List.length_map, List.length_map, List.length_range]
        exact small1000 (by omega)
      · rw [upd_ne (ne_of_none hd hD)]
        exact sm _ _ hd
      · rw [upd_same, List.range_succ, List.map_append, List.map_append]
        rfl
    · rintro H' ⟨sm, g⟩
      exact q D H' sm hD g
theorem acc_step {H1 H' : Hp} {D : Addr} {f : Nat → Nat} {i : Nat} (sm : Same H1 H') (hD : H1 D = none) (g : H' D = some (.lst (((List.range i).map f).map vN))) (hi : i < 1000) {z : V} (e : z = vN (f i)) :
    ∃ acc, H' D = some (.lst acc) ∧ acc.length < sizeLine ∧ Same H1 (upd H' D (.lst (acc ++ [z]))) ∧ (upd H' D (.lst (acc ++ [z]))) D = some (.lst (((List.range (i + 1)).map f).map vN)) := by
  subst e
  refine ⟨_, g, ?_, fun c o hc => ?_, ?_⟩
  · simp only [List.length_map, List.length_range]
    exact small1000 (Nat.le_of_lt hi)
  · rw [upd_ne (ne_of_none hc hD)]
    exact sm _ _ hc
  · rw [upd_same, List.range_succ, List.map_append, List.map_append]
    rfl
theorem word_at {ws : List Nat} {i : Nat} {x : V} (hi : i < ws.length) (e : (ws.map vN)[i]? = some x) : x = vN (gd ws i) := by
  rw [List.getElem?_map, gd_in hi] at e
  exact (Option.some.inj e).symm
theorem map_gd (ws : List Nat) (f : Nat → Nat) : (List.range ws.length).map (fun k => f (gd ws k)) = ws.map f := by
  have h := congrArg (List.map f) (gd_list ws)
  rw [List.map_map] at h
  exact h
/-! CUT -/
/-! ### decoding -/
def sp_wo (K : PySem.W.Frag) (C : Addr) : Sp := fun vs H Q _ => ∃ (p a : Addr) (b X : Nat) (S : List Nat), vs = [.ref p, .ref a, vN X] ∧ Wd b ∧ FieldAt K C H p b ∧ H a = some (.lst (S.map vN)) ∧ Ws b S ∧ X < span b ∧ 0 < S.length ∧ S.length ≤ 500 ∧
  ∀ l H', Same H H' → H l = none → H' l = some (.lst ((wo b X S).map vN)) → Q (.ref l) H'
theorem ok_without_place (T : Txt K mg) : FnOk P w K mg base CX0 2 T.f_without_place T.d_without_place ["field", "sums", "place"] (sp_wo K T.C_Field) := by
  refine T.F_without_place.ok sc_without_place (fun vs H Q E h => ?_) (fun cdv A outer s H vs Q E hr h => ?_)
  · obtain ⟨p, a, b, X, S, rfl, _⟩ := h
    rfl
  · obtain ⟨p, a, b, X, S, rfl, hb, hF, hS, wS, hX, l0, l5, q⟩ := h
    refine ⟨_, (pss_one (ps_ret (pe_lc (own := [("at", 3)]) rfl sc_without_place.nd (pi_range1 (by rfl) T.n_range (pa_cons (pe_op op_sub (pe_callB call_len_seq (by rfl) T.n_len (by decide +kernel) (pa_cons (pv 1) pa_nil)) pe_int) pa_nil)) (blkOk_by (N := ["field", "sums", "place", "at"]) (sc := defScope s_without_place) (by decide +kernel)) (fun _ _ _ _ _ => by exact (pg_name (i := 3) sc_without_place.nd rfl (.inl rfl))) (fun _ _ _ _ _ => by exact pts_nil) (fun _ _ _ _ _ => by exact (pe_op op_xor (pe_ix (ix_rowBK (K := K) rfl) (pv 1) (pe_op op_add (pv 3) pe_int) (fun _ _ => rfl)) (pe_meth (pv 0) T.cl_Field T.m_Field_times (ok_Field_times T) (hr.mono (by decide)) T.b_Field_times .nil pass0 (pa_cons (pe_ix (ix_rowBK (K := K) rfl) (pv 1) (pv 3) (fun _ _ => rfl)) (pa_cons (pv 2) pa_nil)))))))), ?_⟩
    refine ⟨_, rfl, a, _, rfl, .inl (.inl (.inl hS)), _, _, rfl, rfl, _, rfl, ?_, ?_, fun D hD => ?_⟩
    · simp only [List.length_map]
      omega
    · simp only [List.length_map]
      omega
    refine lc_range (lo := 0) (fun i H' => Same H H' ∧ H' D = some (.lst (((List.range i).map fun k => gd S (k + 1) ^^^ mul b (gd S k) X).map vN))) ⟨same_upd hD, upd_same⟩ ?_ ?_
    · rintro i H' hi ⟨sm, g⟩
      have hi' : i + 1 < S.length := by
        simp only [List.length_map] at hi
        omega
      obtain ⟨dx, q1, r, g1, g2, g3⟩ := (hF.same sm).ex
      refine ⟨rfl, ?_⟩
      refine ⟨_, rfl, _, rfl, _, _, rfl, rfl, a, _, _, vN (gd S (i + 1)), true, rfl, rfl, .lst (sm _ _ hS), ?_, ?_⟩
      · rw [show (0 : Int) + (i : Int) + 1 = ((i + 1 : Nat) : Int) by omega]
        exact atI_nat (by rw [List.getElem?_map, gd_in hi']; rfl)
      refine ⟨_, rfl, p, dx, _, rfl, g1, rfl, _, rfl, _, rfl, a, _, _, vN (gd S i), true, rfl, rfl, .lst (sm _ _ hS), ?_, ?_⟩
      · rw [show (0 : Int) + (i : Int) = ((i : Nat) : Int) by omega]
        exact atI_nat (by rw [List.getElem?_map, gd_in (by omega)]; rfl)
      refine ⟨_, rfl, p, b, _, X, rfl, hb, hF.same sm, gd_lt hb wS i, hX, _, _, rfl, rfl, ?_⟩
      exact acc_step (f := fun k => gd S (k + 1) ^^^ mul b (gd S k) X) sm hD g (by omega) (congrArg V.int (bx _ _))
    · rintro H' ⟨sm, g⟩
      have e : (((S.map vN).length : Int) - 1).toNat = S.length - 1 := by
        simp only [List.length_map]
        omega
      refine q D H' sm hD ?_
      rw [g]
      unfold wo
      rw [← e]
theorem wo_len (b X : Nat) (S : List Nat) : (wo b X S).length = S.length - 1 := by unfold wo; simp
theorem wo_ws {b X : Nat} {S : List Nat} (hb : Wd b) (h : Ws b S) : Ws b (wo b X S) := fun x hx => by
  obtain ⟨k, _, rfl⟩ := List.mem_map.mp hx
  exact xor_lt hb (gd_lt hb h _) (mul_lt hb (gd_lt hb h k))
theorem hds_snoc {b X : Nat} : ∀ (A S : List Nat), hds b (A ++ [X]) S = ((hds b A S).1 ++ [gd (hds b A S).2 0], wo b X (hds b A S).2)
  | [], S => rfl
  | Y :: r, S => by
    show (gd S 0 :: (hds b (r ++ [X]) (wo b Y S)).1, (hds b (r ++ [X]) (wo b Y S)).2) = _
    rw [hds_snoc r]
    rfl
theorem hds_len {b : Nat} : ∀ (A S : List Nat), (hds b A S).1.length = A.length ∧ (hds b A S).2.length = S.length - A.length
  | [], S => ⟨rfl, rfl⟩
  | Y :: r, S => by
    have h := hds_len (b := b) r (wo b Y S)
    rw [wo_len] at h
    refine ⟨?_, ?_⟩
    · show (_ :: _).length = _
      rw [List.length_cons, h.1, List.length_cons]
    · show (hds b r (wo b Y S)).2.length = _
      rw [h.2, List.length_cons]
      omega
theorem hds_ws {b : Nat} (hb : Wd b) : ∀ (A S : List Nat), Ws b S → Ws b (hds b A S).1 ∧ Ws b (hds b A S).2
  | [], S, h => ⟨fun x hx => (nomatch hx), h⟩
  | Y :: r, S, h => by
    obtain ⟨h1, h2⟩ := hds_ws hb r (wo b Y S) (wo_ws hb h)
    refine ⟨fun x hx => ?_, h2⟩
    rcases List.mem_cons.mp hx with rfl | hx
    · exact gd_lt hb h 0
    · exact h1 x hx
def sp_heads (K : PySem.W.Frag) (C : Addr) : Sp := fun vs H Q _ => ∃ (p a a2 : Addr) (b : Nat) (S Xs : List Nat), vs = [.ref p, .ref a, .ref a2] ∧ Wd b ∧ FieldAt K C H p b ∧ H a = some (.lst (S.map vN)) ∧ H a2 = some (.lst (Xs.map vN)) ∧ Ws b S ∧ Ws b Xs ∧ Xs.length ≤ S.length ∧ S.length ≤ 500 ∧
  ∀ t h r H', Same H H' → SqT K H' t [.ref h, .ref r] → H' h = some (.lst ((hds b Xs S).1.map vN)) → H' r = some (.lst ((hds b Xs S).2.map vN)) → Q (.ref t) H'
theorem ok_heads_and_rest (T : Txt K mg) : FnOk P w K mg base CX0 3 T.f_heads_and_rest T.d_heads_and_rest ["field", "sums", "places"] (sp_heads K T.C_Field) := by
  refine T.F_heads_and_rest.ok sc_heads_and_rest (fun vs H Q E h => ?_) (fun cdv A outer s H vs Q E hr h => ?_)
  · obtain ⟨p, a, a2, b, S, Xs, rfl, _⟩ := h
    rfl
  · obtain ⟨p, a, a2, b, S, Xs, rfl, hb, hF, hS, hX, wS, wX, lX, lS, q⟩ := h
    refine ⟨_, (pss_cons (ps_set (i := 3) sc_heads_and_rest.nd rfl (.inl rfl) (pe_lst pa_nil))
      (pss_cons (ps_for PassesOwn.never rfl (pi_list (pv 2)) (pg_name (i := 4) sc_heads_and_rest.nd rfl (.inl rfl)) (pss_cons (ps_expr (pe_bm PySem.F.plainAttrs_list PySem.F.slot_list_append PySem.F.type_list_append mt_append (pv 3) (pa_cons (pe_ix ix_list (pv 1) pe_int (fun _ _ => rfl)) pa_nil)))
      (pss_one (ps_set (i := 1) sc_heads_and_rest.nd rfl (.inl rfl) (pe_call (ok_without_place T) (hr.mono (by decide)) (by rfl) T.g_without_place T.F_without_place.kp T.b_without_place .nil pass0 (pa_cons (pv 0) (pa_cons (pv 1) (pa_cons (pv 4) pa_nil))))))))
      (pss_one (ps_ret (pe_tup (pa_cons (pv 3) (pa_cons (pv 1) pa_nil))))))), ?_⟩
    refine ⟨Nat.zero_le _, fun hd nhd => ?_⟩
    refine ⟨_, rfl, a2, rfl, ⟨_, .inl (.inl (same_upd nhd _ _ hX))⟩, ?_⟩
    refine for_it (walk_list (K := K) (a := a2) (xs := Xs.map vN)) (fun i σ H' => ∃ (r : Addr) (z : Option V), σ = [some (.ref p), some (.ref r), some (.ref a2), some (.ref hd), z] ∧ Same H H' ∧ r ≠ hd ∧ H' hd = some (.lst ((hds b (Xs.take i) S).1.map vN)) ∧ H' r = some (.lst ((hds b (Xs.take i) S).2.map vN)))
      ⟨a, _, rfl, same_upd nhd, ne_of_none hS nhd, upd_same, same_upd nhd _ _ hS⟩ (fun i σ H' _ ⟨_, _, _, sm, _⟩ => .inl (.inl (sm _ _ hX))) ?_ ?_
    · rintro i x σ H1 H2 hi ⟨r, z, rfl, sm, nr, hh, hr'⟩ ⟨rfl, e2⟩
      rw [List.length_map] at hi
      have ex := word_at hi e2
      subst ex
      have tk := take_one hi
      obtain ⟨lA, lB⟩ := hds_len (b := b) (Xs.take i) S
      obtain ⟨wA, wB⟩ := hds_ws hb (Xs.take i) S wS
      have sn := hds_snoc (b := b) (X := gd Xs i) (Xs.take i) S
      rw [← tk] at sn
      have lt : (Xs.take i).length = i := by rw [List.length_take]; omega
      rw [lt] at lA lB
      refine ⟨_, rfl, .inl ⟨rfl, _, .inl (.inl hh)⟩, _, rfl, r, _, 0, vN (gd (hds b (Xs.take i) S).2 0), rfl, rfl, .inl (.inl hr'), atI_nat (j := 0) (by rw [List.getElem?_map, gd_in (by omega)]; rfl), hd, _, _, rfl, rfl, hh, ?_, ?_⟩
      · rw [List.length_map, lA]
        exact small1000 (by omega)
      have sm2 : Same H (upd H2 hd (.lst ((hds b (Xs.take i) S).1.map vN ++ [vN (gd (hds b (Xs.take i) S).2 0)]))) := fun c o hc => by
        rw [upd_ne (ne_of_none hc nhd)]
        exact sm _ _ hc
      have hr2 : (upd H2 hd (.lst ((hds b (Xs.take i) S).1.map vN ++ [vN (gd (hds b (Xs.take i) S).2 0)]))) r = some (.lst ((hds b (Xs.take i) S).2.map vN)) := by
        rw [upd_ne nr]
        exact hr'
      have hh2 : (upd H2 hd (.lst ((hds b (Xs.take i) S).1.map vN ++ [vN (gd (hds b (Xs.take i) S).2 0)]))) hd = some (.lst ((hds b (Xs.take (i + 1)) S).1.map vN)) := by
        rw [upd_same, sn, List.map_append]
        rfl
      generalize (upd H2 hd (.lst ((hds b (Xs.take i) S).1.map vN ++ [vN (gd (hds b (Xs.take i) S).2 0)]))) = H3 at sm2 hr2 hh2 ⊢
      refine ⟨_, rfl, _, rfl, _, rfl, p, r, b, gd Xs i, _, rfl, hb, hF.same sm2, hr2, wB, gd_lt hb wX i, by omega, by omega, fun l H4 s4 nl el => ?_⟩
      refine ⟨l, _, rfl, sm2.trans s4, (ne_of_none hh2 nl).symm, s4 _ _ hh2, ?_⟩
      rw [el, sn]
    · rintro σ H1 ⟨r, z, rfl, sm, nr, hh, hr'⟩
      rw [List.length_map, List.take_length] at hh hr'
      refine ⟨_, rfl, _, rfl, (by show 2 ≤ sizeLine; decide), fun t ht => ?_⟩
      have st := same_upd (o := .tup [.ref hd, .ref r]) ht
      exact q t hd r _ (sm.trans st) (.inl (.inl upd_same)) (st _ _ hh) (st _ _ hr')
def sp_corr (K : PySem.W.Frag) (F : Addr) : Sp := fun vs H Q _ => ∃ (p a a2 : Addr) (b s f : Nat) (C B : List Nat), vs = [.ref p, .ref a, .ref a2, vN s, vN f] ∧ Wd b ∧ FieldAt K F H p b ∧ H a = some (.lst (C.map vN)) ∧ H a2 = some (.lst (B.map vN)) ∧ Ws b C ∧ Ws b B ∧ f < span b ∧ C.length ≤ 200 ∧ B.length + s ≤ 200 ∧
  ∀ l H', Same H H' → H l = none → H' l = some (.lst ((corrL b C B s f).map vN)) → Q (.ref l) H'
def corP (b : Nat) (C B : List Nat) (s f i k : Nat) : Nat := gd C k ^^^ (if s ≤ k ∧ k < s + i then mul b f (gd B (k - s)) else 0)
def corPL (b : Nat) (C B : List Nat) (s f i : Nat) : List Nat := (List.range (max C.length (B.length + s))).map (corP b C B s f i)
theorem corP_set {b : Nat} {C B : List Nat} {s f i : Nat} (hi : i < B.length) : (corPL b C B s f i).set (i + s) (gd (corPL b C B s f i) (i + s) ^^^ mul b f (gd B i)) = corPL b C B s f (i + 1) := by
  have li : i + s < (corPL b C B s f i).length := by unfold corPL; simp; omega
  have l1 : (corPL b C B s f (i + 1)).length = max C.length (B.length + s) := by unfold corPL; simp
  have l2 : ((corPL b C B s f i).set (i + s) (gd (corPL b C B s f i) (i + s) ^^^ mul b f (gd B i))).length = max C.length (B.length + s) := by rw [List.length_set]; unfold corPL; simp
  rw [← gd_list (corPL b C B s f (i + 1)), ← gd_list ((corPL b C B s f i).set (i + s) _), l1, l2]
  refine List.map_congr_left fun k hk => ?_
  have hk := List.mem_range.mp hk
  have e : ∀ j, gd (corPL b C B s f j) k = corP b C B s f j k := fun j => by
    unfold corPL
    rw [gd_map, if_pos hk]
  rw [gd_set li, e (i + 1)]
  by_cases h : k = i + s
  · subst h
    rw [if_pos rfl, e i]
    unfold corP
    rw [if_neg (show ¬ (s ≤ i + s ∧ i + s < s + i) by omega), if_pos (show s ≤ i + s ∧ i + s < s + (i + 1) by omega), Nat.xor_zero, Nat.add_sub_cancel]
  · rw [if_neg h, e i]
    unfold corP
    by_cases h2 : s ≤ k ∧ k < s + i
    · rw [if_pos h2, if_pos (show s ≤ k ∧ k < s + (i + 1) by omega)]
    · rw [if_neg h2, if_neg (show ¬ (s ≤ k ∧ k < s + (i + 1)) by omega)]
theorem ok_corrected (T : Txt K mg) : FnOk P w K mg base CX0 2 T.f_corrected T.d_corrected ["field", "rule", "last", "shift", "factor"] (sp_corr K T.C_Field) := by
  refine T.F_corrected.ok sc_corrected (fun vs H Q E h => ?_) (fun cdv A outer s H vs Q E hr h => ?_)
  · obtain ⟨p, a, a2, b, s, f, C, B, rfl, _⟩ := h
    rfl
  · obtain ⟨p, a, a2, b, s0, f, C, B, rfl, hb, hF, hC, hB, wC, wB, hf, lC, lB, q⟩ := h
    refine ⟨_, (pss_cons (ps_set (i := 5) sc_corrected.nd rfl (.inl rfl) (pe_op op_cat (pv 1) (pe_op op_rep (pe_lst (pa_cons pe_int pa_nil)) (pe_callB (call_max2 rfl) (by rfl) T.n_max (by decide +kernel) (pa_cons (pe_op op_sub (pe_op op_add (pe_callB call_len_seq (by rfl) T.n_len (by decide +kernel) (pa_cons (pv 2) pa_nil)) (pv 3)) (pe_callB call_len_seq (by rfl) T.n_len (by decide +kernel) (pa_cons (pv 1) pa_nil))) (pa_cons pe_int pa_nil))))))
      (pss_cons (ps_for PassesOwn.never rfl (pi_enum (by rfl) T.n_enumerate (pa_cons (pv 2) pa_nil)) (pg_tup rfl (pgs_cons (pg_name (i := 6) sc_corrected.nd rfl (.inl rfl)) (pgs_cons (pg_name (i := 7) sc_corrected.nd rfl (.inl rfl)) pgs_nil))) (pss_one (ps_augS (pv 5) (pe_op op_add (pv 6) (pv 3)) get_list (pe_meth (pv 0) T.cl_Field T.m_Field_times (ok_Field_times T) (hr.mono (by decide)) T.b_Field_times .nil pass0 (pa_cons (pv 4) (pa_cons (pv 7) pa_nil))) (pip_of iop_xor) set_list)))
      (pss_one (ps_ret (pv 5))))), ?_⟩
    refine ⟨_, rfl, (by show 1 ≤ sizeLine; decide), fun z hz => ?_⟩
    have sz := same_upd (o := .lst [.int 0]) hz
    refine ⟨_, rfl, a2, _, rfl, .inl (.inl (.inl (sz _ _ hB))), _, rfl, _, _, rfl, rfl, _, rfl, a, _, rfl, .inl (.inl (.inl (sz _ _ hC))), _, _, rfl, rfl, _, _, rfl, ?_⟩
    obtain ⟨M, eM, lM⟩ : ∃ M : Nat, (if (0 : Int) > ((B.map vN).length : Int) + (s0 : Int) - ((C.map vN).length : Int) then (0 : Int) else ((B.map vN).length : Int) + (s0 : Int) - ((C.map vN).length : Int)) = (M : Int) ∧ C.length + M = max C.length (B.length + s0) := by
      simp only [List.length_map]
      split
      · exact ⟨0, rfl, by omega⟩
      · exact ⟨B.length + s0 - C.length, by omega, by omega⟩
    refine ⟨z, (M : Int), _, rfl, congrArg V.int eM, upd_same, by omega, by omega, ?_, fun y hy => ?_⟩
    · simp only [List.length_singleton]
      exact Nat.le_of_lt (small1000 (by omega))
    have sy := same_upd (o := .lst (List.replicate ((M : Int)).toNat [V.int 0]).flatten) hy
    have szy := sz.trans sy
    refine ⟨a, y, _, _, rfl, rfl, szy _ _ hC, upd_same, ?_, fun l hl => ?_⟩
    · rw [Int.toNat_natCast, flat_nought]
      simp only [List.length_map, List.length_replicate]
      exact Nat.le_of_lt (small1000 (by omega))
    have sl := same_upd (o := .lst (C.map vN ++ (List.replicate ((M : Int)).toNat [V.int 0]).flatten)) hl
    have s3 := szy.trans sl
    have nl : H l = none := Same.free szy hl
    have h0 : (upd (upd (upd H z (.lst [.int 0])) y (.lst (List.replicate ((M : Int)).toNat [V.int 0]).flatten)) l (.lst (C.map vN ++ (List.replicate ((M : Int)).toNat [V.int 0]).flatten))) l = some (.lst ((corPL b C B s0 f 0).map vN)) := by
      rw [upd_same, Int.toNat_natCast, flat_nought]
      refine congrArg (fun l => some (HO.lst l)) ?_
      have e : C.map vN ++ List.replicate M (vN 0) = (C ++ List.replicate M 0).map vN := by rw [List.map_append, List.map_replicate]
      rw [e]
      refine congrArg (List.map vN) ?_
      have l1 : (corPL b C B s0 f 0).length = C.length + M := by unfold corPL; simp; omega
      rw [← gd_list (corPL b C B s0 f 0), ← gd_list (C ++ List.replicate M 0), l1, List.length_append, List.length_replicate]
      refine List.map_congr_left fun k hk => ?_
      have hk := List.mem_range.mp hk
      have e2 : gd (corPL b C B s0 f 0) k = gd C k := by
        unfold corPL
        rw [gd_map, if_pos (by omega)]
        unfold corP
        rw [if_neg (show ¬ (s0 ≤ k ∧ k < s0 + 0) by omega), Nat.xor_zero]
      rw [e2]
      unfold gd
      rw [List.getD_eq_getElem?_getD, List.getD_eq_getElem?_getD]
      by_cases h : k < C.length
      · rw [List.getElem?_append_left h]
      · rw [List.getElem?_append_right (by omega), List.getElem?_replicate, if_pos (by omega), List.getElem?_eq_none (by omega)]
        rfl
    generalize (upd (upd (upd H z (.lst [.int 0])) y (.lst (List.replicate ((M : Int)).toNat [V.int 0]).flatten)) l (.lst (C.map vN ++ (List.replicate ((M : Int)).toNat [V.int 0]).flatten))) = H4 at s3 h0 ⊢
    refine ⟨_, rfl, a2, _, rfl, .inl (.inl (s3 _ _ hB)), ?_⟩
    refine for_it (walk_enum (K := K) (a := a2) (xs := B.map vN)) (fun i σ H' => ∃ z6 z7 : Option V, σ = [some (.ref p), some (.ref a), some (.ref a2), some (vN s0), some (vN f), some (.ref l), z6, z7] ∧ Same H H' ∧ H' l = some (.lst ((corPL b C B s0 f i).map vN)))
      ⟨_, _, rfl, s3, h0⟩ (fun i σ H' _ ⟨_, _, _, sm, _⟩ => .inl (.inl (sm _ _ hB))) ?_ ?_
    · rintro i x σ H5 H6 hi ⟨z6, z7, rfl, sm, g⟩ ⟨T1, x1, y1, rfl, hT, rfl, e1, e2⟩
      rw [List.length_map] at hi
      have ex1 : x1 = .int (i : Int) := (Option.some.inj e1).symm
      have ey := word_at hi e2
      subst ex1 ey
      have sT := same_upd (o := .tup [.int (i : Int), vN (gd B i)]) hT
      refine ⟨T1, [_, _], rfl, .inl (.inl upd_same), rfl, _, [_], rfl, _, [], rfl, rfl, ?_⟩
      have g5 := sT _ _ g
      have smT := sm.trans sT
      obtain ⟨dx, q1, r, g1, g2, g3⟩ := (hF.same smT).ex
      have li : i + s0 < (corPL b C B s0 f i).length := by unfold corPL; simp; omega
      have eis : (i : Int) + (s0 : Int) = ((i + s0 : Nat) : Int) := by omega
      refine ⟨_, rfl, _, rfl, _, rfl, _, _, rfl, rfl, l, _, _, i + s0, rfl, congrArg V.int eis, .inl (.inl g5), (by rw [List.getElem?_map, gd_in li]; rfl), ?_⟩
      refine ⟨_, rfl, p, dx, _, rfl, g1, rfl, _, rfl, _, rfl, p, b, f, _, rfl, hb, hF.same smT, hf, gd_lt hb wB i, _, _, rfl, rfl, ?_⟩
      refine ⟨l, _, _, i + s0, rfl, rfl, g5, ?_, ?_⟩
      · rw [eis]
        exact ixN_nat (by rw [List.length_map]; exact li)
      refine ⟨_, _, rfl, fun c o hc => ?_, ?_⟩
      · rw [upd_ne (ne_of_none hc nl)]
        exact smT _ _ hc
      · rw [upd_same, ← corP_set hi, List.map_set]
        refine congrArg (fun z => some (HO.lst (List.set _ _ z))) ?_
        exact congrArg V.int (bx _ _)
    · rintro σ H5 ⟨z6, z7, rfl, sm, g⟩
      rw [List.length_map] at g
      have e : corPL b C B s0 f B.length = corrL b C B s0 f := by
        unfold corPL corrL
        refine List.map_congr_left fun k hk => ?_
        unfold corP
        by_cases h : s0 ≤ k
        · rw [if_pos h]
          by_cases h2 : k < s0 + B.length
          · rw [if_pos ⟨h, h2⟩]
          · rw [if_neg (by omega), gd_out (show B.length ≤ k - s0 by omega), mul_zero]
        · rw [if_neg h, if_neg (by omega)]
      rw [e] at g
      exact ⟨_, rfl, q l H5 sm nl g⟩
/-! CUT -/
def sp_rule (K : PySem.W.Frag) (F : Addr) : Sp := fun vs H Q _ => ∃ (p a : Addr) (b : Nat) (S : List Nat), vs = [.ref p, .ref a] ∧ Wd b ∧ FieldAt K F H p b ∧ H a = some (.lst (S.map vN)) ∧ Ws b S ∧ S.length ≤ 100 ∧
  ∀ r H', Same H H' → H' r = some (.lst ((ruleF b S).map vN)) → Q (.ref r) H'
theorem ok_shortest_rule (T : Txt K mg) : FnOk P w K mg base CX0 3 T.f_shortest_rule T.d_shortest_rule ["field", "sums"] (sp_rule K T.C_Field) := by
  refine T.F_shortest_rule.ok sc_shortest_rule (fun vs H Q E h => ?_) (fun cdv A outer s H vs Q E hr h => ?_)
  · obtain ⟨p, a, b, S, rfl, _⟩ := h
    rfl
  · obtain ⟨p, a, b, S, rfl, hb, hF, hS, wS, lS, q⟩ := h
    refine ⟨_, (pss_cons (ps_asg (pe_tup (pa_cons (pe_lst (pa_cons pe_int pa_nil)) (pa_cons (pe_lst (pa_cons pe_int pa_nil)) (pa_cons pe_int (pa_cons pe_int (pa_cons pe_int pa_nil)))))) (pg_tup rfl (pgs_cons (pg_name (i := 2) sc_shortest_rule.nd rfl (.inl rfl)) (pgs_cons (pg_name (i := 3) sc_shortest_rule.nd rfl (.inl rfl)) (pgs_cons (pg_name (i := 4) sc_shortest_rule.nd rfl (.inl rfl)) (pgs_cons (pg_name (i := 5) sc_shortest_rule.nd rfl (.inl rfl)) (pgs_cons (pg_name (i := 6) sc_shortest_rule.nd rfl (.inl rfl)) pgs_nil)))))))
      (pss_cons (ps_for PassesOwn.never rfl (pi_range1 (by rfl) T.n_range (pa_cons (pe_callB call_len_seq (by rfl) T.n_len (by decide +kernel) (pa_cons (pv 1) pa_nil)) pa_nil)) (pg_name (i := 7) sc_shortest_rule.nd rfl (.inl rfl)) (pss_cons (ps_set (i := 8) sc_shortest_rule.nd rfl (.inl rfl) pe_int)
      (pss_cons (ps_for PassesOwn.never rfl (pi_range1 (by rfl) T.n_range (pa_cons (pe_callB (call_min2 rfl) (by rfl) T.n_min (by decide +kernel) (pa_cons (pe_callB call_len_seq (by rfl) T.n_len (by decide +kernel) (pa_cons (pv 2) pa_nil)) (pa_cons (pe_op op_add (pv 7) pe_int) pa_nil))) pa_nil)) (pg_name (i := 9) sc_shortest_rule.nd rfl (.inl rfl)) (pss_one (ps_aug (i := 8) sc_shortest_rule.nd rfl (.inl rfl) (pe_meth (pv 0) T.cl_Field T.m_Field_times (ok_Field_times T) (hr.mono (by decide)) T.b_Field_times .nil pass0 (pa_cons (pe_ix ix_list (pv 2) (pv 9) (fun _ _ => rfl)) (pa_cons (pe_ix ix_list (pv 1) (pe_op op_sub (pv 7) (pv 9)) (fun _ _ => rfl)) pa_nil))) (pip_of iop_xor))))
      (pss_cons (ps_if (pt_cmpR op_eq (pv 8) pe_int (nomark _)) (pss_cons (ps_aug (i := 5) sc_shortest_rule.nd rfl (.inl rfl) pe_int ip_add)
      (pss_one ps_continue)) pss_nil)
      (pss_cons (ps_set (i := 10) sc_shortest_rule.nd rfl (.inl rfl) (pe_call (ok_corrected T) (hr.mono (by decide)) (by rfl) T.g_corrected T.F_corrected.kp T.b_corrected .nil pass0 (pa_cons (pv 0) (pa_cons (pv 2) (pa_cons (pv 3) (pa_cons (pv 5) (pa_cons (pe_meth (pv 0) T.cl_Field T.m_Field_over (ok_Field_over T) (hr.mono (by decide)) T.b_Field_over .nil pass0 (pa_cons (pv 8) (pa_cons (pv 6) pa_nil))) pa_nil)))))))
      (pss_cons (ps_if (pt_cmpR op_le (pe_op op_mul pe_int (pv 4)) (pv 7) (nomark _)) (pss_one (ps_asg (pe_tup (pa_cons (pe_op op_sub (pe_op op_add (pv 7) pe_int) (pv 4)) (pa_cons (pv 2) (pa_cons (pv 8) (pa_cons pe_int pa_nil))))) (pg_tup rfl (pgs_cons (pg_name (i := 4) sc_shortest_rule.nd rfl (.inl rfl)) (pgs_cons (pg_name (i := 3) sc_shortest_rule.nd rfl (.inl rfl)) (pgs_cons (pg_name (i := 6) sc_shortest_rule.nd rfl (.inl rfl)) (pgs_cons (pg_name (i := 5) sc_shortest_rule.nd rfl (.inl rfl)) pgs_nil))))))) pss_nil)
      (pss_cons (ps_set (i := 2) sc_shortest_rule.nd rfl (.inl rfl) (pv 10))
      (pss_one (ps_aug (i := 5) sc_shortest_rule.nd rfl (.inl rfl) pe_int ip_add)))))))))
      (pss_one (ps_ret (pv 2))))), ?_⟩
    refine ⟨(by show 1 ≤ sizeLine; decide), fun r1 hr1 => ⟨(by show 1 ≤ sizeLine; decide), fun l1 hl1 => ⟨(by show 5 ≤ sizeLine; decide), fun t ht => ?_⟩⟩⟩
    refine ⟨t, [_, _, _, _, _], rfl, .inl (.inl upd_same), rfl, _, [_, _, _, _], rfl, _, [_, _, _], rfl, _, [_, _], rfl, _, [_], rfl, _, [], rfl, rfl, ?_⟩
    have s1 := same_upd (o := .lst [.int 1]) hr1
    have s2 := same_upd (o := .lst [.int 1]) hl1
    have s3 := same_upd (o := .tup [.ref r1, .ref l1, .int 0, .int 1, .int 1]) ht
    have sA := s1.trans (s2.trans s3)
    have hR := s3 _ _ (s2 _ _ (upd_same (H := H) (a := r1) (o := .lst [.int 1])))
    have hL := s3 _ _ (upd_same (H := upd H r1 (.lst [.int 1])) (a := l1) (o := .lst [.int 1]))
    generalize (upd (upd (upd H r1 (.lst [.int 1])) l1 (.lst [.int 1])) t (.tup [.ref r1, .ref l1, .int 0, .int 1, .int 1])) = H1 at sA hR hL ⊢
    refine ⟨_, rfl, a, _, rfl, .inl (.inl (.inl (sA _ _ hS))), _, rfl, ?_, ?_, ?_⟩
    · simp only [List.length_map]
      omega
    · simp only [List.length_map]
      omega
    refine for_range (lo := 0) (fun i σ H' => ∃ (ra la : Addr) (z7 z8 z9 z10 : Option V), σ = [some (.ref p), some (.ref a), some (.ref ra), some (.ref la), some (vN (bmF b S i).L), some (vN (bmF b S i).s), some (vN (bmF b S i).d), z7, z8, z9, z10] ∧ Same H H' ∧ H' ra = some (.lst ((bmF b S i).C.map vN)) ∧ H' la = some (.lst ((bmF b S i).B.map vN)))
      ⟨r1, l1, _, _, _, _, rfl, sA, hR, hL⟩ ?_ ?_
    · rintro i σ H2 hi ⟨ra, la, z7, z8, z9, z10, rfl, sm, hC, hB⟩
      have hi' : i < S.length := by simp only [List.length_map] at hi; omega
      have I := bm_inv hb wS i
      have nx : bmF b S (i + 1) = bmStep b S i (bmF b S i) := rfl
      rw [nx]
      generalize bmF b S i = z at I hC hB ⊢
      have hlC := I.lC2
      have hlL := I.lL
      have hlB := I.lB2
      have hlC0 := I.lC
      refine ⟨_, rfl, ra, _, rfl, .inl (.inl (.inl hC)), _, rfl, _, _, rfl, rfl, _, _, rfl, ?_⟩
      obtain ⟨M, eM, lM⟩ : ∃ M : Nat, (if (0 : Int) + (i : Int) + 1 < ((z.C.map vN).length : Int) then (0 : Int) + (i : Int) + 1 else ((z.C.map vN).length : Int)) = (M : Int) ∧ M = min z.C.length (i + 1) := by
        simp only [List.length_map]
        split
        · exact ⟨i + 1, by omega, by omega⟩
        · exact ⟨z.C.length, rfl, by omega⟩
      refine ⟨(M : Int), congrArg (fun z => [V.int z]) eM, by omega, by omega, ?_⟩
      refine for_range (lo := 0) (n := M) (fun j σ H' => ∃ (z9 : Option V), σ = [some (.ref p), some (.ref a), some (.ref ra), some (.ref la), some (vN z.L), some (vN z.s), some (vN z.d), some (.int (0 + (i : Int))), some (vN (xsum j fun k => mul b (gd z.C k) (gd S (i - k)))), z9, z10] ∧ H' = H2) ⟨_, rfl, rfl⟩ ?_ ?_
      · rintro j σ H3 hj ⟨z9, rfl, rfl⟩
        obtain ⟨dx, q1, r, g1, g2, g3⟩ := (hF.same sm).ex
        have jC : j < z.C.length := by omega
        have jS : i - j < S.length := by omega
        refine ⟨_, rfl, _, rfl, p, dx, _, rfl, g1, rfl, _, rfl, _, rfl, ra, _, _, vN (gd z.C j), rfl, rfl, .inl (.inl hC), ?_, ?_⟩
        · rw [show (0 : Int) + (j : Int) = ((j : Nat) : Int) by omega]
          exact atI_nat (by rw [List.getElem?_map, gd_in jC]; rfl)
        refine ⟨_, rfl, _, rfl, _, rfl, _, _, rfl, rfl, a, _, _, vN (gd S (i - j)), rfl, rfl, .inl (.inl (sm _ _ hS)), ?_, ?_⟩
        · rw [show (0 : Int) + (i : Int) - ((0 : Int) + (j : Int)) = ((i - j : Nat) : Int) by omega]
          exact atI_nat (by rw [List.getElem?_map, gd_in jS]; rfl)
        refine ⟨p, b, _, _, rfl, hb, hF.same sm, gd_lt hb I.wC j, gd_lt hb wS _, _, _, rfl, rfl, ?_⟩
        refine ⟨some (.int (0 + (j : Int))), ?_, rfl⟩
        show [_, _, _, _, _, _, _, _, some (V.int (Builtin.bitXor _ _)), _, _] = _
        rw [bx, xsum_succ]
        rfl
      · rintro σ H3 ⟨z9, rfl, rfl⟩
        have eF : (xsum M fun k => mul b (gd z.C k) (gd S (i - k))) = missF b S i z.C := by rw [lM]; rfl
        rw [eF]
        have lm : missF b S i z.C < span b := by rw [missF_cv hb]; exact cv_lt hb I.wC i
        generalize hm : missF b S i z.C = miss at lm
        refine ⟨_, rfl, rfl, _, rfl, ?_⟩
        refine ite2 (fun c => ?_) (fun c => ?_)
        · have e0 : miss = 0 := by have := V.int.inj (of_decide_eq_true c); omega
          refine ⟨_, rfl, _, _, rfl, rfl, ?_⟩
          unfold bmStep
          rw [hm, if_pos e0]
          exact ⟨ra, la, _, _, _, _, rfl, sm, hC, hB⟩
        · have e0 : miss ≠ 0 := fun z => c (by rw [z]; rfl)
          obtain ⟨dx, q1, r, g1, g2, g3⟩ := (hF.same sm).ex
          refine ⟨_, rfl, _, rfl, _, rfl, _, rfl, _, rfl, p, dx, _, rfl, g1, rfl, _, rfl, _, rfl, p, b, miss, z.d, rfl, hb, hF.same sm, lm, I.dl, I.d0, ?_⟩
          refine ⟨p, ra, la, b, z.s, _, z.C, z.B, rfl, hb, hF.same sm, hC, hB, I.wC, I.wB, mul_lt hb lm, by omega, by omega, fun l H4 s4 nl el => ?_⟩
          have sm4 := sm.trans s4
          refine ⟨_, rfl, _, _, rfl, rfl, .inl ⟨by decide, by decide⟩, _, rfl, _, _, rfl, rfl, _, rfl, ?_⟩
          unfold bmStep
          rw [hm, if_neg e0]
          by_cases h2 : 2 * z.L ≤ i
          · have e2 : decide ((2 : Int) * (z.L : Int) ≤ 0 + (i : Int)) = true := decide_eq_true (by omega)
            rw [if_pos h2, e2]
            refine iteT ⟨_, rfl, _, _, rfl, rfl, _, rfl, _, _, rfl, rfl, _, rfl, _, rfl, (by show 4 ≤ sizeLine; decide), fun t2 ht2 => ?_⟩
            refine ⟨t2, [_, _, _, _], rfl, .inl (.inl upd_same), rfl, _, [_, _, _], rfl, _, [_, _], rfl, _, [_], rfl, _, [], rfl, rfl, ?_⟩
            have st := same_upd (o := .tup [.int ((0 : Int) + (i : Int) + 1 - (z.L : Int)), .ref ra, vN miss, .int 0]) ht2
            refine ⟨_, rfl, _, rfl, _, _, rfl, rfl, ?_⟩
            have e4 : V.int ((0 : Int) + (i : Int) + 1 - (z.L : Int)) = vN (i + 1 - z.L) := congrArg V.int (by omega)
            refine ⟨l, ra, some (.int (0 + (i : Int))), some (vN miss), z9, some (.ref l), ?_, sm4.trans st, st _ _ el, st _ _ (s4 _ _ hC)⟩
            show _ = [_, _, _, _, some (vN (i + 1 - z.L)), _, _, _, _, _, _]
            rw [← e4]
            rfl
          · have e2 : decide ((2 : Int) * (z.L : Int) ≤ 0 + (i : Int)) = false := decide_eq_false (by omega)
            rw [if_neg h2, e2]
            refine iteF ⟨_, rfl, _, rfl, _, _, rfl, rfl, ?_⟩
            exact ⟨l, la, some (.int (0 + (i : Int))), some (vN miss), z9, some (.ref l), rfl, sm4, el, s4 _ _ hB⟩
    · rintro σ H2 ⟨ra, la, z7, z8, z9, z10, rfl, sm, hC, hB⟩
      refine ⟨_, rfl, q ra H2 sm ?_⟩
      rw [hC]
      have e : ((((S.map vN).length : Int)) - 0).toNat = S.length := by simp
      unfold ruleF
      rw [← e]
      rfl
/-! CUT -/
theorem zw_is {F : Nat → Nat → Nat} {xs ys : List Nat} {n : Nat} (hx : xs.length = n) (hy : ys.length = n) : (List.range n).map (fun k => F (gd xs k) (gd ys k)) = List.zipWith F xs ys := by
  refine List.ext_getElem? fun i => ?_
  rw [List.getElem?_zipWith, List.getElem?_map]
  by_cases h : i < n
  · rw [List.getElem?_range h, gd_in (by omega), gd_in (by omega)]
    rfl
  · rw [List.getElem?_eq_none (show (List.range n).length ≤ i by rw [List.length_range]; omega), List.getElem?_eq_none (show xs.length ≤ i by omega)]
    rfl
theorem ww_len {b : Nat} : ∀ (Xs hs : List Nat), Xs.length = hs.length → (ww b Xs hs).length = Xs.length
  | [], [], _ => rfl
  | [], _ :: _, h => by cases h
  | _ :: _, [], h => by cases h
  | X :: r, h :: hs, hl => by
    have ih := ww_len (b := b) r hs (by simpa using hl)
    show (_ :: List.zipWith _ _ _).length = _
    rw [List.length_cons, List.length_zipWith, ih, Nat.min_self, List.length_cons]
theorem xl_ws {b : Nat} (hb : Wd b) {xs : List Nat} (h : Ws b xs) : xl xs < span b := xl_lt hb xs h
theorem ww_ws {b : Nat} (hb : Wd b) : ∀ (Xs hs : List Nat), Ws b hs → Ws b (ww b Xs hs)
  | [], _, _ => fun x hx => nomatch hx
  | _ :: _, [], _ => fun x hx => nomatch hx
  | X :: r, h :: hs, hw => by
    have ih := ww_ws hb r hs fun x hx => hw x (List.mem_cons_of_mem _ hx)
    have hz : Ws b (List.zipWith (fun s p => quo b s (p ^^^ X)) (ww b r hs) r) := by
      generalize ww b r hs = q at ih
      clear hw
      induction q generalizing r with
      | nil => exact fun x hx => nomatch hx
      | cons y q iq =>
        cases r with
        | nil => exact fun x hx => nomatch hx
        | cons Y r =>
          intro x hx
          rcases List.mem_cons.mp hx with rfl | hx
          · exact mul_lt hb (ih y (List.mem_cons_self ..))
          · exact iq r (fun x hx => ih x (List.mem_cons_of_mem _ hx)) x hx
    intro x hx
    rcases List.mem_cons.mp hx with rfl | hx
    · exact xor_lt hb (hw h (List.mem_cons_self ..)) (xl_ws hb hz)
    · exact hz x hx
theorem drop_gd {xs : List Nat} {o : Nat} (h : o < xs.length) : xs.drop o = gd xs o :: xs.drop (o + 1) := by
  rw [List.drop_eq_getElem_cons h]
  congr 1
  have e := gd_in h
  rw [List.getElem?_eq_getElem h] at e
  exact Option.some.inj e
theorem ww_drop {b o : Nat} {Xs hs : List Nat} (h1 : o < Xs.length) (h2 : o < hs.length) :
    ww b (Xs.drop o) (hs.drop o) = (gd hs o ^^^ xl (List.zipWith (fun s p => quo b s (p ^^^ gd Xs o)) (ww b (Xs.drop (o + 1)) (hs.drop (o + 1))) (Xs.drop (o + 1)))) :: List.zipWith (fun s p => quo b s (p ^^^ gd Xs o)) (ww b (Xs.drop (o + 1)) (hs.drop (o + 1))) (Xs.drop (o + 1)) := by
  rw [drop_gd h1, drop_gd h2]
  rfl
theorem nodup_gd {xs : List Nat} (h : xs.Nodup) {i j : Nat} (hi : i < xs.length) (hj : j < xs.length) (e : gd xs i = gd xs j) : i = j := by
  have a := gd_in hi
  have c := gd_in hj
  rw [List.getElem?_eq_getElem hi] at a
  rw [List.getElem?_eq_getElem hj] at c
  have e2 : xs[i] = xs[j] := by rw [Option.some.inj a, Option.some.inj c, e]
  exact (List.getElem_inj h).mp e2
def sp_ww (K : PySem.W.Frag) (F : Addr) : Sp := fun vs H Q _ => ∃ (p a a2 : Addr) (b : Nat) (Xs hs : List Nat), vs = [.ref p, .ref a, .ref a2] ∧ Wd b ∧ FieldAt K F H p b ∧ H a = some (.lst (Xs.map vN)) ∧ H a2 = some (.lst (hs.map vN)) ∧ Ws b Xs ∧ Ws b hs ∧ Xs.length = hs.length ∧ Xs.length ≤ 600 ∧ Xs.Nodup ∧
  ∀ r H', Same H H' → H r = none → H' r = some (.lst ((ww b Xs hs).map vN)) → Q (.ref r) H'
theorem ok_wrong_words (T : Txt K mg) : FnOk P w K mg base CX0 2 T.f_wrong_words T.d_wrong_words ["field", "places", "heads"] (sp_ww K T.C_Field) := by
  refine T.F_wrong_words.ok sc_wrong_words (fun vs H Q E h => ?_) (fun cdv A outer s H vs Q E hr h => ?_)
  · obtain ⟨p, a, a2, b, Xs, hs, rfl, _⟩ := h
    rfl
  · obtain ⟨p, a, a2, b, Xs, hs, rfl, hb, hF, hX, hH, wX, wH, lX, l3, nd, q⟩ := h
    refine ⟨_, (pss_cons (ps_set (i := 3) sc_wrong_words.nd rfl (.inl rfl) (pe_lst pa_nil))
      (pss_cons (ps_for PassesOwn.never rfl (pi_range3 (by rfl) T.n_range (pa_cons (pe_op op_sub (pe_callB call_len_seq (by rfl) T.n_len (by decide +kernel) (pa_cons (pv 1) pa_nil)) pe_int) (pa_cons (pe_un un_neg pe_int) (pa_cons (pe_un un_neg pe_int) pa_nil)))) (pg_name (i := 4) sc_wrong_words.nd rfl (.inr rfl)) (pss_cons (ps_set (i := 5) sc_wrong_words.nd rfl (.inl rfl) (pe_slice sl_list (pv 1) (po_some (pe_op op_add (pv 4) pe_int)) po_none))
      (pss_cons (ps_setLc (i := 3) (own := [("share", 6), ("place", 8)]) (g := gTup K 2 (gCons (gName 6) (gCons (gName 8) gNil))) rfl sc_wrong_words.nd rfl rfl (sw_true rfl rfl rfl (by decide +kernel)) (pi_zip (by rfl) T.n_zip (pa_cons (pv 3) (pa_cons (pv 5) pa_nil))) (blkOk_by (N := ["field", "places", "heads", "shares", "own", "later", "share", "rest", "place"]) (sc := defScope s_wrong_words) (by decide +kernel)) (fun _ _ _ _ _ => by (refine pg_tup ?_ ?_); (exact rfl); (refine pgs_cons ?_ ?_); (exact (pg_name (i := 6) sc_wrong_words.nd rfl (.inl rfl))); (refine pgs_cons ?_ ?_); (exact (pg_name (i := 8) sc_wrong_words.nd rfl (.inl rfl))); (exact pgs_nil)) (fun _ _ _ _ _ => by exact pts_nil) (fun _ _ _ _ _ => by exact (pe_meth (pv 0) T.cl_Field T.m_Field_over (ok_Field_over T) (hr.mono (by decide)) T.b_Field_over .nil pass0 (pa_cons (pv 6) (pa_cons (pe_op op_xor (pv 8) (pe_ix (ix_rowBK (K := K) rfl) (pv 1) (pv 4) (fun _ _ => rfl))) pa_nil)))))
      (pss_cons (ps_set (i := 7) sc_wrong_words.nd rfl (.inl rfl) (pe_ix ix_list (pv 2) (pv 4) (fun _ _ => rfl)))
      (pss_cons (ps_for PassesOwn.never rfl (pi_list (pv 3)) (pg_name (i := 6) sc_wrong_words.nd rfl (.inl rfl)) (pss_one (ps_aug (i := 7) sc_wrong_words.nd rfl (.inl rfl) (pv 6) (pip_of iop_xor))))
      (pss_one (ps_set (i := 3) sc_wrong_words.nd rfl (.inl rfl) (pe_op op_cat (pe_lst (pa_cons (pv 7) pa_nil)) (pv 3)))))))))
      (pss_one (ps_ret (pv 3))))), ?_⟩
    refine ⟨Nat.zero_le _, fun s0 hs0 => ?_⟩
    have sA := same_upd (o := .lst []) hs0
    have hrg : RgC (((Xs.map vN).length : Int) - 1) (-1) (-1) Xs.length := by
      have h := RgC.neg (i := ((Xs.map vN).length : Int) - 1) (j := -1) (by simp only [List.length_map]; omega) (by simp only [List.length_map]; omega) (by decide) (by decide)
      have e : (((Xs.map vN).length : Int) - 1 - (-1)).toNat = Xs.length := by simp only [List.length_map]; omega
      rw [e] at h
      exact h
    refine ⟨_, rfl, a, _, rfl, .inl (.inl (.inl (sA _ _ hX))), _, _, rfl, rfl, _, rfl, _, rfl, _, _, _, Xs.length, rfl, hrg, ?_⟩
    refine for_rangeC (lo := ((Xs.map vN).length : Int) - 1) (c := -1) (n := Xs.length) (fun i σ H' => ∃ (sh : Addr) (z4 z5 z6 z7 z8 : Option V), σ = [some (.ref p), some (.ref a), some (.ref a2), some (.ref sh), z4, z5, z6, z7, z8] ∧ Same H H' ∧ H sh = none ∧ H' sh = some (.lst ((ww b (Xs.drop (Xs.length - i)) (hs.drop (Xs.length - i))).map vN)))
      ⟨s0, _, _, _, _, _, rfl, sA, hs0, by rw [upd_same, Nat.sub_zero, List.drop_length, lX, List.drop_length]; rfl⟩ ?_ ?_
    · rintro i σ H1 hi ⟨sh, z4, z5, z6, z7, z8, rfl, sm, nsh, hS⟩
      obtain ⟨o, eo⟩ : ∃ o : Nat, o = Xs.length - 1 - i := ⟨_, rfl⟩
      have oX : o < Xs.length := by omega
      have oH : o < hs.length := by omega
      have en : Xs.length - i = o + 1 := by omega
      have en2 : Xs.length - (i + 1) = o := by omega
      rw [en] at hS
      rw [en2]
      have ei : ((Xs.map vN).length : Int) - 1 + (i : Int) * (-1) = (o : Int) := by simp only [List.length_map]; omega
      rw [ei]
      have dX := ww_drop (b := b) oX oH
      have lq : (ww b (Xs.drop (o + 1)) (hs.drop (o + 1))).length = i := by
        rw [ww_len _ _ (by rw [List.length_drop, List.length_drop, lX]), List.length_drop]
        omega
      have wq := ww_ws hb (Xs.drop (o + 1)) (hs.drop (o + 1)) fun x hx => wH x (List.mem_of_mem_drop hx)
      have lY : (Xs.drop (o + 1)).length = i := by rw [List.length_drop]; omega
      have wY : Ws b (Xs.drop (o + 1)) := fun x hx => wX x (List.mem_of_mem_drop hx)
      generalize hq' : ww b (Xs.drop (o + 1)) (hs.drop (o + 1)) = qs at hS dX lq wq
      rw [dX]
      have ec : cutV (Xs.map vN) (some ((o : Int) + 1)) none = (Xs.drop (o + 1)).map vN := by
        have e := cut_from (Xs.map vN) (o + 1) (by rw [List.length_map]; omega)
        rw [← List.map_drop] at e
        exact e
      refine ⟨_, rfl, _, rfl, _, _, rfl, rfl, _, rfl, a, _, rfl, .inl (.inl (sm _ _ hX)), fun lt hlt => ?_⟩
      have s2 := same_upd (o := .lst (cutV (Xs.map vN) (some ((o : Int) + 1)) none)) hlt
      have hlt2 := upd_same (H := H1) (a := lt) (o := .lst (cutV (Xs.map vN) (some ((o : Int) + 1)) none))
      generalize (upd H1 lt (.lst (cutV (Xs.map vN) (some ((o : Int) + 1)) none))) = H2 at s2 hlt2 ⊢
      rw [ec] at hlt2
      have sm2 := sm.trans s2
      have hS2 := s2 _ _ hS
      refine ⟨_, rfl, _, rfl, sh, lt, _, _, rfl, .inl (.inl hS2), .inl (.inl hlt2), fun D hD => ?_⟩
      refine lc_it (walk_zip (K := K) (a := sh) (b := lt) (xs := qs.map vN) (ys := (Xs.drop (o + 1)).map vN) (n := i) (by rw [List.length_map, List.length_map, lq, lY]; omega))
        (fun j H' => Same H2 H' ∧ H' D = some (.lst (((List.range j).map fun k => quo b (gd qs k) (gd (Xs.drop (o + 1)) k ^^^ gd Xs o)).map vN)))
        ⟨same_upd hD, upd_same⟩ (fun j H' _ h => ⟨.inl (.inl (h.1 _ _ hS2)), .inl (.inl (h.1 _ _ hlt2))⟩) ?_ ?_
      · rintro j xv H3 H4 hj ⟨sm3, g3⟩ ⟨T1, x1, y1, rfl, hT1, rfl, e3, e4⟩
        have ex := word_at (by omega) e3
        have ey := word_at (by omega) e4
        subst ex ey
        have sT := same_upd (o := .tup [vN (gd qs j), vN (gd (Xs.drop (o + 1)) j)]) hT1
        have sm4 := sm2.trans (sm3.trans sT)
        refine ⟨T1, [_, _], rfl, .inl (.inl upd_same), rfl, _, [_], rfl, _, [], rfl, rfl, rfl, ?_⟩
        obtain ⟨dx, q1, r, g1, g2, g3'⟩ := (hF.same sm4).ex
        have ne : gd (Xs.drop (o + 1)) j ^^^ gd Xs o ≠ 0 := xor_ne fun e => by
          have e5 : gd (Xs.drop (o + 1)) j = gd Xs (o + 1 + j) := by
            unfold gd
            rw [List.getD_eq_getElem?_getD, List.getD_eq_getElem?_getD, List.getElem?_drop]
          rw [e5] at e
          have e6 := nodup_gd nd (by omega) oX e
          omega
        refine ⟨_, rfl, p, dx, _, rfl, g1, rfl, _, rfl, _, rfl, _, rfl, _, rfl, a, _, _, vN (gd Xs o), true, rfl, rfl, .lst (sm4 _ _ hX), atI_nat (by rw [List.getElem?_map, gd_in oX]; rfl), _, _, rfl, rfl, ?_⟩
        refine ⟨p, b, gd qs j, gd (Xs.drop (o + 1)) j ^^^ gd Xs o, congrArg (fun z => [V.ref p, vN (gd qs j), V.int z]) (bx _ _), hb, hF.same sm4, gd_lt hb wq j, xor_lt hb (gd_lt hb wY j) (gd_lt hb wX o), ne, ?_⟩
        exact acc_step (f := fun k => quo b (gd qs k) (gd (Xs.drop (o + 1)) k ^^^ gd Xs o)) (sm3.trans sT) hD (sT _ _ g3) (by omega) rfl
      rintro H3 ⟨sm3, gD⟩
      rw [zw_is (F := fun s p => quo b s (p ^^^ gd Xs o)) lq lY] at gD
      have lz : (List.zipWith (fun s p => quo b s (p ^^^ gd Xs o)) qs (Xs.drop (o + 1))).length = i := by rw [List.length_zipWith, lq, lY, Nat.min_self]
      generalize List.zipWith (fun s p => quo b s (p ^^^ gd Xs o)) qs (Xs.drop (o + 1)) = zs at gD lz ⊢
      have sm5 := sm2.trans sm3
      refine ⟨_, rfl, _, rfl, a2, _, _, vN (gd hs o), rfl, rfl, .inl (.inl (sm5 _ _ hH)), atI_nat (by rw [List.getElem?_map, gd_in oH]; rfl), ?_⟩
      refine ⟨_, rfl, D, rfl, ⟨_, .inl (.inl gD)⟩, ?_⟩
      refine for_it (walk_list (K := K) (a := D) (xs := zs.map vN)) (fun j σ H' => ∃ (z7 : Option V), σ = [some (.ref p), some (.ref a), some (.ref a2), some (.ref D), some (.int (o : Int)), some (.ref lt), z7, some (vN (gd hs o ^^^ xl (zs.take j))), z8] ∧ H' = H3)
        ⟨_, by show _ = [_, _, _, _, _, _, z6, some (vN (gd hs o ^^^ 0)), _]; rw [Nat.xor_zero]; rfl, rfl⟩ (fun j σ H' _ ⟨_, _, e⟩ => by rw [e]; exact .inl (.inl gD)) ?_ ?_
      · rintro j x σ H4 H5 hj ⟨z7, rfl, rfl⟩ ⟨rfl, e2⟩
        rw [List.length_map] at hj
        have ex := word_at hj e2
        subst ex
        refine ⟨_, rfl, _, rfl, _, _, rfl, rfl, some (vN (gd zs j)), ?_, rfl⟩
        show [_, _, _, _, _, _, _, some (V.int (Builtin.bitXor _ _)), _] = _
        rw [bx, take_one hj, xl_app, ← Nat.xor_assoc]
        show _ = [_, _, _, _, _, _, _, some (vN (gd hs o ^^^ xl (List.take j zs) ^^^ (gd zs j ^^^ 0))), _]
        rw [Nat.xor_zero]
        rfl
      · rintro σ H4 ⟨z7, rfl, rfl⟩
        rw [List.length_map, List.take_length]
        refine ⟨_, rfl, (by show 1 ≤ sizeLine; decide), fun y hy => ?_⟩
        have sy := same_upd (o := .lst [vN (gd hs o ^^^ xl zs)]) hy
        refine ⟨_, rfl, y, D, _, _, rfl, rfl, upd_same, sy _ _ gD, ?_, fun u hu => ?_⟩
        · simp only [List.length_map, List.length_singleton]
          exact Nat.le_of_lt (small1000 (by omega))
        have su := same_upd (o := .lst ([vN (gd hs o ^^^ xl zs)] ++ zs.map vN)) hu
        refine ⟨u, some (.int (o : Int)), some (.ref lt), z7, some (vN (gd hs o ^^^ xl zs)), z8, rfl, sm5.trans (sy.trans su), Same.free (sm5.trans sy) hu, ?_⟩
        rw [upd_same]
        rfl
    · rintro σ H1 ⟨sh, z4, z5, z6, z7, z8, rfl, sm, nsh, hS⟩
      rw [Nat.sub_self, List.drop_zero, List.drop_zero] at hS
      exact ⟨_, rfl, q sh H1 sm nsh hS⟩
/-! CUT -/
theorem acc_yes {H1 H' : Hp} {D : Addr} {P : Nat → Bool} {i : Nat} (sm : Same H1 H') (hD : H1 D = none) (g : H' D = some (.lst (((List.range i).filter P).map vN))) (hi : i < 1000) (hp : P i = true) :
    ∃ acc, H' D = some (.lst acc) ∧ acc.length < sizeLine ∧ Same H1 (upd H' D (.lst (acc ++ [vN i]))) ∧ (upd H' D (.lst (acc ++ [vN i]))) D = some (.lst (((List.range (i + 1)).filter P).map vN)) := by
  refine ⟨_, g, ?_, fun c o hc => ?_, ?_⟩
  · have h := List.length_filter_le P (List.range i)
    rw [List.length_range] at h
    rw [List.length_map]
    exact small1000 (by omega)
  · rw [upd_ne (ne_of_none hc hD)]
    exact sm _ _ hc
  · rw [upd_same, filter_snoc, if_pos hp, List.map_append]
    rfl
theorem acc_no {P : Nat → Bool} {i : Nat} (hp : P i = false) : ((List.range (i + 1)).filter P).map vN = ((List.range i).filter P).map vN := by
  rw [filter_snoc, hp, if_neg Bool.false_ne_true, List.append_nil]
theorem mendP_snoc {b s n : Nat} {p : Nat × Nat} : ∀ (l : List (Nat × Nat)) (acc : List Nat), mendP b s n acc (l ++ [p]) = (mendP b s n acc l).set p.1 (gd (mendP b s n acc l) p.1 ^^^ quo b p.2 (pw b ((n - 1 - p.1) * s)))
  | [], _ => rfl
  | q :: r, acc => mendP_snoc r _
theorem zip_take {xs ys : List Nat} {i : Nat} (hx : i < xs.length) (hy : i < ys.length) : (xs.zip ys).take (i + 1) = (xs.zip ys).take i ++ [(gd xs i, gd ys i)] := by
  have h : (xs.zip ys)[i]? = some (gd xs i, gd ys i) := by
    rw [List.getElem?_zip_eq_some]
    exact ⟨gd_in hx, gd_in hy⟩
  rw [List.take_add_one, h]
  rfl
theorem mem_gaps {row : List (Option Nat)} {i : Nat} (h : i ∈ gapsL row) : i < row.length ∧ (og row i).isNone = true := by
  obtain ⟨h1, h2⟩ := List.mem_filter.mp h
  exact ⟨List.mem_range.mp h1, h2⟩
theorem mem_ly {b : Nat} {row : List (Option Nat)} {C : List Nat} {i : Nat} (h : i ∈ lyL b row C) : i < row.length ∧ (og row i).isSome = true := by
  obtain ⟨h1, h2⟩ := List.mem_filter.mp h
  rw [Bool.and_eq_true] at h2
  exact ⟨List.mem_range.mp h1, h2.1⟩
theorem wrong_nodup {b : Nat} (hb : Wd b) {row : List (Option Nat)} {C : List Nat} (hn : row.length ≤ turn b) : ((gapsL row ++ lyL b row C).map (pl b row.length)).Nodup := by
  have n1 : (gapsL row).Nodup := List.nodup_range.filter _
  have n2 : (lyL b row C).Nodup := List.nodup_range.filter _
  refine nodup_map _ (List.nodup_append.mpr ⟨n1, n2, fun i hi j hj e => ?_⟩) fun i hi j hj h => pl_inj hb hn ?_ ?_ h
  · subst e
    have h1 := (mem_gaps hi).2
    have h2 := (mem_ly hj).2
    cases h : og row i with
    | none => rw [h] at h2; cases h2
    | some x => rw [h] at h1; cases h1
  · exact (List.mem_append.mp hi).elim (fun h => (mem_gaps h).1) fun h => (mem_ly h).1
  · exact (List.mem_append.mp hj).elim (fun h => (mem_gaps h).1) fun h => (mem_ly h).1
theorem wrong_few {b : Nat} {row : List (Option Nat)} {C : List Nat} : (gapsL row).length + (lyL b row C).length ≤ 2 * row.length := by
  have h1 := List.length_filter_le (fun i => (og row i).isNone) (List.range row.length)
  have h2 := List.length_filter_le (fun i => (og row i).isSome && decide (evl b (pl b row.length i) C = 0)) (List.range row.length)
  rw [List.length_range] at h1 h2
  show ((List.range row.length).filter fun i => (og row i).isNone).length + ((List.range row.length).filter fun i => (og row i).isSome && decide (evl b (pl b row.length i) C = 0)).length ≤ _
  omega
theorem gap_dec {o : Option Nat} : decide (vO o = V.non) = o.isNone := by
  cases o with
  | none => rfl
  | some x => exact decide_eq_false (fun h => by cases h)
def sp_mend (K : PySem.W.Frag) (F : Addr) : Sp := fun vs H Q _ => ∃ (p a su : Addr) (k : Bool) (b s : Nat) (row : List (Option Nat)) (S : List Nat), vs = [.ref p, vN s, .ref a, .ref su] ∧ Wd b ∧ FieldAt K F H p b ∧ SqB k K H a (row.map vO) ∧ RowOk b row ∧ row.length ≤ turn b ∧ H su = some (.lst (S.map vN)) ∧ Ws b S ∧ S.length ≤ 100 ∧
  (mendF b s row S = none → ∀ H', Same H H' → Q .non H') ∧
  ∀ w ly, mendF b s row S = some (w, ly) → ∀ t l u H', Same H H' → H' t = some (.tup [.ref l, .ref u]) → H' l = some (.lst (w.map vN)) → H' u = some (.tup (ly.map vN)) → H l = none → H t = none → H u = none → Q (.ref t) H'
theorem ok_mended_row (T : Txt K mg) : FnOk P w K mg base CX0 4 T.f_mended_row T.d_mended_row ["field", "start", "row", "sums"] (sp_mend K T.C_Field) := by
  refine T.F_mended_row.ok sc_mended_row (fun vs H Q E h => ?_) (fun cdv A outer s H vs Q E hr h => ?_)
  · obtain ⟨p, a, su, k, b, s, row, S, rfl, _⟩ := h
    rfl
  · obtain ⟨p, a, su, k, b, s0, row, S, rfl, hb, hF, hq, hrow, hn, hS, wS, lS, qn, qs⟩ := h
    refine ⟨_, (pss_cons (ps_setLc (i := 5) (own := [("at", 4), ("word", 15)]) (g := gTup K 2 (gCons (gName 4) (gCons (gName 15) gNil))) rfl sc_mended_row.nd rfl rfl (sw_true rfl rfl rfl (by decide +kernel)) (pi_enumS (by rfl) T.n_enumerate (pa_cons (pv 2) pa_nil)) (blkOk_by (N := ["field", "start", "row", "sums", "at", "gaps", "places", "heads", "rule", "lying", "more", "rest", "found", "wrong", "share", "word"]) (sc := defScope s_mended_row) (by decide +kernel)) (fun _ _ _ _ _ => by (refine pg_tup ?_ ?_); (exact rfl); (refine pgs_cons ?_ ?_); (exact (pg_name (i := 4) sc_mended_row.nd rfl (.inl rfl))); (refine pgs_cons ?_ ?_); (exact (pg_name (i := 15) sc_mended_row.nd rfl (.inl rfl))); (exact pgs_nil)) (fun _ _ _ _ _ => by exact (pts_one (pt_cmpR op_isN (pv 15) pe_non (nomark _)))) (fun _ _ _ _ _ => by exact (pv 4)))
      (pss_cons (ps_if (pt_cmpR op_gt (pe_callB call_len_seq (by rfl) T.n_len (by decide +kernel) (pa_cons (pv 5) pa_nil)) (pe_callB call_len_seq (by rfl) T.n_len (by decide +kernel) (pa_cons (pv 3) pa_nil)) (nomark _)) (pss_one (ps_ret pe_non)) pss_nil)
      (pss_cons (ps_set (i := 6) sc_mended_row.nd rfl (.inr rfl) (pe_lc (own := [("at", 4)]) rfl sc_mended_row.nd (pi_range1 (by rfl) T.n_range (pa_cons (pe_callB (call_len_seqK (K := K) rfl) (by rfl) T.n_len (by decide +kernel) (pa_cons (pv 2) pa_nil)) pa_nil)) (blkOk_by (N := ["field", "start", "row", "sums", "at", "gaps", "places", "heads", "rule", "lying", "more", "rest", "found", "wrong", "share", "word"]) (sc := defScope s_mended_row) (by decide +kernel)) (fun _ _ _ _ _ => by exact (pg_name (i := 4) sc_mended_row.nd rfl (.inl rfl))) (fun _ _ _ _ _ => by exact pts_nil) (fun _ _ _ _ _ => by exact (pe_meth (pv 0) T.cl_Field T.m_Field_two_to (ok_Field_two_to T) (hr.mono (by decide)) T.b_Field_two_to .nil pass0 (pa_cons (pe_op op_sub (pe_op op_sub (pe_callB (call_len_seqK (K := K) rfl) (by rfl) T.n_len (by decide +kernel) (pa_cons (pv 2) pa_nil)) pe_int) (pv 4)) pa_nil)))))
      (Evl.pss_cut (ps_asg (pe_call (ok_heads_and_rest T) (hr.mono (by decide)) (by rfl) T.g_heads_and_rest T.F_heads_and_rest.kp T.b_heads_and_rest .nil pass0 (pa_cons (pv 0) (pa_cons (pv 3) (pa_cons (pe_lc (own := [("at", 4)]) rfl sc_mended_row.nd (pi_list (pv 5)) (blkOk_by (N := ["field", "start", "row", "sums", "at", "gaps", "places", "heads", "rule", "lying", "more", "rest", "found", "wrong", "share", "word"]) (sc := defScope s_mended_row) (by decide +kernel)) (fun _ _ _ _ _ => by exact (pg_name (i := 4) sc_mended_row.nd rfl (.inl rfl))) (fun _ _ _ _ _ => by exact pts_nil) (fun _ _ _ _ _ => by exact (pe_ix (ix_rowBK (K := K) rfl) (pv 6) (pv 4) (fun _ _ => rfl)))) pa_nil)))) (pg_tup rfl (pgs_cons (pg_name (i := 7) sc_mended_row.nd rfl (.inl rfl)) (pgs_cons (pg_name (i := 3) sc_mended_row.nd rfl (.inl rfl)) pgs_nil))))
      (pss_cons (ps_set (i := 8) sc_mended_row.nd rfl (.inr rfl) (pe_call (ok_shortest_rule T) (hr.mono (by decide)) (by rfl) T.g_shortest_rule T.F_shortest_rule.kp T.b_shortest_rule .nil pass0 (pa_cons (pv 0) (pa_cons (pv 3) pa_nil))))
      (pss_cons (ps_setLc (i := 9) (own := [("at", 4), ("word", 15)]) (g := gTup K 2 (gCons (gName 4) (gCons (gName 15) gNil))) rfl sc_mended_row.nd rfl rfl (sw_true rfl rfl rfl (by decide +kernel)) (pi_enumS (by rfl) T.n_enumerate (pa_cons (pv 2) pa_nil)) (blkOk_by (N := ["field", "start", "row", "sums", "at", "gaps", "places", "heads", "rule", "lying", "more", "rest", "found", "wrong", "share", "word"]) (sc := defScope s_mended_row) (by decide +kernel)) (fun _ _ _ _ _ => by (refine pg_tup ?_ ?_); (exact rfl); (refine pgs_cons ?_ ?_); (exact (pg_name (i := 4) sc_mended_row.nd rfl (.inl rfl))); (refine pgs_cons ?_ ?_); (exact (pg_name (i := 15) sc_mended_row.nd rfl (.inl rfl))); (exact pgs_nil)) (fun _ _ _ _ _ => by exact (pts_one (PW.pt (pw_and (pt_cmpR op_notN (pv 15) pe_non (nomark _)) (pw_and1 (pt_cmpR op_eq (pe_call (ok_value_at T) (hr.mono (by decide)) (by rfl) T.g_value_at T.F_value_at.kp T.b_value_at .nil pass0 (pa_cons (pv 0) (pa_cons (pv 8) (pa_cons (pe_ix (ix_rowBK (K := K) rfl) (pv 6) (pv 4) (fun _ _ => rfl)) pa_nil)))) pe_int (nomark _))))))) (fun _ _ _ _ _ => by exact (pv 4)))
      (pss_cons (ps_if (pt_cmpR op_gt (pe_op op_mul pe_int (pe_callB call_len_seq (by rfl) T.n_len (by decide +kernel) (pa_cons (pv 9) pa_nil))) (pe_callB call_len_seq (by rfl) T.n_len (by decide +kernel) (pa_cons (pv 3) pa_nil)) (nomark _)) (pss_one (ps_ret pe_non)) pss_nil)
      (pss_cons (ps_asg (pe_call (ok_heads_and_rest T) (hr.mono (by decide)) (by rfl) T.g_heads_and_rest T.F_heads_and_rest.kp T.b_heads_and_rest .nil pass0 (pa_cons (pv 0) (pa_cons (pv 3) (pa_cons (pe_lc (own := [("at", 4)]) rfl sc_mended_row.nd (pi_list (pv 9)) (blkOk_by (N := ["field", "start", "row", "sums", "at", "gaps", "places", "heads", "rule", "lying", "more", "rest", "found", "wrong", "share", "word"]) (sc := defScope s_mended_row) (by decide +kernel)) (fun _ _ _ _ _ => by exact (pg_name (i := 4) sc_mended_row.nd rfl (.inl rfl))) (fun _ _ _ _ _ => by exact pts_nil) (fun _ _ _ _ _ => by exact (pe_ix (ix_rowBK (K := K) rfl) (pv 6) (pv 4) (fun _ _ => rfl)))) pa_nil)))) (pg_tup rfl (pgs_cons (pg_name (i := 10) sc_mended_row.nd rfl (.inl rfl)) (pgs_cons (pg_name (i := 11) sc_mended_row.nd rfl (.inl rfl)) pgs_nil))))
      (pss_cons (ps_if (pt_val (pe_callB (cr_anyN rfl) (by rfl) T.n_any (by decide +kernel) (pa_cons (pv 11) pa_nil))) (pss_one (ps_ret pe_non)) pss_nil)
      (Evl.pss_cut (ps_setLc (i := 12) (own := [("word", 15)]) rfl sc_mended_row.nd rfl rfl (sw_true rfl rfl rfl (by decide +kernel)) (pi_seq (pv 2)) (blkOk_by (N := ["field", "start", "row", "sums", "at", "gaps", "places", "heads", "rule", "lying", "more", "rest", "found", "wrong", "share", "word"]) (sc := defScope s_mended_row) (by decide +kernel)) (fun _ _ _ _ _ => by exact (pg_name (i := 15) sc_mended_row.nd rfl (.inl rfl))) (fun _ _ _ _ _ => by exact pts_nil) (fun _ _ _ _ _ => by exact (pe_ifExp (pt_cmpR op_isN (pv 15) pe_non (nomark _)) pe_int (pv 15))))
      (pss_cons (ps_set (i := 13) sc_mended_row.nd rfl (.inl rfl) (pe_op op_cat (pv 5) (pv 9)))
      (pss_cons (ps_for PassesOwn.never rfl (pi_zip (by rfl) T.n_zip (pa_cons (pv 13) (pa_cons (pe_call (ok_wrong_words T) (hr.mono (by decide)) (by rfl) T.g_wrong_words T.F_wrong_words.kp T.b_wrong_words .nil pass0 (pa_cons (pv 0) (pa_cons (pe_lc (own := [("at", 4)]) rfl sc_mended_row.nd (pi_list (pv 13)) (blkOk_by (N := ["field", "start", "row", "sums", "at", "gaps", "places", "heads", "rule", "lying", "more", "rest", "found", "wrong", "share", "word"]) (sc := defScope s_mended_row) (by decide +kernel)) (fun _ _ _ _ _ => by exact (pg_name (i := 4) sc_mended_row.nd rfl (.inl rfl))) (fun _ _ _ _ _ => by exact pts_nil) (fun _ _ _ _ _ => by exact (pe_ix (ix_rowBK (K := K) rfl) (pv 6) (pv 4) (fun _ _ => rfl)))) (pa_cons (pe_op op_cat (pv 7) (pv 10)) pa_nil)))) pa_nil))) (pg_tup rfl (pgs_cons (pg_name (i := 4) sc_mended_row.nd rfl (.inl rfl)) (pgs_cons (pg_name (i := 14) sc_mended_row.nd rfl (.inl rfl)) pgs_nil))) (pss_one (ps_augS (pv 12) (pv 4) get_list (pe_meth (pv 0) T.cl_Field T.m_Field_over (ok_Field_over T) (hr.mono (by decide)) T.b_Field_over .nil pass0 (pa_cons (pv 14) (pa_cons (pe_meth (pv 0) T.cl_Field T.m_Field_two_to (ok_Field_two_to T) (hr.mono (by decide)) T.b_Field_two_to .nil pass0 (pa_cons (pe_op op_mul (pe_op op_sub (pe_op op_sub (pe_callB (call_len_seqK (K := K) rfl) (by rfl) T.n_len (by decide +kernel) (pa_cons (pv 2) pa_nil)) pe_int) (pv 4)) (pv 1)) pa_nil)) pa_nil))) (pip_of iop_xor) set_list)))
      (pss_one (ps_ret (pe_tup (pa_cons (pv 12) (pa_cons (pe_tupleOf (by rfl) T.n_tuple (pv 9)) pa_nil))))))))))))))))), ?_⟩
    have hT := turn_pos hb
    have hT2 : turn b ≤ 255 := by rcases hb with rfl | rfl <;> decide
    refine ⟨_, rfl, a, _, k, rfl, hq, fun G hG => ?_⟩
    refine lc_it (walk_enumS (b := k) (K := K) (a := a) (xs := row.map vO)) (fun i H' => Same H H' ∧ H' G = some (.lst (((List.range i).filter fun i => (og row i).isNone).map vN)))
      ⟨same_upd hG, upd_same⟩ (fun i H' _ h => Same.sqb h.1 hq) ?_ ?_
    · rintro i v H1 H2 hi ⟨sm, g⟩ ⟨T1, x1, y1, rfl, hT1, rfl, e1, e2⟩
      rw [List.length_map] at hi
      have ex : x1 = .int (i : Int) := (Option.some.inj e1).symm
      have ey := og_at hi e2
      subst ex ey
      have sT := same_upd (o := .tup [.int (i : Int), vO (og row i)]) hT1
      refine ⟨T1, [_, _], rfl, .inl (.inl upd_same), rfl, _, [_], rfl, _, [], rfl, rfl, rfl, ?_⟩
      refine ⟨_, rfl, rfl, _, rfl, ?_⟩
      rw [gap_dec]
      cases ho : (og row i).isNone with
      | true => exact iteT ⟨_, rfl, acc_yes (P := fun i => (og row i).isNone) (sm.trans sT) hG (sT _ _ g) (by omega) ho⟩
      | false =>
        refine iteF ⟨sm.trans sT, ?_⟩
        rw [acc_no (P := fun i => (og row i).isNone) ho]
        exact sT _ _ g
    rintro H1 ⟨s1, hG1'⟩
    have hG1 : H1 G = some (.lst ((gapsL row).map vN)) := by
      rw [List.length_map] at hG1'
      exact hG1'
    clear hG1'
    refine ⟨_, rfl, G, _, rfl, .inl (.inl (.inl hG1)), _, rfl, su, _, rfl, .inl (.inl (.inl (s1 _ _ hS))), _, _, rfl, rfl, _, rfl, ?_⟩
    simp only [List.length_map]
    by_cases c1 : S.length < (gapsL row).length
    · rw [decide_eq_true (show ((gapsL row).length : Int) > (S.length : Int) by omega)]
      refine iteT (qn ?_ H1 s1)
      unfold mendF
      rw [if_pos c1]
    rw [decide_eq_false (show ¬ ((gapsL row).length : Int) > (S.length : Int) by omega)]
    refine iteF ?_
    -- places
    refine ⟨_, rfl, a, _, rfl, (Same.sqb s1 hq).or, _, rfl, ?_, ?_, fun Pc hPc => ?_⟩
    · simp only [List.length_map]
      omega
    · simp only [List.length_map]
      omega
    refine lc_range (lo := 0) (fun i H' => Same H1 H' ∧ H' Pc = some (.lst (((List.range i).map fun i => pl b row.length i).map vN))) ⟨same_upd hPc, upd_same⟩ ?_ ?_
    · rintro i H' hi ⟨sm, g⟩
      have hi' : i < row.length := by simp only [List.length_map] at hi; omega
      have sm1 := s1.trans sm
      obtain ⟨dx, q1, r, g1, g2, g3⟩ := (hF.same sm1).ex
      refine ⟨rfl, ?_⟩
      refine ⟨_, rfl, p, dx, _, rfl, g1, rfl, _, rfl, a, _, rfl, (Same.sqb sm1 hq).or, _, _, rfl, rfl, _, rfl, _, _, rfl, rfl, p, b, _, rfl, hb, hF.same sm1, ?_⟩
      have e : ((row.map vO).length : Int) - 1 - ((0 : Int) + (i : Int)) = ((row.length - 1 - i : Nat) : Int) := by
        simp only [List.length_map]
        omega
      rw [e, pwI_nat hb]
      exact acc_step (f := fun i => pl b row.length i) sm hPc g (by omega) rfl
    rintro H2 ⟨s2', gP'⟩
    have gP : H2 Pc = some (.lst (((List.range row.length).map fun i => pl b row.length i).map vN)) := by
      have e : (((row.map vO).length : Int)).toNat = row.length := by simp only [List.length_map, Int.toNat_natCast]
      have g := gP'
      rw [e] at g
      exact g
    clear gP'
    have s2 := s1.trans s2'
    have hG2 := s2' _ _ hG1
    have nG : H G = none := hG
    have plat : ∀ i, i < row.length → (((List.range row.length).map fun i => pl b row.length i).map vN)[i]? = some (vN (pl b row.length i)) := fun i hi => by
      rw [List.getElem?_map, List.getElem?_map, List.getElem?_range hi]
      rfl
    -- the places of some
    have wpl : ∀ l : List Nat, Ws b (l.map (pl b row.length)) := fun l x hx => by
      obtain ⟨i, _, rfl⟩ := List.mem_map.mp hx
      exact pw_lt hb _
    obtain ⟨lh, lr⟩ := hds_len (b := b) ((gapsL row).map (pl b row.length)) S
    obtain ⟨wh, wr⟩ := hds_ws hb ((gapsL row).map (pl b row.length)) S wS
    rw [List.length_map] at lh lr
    refine ⟨fun σ' H' => ∃ hd su2 : Addr, σ' = [some (.ref p), some (vN s0), some (.ref a), some (.ref su2), none, some (.ref G), some (.ref Pc), some (.ref hd), none, none, none, none, none, none, none, none] ∧ Same H H' ∧ H' G = some (.lst ((gapsL row).map vN)) ∧
        H' Pc = some (.lst (((List.range row.length).map fun i => pl b row.length i).map vN)) ∧ H' hd = some (.lst ((hds b ((gapsL row).map (pl b row.length)) S).1.map vN)) ∧ H' su2 = some (.lst ((hds b ((gapsL row).map (pl b row.length)) S).2.map vN)), ?_, ?_⟩
    · refine ⟨_, rfl, _, rfl, _, rfl, G, rfl, ⟨_, .inl (.inl hG2)⟩, fun D hD => ?_⟩
      refine lc_it (walk_list (K := K) (a := G) (xs := (gapsL row).map vN)) (fun i H' => Same H2 H' ∧ H' D = some (.lst (((List.range i).map fun k => pl b row.length (gd (gapsL row) k)).map vN)))
        ⟨same_upd hD, upd_same⟩ (fun i H' _ h => .inl (.inl (h.1 _ _ hG2))) ?_ ?_
      · rintro i xv H3 H4 hi ⟨sm, g⟩ ⟨rfl, e3⟩
        rw [List.length_map] at hi
        have ex := word_at hi e3
        subst ex
        have lt : gd (gapsL row) i < row.length := (mem_gaps (List.mem_of_getElem? (gd_in hi))).1
        refine ⟨rfl, ?_⟩
        refine ⟨_, rfl, _, rfl, Pc, _, _, vN (pl b row.length (gd (gapsL row) i)), true, rfl, rfl, .lst (sm _ _ gP), atI_nat (plat _ lt), ?_⟩
        exact acc_step (f := fun k => pl b row.length (gd (gapsL row) k)) sm hD g (by omega) rfl
      rintro H3 ⟨s3, gD⟩
      rw [List.length_map, map_gd (gapsL row) (pl b row.length)] at gD
      refine ⟨p, su, D, b, S, _, rfl, hb, hF.same (s2.trans s3), s3 _ _ (s2 _ _ hS), gD, wS, wpl _, by rw [List.length_map]; omega, by omega, fun t hd su2 H4 s4 gt gh gr => ?_⟩
      have s34 := s3.trans s4
      exact ⟨t, [_, _], rfl, gt, rfl, _, [_], rfl, _, [], rfl, rfl, hd, su2, rfl, s2.trans s34, s34 _ _ hG2, s34 _ _ gP, gh, gr⟩
    clear hG1 s1 s2' hG2 gP s2 hG
    rintro σ' H3 ⟨hd, su2, rfl, s3, hG3, gP3, gh3, gr3⟩
    refine ⟨_, rfl, _, rfl, p, su2, b, _, rfl, hb, hF.same s3, gr3, wr, by rw [lr]; omega, fun ru H4 s4 gru => ?_⟩
    have s34 := s3.trans s4
    obtain ⟨C, eC⟩ : ∃ C, C = ruleF b (hds b ((gapsL row).map (pl b row.length)) S).2 := ⟨_, rfl⟩
    rw [← eC] at gru
    have wC : Ws b C := by
      rw [eC]
      exact (bm_inv hb wr _).wC
    have gP4 := s4 _ _ gP3
    refine ⟨_, rfl, a, _, k, rfl, Same.sqb s34 hq, fun Ly hLy => ?_⟩
    refine lc_it (walk_enumS (b := k) (K := K) (a := a) (xs := row.map vO)) (fun i H' => Same H4 H' ∧ H' Ly = some (.lst (((List.range i).filter fun i => (og row i).isSome && decide (evl b (pl b row.length i) C = 0)).map vN)))
      ⟨same_upd hLy, upd_same⟩ (fun i H' _ h => Same.sqb (s34.trans h.1) hq) ?_ ?_
    · rintro i v H5 H6 hi ⟨sm, g⟩ ⟨T1, x1, y1, rfl, hT1, rfl, e1, e2⟩
      rw [List.length_map] at hi
      have ex : x1 = .int (i : Int) := (Option.some.inj e1).symm
      have ey := og_at hi e2
      subst ex ey
      have sT := same_upd (o := .tup [.int (i : Int), vO (og row i)]) hT1
      refine ⟨T1, [_, _], rfl, .inl (.inl upd_same), rfl, _, [_], rfl, _, [], rfl, rfl, rfl, ?_⟩
      generalize (upd H5 T1 (.tup [.int (i : Int), vO (og row i)])) = H7 at sT ⊢
      refine ⟨_, rfl, rfl, _, rfl, ?_⟩
      rw [gap_dec]
      cases ho : og row i with
      | none =>
        have hP : (fun i => (og row i).isSome && decide (evl b (pl b row.length i) C = 0)) i = false := by
          show ((og row i).isSome && _) = false
          rw [ho]
          rfl
        refine iteF (iteF ⟨sm.trans sT, ?_⟩)
        rw [acc_no (P := fun i => (og row i).isSome && decide (evl b (pl b row.length i) C = 0)) hP]
        exact sT _ _ g
      | some x =>
        have smT := s34.trans (sm.trans sT)
        refine iteT ⟨_, rfl, _, rfl, _, rfl, _, rfl, Pc, _, _, vN (pl b row.length i), true, rfl, rfl, .lst (sT _ _ (sm _ _ gP4)), atI_nat (plat _ hi), p, ru, true, b, _, C, rfl, hb, hF.same smT, .lst (sT _ _ (sm _ _ (gru))), wC, pw_lt hb _, ?_⟩
        refine ⟨rfl, _, rfl, ?_⟩
        have hD : decide (vN (evl b (pl b row.length i) C) = V.int 0) = decide (evl b (pl b row.length i) C = 0) := by
          refine decide_eq_decide.mpr ⟨fun h => ?_, fun h => by rw [h]; rfl⟩
          have := V.int.inj h
          omega
        rw [hD]
        have hP : (fun i => (og row i).isSome && decide (evl b (pl b row.length i) C = 0)) i = decide (evl b (pl b row.length i) C = 0) := by
          show ((og row i).isSome && _) = _
          rw [ho]
          rfl
        cases hz : decide (evl b (pl b row.length i) C = 0) with
        | true => exact iteT ⟨_, rfl, acc_yes (P := fun i => (og row i).isSome && decide (evl b (pl b row.length i) C = 0)) (sm.trans sT) hLy (sT _ _ g) (by omega) (hP.trans hz)⟩
        | false =>
          refine iteF ⟨sm.trans sT, ?_⟩
          rw [acc_no (P := fun i => (og row i).isSome && decide (evl b (pl b row.length i) C = 0)) (hP.trans hz)]
          exact sT _ _ g
    rintro H5 ⟨s5, hL5'⟩
    obtain ⟨ly, ely⟩ : ∃ ly, ly = lyL b row C := ⟨_, rfl⟩
    have hL5 : H5 Ly = some (.lst (ly.map vN)) := by
      rw [List.length_map] at hL5'
      rw [ely]
      exact hL5'
    clear hL5'
    have s35 := s34.trans s5
    have nLy : H Ly = none := Same.free s34 hLy
    have gr5 := s5 _ _ (s4 _ _ gr3)
    have gP5 := s5 _ _ gP4
    have ilt : ∀ i ∈ ly, i < row.length := fun i hi => by
      rw [ely] at hi
      exact (mem_ly hi).1
    have few : (gapsL row).length + ly.length ≤ 510 := by
      rw [ely]
      have h := wrong_few (b := b) (row := row) (C := C)
      omega
    refine ⟨_, rfl, Ly, _, rfl, .inl (.inl (.inl hL5)), _, _, rfl, rfl, .inl ⟨by decide, by decide⟩, _, rfl, su2, _, rfl, .inl (.inl (.inl gr5)), _, _, rfl, rfl, _, rfl, ?_⟩
    simp only [List.length_map]
    by_cases c2 : (hds b ((gapsL row).map (pl b row.length)) S).2.length < 2 * ly.length
    · rw [decide_eq_true (show (2 : Int) * (ly.length : Int) > (((hds b ((gapsL row).map (pl b row.length)) S).2.length : Nat) : Int) by omega)]
      refine iteT (qn ?_ H5 s35)
      unfold mendF
      rw [if_neg c1, ← eC, ← ely, if_pos c2]
    rw [decide_eq_false (show ¬ (2 : Int) * (ly.length : Int) > (((hds b ((gapsL row).map (pl b row.length)) S).2.length : Nat) : Int) by omega)]
    refine iteF ?_
    obtain ⟨lh2, lr2⟩ := hds_len (b := b) (ly.map (pl b row.length)) (hds b ((gapsL row).map (pl b row.length)) S).2
    obtain ⟨wh2, wr2⟩ := hds_ws hb (ly.map (pl b row.length)) _ wr
    rw [List.length_map] at lh2 lr2
    have hG5 := s5 _ _ (s4 _ _ hG3)
    have gh5 := s5 _ _ (s4 _ _ gh3)
    refine ⟨_, rfl, _, rfl, _, rfl, Ly, rfl, ⟨_, .inl (.inl hL5)⟩, fun D hD => ?_⟩
    refine lc_it (walk_list (K := K) (a := Ly) (xs := ly.map vN)) (fun i H' => Same H5 H' ∧ H' D = some (.lst (((List.range i).map fun k => pl b row.length (gd ly k)).map vN)))
      ⟨same_upd hD, upd_same⟩ (fun i H' _ h => .inl (.inl (h.1 _ _ hL5))) ?_ ?_
    · rintro i xv H6 H7 hi ⟨sm, g⟩ ⟨rfl, e3⟩
      rw [List.length_map] at hi
      have ex := word_at hi e3
      subst ex
      have lt : gd ly i < row.length := ilt _ (List.mem_of_getElem? (gd_in hi))
      refine ⟨rfl, ?_⟩
      refine ⟨_, rfl, _, rfl, Pc, _, _, vN (pl b row.length (gd ly i)), true, rfl, rfl, .lst (sm _ _ gP5), atI_nat (plat _ lt), ?_⟩
      exact acc_step (f := fun k => pl b row.length (gd ly k)) sm hD g (by omega) rfl
    rintro H6 ⟨s6, gD⟩
    rw [List.length_map, map_gd ly (pl b row.length)] at gD
    refine ⟨p, su2, D, b, _, _, rfl, hb, hF.same (s35.trans s6), s6 _ _ gr5, gD, wr, wpl _, by rw [List.length_map]; omega, by omega, fun t m2 r2 H7 s7 gt gm gr => ?_⟩
    refine ⟨t, [_, _], rfl, gt, rfl, _, [_], rfl, _, [], rfl, rfl, ?_⟩
    have s57 := s6.trans s7
    have s37 := s35.trans s57
    refine ⟨_, rfl, r2, _, rfl, .inl (.inl gr), _, rfl, ?_⟩
    cases c3 : (hds b (ly.map (pl b row.length)) (hds b ((gapsL row).map (pl b row.length)) S).2).2.any (fun w => decide (w ≠ 0)) with
    | true =>
      refine iteT (qn ?_ H7 s37)
      unfold mendF
      rw [if_neg c1, ← eC, ← ely, if_neg c2, if_pos c3]
    | false =>
    refine iteF ?_
    have eM : mendF b s0 row S = some (mendP b s0 row.length (knownL row) ((gapsL row ++ ly).zip (ww b ((gapsL row ++ ly).map (pl b row.length)) ((hds b ((gapsL row).map (pl b row.length)) S).1 ++ (hds b (ly.map (pl b row.length)) (hds b ((gapsL row).map (pl b row.length)) S).2).1))), ly) := by
      unfold mendF
      rw [if_neg c1, ← eC, ← ely, if_neg c2, if_neg (by rw [c3]; exact Bool.false_ne_true)]
    have qs' := qs _ _ eM
    clear qs qn eM
    have hndW := wrong_nodup (row := row) (C := C) hb hn
    rw [← ely] at hndW
    obtain ⟨Q1, eQ1⟩ : ∃ q, q = hds b ((gapsL row).map (pl b row.length)) S := ⟨_, rfl⟩
    rw [← eQ1] at lh lr wh wr gh5 gr5 lh2 lr2 wh2 wr2 gm gr c2 c3 qs'
    obtain ⟨Q2, eQ2⟩ : ∃ q, q = hds b (ly.map (pl b row.length)) Q1.2 := ⟨_, rfl⟩
    rw [← eQ2] at lh2 lr2 wh2 wr2 gm gr c3 qs'
    have hG7 := s57 _ _ hG5
    have gP7 := s57 _ _ gP5
    have gh7 := s57 _ _ gh5
    have hL7 := s57 _ _ hL5
    clear gru gP4 hL5 gr5 gP5 hG5 gh5 s5 s6 s57 s35 s34 s4 s3 hG3 gP3 gh3 gr3 gD eQ1 eQ2 eC
    refine ⟨fun σ' H' => ∃ Fd : Addr, σ' = [some (.ref p), some (vN s0), some (.ref a), some (.ref su2), none, some (.ref G), some (.ref Pc), some (.ref hd), some (.ref ru), some (.ref Ly), some (.ref m2), some (.ref r2), some (.ref Fd), none, none, none] ∧ Same H H' ∧ H' G = some (.lst ((gapsL row).map vN)) ∧
        H' Pc = some (.lst (((List.range row.length).map fun i => pl b row.length i).map vN)) ∧ H' hd = some (.lst (Q1.1.map vN)) ∧ H' m2 = some (.lst (Q2.1.map vN)) ∧ H' Ly = some (.lst (ly.map vN)) ∧ H' Fd = some (.lst ((knownL row).map vN)) ∧ H Fd = none ∧ Fd ≠ G ∧ Fd ≠ Pc ∧ Fd ≠ hd ∧ Fd ≠ m2 ∧ Fd ≠ Ly, ?_, ?_⟩
    · refine ⟨_, rfl, a, _, k, rfl, Same.sqb s37 hq, fun Fd hFd => ?_⟩
      refine lc_it (walk_seq (b := k) (K := K) (a := a) (xs := row.map vO)) (fun i H' => Same H7 H' ∧ H' Fd = some (.lst (((List.range i).map fun k => (og row k).getD 0).map vN)))
        ⟨same_upd hFd, upd_same⟩ (fun i H' _ h => Same.sqb (s37.trans h.1) hq) ?_ ?_
      · rintro i v H8 H9 hi ⟨sm, g⟩ ⟨rfl, e2⟩
        rw [List.length_map] at hi
        have ey := og_at hi e2
        subst ey
        refine ⟨rfl, ?_⟩
        refine ⟨_, rfl, rfl, _, rfl, ?_⟩
        rw [gap_dec]
        cases ho : og row i with
        | none =>
          refine iteT ?_
          refine acc_step (f := fun k => (og row k).getD 0) sm hFd g (by omega) ?_
          show V.int 0 = vN ((og row i).getD 0)
          rw [ho]
          rfl
        | some x =>
          refine iteF ⟨_, rfl, ?_⟩
          refine acc_step (f := fun k => (og row k).getD 0) sm hFd g (by omega) ?_
          show vN x = vN ((og row i).getD 0)
          rw [ho]
          rfl
      · rintro H8 ⟨s8, gF⟩
        have e : (List.range (row.map vO).length).map (fun k => (og row k).getD 0) = knownL row := by
          rw [List.length_map, ← gd_list (knownL row), known_len]
          exact List.map_congr_left fun i hi => (known_gd (List.mem_range.mp hi)).symm
        rw [e] at gF
        exact ⟨Fd, rfl, s37.trans s8, s8 _ _ hG7, s8 _ _ gP7, s8 _ _ gh7, s8 _ _ gm, s8 _ _ hL7, gF, Same.free s37 hFd, (ne_of_none hG7 hFd).symm, (ne_of_none gP7 hFd).symm, (ne_of_none gh7 hFd).symm, (ne_of_none gm hFd).symm, (ne_of_none hL7 hFd).symm⟩
    · clear hG7 gP7 gh7 gm gr hL7 s37 s7 c3
      rintro σ' H8 ⟨Fd, rfl, s8, hG8, gP8, gh8, gm8, hL8, gF8, nFd, nFG, nFP, nFh, nFm, nFL⟩
      refine ⟨_, rfl, _, rfl, G, Ly, _, _, rfl, rfl, hG8, hL8, ?_, fun W hW => ?_⟩
      · simp only [List.length_map]
        exact Nat.le_of_lt (small1000 (by omega))
      rw [← List.map_append]
      have sW := same_upd (o := .lst ((gapsL row ++ ly).map vN)) hW
      have hWW : (upd H8 W (.lst ((gapsL row ++ ly).map vN))) W = some (.lst ((gapsL row ++ ly).map vN)) := upd_same
      have wilt : ∀ i ∈ gapsL row ++ ly, i < row.length := fun i hi => (List.mem_append.mp hi).elim (fun h => (mem_gaps h).1) fun h => ilt i h
      have lW : (gapsL row ++ ly).length ≤ 510 := by rw [List.length_append]; exact few
      have lWh : (gapsL row ++ ly).length = (Q1.1 ++ Q2.1).length := by rw [List.length_append, List.length_append, lh, lh2]
      have s9 := s8.trans sW
      have gP9 := sW _ _ gP8
      have gh9 := sW _ _ gh8
      have gm9 := sW _ _ gm8
      have hL9 := sW _ _ hL8
      have gF9 := sW _ _ gF8
      generalize (upd H8 W (.lst ((gapsL row ++ ly).map vN))) = H9 at sW hWW s9 gP9 gh9 gm9 hL9 gF9 ⊢
      generalize hw9 : gapsL row ++ ly = ws at hWW wilt lW lWh hndW qs' ⊢
      refine ⟨_, rfl, _, rfl, _, rfl, W, rfl, ⟨_, .inl (.inl hWW)⟩, fun D hD => ?_⟩
      refine lc_it (walk_list (K := K) (a := W) (xs := ws.map vN)) (fun i H' => Same H9 H' ∧ H' D = some (.lst (((List.range i).map fun k => pl b row.length (gd ws k)).map vN)))
        ⟨same_upd hD, upd_same⟩ (fun i H' _ h => .inl (.inl (h.1 _ _ hWW))) ?_ ?_
      · rintro i xv HA HB hi ⟨sm, g⟩ ⟨rfl, e3⟩
        rw [List.length_map] at hi
        have ex := word_at hi e3
        subst ex
        have lt : gd ws i < row.length := wilt _ (List.mem_of_getElem? (gd_in hi))
        refine ⟨rfl, ?_⟩
        refine ⟨_, rfl, _, rfl, Pc, _, _, vN (pl b row.length (gd ws i)), true, rfl, rfl, .lst (sm _ _ gP9), atI_nat (plat _ lt), ?_⟩
        exact acc_step (f := fun k => pl b row.length (gd ws k)) sm hD g (by omega) rfl
      rintro HA ⟨sA, gD⟩
      rw [List.length_map, map_gd ws (pl b row.length)] at gD
      refine ⟨_, rfl, _, rfl, hd, m2, _, _, rfl, rfl, sA _ _ gh9, sA _ _ gm9, ?_, fun hm hhm => ?_⟩
      · simp only [List.length_map]
        exact Nat.le_of_lt (small1000 (by rw [lh, lh2]; omega))
      rw [← List.map_append]
      have sB := same_upd (o := .lst ((Q1.1 ++ Q2.1).map vN)) hhm
      have whm : Ws b (Q1.1 ++ Q2.1) := fun x hx => (List.mem_append.mp hx).elim (fun h => wh x h) fun h => wh2 x h
      have sAB := sA.trans sB
      refine ⟨p, D, hm, b, ws.map (pl b row.length), Q1.1 ++ Q2.1, rfl, hb, hF.same (s9.trans sAB), sB _ _ gD, upd_same, wpl _, whm, by rw [List.length_map]; exact lWh, by rw [List.length_map]; omega, hndW, fun sh HC sC nsh gsh => ?_⟩
      have lsh : (ww b (ws.map (pl b row.length)) (Q1.1 ++ Q2.1)).length = ws.length := by rw [ww_len _ _ (by rw [List.length_map]; exact lWh), List.length_map]
      have wsh := ww_ws hb (ws.map (pl b row.length)) (Q1.1 ++ Q2.1) whm
      generalize ww b (ws.map (pl b row.length)) (Q1.1 ++ Q2.1) = shs at gsh lsh wsh qs'
      have sAC := sAB.trans sC
      have sC9 := s9.trans sAC
      have hWC := sAC _ _ hWW
      have gFC := sAC _ _ gF9
      have hLC := sAC _ _ hL9
      have nFW : Fd ≠ W := ne_of_none gF8 hW
      have nFs : Fd ≠ sh := ne_of_none (sB _ _ (sA _ _ gF9)) nsh
      have nFLc : Fd ≠ Ly := nFL
      refine ⟨W, sh, _, _, rfl, .inl (.inl hWC), .inl (.inl gsh), ?_⟩
      refine for_it (walk_zip (K := K) (a := W) (b := sh) (xs := ws.map vN) (ys := shs.map vN) (n := ws.length) (by rw [List.length_map, List.length_map, lsh]; omega))
        (fun i σ H' => ∃ z4 z14 : Option V, σ = [some (.ref p), some (vN s0), some (.ref a), some (.ref su2), z4, some (.ref G), some (.ref Pc), some (.ref hd), some (.ref ru), some (.ref Ly), some (.ref m2), some (.ref r2), some (.ref Fd), some (.ref W), z14, none] ∧ Same H H' ∧
          H' W = some (.lst (ws.map vN)) ∧ H' sh = some (.lst (shs.map vN)) ∧ H' Ly = some (.lst (ly.map vN)) ∧ H' Fd = some (.lst ((mendP b s0 row.length (knownL row) ((ws.zip shs).take i)).map vN)))
        ⟨_, _, rfl, sC9, hWC, gsh, hLC, gFC⟩ (fun i σ H' _ ⟨_, _, _, _, h1, h2, _⟩ => ⟨.inl (.inl h1), .inl (.inl h2)⟩) ?_ ?_
      · rintro i x σ HD HE hi ⟨z4, z14, rfl, sm, hW', hs', hL', hF'⟩ ⟨T1, x1, y1, rfl, hT1, rfl, e3, e4⟩
        have ex := word_at hi e3
        have ey := word_at (by omega) e4
        subst ex ey
        have sT := same_upd (o := .tup [vN (gd ws i), vN (gd shs i)]) hT1
        refine ⟨T1, [_, _], rfl, .inl (.inl upd_same), rfl, _, [_], rfl, _, [], rfl, rfl, ?_⟩
        generalize (upd HD T1 (.tup [vN (gd ws i), vN (gd shs i)])) = HF at sT ⊢
        have smT := sm.trans sT
        have lt : gd ws i < row.length := wilt _ (List.mem_of_getElem? (gd_in hi))
        have lcur : (mendP b s0 row.length (knownL row) ((ws.zip shs).take i)).length = row.length := by rw [put_len, known_len]
        have tk := zip_take (xs := ws) (ys := shs) hi (by omega)
        have sn := mendP_snoc (b := b) (s := s0) (n := row.length) (p := (gd ws i, gd shs i)) ((ws.zip shs).take i) (knownL row)
        rw [← tk] at sn
        generalize mendP b s0 row.length (knownL row) ((ws.zip shs).take i) = cur at hF' lcur sn
        obtain ⟨dx, q1, r, g1, g2, g3⟩ := (hF.same smT).ex
        have hF2 := sT _ _ hF'
        refine ⟨_, rfl, _, rfl, Fd, _, vN (gd cur (gd ws i)), gd ws i, rfl, rfl, .inl (.inl hF2), (by rw [List.getElem?_map, gd_in (by omega)]; rfl), ?_⟩
        refine ⟨_, rfl, p, dx, _, rfl, g1, rfl, _, rfl, _, rfl, p, dx, _, rfl, g1, rfl, _, rfl, a, _, rfl, (Same.sqb smT hq).or, _, _, rfl, rfl, _, rfl, _, _, rfl, rfl, _, rfl, _, _, rfl, rfl, ?_, p, b, _, rfl, hb, hF.same smT, ?_⟩
        · refine .inl ⟨?_, ?_⟩
          · simp only [List.length_map]
            omega
          · simp only [List.length_map]
            omega
        have e5 : (((row.map vO).length : Int) - 1 - ((gd ws i : Nat) : Int)) * (s0 : Int) = (((row.length - 1 - gd ws i) * s0 : Nat) : Int) := by
          rw [Int.natCast_mul]
          congr 1
          simp only [List.length_map]
          omega
        rw [e5, pwI_nat hb]
        refine ⟨p, b, gd shs i, _, rfl, hb, hF.same smT, gd_lt hb wsh i, pw_lt hb _, pw_ne hb _, _, _, rfl, rfl, ?_⟩
        refine ⟨Fd, _, _, gd ws i, rfl, rfl, hF2, ixN_nat (by rw [List.length_map]; omega), ?_⟩
        refine ⟨_, _, rfl, fun c o hc => ?_, ?_, ?_, ?_, ?_⟩
        · rw [upd_ne (ne_of_none hc nFd)]
          exact smT _ _ hc
        · rw [upd_ne nFW.symm]
          exact sT _ _ hW'
        · rw [upd_ne nFs.symm]
          exact sT _ _ hs'
        · rw [upd_ne nFL.symm]
          exact sT _ _ hL'
        · rw [upd_same, sn, List.map_set]
          refine congrArg (fun z => some (HO.lst (List.set _ _ z))) ?_
          exact congrArg V.int (bx _ _)
      · rintro σ HD ⟨z4, z14, rfl, sm, hW', hs', hL', hF'⟩
        have e6 : (ws.zip shs).take ws.length = ws.zip shs := List.take_of_length_le (by rw [List.length_zip]; omega)
        rw [e6] at hF'
        refine ⟨_, rfl, _, rfl, .inl ⟨Ly, _, rfl, .inl (.inl hL'), fun u hu => ⟨(by show 2 ≤ sizeLine; decide), fun t ht => ?_⟩⟩⟩
        have su' := same_upd (o := .tup (ly.map vN)) hu
        have st := same_upd (o := .tup [.ref Fd, .ref u]) ht
        exact qs' t Fd u _ (sm.trans (su'.trans st)) upd_same (st _ _ (su' _ _ hF')) (st _ _ upd_same) nFd (Same.free (sm.trans su') ht) (Same.free sm hu)
/-! CUT -/
def sp_ngr (K : PySem.W.Frag) : Sp := fun vs H Q _ => ∃ (c a : Addr) (k : Bool) (b m s : Nat) (row : List (Option Nat)), vs = [.ref c, .ref a] ∧ SqT K H c [vN b, vN m, vN s] ∧ CodeOk b m s ∧ SqB k K H a (row.map vO) ∧ RowOk b row ∧ m < row.length ∧ row.length < span b ∧ ∀ H', Same H H' → Q .non H'
theorem ok_need_gapped_row (T : Txt K mg) : FnOk P w K mg base CX0 4 T.f_need_gapped_row T.d_need_gapped_row ["code", "row"] (sp_ngr K) := by
  refine T.F_need_gapped_row.ok sc_need_gapped_row (fun vs H Q E h => ?_) (fun cdv A outer s H vs Q E hr h => ?_)
  · obtain ⟨c, a, k, b, m, s, row, rfl, _⟩ := h
    rfl
  · obtain ⟨c, a, k, b, m, s0, row, rfl, hc, hok, hq, hrow, hm, hl, q⟩ := h
    refine ⟨_, (pss_cons (ps_if (PW.pt (pw_or (pt_not (pt_val (pe_call (ok_is_row T) (hr.mono (by decide)) (by rfl) T.g_is_row T.F_is_row.kp T.b_is_row .nil pass0 (pa_cons (pv 1) pa_nil)))) (pw_or1 (pt_not (pt_val (pe_call (ok_is_length T) (hr.mono (by decide)) (by rfl) T.g_is_length T.F_is_length.kp T.b_is_length .nil pass0 (pa_cons (pv 0) (pa_cons (pe_callB call_len_seq (by rfl) T.n_len (by decide +kernel) (pa_cons (pv 1) pa_nil)) pa_nil)))))))) (pss_one ps_never) pss_nil)
      (pss_one (ps_for PassesOwn.never rfl (pi_enumS (by rfl) T.n_enumerate (pa_cons (pv 1) pa_nil)) (pg_tup rfl (pgs_cons (pg_name (i := 2) sc_need_gapped_row.nd rfl (.inl rfl)) (pgs_cons (pg_name (i := 3) sc_need_gapped_row.nd rfl (.inl rfl)) pgs_nil))) (pss_one (ps_if (PW.pt (pw_and (pt_cmpR op_notN (pv 3) pe_non (nomark _)) (pw_and1 (pt_not (pt_val (pe_call (ok_is_word T) (hr.mono (by decide)) (by rfl) T.g_is_word T.F_is_word.kp T.b_is_word .nil pass0 (pa_cons (pe_ix ix_rowB (pv 0) pe_int (fun _ _ => rfl)) (pa_cons (pv 3) pa_nil)))))))) (pss_one ps_never) pss_nil))))), ?_⟩
    refine ⟨_, rfl, a, k, _, rfl, hq, fun H1 s1 => ⟨_, rfl, iteF ?_⟩⟩
    refine ⟨_, rfl, _, rfl, a, _, rfl, (Same.sqb s1 hq).or, c, b, m, s0, row.length, ?_, Same.sqt s1 hc, hok, hm, hl, _, rfl, iteF ?_⟩
    · rw [List.length_map]
      rfl
    refine ⟨_, rfl, a, _, k, rfl, Same.sqb s1 hq, ?_⟩
    refine for_it (walk_enumS (b := k) (K := K) (a := a) (xs := row.map vO)) (fun i σ H' => ∃ z2 z3 : Option V, σ = [some (.ref c), some (.ref a), z2, z3] ∧ Same H H') ⟨_, _, rfl, s1⟩ (fun i σ H' _ ⟨_, _, _, sm⟩ => Same.sqb sm hq) ?_ (fun σ H' ⟨_, _, _, sm⟩ => q H' sm)
    rintro i x σ H2 H3 hi ⟨z2, z3, rfl, sm⟩ ⟨T1, x1, y1, rfl, hT, rfl, e1, e2⟩
    rw [List.length_map] at hi
    have ex : x1 = .int (i : Int) := (Option.some.inj e1).symm
    have ey := og_at hi e2
    subst ex ey
    have sT := same_upd (o := .tup [.int (i : Int), vO (og row i)]) hT
    refine ⟨T1, [_, _], rfl, .inl (.inl upd_same), rfl, _, [_], rfl, _, [], rfl, rfl, ?_⟩
    generalize (upd H2 T1 (.tup [.int (i : Int), vO (og row i)])) = H4 at sT ⊢
    have smT := sm.trans sT
    refine ⟨_, rfl, rfl, _, rfl, ?_⟩
    rw [gap_dec]
    cases ho : og row i with
    | none => exact iteF (iteF ⟨_, _, rfl, smT⟩)
    | some x => exact iteT ⟨_, rfl, c, _, 0, vN b, false, rfl, rfl, Same.sqt smT hc, rfl, _, rfl, b, x, rfl, hok.1, hrow x (og_mem hi ho), _, rfl, iteF ⟨_, _, rfl, smT⟩⟩
def synS (b m s : Nat) (ws : List Nat) : List Nat := (List.range m).map fun j => evl b (pw b (s + j)) ws
def sp_rr (K : PySem.W.Frag) (F : Addr) : Sp := fun vs H Q _ => ∃ (p a : Addr) (k : Bool) (b m s : Nat) (row : List (Option Nat)), vs = [.ref p, vN m, vN s, .ref a] ∧ Wd b ∧ FieldAt K F H p b ∧ SqB k K H a (row.map vO) ∧ RowOk b row ∧ row.length ≤ turn b ∧ m ≤ 100 ∧
  (mendF b s row (synS b m s (knownL row)) = none → ∀ H', Same H H' → Q .non H') ∧
  ∀ w ly, mendF b s row (synS b m s (knownL row)) = some (w, ly) → ∀ t l u H', Same H H' → H' t = some (.tup [.ref l, .ref u]) → H' l = some (.lst (w.map vN)) → H' u = some (.tup (ly.map vN)) → H l = none → H t = none → H u = none → Q (.ref t) H'
theorem ok_repaired_row (T : Txt K mg) : FnOk P w K mg base CX0 5 T.f_repaired_row T.d_repaired_row ["field", "many", "start", "row"] (sp_rr K T.C_Field) := by
  refine T.F_repaired_row.ok sc_repaired_row (fun vs H Q E h => ?_) (fun cdv A outer s H vs Q E hr h => ?_)
  · obtain ⟨p, a, k, b, m, s, row, rfl, _⟩ := h
    rfl
  · obtain ⟨p, a, k, b, m, s0, row, rfl, hb, hF, hq, hrow, hn, hm, qn, qs⟩ := h
    refine ⟨_, (pss_cons (ps_setLc (i := 4) (own := [("word", 5)]) rfl sc_repaired_row.nd rfl rfl (sw_true rfl rfl rfl (by decide +kernel)) (pi_seq (pv 3)) (blkOk_by (N := ["field", "many", "start", "row", "known", "word"]) (sc := defScope s_repaired_row) (by decide +kernel)) (fun _ _ _ _ _ => by exact (pg_name (i := 5) sc_repaired_row.nd rfl (.inl rfl))) (fun _ _ _ _ _ => by exact pts_nil) (fun _ _ _ _ _ => by exact (pe_ifExp (pt_cmpR op_isN (pv 5) pe_non (nomark _)) pe_int (pv 5))))
      (pss_one (ps_ret (pe_call (ok_mended_row T) (hr.mono (by decide)) (by rfl) T.g_mended_row T.F_mended_row.kp T.b_mended_row .nil pass0 (pa_cons (pv 0) (pa_cons (pv 2) (pa_cons (pv 3) (pa_cons (pe_call (ok_sums_of T) (hr.mono (by decide)) (by rfl) T.g_sums_of T.F_sums_of.kp T.b_sums_of .nil pass0 (pa_cons (pv 0) (pa_cons (pv 1) (pa_cons (pv 2) (pa_cons (pv 4) pa_nil))))) pa_nil)))))))), ?_⟩
    have hT2 : turn b ≤ 255 := by rcases hb with rfl | rfl <;> decide
    refine ⟨_, rfl, a, _, k, rfl, hq, fun Fd hFd => ?_⟩
    refine lc_it (walk_seq (b := k) (K := K) (a := a) (xs := row.map vO)) (fun i H' => Same H H' ∧ H' Fd = some (.lst (((List.range i).map fun k => (og row k).getD 0).map vN)))
      ⟨same_upd hFd, upd_same⟩ (fun i H' _ h => Same.sqb h.1 hq) ?_ ?_
    · rintro i v H8 H9 hi ⟨sm, g⟩ ⟨rfl, e2⟩
      rw [List.length_map] at hi
      have ey := og_at hi e2
      subst ey
      refine ⟨rfl, ?_⟩
      refine ⟨_, rfl, rfl, _, rfl, ?_⟩
      rw [gap_dec]
      cases ho : og row i with
      | none =>
        refine iteT ?_
        refine acc_step (f := fun k => (og row k).getD 0) sm hFd g (by omega) ?_
        show V.int 0 = vN ((og row i).getD 0)
        rw [ho]
        rfl
      | some x =>
        refine iteF ⟨_, rfl, ?_⟩
        refine acc_step (f := fun k => (og row k).getD 0) sm hFd g (by omega) ?_
        show vN x = vN ((og row i).getD 0)
        rw [ho]
        rfl
    rintro H1 ⟨s1, gF⟩
    have e : (List.range (row.map vO).length).map (fun k => (og row k).getD 0) = knownL row := by
      rw [List.length_map, ← gd_list (knownL row), known_len]
      exact List.map_congr_left fun i hi => (known_gd (List.mem_range.mp hi)).symm
    rw [e] at gF
    have wk := known_ws hb hrow
    refine ⟨_, rfl, _, rfl, _, rfl, _, rfl, _, rfl, _, rfl, _, rfl, p, Fd, true, b, m, s0, knownL row, rfl, hb, by omega, hF.same s1, .lst gF, wk, fun l H2 s2 nl el => ?_⟩
    have s12 := s1.trans s2
    have wS : Ws b (synS b m s0 (knownL row)) := fun x hx => by
      obtain ⟨j, _, rfl⟩ := List.mem_map.mp hx
      exact evl_lt hb wk
    refine ⟨p, a, l, k, b, s0, row, synS b m s0 (knownL row), rfl, hb, hF.same s12, Same.sqb s12 hq, hrow, hn, el, wS, by unfold synS; simp; omega, fun h H' s3 => qn h H' (s12.trans s3), fun w ly h t l' u H' s3 g1 g2 g3 n1 n2 n3 => ?_⟩
    exact qs w ly h t l' u H' (s12.trans s3) g1 g2 g3 (Same.free s12 n1) (Same.free s12 n2) (Same.free s12 n3)
def sp_rep (K : PySem.W.Frag) : Sp := fun vs H Q _ => ∃ (c a : Addr) (k : Bool) (b m s : Nat) (row : List (Option Nat)), vs = [.ref c, .ref a] ∧ SqT K H c [vN b, vN m, vN s] ∧ CodeOk b m s ∧ SqB k K H a (row.map vO) ∧ RowOk b row ∧ m < row.length ∧ row.length < span b ∧
  (mendF b s row (synS b m s (knownL row)) = none → ∀ H', Same H H' → Q .non H') ∧
  ∀ w ly, mendF b s row (synS b m s (knownL row)) = some (w, ly) → ∀ t l u H', Same H H' → H' t = some (.tup [.ref l, .ref u]) → H' l = some (.lst (w.map vN)) → H' u = some (.tup (ly.map vN)) → H l = none → H t = none → H u = none → Q (.ref t) H'
theorem ok_repaired (T : Txt K mg) : FnOk P w K mg base CX0 6 T.f_repaired T.d_repaired ["code", "row"] (sp_rep K) := by
  refine T.F_repaired.ok sc_repaired (fun vs H Q E h => ?_) (fun cdv A outer s H vs Q E hr h => ?_)
  · obtain ⟨c, a, k, b, m, s, row, rfl, _⟩ := h
    rfl
  · obtain ⟨c, a, k, b, m, s0, row, rfl, hc, hok, hq, hrow, hm, hl, qn, qs⟩ := h
    refine ⟨_, (pss_cons (ps_expr (pe_call (ok_need_code T) (hr.mono (by decide)) (by rfl) T.g_need_code T.F_need_code.kp T.b_need_code .nil pass0 (pa_cons (pv 0) pa_nil)))
      (pss_cons (ps_expr (pe_call (ok_need_gapped_row T) (hr.mono (by decide)) (by rfl) T.g_need_gapped_row T.F_need_gapped_row.kp T.b_need_gapped_row .nil pass0 (pa_cons (pv 0) (pa_cons (pv 1) pa_nil))))
      (pss_cons (ps_asg (pv 0) (pg_tup rfl (pgs_cons (pg_name (i := 2) sc_repaired.nd rfl (.inl rfl)) (pgs_cons (pg_name (i := 3) sc_repaired.nd rfl (.inl rfl)) (pgs_cons (pg_name (i := 4) sc_repaired.nd rfl (.inl rfl)) pgs_nil)))))
      (pss_one (ps_ret (pe_call (ok_repaired_row T) (hr.mono (by decide)) (by rfl) T.g_repaired_row T.F_repaired_row.kp T.b_repaired_row .nil pass0 (pa_cons (pe_make T.mk_Field (ok_Field___init__ T) (hr.mono (by decide)) (by rfl) T.g_Field T.b_Field___init__ .nil pass0 (pa_cons (pv 2) pa_nil)) (pa_cons (pv 3) (pa_cons (pv 4) (pa_cons (pv 1) pa_nil)))))))))), ?_⟩
    have hb := hok.1
    have hsp := span_eq hb
    have hm40 : m ≤ 40 := by
      have := hok.2.2.1
      unfold mostC at this
      split at this <;> omega
    refine ⟨_, rfl, c, b, m, s0, rfl, hc, hok, ?_⟩
    refine ⟨_, rfl, _, rfl, c, a, k, b, m, s0, row, rfl, hc, hok, hq, hrow, hm, hl, fun H1 s1 => ?_⟩
    refine ⟨_, rfl, c, [_, _, _], rfl, Same.sqt s1 hc, rfl, _, [_, _], rfl, _, [_], rfl, _, [], rfl, rfl, ?_⟩
    refine ⟨_, rfl, fun x dx hx hdx ne => ⟨x, dx, b, rfl, hb, upd_same, fun H3 hk hF => ⟨rfl, ?_⟩⟩⟩
    have s3 := s1.trans (keep_same hx hdx hk)
    refine ⟨_, rfl, _, rfl, _, rfl, x, a, k, b, m, s0, row, rfl, hb, hF, Same.sqb s3 hq, hrow, by omega, by omega, fun h H' s4 => qn h H' (s3.trans s4), fun w ly h t l' u H' s4 g1 g2 g3 n1 n2 n3 => ?_⟩
    exact qs w ly h t l' u H' (s3.trans s4) g1 g2 g3 (Same.free s3 n1) (Same.free s3 n2) (Same.free s3 n3)
/-! CUT -/
/-! ### the law's own defs -/
def WellL (a b c : Int) : HO := .lst [.int a, .int b, .int c]
def sp_draw : Sp := fun vs H Q _ => ∃ (p : Addr) (a b c m : Int), vs = [.ref p, .int m] ∧ H p = some (WellL a b c) ∧ 0 < m ∧ m < 1073741824 ∧ ∀ n a' c' : Int, 0 ≤ n → n < m → Q (.int n) (upd H p (WellL a' b c'))
theorem ok__law_draw (T : Txt K mg) : FnOk P w K mg base CX0 1 T.f__law_draw T.d__law_draw ["_law_well", "_law_many"] sp_draw := by
  refine T.F__law_draw.ok sc__law_draw (fun vs H Q E h => ?_) (fun cdv A outer s H vs Q E hr h => ?_)
  · obtain ⟨p, a, b, c, m, rfl, _⟩ := h
    rfl
  · obtain ⟨p, a, b, c, m, rfl, hp, m0, m1, q⟩ := h
    refine ⟨_, (pss_cons (ps_if (pt_cmpR op_gt (pe_ix ix_list (pv 0) pe_int (fun _ _ => rfl)) pe_int (nomark _)) (pss_cons (ps_set (i := 2) sc__law_draw.nd rfl (.inl rfl) (pe_op op_mod (pe_callTy call_int1 (by rfl) T.n_int (by decide +kernel) (pa_cons (pe_ix ix_list (pv 0) pe_int (fun _ _ => rfl)) pa_nil)) (pv 1)))
      (pss_cons (ps_asg (pe_op op_fdiv (pe_ix ix_list (pv 0) pe_int (fun _ _ => rfl)) (pv 1)) (pg_sub (pv 0) pe_int set_list))
      (pss_one (ps_ret (pv 2))))) pss_nil)
      (pss_cons (ps_asg (pe_op op_add (pe_ix ix_list (pv 0) pe_int (fun _ _ => rfl)) pe_int) (pg_sub (pv 0) pe_int set_list))
      (pss_cons (ps_set (i := 3) sc__law_draw.nd rfl (.inl rfl) (pe_op op_mod (pe_callTy call_int1 (by rfl) T.n_int (by decide +kernel) (pa_cons (pe_op op_mul (pe_op op_add (pe_op op_add (pe_ix ix_list (pv 0) pe_int (fun _ _ => rfl)) (pe_op op_mul pe_int (pe_ix ix_list (pv 0) pe_int (fun _ _ => rfl)))) pe_int) pe_int) pa_nil)) pe_int))
      (pss_cons (ps_set (i := 3) sc__law_draw.nd rfl (.inl rfl) (pe_op op_mod (pe_callTy call_int1 (by rfl) T.n_int (by decide +kernel) (pa_cons (pe_op op_mul (pv 3) (pe_op op_add (pe_op op_add (pe_op op_fdiv (pv 3) pe_int) pe_int) (pe_ix ix_list (pv 0) pe_int (fun _ _ => rfl)))) pa_nil)) pe_int))
      (pss_one (ps_ret (pe_op op_mod (pe_callTy call_int1 (by rfl) T.n_int (by decide +kernel) (pa_cons (pe_op op_fdiv (pe_op op_mod (pe_callTy call_int1 (by rfl) T.n_int (by decide +kernel) (pa_cons (pe_op op_mul (pv 3) (pe_op op_add (pe_op op_fdiv (pv 3) pe_int) pe_int)) pa_nil)) pe_int) pe_int) pa_nil)) (pv 1)))))))), ?_⟩
    have hw : ∀ {H' : Hp} {xs : List V}, H' p = some (.lst xs) → SqL K H' p xs := fun h => .inl (.inl h)
    refine ⟨_, rfl, p, _, 0, _, rfl, rfl, hw hp, rfl, _, _, rfl, rfl, _, rfl, ?_⟩
    refine ite2 (fun cc => ?_) (fun cc => ?_)
    · refine ⟨_, rfl, p, _, 0, _, rfl, rfl, hw hp, rfl, .inl ⟨_, rfl, _, rfl, _, _, rfl, rfl, m0, ?_⟩⟩
      refine ⟨_, rfl, p, _, 0, _, rfl, rfl, hw hp, rfl, _, rfl, _, _, rfl, rfl, ⟨m0, m1⟩, ?_⟩
      refine ⟨_, rfl, p, _, 0, 0, rfl, rfl, hp, rfl, ?_⟩
      exact ⟨_, rfl, q _ _ _ (Int.emod_nonneg _ (by omega)) (Int.emod_lt_of_pos _ m0)⟩
    · refine ⟨_, rfl, p, _, 2, _, rfl, rfl, hw hp, rfl, _, _, rfl, rfl, _, rfl, p, _, 2, 2, rfl, rfl, hp, rfl, ?_⟩
      have hs : (upd H p (.lst ([V.int a, V.int b, V.int c].set 2 (.int (c + 1))))) p = some (WellL a b (c + 1)) := upd_same
      refine ⟨_, rfl, p, _, 1, _, rfl, rfl, hw hs, rfl, _, rfl, p, _, 2, _, rfl, rfl, hw hs, rfl, _, _, rfl, rfl, .inl (by decide), _, _, rfl, rfl, _, _, rfl, rfl, _, _, rfl, rfl, .inr (by decide), .inl ⟨_, rfl, _, _, rfl, rfl, (show (0 : Int) < 2147483647 by decide), ?_⟩⟩
      generalize hz : ((b + 15485863 * (c + 1) + 11) * 48271) % 2147483647 = z
      have z0 : 0 ≤ z := by rw [← hz]; exact Int.emod_nonneg _ (by decide)
      have z1 : z < 2147483647 := by rw [← hz]; exact Int.emod_lt_of_pos _ (by decide)
      refine ⟨_, rfl, _, rfl, _, _, rfl, rfl, ⟨by decide, by decide⟩, _, _, rfl, rfl, _, rfl, p, _, 2, _, rfl, rfl, hw hs, rfl, _, _, rfl, rfl, _, _, rfl, rfl, .inl ⟨by omega, by omega⟩, .inl ⟨_, rfl, _, _, rfl, rfl, (show (0 : Int) < 2147483587 by decide), ?_⟩⟩
      generalize hy : (z * (z / 1201 + 69621 + (c + 1))) % 2147483587 = y
      have y0 : 0 ≤ y := by rw [← hy]; exact Int.emod_nonneg _ (by decide)
      have y1 : y < 2147483587 := by rw [← hy]; exact Int.emod_lt_of_pos _ (by decide)
      refine ⟨_, rfl, _, rfl, _, _, rfl, rfl, ⟨by decide, by decide⟩, _, _, rfl, rfl, _, _, rfl, rfl, .inl ⟨by omega, by omega⟩, .inl ⟨_, rfl, _, _, rfl, rfl, (show (0 : Int) < 2147483399 by decide), _, _, rfl, rfl, ⟨by decide, by decide⟩, .inl ⟨_, rfl, _, rfl, _, _, rfl, rfl, m0, ?_⟩⟩⟩
      exact q _ _ _ (Int.emod_nonneg _ (by omega)) (Int.emod_lt_of_pos _ m0)
def sp_pick : Sp := fun vs H Q _ => ∃ (p l : Addr) (a b c : Int) (xs : List V), vs = [.ref p, .ref l] ∧ p ≠ l ∧ H p = some (WellL a b c) ∧ H l = some (.lst xs) ∧ 0 < xs.length ∧ xs.length ≤ 1000 ∧ ∀ (i : Nat) (v : V) (a' c' : Int), xs[i]? = some v → Q v (upd H p (WellL a' b c'))
theorem ok__law_pick (T : Txt K mg) : FnOk P w K mg base CX0 2 T.f__law_pick T.d__law_pick ["_law_well", "_law_some"] sp_pick := by
  refine T.F__law_pick.ok sc__law_pick (fun vs H Q E h => ?_) (fun cdv A outer s H vs Q E hr h => ?_)
  · obtain ⟨p, l, a, b, c, xs, rfl, _⟩ := h
    rfl
  · obtain ⟨p, l, a, b, c, xs, rfl, hpl, hp, hl, l0, l1, q⟩ := h
    refine ⟨_, (pss_one (ps_ret (pe_ix ix_list (pv 1) (pe_call (ok__law_draw T) (hr.mono (by decide)) (by rfl) T.g__law_draw T.F__law_draw.kp T.b__law_draw .nil pass0 (pa_cons (pv 0) (pa_cons (pe_callB call_len_seq (by rfl) T.n_len (by decide +kernel) (pa_cons (pv 1) pa_nil)) pa_nil))) (fun _ _ => rfl)))), ?_⟩
    refine ⟨_, rfl, _, rfl, _, rfl, l, xs, rfl, .inl (.inl (.inl hl)), p, a, b, c, _, rfl, hp, by omega, by omega, fun n a' c' n0 n1 => ?_⟩
    obtain ⟨k, rfl⟩ := Int.eq_ofNat_of_zero_le n0
    have hk : k < xs.length := by omega
    exact ⟨l, xs, (k : Int), xs[k], rfl, rfl, .inl (.inl (by rw [upd_ne hpl.symm]; exact hl)), atI_nat (List.getElem?_eq_getElem hk), q k _ a' c' (List.getElem?_eq_getElem hk)⟩
/-- 1 << b -/
theorem shl_span {b : Nat} (hb : Wd b) : (1 : Int) * 2 ^ ((b : Int)).toNat = (span b : Int) := by rcases hb with rfl | rfl <;> rfl
theorem shl_ok {b : Nat} (hb : Wd b) : CPow 1 (b : Int) := by rcases hb with rfl | rfl <;> exact ⟨by decide, by decide, by decide⟩
def Kp (p : Addr) (H H' : Hp) : Prop := ∀ b o, H b = some o → b ≠ p → H' b = some o
theorem Kp.upd {p : Addr} {H : Hp} {o : HO} : Kp p H (upd H p o) := fun b u e n => by
  rw [upd_ne n]
  exact e
theorem Kp.trans {p : Addr} {H H1 H2 : Hp} (a : Kp p H H1) (b : Kp p H1 H2) : Kp p H H2 := fun c o e n => b c o (a c o e n) n
theorem Same.kp {p : Addr} {H H1 : Hp} (a : Same H H1) : Kp p H H1 := fun c o e _ => a c o e
theorem Kp.free {p d : Addr} {H H' : Hp} {o u : HO} (k : Kp p H H') (h1 : H p = some o) (h2 : H' p = some u) (h : H' d = none) : H d = none := by
  cases e : H d with
  | none => rfl
  | some x =>
    have n : d ≠ p := fun z => by
      rw [z, h2] at h
      cases h
    rw [k _ _ e n] at h
    cases h
theorem flat_any (v : V) (n : Nat) : (List.replicate n [v]).flatten = List.replicate n v := by
  induction n with
  | zero => rfl
  | succ n ih => rw [List.replicate_succ, List.flatten_cons, ih, List.replicate_succ]; rfl
theorem Kp.sqt {p a : Addr} {K : PySem.W.Frag} {H H' : Hp} {xs ys : List V} (k : Kp p H H') (hp : H p = some (.lst ys)) (h : SqT K H a xs) : SqT K H' a xs := by
  rcases h with (h | ⟨o, h⟩) | h
  · exact .inl (.inl (k _ _ h (fun e => by rw [e, hp] at h; cases h)))
  · exact .inl (.inr ⟨o, k _ _ h (fun e => by rw [e, hp] at h; cases h)⟩)
  · exact .inr h
/-! CUT -/
def sp_small (K : PySem.W.Frag) : Sp := fun vs H Q _ => ∃ (p : Addr) (a b0 c : Int), vs = [.ref p] ∧ H p = some (WellL a b0 c) ∧
  ∀ (b m s n : Nat) (t c1 : Addr) (a' c' : Int) (H' : Hp), CodeOk b m s → m < n → n < span b → (n - m) * b ≤ 12 → Kp p H H' → H' p = some (WellL a' b0 c') → SqT K H' t [.ref c1, vN n] → SqT K H' c1 [vN b, vN m, vN s] → Q (.ref t) H'
theorem ok__law_small (T : Txt K mg) : FnOk P w K mg base CX0 3 T.f__law_small T.d__law_small ["_law_well"] (sp_small K) := by
  refine T.F__law_small.ok sc__law_small (fun vs H Q E h => ?_) (fun cdv A outer s H vs Q E hr h => ?_)
  · obtain ⟨p, a, b0, c, rfl, _⟩ := h
    rfl
  · obtain ⟨p, a, b0, c, rfl, hp, q⟩ := h
    refine ⟨_, (pss_cons (ps_set (i := 1) sc__law_small.nd rfl (.inl rfl) (pe_call (ok__law_pick T) (hr.mono (by decide)) (by rfl) T.g__law_pick T.F__law_pick.kp T.b__law_pick .nil pass0 (pa_cons (pv 0) (pa_cons (pe_lst (pa_cons pe_int (pa_cons pe_int (pa_cons pe_int (pa_cons pe_int pa_nil))))) pa_nil))))
      (pss_cons (ps_if (pt_cmpR op_eq (pv 1) pe_int (nomark _)) (pss_cons (ps_set (i := 2) sc__law_small.nd rfl (.inl rfl) (pe_tup (pa_cons pe_int (pa_cons (pe_call (ok__law_pick T) (hr.mono (by decide)) (by rfl) T.g__law_pick T.F__law_pick.kp T.b__law_pick .nil pass0 (pa_cons (pv 0) (pa_cons (pe_lst (pa_cons pe_int (pa_cons pe_int (pa_cons pe_int (pa_cons pe_int (pa_cons pe_int (pa_cons pe_int (pa_cons pe_int (pa_cons pe_int pa_nil))))))))) pa_nil))) (pa_cons (pe_call (ok__law_draw T) (hr.mono (by decide)) (by rfl) T.g__law_draw T.F__law_draw.kp T.b__law_draw .nil pass0 (pa_cons (pv 0) (pa_cons pe_int pa_nil))) pa_nil)))))
      (pss_one (ps_ret (pe_tup (pa_cons (pv 2) (pa_cons (pe_op op_add (pe_ix (ix_rowBK (K := K) rfl) (pv 2) pe_int (fun _ _ => rfl)) pe_int) pa_nil)))))) pss_nil)
      (pss_cons (ps_set (i := 2) sc__law_small.nd rfl (.inl rfl) (pe_tup (pa_cons pe_int (pa_cons (pe_op op_add pe_int (pe_call (ok__law_draw T) (hr.mono (by decide)) (by rfl) T.g__law_draw T.F__law_draw.kp T.b__law_draw .nil pass0 (pa_cons (pv 0) (pa_cons pe_int pa_nil)))) (pa_cons (pe_call (ok__law_draw T) (hr.mono (by decide)) (by rfl) T.g__law_draw T.F__law_draw.kp T.b__law_draw .nil pass0 (pa_cons (pv 0) (pa_cons pe_int pa_nil))) pa_nil)))))
      (pss_one (ps_ret (pe_tup (pa_cons (pv 2) (pa_cons (pe_op op_add (pe_op op_add (pe_ix (ix_rowBK (K := K) rfl) (pv 2) pe_int (fun _ _ => rfl)) pe_int) (pe_call (ok__law_draw T) (hr.mono (by decide)) (by rfl) T.g__law_draw T.F__law_draw.kp T.b__law_draw .nil pass0 (pa_cons (pv 0) (pa_cons pe_int pa_nil)))) pa_nil)))))))), ?_⟩
    refine ⟨_, rfl, (by show 4 ≤ sizeLine; decide), fun l hl => ?_⟩
    have npl := ne_of_none hp hl
    refine ⟨p, l, a, b0, c, _, rfl, npl, (same_upd hl) _ _ hp, upd_same, (by show 0 < 4; decide), (by show 4 ≤ 1000; decide), fun i v a1 c1 hv => ?_⟩
    obtain ⟨b, hb, rfl⟩ : ∃ b, Wd b ∧ v = vN b := by
      have hm := List.mem_of_getElem? hv
      simp at hm
      rcases hm with rfl | rfl
      · exact ⟨4, .inl rfl, rfl⟩
      · exact ⟨8, .inr rfl, rfl⟩
    have k1 : Kp p H (upd (upd H l (.lst [.int 4, .int 4, .int 4, .int 8])) p (WellL a1 b0 c1)) := (Same.kp (same_upd hl)).trans Kp.upd
    have hp1 : (upd (upd H l (.lst [.int 4, .int 4, .int 4, .int 8])) p (WellL a1 b0 c1)) p = some (WellL a1 b0 c1) := upd_same
    generalize (upd (upd H l (.lst [.int 4, .int 4, .int 4, .int 8])) p (WellL a1 b0 c1)) = H1 at k1 hp1 ⊢
    have hs1 := span_pos hb
    have hs2 := span_small hb
    refine ⟨_, rfl, rfl, _, rfl, ?_⟩
    refine ite2 (fun cc => ?_) (fun cc => ?_)
    · have e8 : b = 8 := by have := V.int.inj (of_decide_eq_true cc); omega
      subst e8
      refine ⟨_, rfl, (by show 8 ≤ sizeLine; decide), fun l2 hl2 => ?_⟩
      have npl2 := ne_of_none hp1 hl2
      refine ⟨p, l2, a1, b0, c1, _, rfl, npl2, (same_upd hl2) _ _ hp1, upd_same, (by show 0 < 8; decide), (by show 8 ≤ 1000; decide), fun i2 v2 a2 c2 hv2 => ?_⟩
      obtain ⟨m, m1, m2, rfl⟩ : ∃ m : Nat, 1 ≤ m ∧ m ≤ 12 ∧ v2 = vN m := by
        have hm := List.mem_of_getElem? hv2
        simp at hm
        rcases hm with rfl | rfl | rfl | rfl | rfl | rfl | rfl | rfl
        · exact ⟨1, by decide, by decide, rfl⟩
        · exact ⟨2, by decide, by decide, rfl⟩
        · exact ⟨3, by decide, by decide, rfl⟩
        · exact ⟨4, by decide, by decide, rfl⟩
        · exact ⟨5, by decide, by decide, rfl⟩
        · exact ⟨6, by decide, by decide, rfl⟩
        · exact ⟨8, by decide, by decide, rfl⟩
        · exact ⟨12, by decide, by decide, rfl⟩
      have k2 : Kp p H (upd (upd H1 l2 (.lst [.int 1, .int 2, .int 3, .int 4, .int 5, .int 6, .int 8, .int 12])) p (WellL a2 b0 c2)) := k1.trans ((Same.kp (same_upd hl2)).trans Kp.upd)
      have hp2 : (upd (upd H1 l2 (.lst [.int 1, .int 2, .int 3, .int 4, .int 5, .int 6, .int 8, .int 12])) p (WellL a2 b0 c2)) p = some (WellL a2 b0 c2) := upd_same
      generalize (upd (upd H1 l2 (.lst [.int 1, .int 2, .int 3, .int 4, .int 5, .int 6, .int 8, .int 12])) p (WellL a2 b0 c2)) = H2 at k2 hp2 ⊢
      refine ⟨_, rfl, p, a2, b0, c2, 255, rfl, hp2, by decide, by decide, fun n3 a3 c3 n30 n31 => ?_⟩
      obtain ⟨N3, rfl⟩ := Int.eq_ofNat_of_zero_le n30
      refine ⟨(by show 3 ≤ sizeLine; decide), fun t1 ht1 => ?_⟩
      refine ⟨_, rfl, _, rfl, t1, _, 1, vN m, false, rfl, rfl, .inl (.inl upd_same), rfl, _, _, rfl, rfl, (by show 2 ≤ sizeLine; decide), fun t ht => ?_⟩
      have st1 := same_upd (o := .tup [vN 8, vN m, .int (N3 : Int)]) ht1
      have st := same_upd (o := .tup [.ref t1, .int ((m : Int) + 1)]) ht
      exact q 8 m N3 (m + 1) t t1 a3 c3 _ ⟨hb, m1, by show m ≤ 40; omega, by show N3 + 2 ≤ 256; omega⟩ (by omega) (by show m + 1 < 256; omega) (by rw [Nat.add_sub_cancel_left]; decide) (k2.trans (Kp.upd.trans (Same.kp (st1.trans st)))) (st _ _ (st1 _ _ upd_same)) (.inl (.inl upd_same)) (.inl (.inl (st _ _ upd_same)))
    · have e4 : b = 4 := by
        rcases hb with rfl | rfl
        · rfl
        · exact absurd (decide_eq_true rfl) cc
      subst e4
      refine ⟨_, rfl, p, a1, b0, c1, 12, rfl, hp1, by decide, by decide, fun n1 a2 c2 n10 n11 => ⟨_, _, rfl, rfl, ?_⟩⟩
      obtain ⟨N1, rfl⟩ := Int.eq_ofNat_of_zero_le n10
      refine ⟨_, rfl, p, a2, b0, c2, 15, rfl, upd_same, by decide, by decide, fun n2 a3 c3 n20 n21 => ⟨(by show 3 ≤ sizeLine; decide), fun t1 ht1 => ?_⟩⟩
      obtain ⟨N2, rfl⟩ := Int.eq_ofNat_of_zero_le n20
      have k2 : Kp p H (upd (upd (upd H1 p (WellL a2 b0 c2)) p (WellL a3 b0 c3)) t1 (.tup [.int 4, .int (1 + (N1 : Int)), .int (N2 : Int)])) := (k1.trans (Kp.upd.trans Kp.upd)).trans (Same.kp (same_upd ht1))
      have hp2 : (upd (upd (upd H1 p (WellL a2 b0 c2)) p (WellL a3 b0 c3)) t1 (.tup [.int 4, .int (1 + (N1 : Int)), .int (N2 : Int)])) p = some (WellL a3 b0 c3) := same_upd ht1 _ _ upd_same
      have gt1 : (upd (upd (upd H1 p (WellL a2 b0 c2)) p (WellL a3 b0 c3)) t1 (.tup [.int 4, .int (1 + (N1 : Int)), .int (N2 : Int)])) t1 = some (.tup [.int 4, .int (1 + (N1 : Int)), .int (N2 : Int)]) := upd_same
      generalize (upd (upd (upd H1 p (WellL a2 b0 c2)) p (WellL a3 b0 c3)) t1 (.tup [.int 4, .int (1 + (N1 : Int)), .int (N2 : Int)])) = H2 at k2 hp2 gt1 ⊢
      have npt : p ≠ t1 := fun e => by rw [← e, hp2] at gt1; cases gt1
      refine ⟨_, rfl, _, rfl, t1, _, 1, .int (1 + (N1 : Int)), false, rfl, rfl, .inl (.inl gt1), rfl, _, _, rfl, rfl, _, rfl, p, a3, b0, c3, 3, rfl, hp2, by decide, by decide, fun n3 a4 c4 n30 n31 => ⟨_, _, rfl, rfl, (by show 2 ≤ sizeLine; decide), fun t ht => ?_⟩⟩
      obtain ⟨N3, rfl⟩ := Int.eq_ofNat_of_zero_le n30
      have st := same_upd (o := .tup [.ref t1, .int (1 + (N1 : Int) + 1 + (N3 : Int))]) ht
      have e1 : V.int (1 + (N1 : Int)) = vN (1 + N1) := congrArg V.int (by omega)
      have e2 : V.int (1 + (N1 : Int) + 1 + (N3 : Int)) = vN (1 + N1 + 1 + N3) := congrArg V.int (by omega)
      have gk : (upd (upd H2 p (WellL a4 b0 c4)) t (.tup [.ref t1, .int (1 + (N1 : Int) + 1 + (N3 : Int))])) t1 = some (.tup [.int 4, .int (1 + (N1 : Int)), .int (N2 : Int)]) := st _ _ (by rw [upd_ne npt.symm]; exact gt1)
      refine q 4 (1 + N1) N2 (1 + N1 + 1 + N3) t t1 a4 c4 _ ⟨hb, by omega, by show 1 + N1 ≤ 14; omega, by show N2 + 2 ≤ 16; omega⟩ (by omega) (by show 1 + N1 + 1 + N3 < 16; omega) (by omega) (k2.trans (Kp.upd.trans (Same.kp st))) (st _ _ upd_same) (.inl (.inl ?_)) (.inl (.inl ?_))
      · rw [upd_same]
        exact congrArg (fun z => some (HO.tup [V.ref t1, z])) e2
      · rw [gk, e1]
        rfl
/-! CUT -/
structure EvAt (K : PySem.W.Frag) (H : Hp) (F : Addr) (ps : List (Addr × List Nat)) : Prop where
  lst : H F = some (.lst (ps.map fun p => V.ref p.1))
  tup : ∀ p ∈ ps, SqT K H p.1 (p.2.map vN)
theorem EvAt.same {K : PySem.W.Frag} {H H' : Hp} {F : Addr} {ps : List (Addr × List Nat)} (h : EvAt K H F ps) (s : Same H H') : EvAt K H' F ps := ⟨s _ _ h.lst, fun p hp => Same.sqt s (h.tup p hp)⟩
structure EvI (K : PySem.W.Frag) (b m s n : Nat) (H : Hp) (F : Addr) (ps : List (Addr × List Nat)) (at' k : Nat) : Prop where
  ev : EvAt K H F ps
  len : ps.length = 2 ^ (at' * b + k)
  rt : ∀ p ∈ ps, Rt b m s n p.2
  cov : Cov b m s n (ps.map (·.2)) at' k
def sp_every (K : PySem.W.Frag) : Sp := fun vs H Q _ => ∃ (c1 : Addr) (b m s n : Nat), vs = [.ref c1, vN n] ∧ SqT K H c1 [vN b, vN m, vN s] ∧ CodeOk b m s ∧ m < n ∧ n < span b ∧ (n - m) * b ≤ 12 ∧
  ∀ (F : Addr) (ps : List (Addr × List Nat)) (H' : Hp), Same H H' → EvAt K H' F ps → 0 < ps.length → ps.length ≤ 4096 → (∀ p ∈ ps, Rt b m s n p.2) → (∀ w, Rt b m s n w → w ∈ ps.map (·.2)) → H F = none → Q (.ref F) H'
theorem ok__law_every (T : Txt K mg) : FnOk P w K mg base CX0 6 T.f__law_every T.d__law_every ["_law_kit", "_law_size"] (sp_every K) := by
  refine T.F__law_every.ok sc__law_every (fun vs H Q E h => ?_) (fun cdv A outer s H vs Q E hr h => ?_)
  · obtain ⟨c1, b, m, s, n, rfl, _⟩ := h
    rfl
  · obtain ⟨c1, b, m, s0, n, rfl, hc, hok, hmn, hn, hbit, q⟩ := h
    refine ⟨_, (pss_cons (ps_par (i := 2) (j := 3) (by rfl) sc__law_every.nd rfl rfl (by decide) rfl rfl (pa_cons (pe_lst (pa_cons (pe_op op_repT (pe_tup (pa_cons pe_int pa_nil)) (pv 1)) pa_nil)) (pa_cons (pe_op op_sub (pv 1) (pe_ix (ix_rowBK (K := K) rfl) (pv 0) pe_int (fun _ _ => rfl))) pa_nil)) (by rfl))
      (pss_cons (ps_for PassesOwn.never rfl (pi_range1 (by rfl) T.n_range (pa_cons (pv 3) pa_nil)) (pg_name (i := 4) sc__law_every.nd rfl (.inl rfl)) (pss_one (ps_for PassesOwn.never rfl (pi_range1 (by rfl) T.n_range (pa_cons (pe_ix (ix_rowBK (K := K) rfl) (pv 0) pe_int (fun _ _ => rfl)) pa_nil)) (pg_name (i := 5) sc__law_every.nd rfl (.inl rfl)) (pss_cons (ps_set (i := 6) sc__law_every.nd rfl (.inl rfl) (pe_op op_cat (pe_op op_cat (pe_op op_rep (pe_lst (pa_cons pe_int pa_nil)) (pv 4)) (pe_lst (pa_cons (pe_op op_shl pe_int (pv 5)) pa_nil))) (pe_op op_rep (pe_lst (pa_cons pe_int pa_nil)) (pe_op op_sub (pe_op op_sub (pv 3) (pv 4)) pe_int))))
      (pss_cons (ps_set (i := 7) sc__law_every.nd rfl (.inr rfl) (pe_op op_cat (pv 6) (pe_call (ok_check_words T) (hr.mono (by decide)) (by rfl) T.g_check_words T.F_check_words.kp T.b_check_words .nil pass0 (pa_cons (pv 0) (pa_cons (pv 6) pa_nil)))))
      (pss_one (ps_set (i := 2) sc__law_every.nd rfl (.inl rfl) (pe_op op_cat (pv 2) (pe_lc (own := [("_law_some", 8)]) rfl sc__law_every.nd (pi_list (pv 2)) (blkOk_by (N := ["_law_kit", "_law_size", "_law_found", "_law_many", "_law_at", "_law_k", "_law_data", "_law_part", "_law_some", "_law_one", "_law_other"]) (sc := defScope s__law_every) (by decide +kernel)) (fun _ _ _ _ _ => by exact (pg_name (i := 8) sc__law_every.nd rfl (.inl rfl))) (fun _ _ _ _ _ => by exact pts_nil) (fun _ _ _ _ _ => by exact (pe_tupleOfK (K := K) rfl (by rfl) T.n_tuple (pe_lc (own := [("_law_one", 9), ("_law_other", 10)]) (g := gTup K 2 (gCons (gName 9) (gCons (gName 10) gNil))) rfl sc__law_every.nd (pi_zipLT (K := K) (by rfl) (by rfl) T.n_zip (pa_cons (pv 7) (pa_cons (pv 8) pa_nil))) (blkOk_by (N := ["_law_kit", "_law_size", "_law_found", "_law_many", "_law_at", "_law_k", "_law_data", "_law_part", "_law_some", "_law_one", "_law_other"]) (sc := sc_lc_every) (by decide +kernel)) (fun _ _ _ _ _ => by (refine pg_tup ?_ ?_); (exact rfl); (refine pgs_cons ?_ ?_); (exact (pg_name (i := 9) sc__law_every.nd rfl (.inl rfl))); (refine pgs_cons ?_ ?_); (exact (pg_name (i := 10) sc__law_every.nd rfl (.inl rfl))); (exact pgs_nil)) (fun _ _ _ _ _ => by exact pts_nil) (fun _ _ _ _ _ => by exact (pe_op op_xor (pv 9) (pv 10)))))))))))))))
      (pss_one (ps_ret (pe_callB (cr_sortN (K := K) rfl) (by rfl) T.n_sorted (by decide +kernel) (pa_cons (pv 2) pa_nil)))))), ?_⟩
    have hb := hok.1
    have hsp := span_eq hb
    have hs2 := span_small hb
    have hT2 : turn b ≤ 255 := by rcases hb with rfl | rfl <;> decide
    have hm1 := hok.2.1
    refine ⟨(by show 1 ≤ sizeLine; decide), fun z0 hz0 => ⟨_, rfl, z0, (n : Int), [.int 0], rfl, rfl, .inl (.inl upd_same), (by simp), by omega, by omega, by decide, fun t0 ht0 => ⟨(by show 1 ≤ sizeLine; decide), fun F0 hF0 => ?_⟩⟩⟩
    have sz := same_upd (o := .tup [.int 0]) hz0
    have st := same_upd (o := .tup (List.replicate (n : Int).toNat [V.int 0]).flatten) ht0
    have sF := same_upd (o := .lst [.ref t0]) hF0
    have s1 := sz.trans (st.trans sF)
    have eR : (List.replicate (n : Int).toNat [V.int 0]).flatten = (List.replicate n 0).map vN := by
      rw [Int.toNat_natCast, flat_one, List.map_replicate]
    have gF0 := upd_same (H := upd (upd H z0 (.tup [.int 0])) t0 (.tup (List.replicate (n : Int).toNat [V.int 0]).flatten)) (a := F0) (o := .lst [.ref t0])
    have gt0 := sF _ _ (upd_same (H := upd H z0 (.tup [.int 0])) (a := t0) (o := .tup (List.replicate (n : Int).toNat [V.int 0]).flatten))
    generalize (upd (upd (upd H z0 (.tup [.int 0])) t0 (.tup (List.replicate (n : Int).toNat [V.int 0]).flatten)) F0 (.lst [.ref t0])) = H1 at s1 gF0 gt0 ⊢
    rw [eR] at gt0
    clear sz st sF hz0 ht0 hF0
    refine ⟨_, rfl, _, rfl, c1, _, 1, vN m, false, rfl, rfl, Same.sqt s1 hc, rfl, _, _, rfl, rfl, _, _, rfl, ?_⟩
    have eN : V.int ((n : Int) - (m : Int)) = vN (n - m) := congrArg V.int (by omega)
    have I0 : EvI K b m s0 n H1 F0 [(t0, List.replicate n 0)] 0 0 := ⟨⟨gF0, fun p hp => by rw [List.mem_singleton.mp hp]; exact .inl (.inl gt0)⟩, by simp, fun p hp => by rw [List.mem_singleton.mp hp]; exact Rt.nought hb, Cov.start hb (by omega) (by omega)⟩
    clear gF0 gt0 eR
    refine ⟨_, rfl, ((n - m : Nat) : Int), congrArg (fun z => [z]) eN, by omega, by omega, ?_⟩
    refine for_range (lo := 0) (n := n - m) (fun i σ H' => ∃ (F : Addr) (ps : List (Addr × List Nat)) (z4 z5 z6 z7 z8 z9 z10 : Option V), σ = [some (.ref c1), some (vN n), some (.ref F), some (V.int ((n : Int) - (m : Int))), z4, z5, z6, z7, z8, z9, z10] ∧ Same H H' ∧ EvI K b m s0 n H' F ps i 0)
      ⟨F0, _, _, _, _, _, _, _, _, rfl, s1, I0⟩ ?_ ?_
    · rintro i σ H2 hi ⟨F, ps, z4, z5, z6, z7, z8, z9, z10, rfl, sm, I⟩
      refine ⟨_, rfl, c1, _, 0, vN b, false, rfl, rfl, Same.sqt sm hc, rfl, _, rfl, by rcases hb with rfl | rfl <;> decide, by rcases hb with rfl | rfl <;> decide, ?_⟩
      refine for_range (lo := 0) (n := b) (fun k σ H' => ∃ (F : Addr) (ps : List (Addr × List Nat)) (z5 z6 z7 z8 z9 z10 : Option V), σ = [some (.ref c1), some (vN n), some (.ref F), some (V.int ((n : Int) - (m : Int))), some (.int (0 + (i : Int))), z5, z6, z7, z8, z9, z10] ∧ Same H H' ∧ EvI K b m s0 n H' F ps i k)
        ⟨F, ps, _, _, _, _, _, _, rfl, sm, I⟩ ?_ ?_
      · clear sm I F ps
        rintro k σ H3 hk ⟨F, ps, z5, z6, z7, z8, z9, z10, rfl, sm, I⟩
        refine ⟨(by show 1 ≤ sizeLine; decide), fun a1 h1 => ⟨_, rfl, a1, (i : Int), [.int 0], rfl, congrArg V.int (Int.zero_add _), upd_same, by omega, by omega, ?_, fun a2 h2 => ?_⟩⟩
        · rw [Int.toNat_natCast]
          simp only [List.length_singleton]
          exact Nat.le_of_lt (small1000 (by omega))
        have hcp : CPow 1 (k : Int) := by
          rcases hb with rfl | rfl
          · exact ⟨by omega, by omega, by decide⟩
          · exact ⟨by omega, by omega, by decide⟩
        have sA := (same_upd (o := .lst [.int 0]) h1).trans (same_upd (o := .lst (List.replicate (i : Int).toNat [V.int 0]).flatten) h2)
        have g2 := upd_same (H := upd H3 a1 (.lst [.int 0])) (a := a2) (o := .lst (List.replicate (i : Int).toNat [V.int 0]).flatten)
        generalize (upd (upd H3 a1 (.lst [.int 0])) a2 (.lst (List.replicate (i : Int).toNat [V.int 0]).flatten)) = H4 at sA g2 ⊢
        have eA : (List.replicate (i : Int).toNat [V.int 0]).flatten = (List.replicate i 0).map vN := by
          rw [Int.toNat_natCast, flat_one, List.map_replicate]
        rw [eA] at g2
        clear eA h1 h2
        refine ⟨_, rfl, 1, (k : Int), rfl, congrArg V.int (Int.zero_add _), hcp, (by show 1 ≤ sizeLine; decide), fun a3 h3 => ?_⟩
        have sB := same_upd (o := .lst [V.int (1 * 2 ^ ((k : Int)).toNat)]) h3
        have g3 := upd_same (H := H4) (a := a3) (o := .lst [V.int (1 * 2 ^ ((k : Int)).toNat)])
        generalize (upd H4 a3 (.lst [V.int (1 * 2 ^ ((k : Int)).toNat)])) = H5 at sB g3 ⊢
        have eB : V.int (1 * 2 ^ ((k : Int)).toNat) = vN (2 ^ k) := congrArg V.int (by rw [Int.one_mul, Int.toNat_natCast]; norm_cast)
        rw [eB] at g3
        refine ⟨a2, a3, _, _, rfl, rfl, sB _ _ g2, g3, ?_, fun a4 h4 => ?_⟩
        · simp only [List.length_map, List.length_replicate, List.length_singleton]
          exact Nat.le_of_lt (small1000 (by omega))
        have sC := same_upd (o := .lst ((List.replicate i 0).map vN ++ [vN (2 ^ k)])) h4
        have g4 := upd_same (H := H5) (a := a4) (o := .lst ((List.replicate i 0).map vN ++ [vN (2 ^ k)]))
        generalize (upd H5 a4 (.lst ((List.replicate i 0).map vN ++ [vN (2 ^ k)]))) = H6 at sC g4 ⊢
        refine ⟨(by show 1 ≤ sizeLine; decide), fun a5 h5 => ⟨_, rfl, _, rfl, _, _, rfl, rfl, _, _, rfl, rfl, a5, ((n - m - i - 1 : Nat) : Int), [.int 0], rfl, congrArg V.int (by omega), upd_same, by omega, by omega, ?_, fun a6 h6 => ?_⟩⟩
        · rw [Int.toNat_natCast]
          simp only [List.length_singleton]
          exact Nat.le_of_lt (small1000 (by omega))
        have sD := (same_upd (o := .lst [.int 0]) h5).trans (same_upd (o := .lst (List.replicate ((n - m - i - 1 : Nat) : Int).toNat [V.int 0]).flatten) h6)
        have g6 := upd_same (H := upd H6 a5 (.lst [.int 0])) (a := a6) (o := .lst (List.replicate ((n - m - i - 1 : Nat) : Int).toNat [V.int 0]).flatten)
        generalize (upd (upd H6 a5 (.lst [.int 0])) a6 (.lst (List.replicate ((n - m - i - 1 : Nat) : Int).toNat [V.int 0]).flatten)) = H7 at sD g6 ⊢
        have eD : (List.replicate ((n - m - i - 1 : Nat) : Int).toNat [V.int 0]).flatten = (List.replicate (n - m - i - 1) 0).map vN := by
          rw [Int.toNat_natCast, flat_one, List.map_replicate]
        rw [eD] at g6
        refine ⟨a4, a6, _, _, rfl, rfl, sD _ _ g4, g6, ?_, fun a7 h7 => ?_⟩
        · simp only [List.length_append, List.length_map, List.length_replicate, List.length_singleton]
          exact Nat.le_of_lt (small1000 (by omega))
        obtain ⟨ds, hds⟩ : ∃ ds : List Nat, ds = List.replicate i 0 ++ [2 ^ k] ++ List.replicate (n - m - i - 1) 0 := ⟨_, rfl⟩
        have eE : (List.replicate i 0).map vN ++ [vN (2 ^ k)] ++ (List.replicate (n - m - i - 1) 0).map vN = ds.map vN := by
          rw [hds, List.map_append, List.map_append]
          rfl
        rw [eE]
        have sE := same_upd (o := .lst (ds.map vN)) h7
        have g7 := upd_same (H := H7) (a := a7) (o := .lst (ds.map vN))
        generalize (upd H7 a7 (.lst (ds.map vN))) = H8 at sE g7 ⊢
        have sm8 := sm.trans (sA.trans (sB.trans (sC.trans (sD.trans sE))))
        have s38 := sA.trans (sB.trans (sC.trans (sD.trans sE)))
        clear sA sB sC sD sE g2 g3 g4 g6 eD eE eB h3 h4 h5 h6 h7
        have ldl : ds.length = n - m := by
          rw [hds]
          simp only [List.length_append, List.length_replicate, List.length_singleton]
          omega
        have h2k : 2 ^ k < span b := by
          rw [span_pow hb]
          exact Nat.pow_lt_pow_right (by decide) hk
        have wds : Ws b ds := fun x hx => by
          rw [hds] at hx
          rcases List.mem_append.mp hx with h | h
          · rcases List.mem_append.mp h with h | h
            · rw [(List.mem_replicate.mp h).2]; exact zero_lt hb
            · rw [List.mem_singleton.mp h]; exact h2k
          · rw [(List.mem_replicate.mp h).2]; exact zero_lt hb
        refine ⟨_, rfl, _, rfl, _, rfl, c1, a7, true, b, m, s0, ds, rfl, Same.sqt sm8 hc, hok, .lst g7, wds, by omega, by omega, fun S H9 s9 nS hS => ?_⟩
        have wc := chk_ws (s := s0) (m := m) hb wds
        have lc := chk_len (s := s0) (m := m) (ws := ds) hb
        refine ⟨a7, S, _, _, rfl, rfl, s9 _ _ g7, hS, ?_, fun W hW => ?_⟩
        · simp only [List.length_map]
          exact Nat.le_of_lt (small1000 (by omega))
        rw [← List.map_append]
        have sW := same_upd (o := .lst ((ds ++ chk b s0 m ds).map vN)) hW
        have gW := upd_same (H := H9) (a := W) (o := .lst ((ds ++ chk b s0 m ds).map vN))
        generalize (upd H9 W (.lst ((ds ++ chk b s0 m ds).map vN))) = H10 at sW gW ⊢
        have Rp : Rt b m s0 n (ds ++ chk b s0 m ds) := ⟨by rw [List.length_append]; omega, fun x hx => by
          rcases List.mem_append.mp hx with h | h
          · exact wds x h
          · exact wc x h, fun j hj => chk_root hb (most_le hok) wds hj⟩
        have dp : ∀ j, j < n - m → gd (ds ++ chk b s0 m ds) j = if j = i then 2 ^ k else 0 := fun j hj => by
          have e : gd (ds ++ chk b s0 m ds) j = gd ds j := by
            unfold gd
            rw [List.getD_eq_getElem?_getD, List.getD_eq_getElem?_getD, List.getElem?_append_left (by omega)]
          rw [e, hds]
          unfold gd
          rw [List.getD_eq_getElem?_getD, List.append_assoc]
          by_cases c : j < i
          · rw [List.getElem?_append_left (by rw [List.length_replicate]; exact c), List.getElem?_replicate, if_pos c, if_neg (by omega)]
            rfl
          · rw [List.getElem?_append_right (by rw [List.length_replicate]; omega), List.length_replicate]
            by_cases c2 : j = i
            · rw [c2, Nat.sub_self, if_pos rfl]
              rfl
            · rw [if_neg c2, List.getElem?_append_right (by simp; omega), List.getElem?_replicate]
              split <;> rfl
        generalize ds ++ chk b s0 m ds = part at gW Rp dp
        have s310 := s38.trans (s9.trans sW)
        have sm10 := sm.trans s310
        clear s38 s9 sW sm8 g7 hS
        have I10 := I.ev.same s310
        refine ⟨_, rfl, _, rfl, F, rfl, ⟨_, .inl (.inl I10.lst)⟩, fun D hD => ?_⟩
        refine lc_it (walk_list (K := K) (a := F) (xs := ps.map fun p => V.ref p.1)) (fun t H' => ∃ qs : List (Addr × List Nat), Same H10 H' ∧ H' D = some (.lst (qs.map fun p => V.ref p.1)) ∧ (∀ p ∈ qs, SqT K H' p.1 (p.2.map vN)) ∧ qs.map (·.2) = (ps.take t).map fun p => zx part p.2)
          ⟨[], same_upd hD, upd_same, (fun p hp => nomatch hp), rfl⟩ (fun t H' _ ⟨_, h, _⟩ => .inl (.inl (h _ _ I10.lst))) ?_ ?_
        · rintro t v H11 H12 ht ⟨qs, s11, g11, tq, eq⟩ ⟨rfl, e2⟩
          rw [List.length_map] at ht
          obtain ⟨p, hp, ept, rfl⟩ : ∃ p, p ∈ ps ∧ ps[t]? = some p ∧ v = V.ref p.1 := by
            rw [List.getElem?_map, List.getElem?_eq_getElem ht] at e2
            exact ⟨ps[t], List.getElem_mem ht, List.getElem?_eq_getElem ht, (Option.some.inj e2).symm⟩
          have Rw := I.rt p hp
          refine ⟨rfl, ?_⟩
          refine ⟨_, rfl, _, rfl, W, p.1, _, _, rfl, .lst (s11 _ _ gW), Same.sqt s11 (I10.tup p hp), fun D2 hD2 => ?_⟩
          refine lc_it (walk_zipB (n := n) (ka := true) (kb := false) (K := K) (a := W) (b := p.1) (xs := part.map vN) (ys := p.2.map vN) (by rw [List.length_map, List.length_map, Rp.len, Rw.len, Nat.min_self])) (fun j H' => Same H12 H' ∧ H' D2 = some (.lst (((List.range j).map fun k => gd part k ^^^ gd p.2 k).map vN)))
            ⟨same_upd hD2, upd_same⟩ (fun j H' _ h => ⟨.lst (h.1 _ _ (s11 _ _ gW)), Same.sqt h.1 (Same.sqt s11 (I10.tup p hp))⟩) ?_ ?_
          · rintro j x H13 H14 hj ⟨s13, g13⟩ ⟨T1, x1, y1, rfl, hT, rfl, f1, f2⟩
            have ex := word_at (by rw [Rp.len]; exact hj) f1
            have ey := word_at (by rw [Rw.len]; exact hj) f2
            subst ex ey
            have sT := same_upd (o := .tup [vN (gd part j), vN (gd p.2 j)]) hT
            refine ⟨T1, [_, _], rfl, .inl (.inl upd_same), rfl, _, [_], rfl, _, [], rfl, rfl, ?_⟩
            generalize (upd H13 T1 (.tup [vN (gd part j), vN (gd p.2 j)])) = H15 at sT ⊢
            refine ⟨rfl, ?_⟩
            refine ⟨_, rfl, _, rfl, _, _, rfl, rfl, ?_⟩
            exact acc_step (f := fun k => gd part k ^^^ gd p.2 k) (s13.trans sT) hD2 (sT _ _ g13) (by omega) (congrArg V.int (bx _ _))
          · rintro H13 ⟨s13, g13⟩
            have ez : (List.range n).map (fun k => gd part k ^^^ gd p.2 k) = zx part p.2 := by
              unfold zx
              rw [Rp.len]
            rw [ez] at g13
            refine .inl ⟨D2, _, rfl, .inl (.inl g13), fun t2 ht2 => ?_⟩
            have sU := same_upd (o := .tup ((zx part p.2).map vN)) ht2
            have gU := upd_same (H := H13) (a := t2) (o := .tup ((zx part p.2).map vN))
            generalize (upd H13 t2 (.tup ((zx part p.2).map vN))) = H14 at sU gU ⊢
            have s1114 := s13.trans sU
            have lq : qs.length = t := by
              have h := congrArg List.length eq
              simp only [List.length_map, List.length_take] at h
              omega
            have nDt : D ≠ t2 := ne_of_none (s13 _ _ g11) ht2
            refine ⟨_, s1114 _ _ g11, ?_, qs ++ [(t2, zx part p.2)], fun c o hc => ?_, ?_, fun p' hp' => ?_, ?_⟩
            · rw [List.length_map, lq]
              have h := I.len
              have h2 : 2 ^ (i * b + k) ≤ 2 ^ 12 := Nat.pow_le_pow_right (by decide) (by
                have h3 : (i + 1) * b ≤ (n - m) * b := Nat.mul_le_mul_right b hi
                rw [Nat.add_mul, Nat.one_mul] at h3
                omega)
              rw [sizeLine_eq]
              omega
            · rw [upd_ne (ne_of_none hc hD)]
              exact s1114 _ _ (s11 _ _ hc)
            · rw [upd_same, List.map_append]
              rfl
            · have keep : ∀ (c : Addr) (zs : List V), SqT K H14 c zs → SqT K (upd H14 D (.lst (qs.map (fun p => V.ref p.1) ++ [V.ref t2]))) c zs := fun c zs h => by
                rcases h with (h | ⟨o, h⟩) | h
                · exact .inl (.inl (by rw [upd_ne (fun e => by rw [e, s1114 _ _ g11] at h; cases h)]; exact h))
                · exact .inl (.inr ⟨o, by rw [upd_ne (fun e => by rw [e, s1114 _ _ g11] at h; cases h)]; exact h⟩)
                · exact .inr h
              refine keep _ _ ?_
              rcases List.mem_append.mp hp' with h | h
              · exact Same.sqt s1114 (tq p' h)
              · rw [List.mem_singleton.mp h]
                exact .inl (.inl gU)
            · rw [List.map_append, eq, List.take_add_one, ept, List.map_append]
              rfl
        · rintro H11 ⟨qs, s11, g11, tq, eq⟩
          rw [List.length_map, List.take_length] at eq
          have lq : qs.length = ps.length := by
            have h := congrArg List.length eq
            simpa only [List.length_map] using h
          have h2 : 2 ^ (i * b + k) ≤ 2 ^ 12 := Nat.pow_le_pow_right (by decide) (by
            have h3 : (i + 1) * b ≤ (n - m) * b := Nat.mul_le_mul_right b hi
            rw [Nat.add_mul, Nat.one_mul] at h3
            omega)
          have hl := I.len
          have I11 := I10.same s11
          refine ⟨F, D, _, _, rfl, rfl, I11.lst, g11, ?_, fun N hN => ?_⟩
          · rw [List.length_map, List.length_map, lq, sizeLine_eq]
            omega
          rw [← List.map_append]
          have sN := same_upd (o := .lst ((ps ++ qs).map fun p => V.ref p.1)) hN
          have gN := upd_same (H := H11) (a := N) (o := .lst ((ps ++ qs).map fun p => V.ref p.1))
          generalize (upd H11 N (.lst ((ps ++ qs).map fun p => V.ref p.1))) = H12 at sN gN ⊢
          have cv := Cov.step hb I.cov hk Rp hi (by omega) dp
          refine ⟨N, ps ++ qs, _, _, _, _, _, _, rfl, sm10.trans (s11.trans sN), ⟨⟨gN, fun p hp => ?_⟩, ?_, fun p hp => ?_, ?_⟩⟩
          · rcases List.mem_append.mp hp with h | h
            · exact Same.sqt sN (I11.tup p h)
            · exact Same.sqt sN (tq p h)
          · rw [List.length_append, lq, hl, ← Nat.two_mul, ← Nat.pow_succ']
            rfl
          · rcases List.mem_append.mp hp with h | h
            · exact I.rt p h
            · have h3 : p.2 ∈ qs.map (·.2) := List.mem_map.mpr ⟨p, h, rfl⟩
              rw [eq] at h3
              obtain ⟨p', hp', e'⟩ := List.mem_map.mp h3
              rw [← e']
              exact Rp.zx hb (I.rt p' hp')
          · rw [List.map_append, eq]
            rw [List.map_map] at cv
            exact cv
      · rintro σ H3 ⟨F, ps, z5, z6, z7, z8, z9, z10, rfl, sm, I⟩
        exact ⟨F, ps, _, _, _, _, _, _, _, rfl, sm, ⟨I.ev, by rw [I.len, Nat.add_mul, Nat.one_mul, Nat.add_zero], I.rt, Cov.next hb I.cov⟩⟩
    · rintro σ H2 ⟨F, ps, z4, z5, z6, z7, z8, z9, z10, rfl, sm, I⟩
      have hl := I.len
      rw [Nat.add_zero] at hl
      have h2 : 2 ^ ((n - m) * b) ≤ 2 ^ 12 := Nat.pow_le_pow_right (by decide) hbit
      have h3 : 0 < 2 ^ ((n - m) * b) := Nat.two_pow_pos _
      refine ⟨_, rfl, F, _, n, (span b : Int), rfl, .inl (.inl I.ev.lst), by omega, fun x hx => ?_, fun ys p perm _ hp => ?_⟩
      · obtain ⟨p, hp, rfl⟩ := List.mem_map.mp hx
        have R := I.rt p hp
        refine ⟨p.2.map fun k : Nat => (k : Int), ⟨p.1, rfl, ?_⟩, by rw [List.length_map, R.len], fun x hx => ?_⟩
        · have e : (p.2.map fun k : Nat => (k : Int)).map V.int = p.2.map vN := by rw [List.map_map]; rfl
          rw [e]
          exact I.ev.tup p hp
        · obtain ⟨k, hk, rfl⟩ := List.mem_map.mp hx
          have := R.ws k hk
          omega
      · obtain ⟨ps', pp, rfl⟩ := perm_map_inv perm ps rfl
        have sp := same_upd (o := .lst (ps'.map fun p => V.ref p.1)) hp
        refine q p ps' _ (sm.trans sp) ⟨upd_same, fun p' hp' => Same.sqt sp (I.ev.tup p' (pp.mem_iff.mp hp'))⟩ (by rw [pp.length_eq]; omega) (by rw [pp.length_eq]; omega) (fun p' hp' => I.rt p' (pp.mem_iff.mp hp')) (fun w hw => ?_) (Same.free sm hp)
        exact (pp.map (·.2)).mem_iff.mpr (Cov.all I.cov w hw)
/-! CUT -/
/-- a word that differs, gaps aside -/
def difB (row : List (Option Nat)) (w : List Nat) (i : Nat) : Bool := (og row i).isSome && decide (gd (knownL row) i ≠ gd w i)
theorem lies_dif (row : List (Option Nat)) (w : List Nat) : liesL row w = (List.range row.length).filter (difB row w) := rfl
theorem one_yes {H1 H' : Hp} {D : Addr} {P : Nat → Bool} {i : Nat} (sm : Same H1 H') (hD : H1 D = none) (g : H' D = some (.lst (List.replicate ((List.range i).filter P).length (.int 1)))) (hi : i < 1000) (hp : P i = true) :
    ∃ acc, H' D = some (.lst acc) ∧ acc.length < sizeLine ∧ Same H1 (upd H' D (.lst (acc ++ [V.int 1]))) ∧ (upd H' D (.lst (acc ++ [V.int 1]))) D = some (.lst (List.replicate ((List.range (i + 1)).filter P).length (.int 1))) := by
  refine ⟨_, g, ?_, fun c o hc => ?_, ?_⟩
  · have h := List.length_filter_le P (List.range i)
    rw [List.length_range] at h
    rw [List.length_replicate]
    exact small1000 (by omega)
  · rw [upd_ne (ne_of_none hc hD)]
    exact sm _ _ hc
  · rw [upd_same, filter_snoc, if_pos hp, List.length_append]
    show some (HO.lst _) = some (HO.lst (List.replicate (_ + 1) _))
    rw [List.replicate_succ']
theorem one_no {P : Nat → Bool} {i : Nat} (hp : P i = false) : List.replicate ((List.range (i + 1)).filter P).length (V.int 1) = List.replicate ((List.range i).filter P).length (V.int 1) := by
  rw [filter_snoc, hp, if_neg Bool.false_ne_true, List.append_nil]
def sp_gap (K : PySem.W.Frag) : Sp := fun vs H Q _ => ∃ (a t : Addr) (row : List (Option Nat)) (ws : List Nat), vs = [.ref a, .ref t] ∧ H a = some (.lst (row.map vO)) ∧ SqT K H t (ws.map vN) ∧ row.length = ws.length ∧ row.length ≤ 300 ∧ ∀ H', Same H H' → Q (vN (liesL row ws).length) H'
theorem ok__law_gap (T : Txt K mg) : FnOk P w K mg base CX0 1 T.f__law_gap T.d__law_gap ["_law_torn_here", "_law_some"] (sp_gap K) := by
  refine T.F__law_gap.ok sc__law_gap (fun vs H Q E h => ?_) (fun cdv A outer s H vs Q E hr h => ?_)
  · obtain ⟨a, t, row, ws, rfl, _⟩ := h
    rfl
  · obtain ⟨a, t, row, ws, rfl, ha, ht, hl, hn, q⟩ := h
    refine ⟨_, (pss_one (ps_ret (pe_callB call_len_seq (by rfl) T.n_len (by decide +kernel) (pa_cons (pe_lc (own := [("_law_one", 2), ("_law_other", 3)]) (g := gTup K 2 (gCons (gName 2) (gCons (gName 3) gNil))) rfl sc__law_gap.nd (pi_zipLT (K := K) (by rfl) (by rfl) T.n_zip (pa_cons (pv 0) (pa_cons (pv 1) pa_nil))) (blkOk_by (N := ["_law_torn_here", "_law_some", "_law_one", "_law_other"]) (sc := defScope s__law_gap) (by decide +kernel)) (fun _ _ _ _ _ => by (refine pg_tup ?_ ?_); (exact rfl); (refine pgs_cons ?_ ?_); (exact (pg_name (i := 2) sc__law_gap.nd rfl (.inl rfl))); (refine pgs_cons ?_ ?_); (exact (pg_name (i := 3) sc__law_gap.nd rfl (.inl rfl))); (exact pgs_nil)) (fun _ _ _ _ _ => by exact (pts_one (PW.pt (pw_and (pt_cmpR op_notN (pv 2) pe_non (nomark _)) (pw_and1 (pt_cmpR op_ne (pv 2) (pv 3) (nomark _))))))) (fun _ _ _ _ _ => by exact pe_int)) pa_nil)))), ?_⟩
    refine ⟨_, rfl, _, rfl, a, t, _, _, rfl, .lst ha, ht, fun Fd hFd => ?_⟩
    refine lc_it (walk_zipB (n := row.length) (ka := true) (kb := false) (K := K) (a := a) (b := t) (xs := row.map vO) (ys := ws.map vN) (by rw [List.length_map, List.length_map]; omega)) (fun i H' => Same H H' ∧ H' Fd = some (.lst (List.replicate ((List.range i).filter (difB row ws)).length (.int 1))))
      ⟨same_upd hFd, upd_same⟩ (fun i H' _ h => ⟨.lst (h.1 _ _ ha), Same.sqt h.1 ht⟩) ?_ ?_
    · rintro i v H8 H9 hi ⟨sm, g⟩ ⟨T1, x1, y1, rfl, hT, rfl, e1, e2⟩
      have ex := og_at hi e1
      have ey := word_at (by omega) e2
      subst ex ey
      have sT := same_upd (o := .tup [vO (og row i), vN (gd ws i)]) hT
      refine ⟨T1, [_, _], rfl, .inl (.inl upd_same), rfl, _, [_], rfl, _, [], rfl, rfl, ?_⟩
      generalize (upd H8 T1 (.tup [vO (og row i), vN (gd ws i)])) = H9 at sT ⊢
      refine ⟨rfl, ?_⟩
      refine ⟨_, rfl, rfl, _, rfl, ?_⟩
      rw [gap_dec]
      cases ho : og row i with
      | none =>
        refine iteF (iteF ⟨sm.trans sT, ?_⟩)
        rw [one_no (P := difB row ws) (by unfold difB; rw [ho]; rfl)]
        exact sT _ _ g
      | some x =>
        refine iteT ⟨_, rfl, _, rfl, rfl, _, rfl, ?_⟩
        have eg : gd (knownL row) i = x := by rw [known_gd hi, ho]; rfl
        by_cases hd : x = gd ws i
        · have hP : difB row ws i = false := by
            unfold difB
            rw [ho, eg, hd]
            simp
          have e3 : (!decide (vO (some x) = vN (gd ws i))) = false := by rw [hd]; simp [vO]
          rw [e3]
          refine iteF ⟨sm.trans sT, ?_⟩
          rw [one_no (P := difB row ws) hP]
          exact sT _ _ g
        · have hP : difB row ws i = true := by
            unfold difB
            rw [ho, eg]
            simp [hd]
          have e3 : (!decide (vO (some x) = vN (gd ws i))) = true := by
            rw [Bool.not_eq_true', decide_eq_false_iff_not]
            intro h
            have := V.int.inj h
            omega
          rw [e3]
          exact iteT (one_yes (P := difB row ws) (sm.trans sT) hFd (sT _ _ g) (by omega) hP)
    · rintro H1 ⟨s1, g1⟩
      refine ⟨Fd, _, rfl, .inl (.inl (.inl g1)), ?_⟩
      rw [List.length_replicate]
      exact q H1 s1
/-! CUT -/
theorem og_set {row : List (Option Nat)} {i k : Nat} {o : Option Nat} (h : i < row.length) : og (row.set i o) k = if k = i then o else og row k := by
  unfold og
  rw [List.getD_eq_getElem?_getD, List.getD_eq_getElem?_getD, List.getElem?_set]
  by_cases e : i = k
  · subst e
    simp [h]
  · rw [if_neg e, if_neg fun z => e z.symm]
theorem RowOk.set {b i : Nat} {row : List (Option Nat)} {o : Option Nat} (h : RowOk b row) (ho : ∀ x, o = some x → x < span b) : RowOk b (row.set i o) := fun x hx => by
  rcases List.mem_or_eq_of_mem_set hx with hx | hx
  · exact h x hx
  · exact ho x hx.symm
theorem some_vO (w : List Nat) : (w.map some).map vO = w.map vN := by
  rw [List.map_map]
  rfl
theorem some_row {b : Nat} {w : List Nat} (hw : Ws b w) : RowOk b (w.map some) := fun x hx => by
  obtain ⟨y, hy, e⟩ := List.mem_map.mp hx
  exact Option.some.inj e ▸ hw y hy
theorem EvAt.kp {K : PySem.W.Frag} {p : Addr} {ys : List V} {H H' : Hp} {F : Addr} {ps : List (Addr × List Nat)} (h : EvAt K H F ps) (k : Kp p H H') (hp : H p = some (.lst ys)) (n : F ≠ p) : EvAt K H' F ps := ⟨k _ _ h.lst n, fun q hq => Kp.sqt k hp (h.tup q hq)⟩
/-- a row so far -/
structure Tn (b n : Nat) (b0 : Int) (p : Addr) (H H' : Hp) (l : Addr) (row : List (Option Nat)) (a' c' : Int) : Prop where
  len : row.length = n
  ok : RowOk b row
  kp : Kp p H H'
  well : H' p = some (WellL a' b0 c')
  new : H l = none
  lst : H' l = some (.lst (row.map vO))
  ne : p ≠ l
theorem Tn.put {b n : Nat} {b0 a' c' a2 c2 : Int} {p l : Addr} {H H' H2 : Hp} {row : List (Option Nat)} {i : Nat} {o : Option Nat} (t : Tn b n b0 p H H' l row a' c') (k : Kp p H' H2) (hw : H2 p = some (WellL a2 b0 c2)) (hi : i < n) (ho : ∀ x, o = some x → x < span b) :
    Tn b n b0 p H (upd H2 l (.lst ((row.map vO).set i (vO o)))) l (row.set i o) a2 c2 where
  len := by rw [List.length_set]; exact t.len
  ok := t.ok.set ho
  kp := fun d u hd nd => by rw [upd_ne (ne_of_none hd t.new)]; exact k _ _ (t.kp _ _ hd nd) nd
  well := by rw [upd_ne t.ne]; exact hw
  new := t.new
  lst := by rw [upd_same, List.map_set]
  ne := t.ne
def sp_torn (K : PySem.W.Frag) : Sp := fun vs H Q _ => ∃ (p c1 e : Addr) (a b0 c : Int) (b m s n : Nat) (ps : List (Addr × List Nat)), vs = [.ref p, .ref c1, vN n, .ref e] ∧ p ≠ e ∧ H p = some (WellL a b0 c) ∧ SqT K H c1 [vN b, vN m, vN s] ∧ CodeOk b m s ∧ m < n ∧ n < span b ∧
  EvAt K H e ps ∧ 0 < ps.length ∧ ps.length ≤ 4096 ∧ (∀ p ∈ ps, Rt b m s n p.2) ∧
  ∀ (l : Addr) (row : List (Option Nat)) (a' c' : Int) (H' : Hp), Tn b n b0 p H H' l row a' c' → Q (.ref l) H'
theorem ok__law_torn (T : Txt K mg) : FnOk P w K mg base CX0 3 T.f__law_torn T.d__law_torn ["_law_well", "_law_kit", "_law_size", "_law_every_here"] (sp_torn K) := by
  refine T.F__law_torn.ok sc__law_torn (fun vs H Q E h => ?_) (fun cdv A outer s H vs Q E hr h => ?_)
  · obtain ⟨p, c1, e, a, b0, c, b, m, s, n, ps, rfl, _⟩ := h
    rfl
  · obtain ⟨p, c1, e, a, b0, c, b, m, s0, n, ps, rfl, npe, hp, hc, hok, hmn, hn, hE, hE0, hE1, hR, q⟩ := h
    refine ⟨_, (pss_cons (ps_asg (pe_tup (pa_cons (pe_op op_shl pe_int (pe_ix (ix_rowBK (K := K) rfl) (pv 1) pe_int (fun _ _ => rfl))) (pa_cons (pe_call (ok__law_draw T) (hr.mono (by decide)) (by rfl) T.g__law_draw T.F__law_draw.kp T.b__law_draw .nil pass0 (pa_cons (pv 0) (pa_cons pe_int pa_nil))) pa_nil))) (pg_tup rfl (pgs_cons (pg_name (i := 4) sc__law_torn.nd rfl (.inr rfl)) (pgs_cons (pg_name (i := 5) sc__law_torn.nd rfl (.inl rfl)) pgs_nil))))
      (Evl.pss_cut (ps_set (i := 6) sc__law_torn.nd rfl (.inl rfl) (pe_callTy call_list_of (by rfl) T.n_list (by decide +kernel) (pa_cons (pe_ix ix_list (pv 3) (pe_call (ok__law_draw T) (hr.mono (by decide)) (by rfl) T.g__law_draw T.F__law_draw.kp T.b__law_draw .nil pass0 (pa_cons (pv 0) (pa_cons (pe_callB call_len_seq (by rfl) T.n_len (by decide +kernel) (pa_cons (pv 3) pa_nil)) pa_nil))) (fun _ _ => rfl)) pa_nil)))
      (Evl.pss_cut (ps_if (pt_cmpR op_eq (pv 5) pe_int (nomark _)) (pss_one (ps_setLc (i := 6) (own := [("_law_k", 9)]) rfl sc__law_torn.nd rfl rfl (sw_true rfl rfl rfl (by decide +kernel)) (pi_range1 (by rfl) T.n_range (pa_cons (pv 2) pa_nil)) (blkOk_by (N := ["_law_well", "_law_kit", "_law_size", "_law_every_here", "_law_top", "_law_way", "_law_torn_here", "_law_other", "_law_turn", "_law_k", "_law_one", "_law_two"]) (sc := defScope s__law_torn) (by decide +kernel)) (fun _ _ _ _ _ => by exact (pg_name (i := 9) sc__law_torn.nd rfl (.inl rfl))) (fun _ _ _ _ _ => by exact pts_nil) (fun _ _ _ _ _ => by exact (pe_call (ok__law_draw T) (hr.mono (by decide)) (by rfl) T.g__law_draw T.F__law_draw.kp T.b__law_draw .nil pass0 (pa_cons (pv 0) (pa_cons (pv 4) pa_nil)))))) pss_nil)
      (Evl.pss_cut (ps_if (pt_cmpR op_eq (pv 5) pe_int (nomark _)) (pss_cons (ps_set (i := 7) sc__law_torn.nd rfl (.inl rfl) (pe_ix ix_list (pv 3) (pe_call (ok__law_draw T) (hr.mono (by decide)) (by rfl) T.g__law_draw T.F__law_draw.kp T.b__law_draw .nil pass0 (pa_cons (pv 0) (pa_cons (pe_callB call_len_seq (by rfl) T.n_len (by decide +kernel) (pa_cons (pv 3) pa_nil)) pa_nil))) (fun _ _ => rfl)))
      (pss_one (ps_setLc (i := 6) (own := [("_law_one", 10), ("_law_two", 11)]) (g := gTup K 2 (gCons (gName 10) (gCons (gName 11) gNil))) rfl sc__law_torn.nd rfl rfl (sw_true rfl rfl rfl (by decide +kernel)) (pi_zipLT (K := K) (by rfl) (by rfl) T.n_zip (pa_cons (pv 6) (pa_cons (pv 7) pa_nil))) (blkOk_by (N := ["_law_well", "_law_kit", "_law_size", "_law_every_here", "_law_top", "_law_way", "_law_torn_here", "_law_other", "_law_turn", "_law_k", "_law_one", "_law_two"]) (sc := defScope s__law_torn) (by decide +kernel)) (fun _ _ _ _ _ => by (refine pg_tup ?_ ?_); (exact rfl); (refine pgs_cons ?_ ?_); (exact (pg_name (i := 10) sc__law_torn.nd rfl (.inl rfl))); (refine pgs_cons ?_ ?_); (exact (pg_name (i := 11) sc__law_torn.nd rfl (.inl rfl))); (exact pgs_nil)) (fun _ _ _ _ _ => by exact pts_nil) (fun _ _ _ _ _ => by exact (pe_call (ok__law_pick T) (hr.mono (by decide)) (by rfl) T.g__law_pick T.F__law_pick.kp T.b__law_pick .nil pass0 (pa_cons (pv 0) (pa_cons (pe_lst (pa_cons (pv 10) (pa_cons (pv 11) pa_nil))) pa_nil))))))) pss_nil)
      (Evl.pss_cut (ps_for PassesOwn.never rfl (pi_range1 (by rfl) T.n_range (pa_cons (pe_op op_mul (pe_call (ok__law_draw T) (hr.mono (by decide)) (by rfl) T.g__law_draw T.F__law_draw.kp T.b__law_draw .nil pass0 (pa_cons (pv 0) (pa_cons (pe_op op_add (pe_ix (ix_rowBK (K := K) rfl) (pv 1) pe_int (fun _ _ => rfl)) pe_int) pa_nil))) (pe_callTy call_int1 (by rfl) T.n_int (by decide +kernel) (pa_cons (pe_cmpR op_gt (pv 5) pe_int (nomark _)) pa_nil))) pa_nil)) (pg_name (i := 8) sc__law_torn.nd rfl (.inl rfl)) (pss_one (ps_asg (pe_call (ok__law_draw T) (hr.mono (by decide)) (by rfl) T.g__law_draw T.F__law_draw.kp T.b__law_draw .nil pass0 (pa_cons (pv 0) (pa_cons (pv 4) pa_nil))) (pg_sub (pv 6) (pe_call (ok__law_draw T) (hr.mono (by decide)) (by rfl) T.g__law_draw T.F__law_draw.kp T.b__law_draw .nil pass0 (pa_cons (pv 0) (pa_cons (pv 2) pa_nil))) set_list))))
      (pss_cons (ps_for PassesOwn.never rfl (pi_range1 (by rfl) T.n_range (pa_cons (pe_op op_mul (pe_call (ok__law_draw T) (hr.mono (by decide)) (by rfl) T.g__law_draw T.F__law_draw.kp T.b__law_draw .nil pass0 (pa_cons (pv 0) (pa_cons (pe_op op_add (pv 2) pe_int) pa_nil))) (pe_callTy call_int1 (by rfl) T.n_int (by decide +kernel) (pa_cons (pe_cmpR op_eq (pe_call (ok__law_draw T) (hr.mono (by decide)) (by rfl) T.g__law_draw T.F__law_draw.kp T.b__law_draw .nil pass0 (pa_cons (pv 0) (pa_cons pe_int pa_nil))) pe_int (nomark _)) pa_nil))) pa_nil)) (pg_name (i := 8) sc__law_torn.nd rfl (.inl rfl)) (pss_one (ps_asg pe_non (pg_sub (pv 6) (pe_call (ok__law_draw T) (hr.mono (by decide)) (by rfl) T.g__law_draw T.F__law_draw.kp T.b__law_draw .nil pass0 (pa_cons (pv 0) (pa_cons (pv 2) pa_nil))) set_list))))
      (pss_one (ps_ret (pv 6))))))))), ?_⟩
    have hb := hok.1
    have hs1 := span_pos hb
    have hs2 := span_small hb
    refine ⟨_, rfl, c1, _, 0, vN b, false, rfl, rfl, hc, rfl, _, _, rfl, rfl, shl_ok hb, _, rfl, p, a, b0, c, _, rfl, hp, by decide, by decide, fun way a1 c2 w0 w1 => ⟨(by show 2 ≤ sizeLine; decide), fun tu htu => ?_⟩⟩
    have stu := same_upd (o := .tup [.int (1 * 2 ^ ((b : Int)).toNat), .int way]) htu
    refine ⟨tu, [_, _], rfl, .inl (.inl upd_same), rfl, _, [_], rfl, _, [], rfl, rfl, ?_⟩
    have k1 : Kp p H (upd (upd H p (WellL a1 b0 c2)) tu (.tup [.int (1 * 2 ^ ((b : Int)).toNat), .int way])) := Kp.upd.trans (Same.kp stu)
    have hp1 := stu _ _ (upd_same (H := H) (a := p) (o := WellL a1 b0 c2))
    have hsp := shl_span hb
    dsimp only
    rw [hsp] at k1 hp1 ⊢
    generalize (upd (upd H p (WellL a1 b0 c2)) tu (.tup [.int (span b : Int), .int way])) = H1 at k1 hp1 ⊢
    have E1 := hE.kp k1 hp npe.symm
    refine ⟨fun σ' H' => ∃ (l : Addr) (row : List (Option Nat)) (a' c' : Int) (z7 z8 z9 z10 z11 : Option V), σ' = [some (.ref p), some (.ref c1), some (vN n), some (.ref e), some (.int (span b : Int)), some (.int way), some (.ref l), z7, z8, z9, z10, z11] ∧ Tn b n b0 p H H' l row a' c', ?_, ?_⟩
    · refine ⟨_, rfl, _, rfl, _, rfl, e, _, rfl, .inl (.inl (.inl E1.lst)), p, a1, b0, c2, _, rfl, hp1, by rw [List.length_map]; omega, by rw [List.length_map]; omega, fun x a3 c4 x0 x1 => ?_⟩
      obtain ⟨X, rfl⟩ := Int.eq_ofNat_of_zero_le x0
      rw [List.length_map] at x1
      have hX : X < ps.length := by omega
      have k2 : Kp p H (upd H1 p (WellL a3 b0 c4)) := k1.trans Kp.upd
      have hp2 : (upd H1 p (WellL a3 b0 c4)) p = some (WellL a3 b0 c4) := upd_same
      generalize (upd H1 p (WellL a3 b0 c4)) = H2 at k2 hp2 ⊢
      have E2 := hE.kp k2 hp npe.symm
      have hm : ps[X] ∈ ps := List.getElem_mem hX
      refine ⟨e, _, (X : Int), V.ref ps[X].1, rfl, rfl, .inl (.inl E2.lst), atI_nat (by rw [List.getElem?_map, List.getElem?_eq_getElem hX]; rfl), ps[X].1, _, rfl, .inr (E2.tup _ hm), fun l hl => ?_⟩
      have R := hR _ hm
      exact ⟨l, ps[X].2.map some, a3, c4, _, _, _, _, _, rfl, by rw [List.length_map, R.len], some_row R.ws, k2.trans (Same.kp (same_upd hl)), same_upd hl _ _ hp2, Kp.free k2 hp hp2 hl, by rw [upd_same, some_vO], ne_of_none hp2 hl⟩
    · clear E1 k1 hp1 stu htu
      rintro σ' H2 ⟨l, row, a3, c4, z7, z8, z9, z10, z11, rfl, tn⟩
      refine ⟨fun σ' H' => ∃ (l : Addr) (row : List (Option Nat)) (a' c' : Int) (z7 z8 z9 z10 z11 : Option V), σ' = [some (.ref p), some (.ref c1), some (vN n), some (.ref e), some (.int (span b : Int)), some (.int way), some (.ref l), z7, z8, z9, z10, z11] ∧ Tn b n b0 p H H' l row a' c', ?_, ?_⟩
      · refine ⟨_, rfl, rfl, _, rfl, ?_⟩
        refine ite2 (fun cc => ?_) (fun cc => ⟨l, row, a3, c4, _, _, _, _, _, rfl, tn⟩)
        refine ⟨_, rfl, _, rfl, by omega, by omega, fun D hD => ?_⟩
        have hpD : p ≠ D := ne_of_none tn.well hD
        have hp1 := tn.well
        refine lc_range (lo := 0) (n := n) (fun i H' => ∃ (ws : List Nat) (a' c' : Int), Ws b ws ∧ ws.length = i ∧ Kp p H2 H' ∧ H' p = some (WellL a' b0 c') ∧ H' D = some (.lst (ws.map vN))) ⟨[], a3, c4, (fun x hx => nomatch hx), rfl, Same.kp (same_upd hD), (same_upd hD) _ _ hp1, upd_same⟩ ?_ ?_
        · rintro i H' hi ⟨ws, a2, c3, hws, hl, kp, hp2, hD2⟩
          refine ⟨rfl, ?_⟩
          refine ⟨_, rfl, _, rfl, p, a2, b0, c3, _, rfl, hp2, by omega, by omega, fun x a5 c6 x0 x1 => ?_⟩
          obtain ⟨X, rfl⟩ := Int.eq_ofNat_of_zero_le x0
          have k4 : Kp p H' (upd H' p (WellL a5 b0 c6)) := Kp.upd
          refine ⟨_, k4 _ _ hD2 hpD.symm, ?_, ws ++ [X], a5, c6, fun y hy => ?_, ?_, fun d o hd nd => ?_, ?_, ?_⟩
          · rw [List.length_map]
            exact small1000 (by omega)
          · rcases List.mem_append.mp hy with h | h
            · exact hws y h
            · rw [List.mem_singleton.mp h]
              omega
          · rw [List.length_append, hl]
            rfl
          · rw [upd_ne (ne_of_none hd hD)]
            exact k4 _ _ (kp _ _ hd nd) nd
          · rw [upd_ne hpD]
            exact upd_same
          · rw [upd_same, List.map_append]
            rfl
        · rintro H' ⟨ws, a2, c3, hws, hl, kp, hp2, hD2⟩
          exact ⟨D, ws.map some, a2, c3, _, _, _, _, _, rfl, by rw [List.length_map]; exact hl, some_row hws, tn.kp.trans kp, hp2, Kp.free tn.kp hp tn.well hD, by rw [hD2, some_vO], hpD⟩
      · clear tn
        rintro σ' H2 ⟨l, row, a3, c4, z7, z8, z9, z10, z11, rfl, tn⟩
        refine ⟨fun σ' H' => ∃ (l : Addr) (row : List (Option Nat)) (a' c' : Int) (z7 z8 z9 z10 z11 : Option V), σ' = [some (.ref p), some (.ref c1), some (vN n), some (.ref e), some (.int (span b : Int)), some (.int way), some (.ref l), z7, z8, z9, z10, z11] ∧ Tn b n b0 p H H' l row a' c', ?_, ?_⟩
        · refine ⟨_, rfl, rfl, _, rfl, ?_⟩
          refine ite2 (fun cc => ?_) (fun cc => ⟨l, row, a3, c4, _, _, _, _, _, rfl, tn⟩)
          have E2 := hE.kp tn.kp hp npe.symm
          refine ⟨_, rfl, _, rfl, _, rfl, e, _, rfl, .inl (.inl (.inl E2.lst)), p, a3, b0, c4, _, rfl, tn.well, by rw [List.length_map]; omega, by rw [List.length_map]; omega, fun x a5 c6 x0 x1 => ?_⟩
          obtain ⟨X, rfl⟩ := Int.eq_ofNat_of_zero_le x0
          rw [List.length_map] at x1
          have hX : X < ps.length := by omega
          have k2 : Kp p H2 (upd H2 p (WellL a5 b0 c6)) := Kp.upd
          have hp2 : (upd H2 p (WellL a5 b0 c6)) p = some (WellL a5 b0 c6) := upd_same
          generalize (upd H2 p (WellL a5 b0 c6)) = H3 at k2 hp2 ⊢
          have E3 := hE.kp (tn.kp.trans k2) hp npe.symm
          have hm : ps[X] ∈ ps := List.getElem_mem hX
          have R := hR _ hm
          have T3 := E3.tup _ hm
          have g3 := k2 _ _ tn.lst tn.ne.symm
          refine ⟨e, _, (X : Int), V.ref ps[X].1, rfl, rfl, .inl (.inl E3.lst), atI_nat (by rw [List.getElem?_map, List.getElem?_eq_getElem hX]; rfl), ?_⟩
          generalize ps[X] = pr at T3 R ⊢
          refine ⟨_, rfl, _, rfl, l, pr.1, _, _, rfl, .lst g3, T3, fun D hD => ?_⟩
          have hpD : p ≠ D := ne_of_none hp2 hD
          refine lc_it (walk_zipB (n := n) (ka := true) (kb := false) (K := K) (a := l) (b := pr.1) (xs := row.map vO) (ys := pr.2.map vN) (by rw [List.length_map, List.length_map, tn.len, R.len, Nat.min_self])) (fun i H' => ∃ (rw' : List (Option Nat)) (a' c' : Int), RowOk b rw' ∧ rw'.length = i ∧ Kp p H3 H' ∧ H' p = some (WellL a' b0 c') ∧ H' D = some (.lst (rw'.map vO)))
            ⟨[], a5, c6, (fun x hx => nomatch hx), rfl, Same.kp (same_upd hD), same_upd hD _ _ hp2, upd_same⟩ (fun i H' _ ⟨_, _, _, _, _, k, _, _⟩ => ⟨.lst (k _ _ g3 tn.ne.symm), Kp.sqt k hp2 T3⟩) ?_ ?_
          · rintro i v H8 H9 hi ⟨rw', a6, c7, ok', li, k8, hp8, g8⟩ ⟨T1, x1', y1, rfl, hT, rfl, f1, f2⟩
            have ex := og_at (by rw [tn.len]; exact hi) f1
            have ey := word_at (by rw [R.len]; exact hi) f2
            subst ex ey
            have sT := same_upd (o := .tup [vO (og row i), vN (gd pr.2 i)]) hT
            refine ⟨T1, [_, _], rfl, .inl (.inl upd_same), rfl, _, [_], rfl, _, [], rfl, rfl, ?_⟩
            generalize (upd H8 T1 (.tup [vO (og row i), vN (gd pr.2 i)])) = H10 at sT ⊢
            refine ⟨rfl, ?_⟩
            refine ⟨_, rfl, _, rfl, _, rfl, (by show 2 ≤ sizeLine; decide), fun L2 hL2 => ?_⟩
            have npL := ne_of_none (sT _ _ hp8) hL2
            refine ⟨p, L2, a6, b0, c7, _, rfl, npL, same_upd hL2 _ _ (sT _ _ hp8), upd_same, (by show 0 < 2; decide), (by show 2 ≤ 1000; decide), fun k v a8 c9 hv => ?_⟩
            obtain ⟨o, ho, rfl⟩ : ∃ o : Option Nat, (∀ x, o = some x → x < span b) ∧ v = vO o := by
              rcases k with _ | _ | k
              · exact ⟨og row i, fun x hx => tn.ok x (og_mem (by rw [tn.len]; exact hi) hx), (Option.some.inj hv).symm⟩
              · exact ⟨some (gd pr.2 i), fun x hx => by rw [← Option.some.inj hx]; exact gd_lt hb R.ws i, (Option.some.inj hv).symm⟩
              · cases hv
            have k11 : Kp p H8 (upd (upd H10 L2 (.lst [vO (og row i), vN (gd pr.2 i)])) p (WellL a8 b0 c9)) := (Same.kp (sT.trans (same_upd hL2))).trans Kp.upd
            have hp11 : (upd (upd H10 L2 (.lst [vO (og row i), vN (gd pr.2 i)])) p (WellL a8 b0 c9)) p = some (WellL a8 b0 c9) := upd_same
            generalize (upd (upd H10 L2 (.lst [vO (og row i), vN (gd pr.2 i)])) p (WellL a8 b0 c9)) = H11 at k11 hp11 ⊢
            refine ⟨_, k11 _ _ g8 hpD.symm, ?_, rw' ++ [o], a8, c9, fun y hy => ?_, ?_, fun d u hd nd => ?_, ?_, ?_⟩
            · rw [List.length_map]
              exact small1000 (by omega)
            · rcases List.mem_append.mp hy with h | h
              · exact ok' y h
              · exact ho y (List.mem_singleton.mp h).symm
            · rw [List.length_append, li]
              rfl
            · rw [upd_ne (ne_of_none hd hD)]
              exact k11 _ _ (k8 _ _ hd nd) nd
            · rw [upd_ne hpD]
              exact hp11
            · rw [upd_same, List.map_append]
              rfl
          · rintro H8 ⟨rw', a6, c7, ok', li, k8, hp8, g8⟩
            exact ⟨D, rw', a6, c7, _, _, _, _, _, rfl, li, ok', tn.kp.trans (k2.trans k8), hp8, Kp.free (tn.kp.trans k2) hp hp2 hD, g8, hpD⟩
        · clear tn
          rintro σ' H2 ⟨l, row, a3, c4, z7, z8, z9, z10, z11, rfl, tn⟩
          refine ⟨fun σ' H' => ∃ (l : Addr) (row : List (Option Nat)) (a' c' : Int) (z7 z8 z9 z10 z11 : Option V), σ' = [some (.ref p), some (.ref c1), some (vN n), some (.ref e), some (.int (span b : Int)), some (.int way), some (.ref l), z7, z8, z9, z10, z11] ∧ Tn b n b0 p H H' l row a' c', ?_, ?_⟩
          · have hm40 : m ≤ 40 := by
              have := hok.2.2.1
              unfold mostC at this
              split at this <;> omega
            refine ⟨_, rfl, _, rfl, c1, _, 1, vN m, false, rfl, rfl, Kp.sqt tn.kp hp hc, rfl, _, _, rfl, rfl, p, a3, b0, c4, _, rfl, tn.well, by omega, by omega, fun x a5 c6 x0 x1 => ⟨_, rfl, _, _, rfl, rfl, .inr ⟨_, rfl, _, _, rfl, rfl, .inr (by split <;> decide), _, rfl, ?_, ?_, ?_⟩⟩⟩
            · split <;> omega
            · split <;> omega
            refine for_range (lo := 0) (fun i σ H' => ∃ (l : Addr) (row : List (Option Nat)) (a' c' : Int) (z7 z8 z9 z10 z11 : Option V), σ = [some (.ref p), some (.ref c1), some (vN n), some (.ref e), some (.int (span b : Int)), some (.int way), some (.ref l), z7, z8, z9, z10, z11] ∧ Tn b n b0 p H H' l row a' c')
              ⟨l, row, a5, c6, _, _, _, _, _, rfl, tn.len, tn.ok, tn.kp.trans Kp.upd, upd_same, tn.new, by rw [upd_ne tn.ne.symm]; exact tn.lst, tn.ne⟩ ?_ (fun σ H' h => h)
            rintro i σ H3 hi ⟨l, row, a7, c8, z7, z8, z9, z10, z11, rfl, tn⟩
            refine ⟨_, rfl, _, rfl, p, a7, b0, c8, _, rfl, tn.well, by omega, by omega, fun y a9 c9 y0 y1 => ⟨_, rfl, _, rfl, _, rfl, p, a9, b0, c9, _, rfl, upd_same, by omega, by omega, fun z a10 c10 w0 w1 => ?_⟩⟩
            obtain ⟨Y, rfl⟩ := Int.eq_ofNat_of_zero_le y0
            obtain ⟨Z, rfl⟩ := Int.eq_ofNat_of_zero_le w0
            have k4 : Kp p H3 (upd (upd H3 p (WellL a9 b0 c9)) p (WellL a10 b0 c10)) := Kp.upd.trans Kp.upd
            have hp4 : (upd (upd H3 p (WellL a9 b0 c9)) p (WellL a10 b0 c10)) p = some (WellL a10 b0 c10) := upd_same
            generalize (upd (upd H3 p (WellL a9 b0 c9)) p (WellL a10 b0 c10)) = H4 at k4 hp4 ⊢
            refine ⟨l, _, (Z : Int), Z, rfl, rfl, k4 _ _ tn.lst tn.ne.symm, ixN_nat (by rw [List.length_map, tn.len]; omega), ?_⟩
            exact ⟨l, row.set Z (some Y), a10, c10, _, _, _, _, _, rfl, tn.put (o := some Y) k4 hp4 (by omega) fun x hx => by rw [← Option.some.inj hx]; omega⟩
          · clear tn
            rintro σ' H2 ⟨l, row, a3, c4, z7, z8, z9, z10, z11, rfl, tn⟩
            refine ⟨_, rfl, _, rfl, _, _, rfl, rfl, p, a3, b0, c4, _, rfl, tn.well, by omega, by omega, fun x a5 c6 x0 x1 => ⟨_, rfl, p, a5, b0, c6, _, rfl, upd_same, by decide, by decide, fun y a6 c7 y0 y1 => ⟨rfl, .inr ⟨_, rfl, _, _, rfl, rfl, .inr (by split <;> decide), _, rfl, ?_, ?_, ?_⟩⟩⟩⟩
            · split <;> omega
            · split <;> omega
            refine for_range (lo := 0) (fun i σ H' => ∃ (l : Addr) (row : List (Option Nat)) (a' c' : Int) (z7 z8 z9 z10 z11 : Option V), σ = [some (.ref p), some (.ref c1), some (vN n), some (.ref e), some (.int (span b : Int)), some (.int way), some (.ref l), z7, z8, z9, z10, z11] ∧ Tn b n b0 p H H' l row a' c')
              ⟨l, row, a6, c7, _, _, _, _, _, rfl, tn.len, tn.ok, tn.kp.trans (Kp.upd.trans Kp.upd), upd_same, tn.new, by rw [upd_ne tn.ne.symm, upd_ne tn.ne.symm]; exact tn.lst, tn.ne⟩ ?_ ?_
            · rintro i σ H3 hi ⟨l, row, a7, c8, z7, z8, z9, z10, z11, rfl, tn⟩
              refine ⟨_, rfl, _, rfl, _, rfl, p, a7, b0, c8, _, rfl, tn.well, by omega, by omega, fun z a10 c10 w0 w1 => ?_⟩
              obtain ⟨Z, rfl⟩ := Int.eq_ofNat_of_zero_le w0
              have k4 : Kp p H3 (upd H3 p (WellL a10 b0 c10)) := Kp.upd
              have hp4 : (upd H3 p (WellL a10 b0 c10)) p = some (WellL a10 b0 c10) := upd_same
              generalize (upd H3 p (WellL a10 b0 c10)) = H4 at k4 hp4 ⊢
              refine ⟨l, _, (Z : Int), Z, rfl, rfl, k4 _ _ tn.lst tn.ne.symm, ixN_nat (by rw [List.length_map, tn.len]; omega), ?_⟩
              exact ⟨l, row.set Z none, a10, c10, _, _, _, _, _, rfl, tn.put (o := none) k4 hp4 (by omega) fun x hx => nomatch hx⟩
            · rintro σ H3 ⟨l, row, a7, c8, z7, z8, z9, z10, z11, rfl, tn⟩
              exact ⟨_, rfl, q l row a7 c8 H3 tn⟩
/-! CUT -/
/-! rows with gaps, and what is due, as data -/
def dO : Option Nat → PyData
  | none => .none
  | some n => dI n
def dOL (row : List (Option Nat)) : PyData := .list (row.map dO)
theorem dO_lay : ∀ row : List (Option Nat), PyData.canLayAll0 (row.map dO) = true
  | [] => rfl
  | o :: r => by
    show (PyData.canLay0 (dO o) && PyData.canLayAll0 (r.map dO)) = true
    rw [dO_lay r]
    cases o <;> rfl
theorem dO_depth : ∀ row : List (Option Nat), PyData.depthAll (row.map dO) = 0
  | [] => rfl
  | o :: r => by
    show max (PyData.depth (dO o)) (PyData.depthAll (r.map dO)) = 0
    rw [dO_depth r]
    cases o <;> rfl
theorem dOL_shaped (row : List (Option Nat)) : SeqAt.shaped (dOL row) = true := by
  unfold SeqAt.shaped
  have h1 : (dOL row).canLay0 = true := dO_lay row
  have h2 : (dOL row).depth = 1 := by
    show PyData.depthAll (row.map dO) + 1 = 1
    rw [dO_depth]
  rw [h1, h2]
  rfl
theorem dOL_eq (row : List (Option Nat)) : PyData.eqv (dOL row) (dOL row) = true := SeqAt.eqv_refl _ (dO_lay row)
theorem dO_all {K : PySem.W.Frag} {H : Hp} : ∀ row : List (Option Nat), DpAll K H (row.map vO) (row.map dO)
  | [] => .nil
  | none :: r => .cons .non (dO_all r)
  | some n :: r => .cons (.int _) (dO_all r)
theorem dOL_dp {K : PySem.W.Frag} {H : Hp} {a : Addr} {row : List (Option Nat)} (h : SqL K H a (row.map vO)) : Dp K H (.ref a) (dOL row) := .lst h (dO_all row)
def dDue (w ly : List Nat) : PyData := .tuple [dN w, .tuple (ly.map dI)]
theorem dDue_lay (w ly : List Nat) : (dDue w ly).canLay0 = true := by
  show (PyData.canLayAll0 (w.map dI) && (PyData.canLayAll0 (ly.map dI) && true)) = true
  rw [lay_all, lay_all]
  rfl
theorem dDue_shaped (w ly : List Nat) : SeqAt.shaped (dDue w ly) = true := by
  unfold SeqAt.shaped
  have h2 : (dDue w ly).depth = 2 := by
    show max (PyData.depthAll (w.map dI) + 1) (max (PyData.depthAll (ly.map dI) + 1) 0) + 1 = 2
    rw [depth_all, depth_all]
    rfl
  rw [dDue_lay, h2]
  rfl
theorem dDue_eq (w ly : List Nat) : PyData.eqv (dDue w ly) (dDue w ly) = true := SeqAt.eqv_refl _ (dDue_lay w ly)
/-- a row and its lies, as the program tells them -/
def DueAt (K : PySem.W.Frag) (H : Hp) (t : Addr) (w ly : List Nat) : Prop := ∃ l u, SqT K H t [.ref l, .ref u] ∧ SqL K H l (w.map vN) ∧ SqT K H u (ly.map vN)
theorem DueAt.dp {K : PySem.W.Frag} {H : Hp} {t : Addr} {w ly : List Nat} (h : DueAt K H t w ly) : Dp K H (.ref t) (dDue w ly) := by
  obtain ⟨l, u, h1, h2, h3⟩ := h
  exact .tup h1 (.cons (dN_dp h2) (.cons (.tup h3 (dp_all ly)) .nil))
theorem DueAt.same {K : PySem.W.Frag} {H H' : Hp} {t : Addr} {w ly : List Nat} (h : DueAt K H t w ly) (s : Same H H') : DueAt K H' t w ly := by
  obtain ⟨l, u, h1, h2, h3⟩ := h
  exact ⟨l, u, Same.sqt s h1, s.seq h2, Same.sqt s h3⟩
def Bnd (m : Nat) (row : List (Option Nat)) (w : List Nat) : Prop := 2 * (liesL row w).length + (gapsL row).length ≤ m
def sp_due (K : PySem.W.Frag) : Sp := fun vs H Q _ => ∃ (c1 a e : Addr) (b m s : Nat) (row : List (Option Nat)) (ps : List (Addr × List Nat)), vs = [.ref c1, .ref a, .ref e] ∧ SqT K H c1 [vN b, vN m, vN s] ∧ CodeOk b m s ∧ H a = some (.lst (row.map vO)) ∧ RowOk b row ∧ m < row.length ∧ row.length < span b ∧
  EvAt K H e ps ∧ (∀ p ∈ ps, Rt b m s row.length p.2) ∧ (∀ w, Rt b m s row.length w → w ∈ ps.map (·.2)) ∧
  ∀ (v : V) (H' : Hp), Same H H' → (mendF b s row (synS b m s (knownL row)) = none → v = .non) → (∀ w ly, mendF b s row (synS b m s (knownL row)) = some (w, ly) → ∃ t, v = .ref t ∧ DueAt K H' t w ly) → Q v H'
theorem ok__law_due (T : Txt K mg) : FnOk P w K mg base CX0 2 T.f__law_due T.d__law_due ["_law_kit", "_law_torn_here", "_law_every_here"] (sp_due K) := by
  refine T.F__law_due.ok sc__law_due (fun vs H Q E h => ?_) (fun cdv A outer s H vs Q E hr h => ?_)
  · obtain ⟨c1, a, e, b, m, s, row, ps, rfl, _⟩ := h
    rfl
  · obtain ⟨c1, a, e, b, m, s0, row, ps, rfl, hc, hok, ha, hrow, hm, hl, hE, hR, hall, q⟩ := h
    refine ⟨_, (pss_cons (ps_par (i := 3) (j := 4) (by rfl) sc__law_due.nd rfl rfl (by decide) rfl rfl (pa_cons (pe_bm PySem.F.plainAttrs_list PySem.F.slot_list_count PySem.F.type_list_count (mt_countF (K := K) rfl) (pv 1) (pa_cons pe_non pa_nil)) (pa_cons pe_non pa_nil)) (by rfl))
      (pss_cons (ps_for PassesOwn.never rfl (pi_list (pv 2)) (pg_name (i := 5) sc__law_due.nd rfl (.inr rfl)) (pss_one (ps_if (pt_cmpR op_le (pe_op op_add (pe_op op_mul pe_int (pe_call (ok__law_gap T) (hr.mono (by decide)) (by rfl) T.g__law_gap T.F__law_gap.kp T.b__law_gap .nil pass0 (pa_cons (pv 1) (pa_cons (pv 5) pa_nil)))) (pv 3)) (pe_ix (ix_rowBK (K := K) rfl) (pv 0) pe_int (fun _ _ => rfl)) (nomark _)) (pss_cons (ps_setLc (i := 6) (own := [("_law_k", 7), ("_law_word", 8)]) (g := gTup K 2 (gCons (gName 7) (gCons (gName 8) gNil))) rfl sc__law_due.nd rfl rfl (sw_true rfl rfl rfl (by decide +kernel)) (pi_enum (by rfl) T.n_enumerate (pa_cons (pv 1) pa_nil)) (blkOk_by (N := ["_law_kit", "_law_torn_here", "_law_every_here", "_law_holes", "_law_found", "_law_some", "_law_lies", "_law_k", "_law_word"]) (sc := defScope s__law_due) (by decide +kernel)) (fun _ _ _ _ _ => by (refine pg_tup ?_ ?_); (exact rfl); (refine pgs_cons ?_ ?_); (exact (pg_name (i := 7) sc__law_due.nd rfl (.inl rfl))); (refine pgs_cons ?_ ?_); (exact (pg_name (i := 8) sc__law_due.nd rfl (.inl rfl))); (exact pgs_nil)) (fun _ _ _ _ _ => by exact (pts_one (PW.pt (pw_and (pt_cmpR op_notN (pv 8) pe_non (nomark _)) (pw_and1 (pt_cmpR op_ne (pv 8) (pe_ix (ix_rowBK (K := K) rfl) (pv 5) (pv 7) (fun _ _ => rfl)) (nomark _))))))) (fun _ _ _ _ _ => by exact (pv 7)))
      (pss_one (ps_set (i := 4) sc__law_due.nd rfl (.inl rfl) (pe_tup (pa_cons (pe_callTy call_list_of (by rfl) T.n_list (by decide +kernel) (pa_cons (pv 5) pa_nil)) (pa_cons (pe_tupleOf (by rfl) T.n_tuple (pv 6)) pa_nil)))))) pss_nil)))
      (pss_one (ps_ret (pv 4))))), ?_⟩
    have hb := hok.1
    have hsp := span_eq hb
    have hs2 := span_small hb
    refine ⟨_, rfl, .inl ⟨rfl, _, .inl (.inl ha)⟩, a, _, _, rfl, rfl, .inl (.inl ha), rfl, vO_flat row, _, _, rfl, ?_⟩
    rw [vO_count]
    refine ⟨_, rfl, e, rfl, ⟨_, .inl (.inl hE.lst)⟩, ?_⟩
    refine for_it (walk_list (K := K) (a := e) (xs := ps.map fun p => V.ref p.1)) (fun i σ H' => ∃ (v : V) (z5 z6 z7 z8 : Option V), σ = [some (.ref c1), some (.ref a), some (.ref e), some (vN (gapsL row).length), some v, z5, z6, z7, z8] ∧ Same H H' ∧
        ((v = .non ∧ ∀ p ∈ ps.take i, ¬ Bnd m row p.2) ∨ ∃ t w, v = .ref t ∧ Rt b m s0 row.length w ∧ Bnd m row w ∧ DueAt K H' t w (liesL row w)))
      ⟨_, _, _, _, _, rfl, (fun _ _ h => h), .inl ⟨rfl, fun p hp => nomatch hp⟩⟩ (fun i σ H' _ ⟨_, _, _, _, _, _, h, _⟩ => .inl (.inl (h _ _ hE.lst))) ?_ ?_
    · rintro i x σ H1 H2 hi ⟨v, z5, z6, z7, z8, rfl, sm, hv⟩ ⟨rfl, e3⟩
      rw [List.length_map] at hi
      obtain ⟨p, hp, ept, rfl⟩ : ∃ p, p ∈ ps ∧ ps[i]? = some p ∧ x = V.ref p.1 := by
        have e4 : (ps.map fun p => V.ref p.1)[i]? = some x := e3
        rw [List.getElem?_map, List.getElem?_eq_getElem hi] at e4
        exact ⟨ps[i], List.getElem_mem hi, List.getElem?_eq_getElem hi, (Option.some.inj e4).symm⟩
      have R := hR p hp
      refine ⟨_, rfl, _, rfl, a, p.1, row, p.2, rfl, sm _ _ ha, Same.sqt sm (hE.tup p hp), R.len.symm, by omega, fun H3 s3 => ⟨_, _, rfl, rfl, .inl (by decide), _, rfl, _, _, rfl, rfl, _, rfl, c1, _, 1, vN m, false, rfl, rfl, Same.sqt (sm.trans s3) hc, rfl, _, _, rfl, rfl, _, rfl, ?_⟩⟩
      have s13 := sm.trans s3
      refine ite2 (fun cc => ?_) (fun cc => ?_)
      · have hB : Bnd m row p.2 := by
          have h := of_decide_eq_true cc
          unfold Bnd
          omega
        refine ⟨_, rfl, a, _, rfl, .inl (.inl (s13 _ _ ha)), fun D hD => ?_⟩
        refine lc_it (walk_enum (K := K) (a := a) (xs := row.map vO)) (fun i H' => Same H3 H' ∧ H' D = some (.lst (((List.range i).filter (difB row p.2)).map vN)))
          ⟨same_upd hD, upd_same⟩ (fun i H' _ h => .inl (.inl (h.1 _ _ (s13 _ _ ha)))) ?_ ?_
        · rintro j v' H8 H9 hj ⟨s8, g⟩ ⟨T1, x1, y1, rfl, hT, rfl, e1, e2⟩
          rw [List.length_map] at hj
          have ex : x1 = .int (j : Int) := (Option.some.inj e1).symm
          have ey := og_at hj e2
          subst ex ey
          have sT := same_upd (o := .tup [.int (j : Int), vO (og row j)]) hT
          refine ⟨T1, [_, _], rfl, .inl (.inl upd_same), rfl, _, [_], rfl, _, [], rfl, rfl, ?_⟩
          generalize (upd H8 T1 (.tup [.int (j : Int), vO (og row j)])) = H10 at sT ⊢
          refine ⟨rfl, ?_⟩
          refine ⟨_, rfl, rfl, _, rfl, ?_⟩
          rw [gap_dec]
          cases ho : og row j with
          | none =>
            refine iteF (iteF ⟨s8.trans sT, ?_⟩)
            rw [acc_no (P := difB row p.2) (by unfold difB; rw [ho]; rfl)]
            exact sT _ _ g
          | some x =>
            have eg : gd (knownL row) j = x := by rw [known_gd hj, ho]; rfl
            refine iteT ⟨_, rfl, _, rfl, _, rfl, p.1, _, _, vN (gd p.2 j), false, rfl, rfl, Same.sqt (s13.trans (s8.trans sT)) (hE.tup p hp), atI_nat (by rw [List.getElem?_map, gd_in (by rw [R.len]; exact hj)]; rfl), rfl, _, rfl, ?_⟩
            by_cases hd : x = gd p.2 j
            · have hP : difB row p.2 j = false := by
                unfold difB
                rw [ho, eg, hd]
                simp
              have e3 : (!decide (vO (some x) = vN (gd p.2 j))) = false := by rw [hd]; simp [vO]
              rw [e3]
              refine iteF ⟨s8.trans sT, ?_⟩
              rw [acc_no (P := difB row p.2) hP]
              exact sT _ _ g
            · have hP : difB row p.2 j = true := by
                unfold difB
                rw [ho, eg]
                simp [hd]
              have e3 : (!decide (vO (some x) = vN (gd p.2 j))) = true := by
                rw [Bool.not_eq_true', decide_eq_false_iff_not]
                intro h
                have := V.int.inj h
                omega
              rw [e3]
              exact iteT ⟨_, rfl, acc_yes (P := difB row p.2) (s8.trans sT) hD (sT _ _ g) (by omega) hP⟩
        · rintro H4 ⟨s4, g⟩
          rw [List.length_map] at g
          rw [← lies_dif] at g
          have tp := Same.sqt (s13.trans s4) (hE.tup p hp)
          refine ⟨_, rfl, p.1, _, rfl, .inr tp, fun l hl' => ⟨_, rfl, .inl ⟨D, _, rfl, .inl (.inl (same_upd hl' _ _ g)), fun u hu => ⟨(by show 2 ≤ sizeLine; decide), fun t ht => ?_⟩⟩⟩⟩
          have su := same_upd (o := .tup ((liesL row p.2).map vN)) hu
          have st := same_upd (o := .tup [.ref l, .ref u]) ht
          have sz := (same_upd (o := .lst (p.2.map vN)) hl').trans (su.trans st)
          exact ⟨_, _, _, _, _, rfl, s13.trans (s4.trans sz), .inr ⟨t, p.2, rfl, R, hB, l, u, .inl (.inl upd_same), .inl (.inl (st _ _ (su _ _ upd_same))), .inl (.inl (st _ _ upd_same))⟩⟩
      · have hB : ¬ Bnd m row p.2 := fun h => cc (decide_eq_true (by unfold Bnd at h; omega))
        refine ⟨_, _, _, _, _, rfl, s13, ?_⟩
        rcases hv with ⟨h1, h2⟩ | ⟨t, w, h1, h2, h3, h4⟩
        · refine .inl ⟨h1, fun p' hp' => ?_⟩
          rw [List.take_add_one, ept] at hp'
          rcases List.mem_append.mp hp' with h | h
          · exact h2 p' h
          · rw [List.mem_singleton.mp h]
            exact hB
        · exact .inr ⟨t, w, h1, h2, h3, h4.same s3⟩
    · rintro σ H1 ⟨v, z5, z6, z7, z8, rfl, sm, hv⟩
      rw [List.length_map, List.take_length] at hv
      have dI := due_is (m := m) (s := s0) hb (by omega) hrow
      refine ⟨_, rfl, q v H1 sm (fun hN => ?_) fun w ly hS => ?_⟩
      · rcases hv with ⟨h1, _⟩ | ⟨t, w, h1, h2, h3, _⟩
        · exact h1
        · have h5 := dI.2 w h2 h3
          have h6 : mendF b s0 row (synS b m s0 (knownL row)) = some (w, liesL row w) := h5
          rw [hN] at h6
          cases h6
      · obtain ⟨r1, r2, r3⟩ := dI.1 w ly hS
        rcases hv with ⟨h1, h2⟩ | ⟨t, w', h1, h2, h3, h4⟩
        · obtain ⟨p, hp, ep⟩ := List.mem_map.mp (hall w r1)
          exact absurd (by rw [ep]; exact r2) (h2 p hp)
        · have h6 : mendF b s0 row (synS b m s0 (knownL row)) = some (w', liesL row w') := dI.2 w' h2 h3
          rw [hS] at h6
          obtain ⟨e1, e2⟩ := Prod.mk.inj (Option.some.inj h6)
          rw [e1, e2]
          exact ⟨t, h1, h4⟩
/-! CUT -/
def DueV (K : PySem.W.Frag) (H H' : Hp) (v : V) (M : Option (List Nat × List Nat)) : Prop := (M = none ∧ v = .non) ∨ ∃ (w ly : List Nat) (t l u : Addr), M = some (w, ly) ∧ v = .ref t ∧ H' t = some (.tup [.ref l, .ref u]) ∧ H' l = some (.lst (w.map vN)) ∧ H' u = some (.tup (ly.map vN)) ∧ H l = none
def DueW (K : PySem.W.Frag) (H' : Hp) (v : V) (M : Option (List Nat × List Nat)) : Prop := (M = none ∧ v = .non) ∨ ∃ (w ly : List Nat) (t : Addr), M = some (w, ly) ∧ v = .ref t ∧ DueAt K H' t w ly
theorem DueV.toW {K : PySem.W.Frag} {H H' : Hp} {v : V} {M : Option (List Nat × List Nat)} (h : DueV K H H' v M) : DueW K H' v M := by
  rcases h with h | ⟨w, ly, t, l, u, h1, h2, g1, g2, g3, _⟩
  · exact .inl h
  · exact .inr ⟨w, ly, t, h1, h2, l, u, .inl (.inl g1), .inl (.inl g2), .inl (.inl g3)⟩
theorem DueW.same {K : PySem.W.Frag} {H H' : Hp} {v : V} {M : Option (List Nat × List Nat)} (h : DueW K H v M) (s : Same H H') : DueW K H' v M := by
  rcases h with h | ⟨w, ly, t, h1, h2, h3⟩
  · exact .inl h
  · exact .inr ⟨w, ly, t, h1, h2, h3.same s⟩
def dDueO : Option (List Nat × List Nat) → PyData
  | none => .none
  | some (w, ly) => dDue w ly
theorem DueW.dp {K : PySem.W.Frag} {H : Hp} {v : V} {M : Option (List Nat × List Nat)} (h : DueW K H v M) : Dp K H v (dDueO M) := by
  rcases h with ⟨rfl, rfl⟩ | ⟨w, ly, t, rfl, rfl, h3⟩
  · exact .non
  · exact h3.dp
theorem dDueO_shaped (M : Option (List Nat × List Nat)) : SeqAt.shaped (dDueO M) = true := by
  cases M with
  | none => rfl
  | some p => exact dDue_shaped p.1 p.2
theorem dDueO_eq (M : Option (List Nat × List Nat)) : PyData.eqv (dDueO M) (dDueO M) = true := by
  cases M with
  | none => rfl
  | some p => exact dDue_eq p.1 p.2
def sp_right : Sp := fun vs H Q _ => ∃ (p : Addr) (a b0 c : Int), vs = [.ref p] ∧ H p = some (WellL a b0 c) ∧ ∀ (a' c' : Int) (H' : Hp), Kp p H H' → H' p = some (WellL a' b0 c') → Q (.bl true) H'
theorem ok__law_right (T : Txt K mg) : FnOk P w K mg base CX0 7 T.f__law_right T.d__law_right ["_law_well"] sp_right := by
  refine T.F__law_right.ok sc__law_right (fun vs H Q E h => ?_) (fun cdv A outer s H vs Q E hr h => ?_)
  · obtain ⟨p, a, b0, c, rfl, _⟩ := h
    rfl
  · obtain ⟨p, a, b0, c, rfl, hp, q⟩ := h
    refine ⟨_, (pss_cons (ps_asg (pe_call (ok__law_small T) (hr.mono (by decide)) (by rfl) T.g__law_small T.F__law_small.kp T.b__law_small .nil pass0 (pa_cons (pv 0) pa_nil)) (pg_tup rfl (pgs_cons (pg_name (i := 1) sc__law_right.nd rfl (.inl rfl)) (pgs_cons (pg_name (i := 2) sc__law_right.nd rfl (.inl rfl)) pgs_nil))))
      (pss_cons (ps_set (i := 3) sc__law_right.nd rfl (.inl rfl) (pe_call (ok__law_every T) (hr.mono (by decide)) (by rfl) T.g__law_every T.F__law_every.kp T.b__law_every .nil pass0 (pa_cons (pv 1) (pa_cons (pv 2) pa_nil))))
      (pss_cons (ps_for PassesOwn.never rfl (pi_range1 (by rfl) T.n_range (pa_cons pe_int pa_nil)) (pg_name (i := 4) sc__law_right.nd rfl (.inl rfl)) (pss_cons (ps_set (i := 5) sc__law_right.nd rfl (.inl rfl) (pe_call (ok__law_torn T) (hr.mono (by decide)) (by rfl) T.g__law_torn T.F__law_torn.kp T.b__law_torn .nil pass0 (pa_cons (pv 0) (pa_cons (pv 1) (pa_cons (pv 2) (pa_cons (pv 3) pa_nil))))))
      (pss_cons (ps_par (i := 6) (j := 7) (by rfl) sc__law_right.nd rfl rfl (by decide) rfl rfl (pa_cons (pe_call (ok__law_due T) (hr.mono (by decide)) (by rfl) T.g__law_due T.F__law_due.kp T.b__law_due .nil pass0 (pa_cons (pv 1) (pa_cons (pv 5) (pa_cons (pv 3) pa_nil)))) (pa_cons (pe_callTy call_list_of (by rfl) T.n_list (by decide +kernel) (pa_cons (pv 5) pa_nil)) pa_nil)) (by rfl))
      (Evl.pss_cut (ps_set (i := 8) sc__law_right.nd rfl (.inl rfl) (pe_call (ok_repaired T) (hr.mono (by decide)) (by rfl) T.g_repaired T.F_repaired.kp T.b_repaired .nil pass0 (pa_cons (pv 1) (pa_cons (pv 5) pa_nil))))
      (pss_cons (ps_if (PW.pt (pw_or (pt_cmpR (op_neD hr.units) (pv 8) (pv 6) (nomark _)) (pw_or1 (pt_cmpR (op_neD hr.units) (pv 5) (pv 7) (nomark _))))) (pss_one (ps_ret pe_bl)) pss_nil)
      (Evl.pss_cut (ps_if (pt_cmpR op_notN (pv 8) pe_non (nomark _)) (pss_one (ps_expr (pe_bm0 PySem.F.plainAttrs_list PySem.F.slot_list_clear PySem.F.type_list_clear mt_clear (pe_ix ix_rowB (pv 8) pe_int (fun _ _ => rfl))))) pss_nil)
      (pss_one (ps_if (PW.pt (pw_or (pt_cmpR (op_neD hr.units) (pe_callZ (ok_repaired T) (hr.mono (by decide)) (by rfl) T.g_repaired T.F_repaired.kp (kb0 (ks := ["row", "code"]) T.F_repaired rev2 rev2_rel (fun _ _ _ _ _ _ ws hl => match ws, hl with | [_, _], _ => rfl)) pass0 (pk_cons (pe_tupleOf (by rfl) T.n_tuple (pv 5)) (pk_cons (pv 1) pk_nil))) (pv 6) (nomark _)) (pw_or1 (pt_cmpR (op_neD hr.units) (pe_call (ok_repaired T) (hr.mono (by decide)) (by rfl) T.g_repaired T.F_repaired.kp T.b_repaired .nil pass0 (pa_cons (pv 1) (pa_cons (pv 5) pa_nil))) (pv 6) (nomark _))))) (pss_one (ps_ret pe_bl)) pss_nil))))))))
      (pss_one (ps_ret pe_bl))))), ?_⟩
    refine ⟨_, rfl, p, a, b0, c, rfl, hp, fun b m s0 n t c1 a1 c2 H1 hok hmn hn hbit k1 hp1 ht hc => ?_⟩
    refine ⟨t, [_, _], rfl, ht, rfl, _, [_], rfl, _, [], rfl, rfl, ?_⟩
    have hb := hok.1
    have hsp := span_eq hb
    have hs2 := span_small hb
    refine ⟨_, rfl, _, rfl, c1, b, m, s0, n, rfl, hc, hok, hmn, hn, hbit, fun F ps H2 s2 hE l0 l1 hR hall nF => ?_⟩
    have npF : p ≠ F := ne_of_none hp1 nF
    have k2 := k1.trans (Same.kp s2)
    have hp2 := s2 _ _ hp1
    have hc2 := Same.sqt s2 hc
    clear s2 ht
    refine ⟨_, rfl, by decide, by decide, ?_⟩
    refine for_range (lo := 0) (n := 4) (fun i σ H' => ∃ (a' c' : Int) (z4 z5 z6 z7 z8 : Option V), σ = [some (.ref p), some (.ref c1), some (vN n), some (.ref F), z4, z5, z6, z7, z8] ∧ Kp p H2 H' ∧ H' p = some (WellL a' b0 c'))
      ⟨a1, c2, _, _, _, _, _, rfl, (fun _ _ h _ => h), hp2⟩ ?_ ?_
    · rintro i σ H3 hi ⟨a3, c3, z4, z5, z6, z7, z8, rfl, k3, hp3⟩
      have E3 := hE.kp k3 hp2 npF.symm
      have hc3 := Kp.sqt k3 hp2 hc2
      refine ⟨_, rfl, _, rfl, _, rfl, _, rfl, p, c1, F, a3, b0, c3, b, m, s0, n, ps, rfl, npF, hp3, hc3, hok, hmn, hn, E3, l0, l1, hR, fun l row a4 c4 H4 tn => ?_⟩
      have E4 := E3.kp tn.kp hp3 npF.symm
      have hc4 := Kp.sqt tn.kp hp3 hc3
      have hrl := tn.len
      subst hrl
      refine ⟨_, rfl, _, rfl, _, rfl, c1, l, F, b, m, s0, row, ps, rfl, hc4, hok, tn.lst, tn.ok, hmn, hn, E4, hR, hall, fun v H5 s5 d1 d2 => ?_⟩
      refine ⟨_, rfl, l, _, rfl, .inl (.inl (.inl (s5 _ _ tn.lst))), fun Lk hLk => ⟨_, _, rfl, ?_⟩⟩
      have sK := same_upd (o := .lst (row.map vO)) hLk
      have gK := upd_same (H := H5) (a := Lk) (o := .lst (row.map vO))
      generalize (upd H5 Lk (.lst (row.map vO))) = H6 at sK gK ⊢
      have s46 := s5.trans sK
      have DW : DueW K H6 v (mendF b s0 row (synS b m s0 (knownL row))) := by
        cases hM : mendF b s0 row (synS b m s0 (knownL row)) with
        | none => exact .inl ⟨rfl, d1 hM⟩
        | some pr =>
          obtain ⟨w', ly⟩ := pr
          obtain ⟨t, e1, e2⟩ := d2 w' ly hM
          exact .inr ⟨w', ly, t, rfl, e1, e2.same sK⟩
      refine ⟨fun σ' H' => ∃ (v2 z4 : V), σ' = [some (.ref p), some (.ref c1), some (vN row.length), some (.ref F), some z4, some (.ref l), some v, some (.ref Lk), some v2] ∧ Same H6 H' ∧ DueV K H6 H' v2 (mendF b s0 row (synS b m s0 (knownL row))), ?_, ?_⟩
      · exact ⟨_, rfl, _, rfl, c1, l, true, b, m, s0, row, rfl, Same.sqt s46 hc4, hok, .lst (s46 _ _ tn.lst), tn.ok, hmn, hn, fun h H' s' => ⟨_, _, rfl, s', .inl ⟨h, rfl⟩⟩, fun w ly h t l u H' s' g1 g2 g3 n1 _ _ => ⟨_, _, rfl, s', .inr ⟨w, ly, t, l, u, h, rfl, g1, g2, g3, n1⟩⟩⟩
      rintro σ' H7 ⟨v2, z9, rfl, s7, dv⟩
      refine ⟨_, rfl, _, rfl, dDueO (mendF b s0 row (synS b m s0 (knownL row))), dDueO (mendF b s0 row (synS b m s0 (knownL row))), dv.toW.dp, (DW.same s7).dp, dDueO_shaped _, dDueO_shaped _, _, rfl, ?_⟩
      rw [dDueO_eq]
      refine iteF ?_
      refine ⟨_, rfl, _, rfl, dOL row, dOL row, dOL_dp (.inl (.inl (s7 _ _ (s46 _ _ tn.lst)))), dOL_dp (.inl (.inl (s7 _ _ gK))), dOL_shaped _, dOL_shaped _, _, rfl, ?_⟩
      rw [dOL_eq]
      refine iteF ?_
      refine ⟨fun σ' H' => ∃ (z4 z8 : Option V), σ' = [some (.ref p), some (.ref c1), some (vN row.length), some (.ref F), z4, some (.ref l), some v, some (.ref Lk), z8] ∧ Same H6 H', ?_, ?_⟩
      · refine ⟨_, rfl, rfl, _, rfl, ?_⟩
        rcases dv with ⟨_, rfl⟩ | ⟨w', ly, t, l2, u, _, rfl, g1, g2, g3, n1⟩
        · exact iteF ⟨_, _, rfl, s7⟩
        · refine iteT ⟨_, rfl, t, _, 0, .ref l2, false, rfl, rfl, .inl (.inl g1), rfl, .inl ⟨rfl, _, .inl (.inl g2)⟩, l2, _, rfl, rfl, g2, _, _, rfl, fun d o hd => ?_⟩
          rw [upd_ne (ne_of_none hd n1)]
          exact s7 _ _ hd
      · clear dv s7
        rintro σ' H8 ⟨z4, z8, rfl, s8⟩
        refine ⟨_, rfl, .inl ⟨l, _, rfl, .inl (.inl (s8 _ _ (s46 _ _ tn.lst))), fun tt htt => ?_⟩⟩
        have st := same_upd (o := .tup (row.map vO)) htt
        have gt := upd_same (H := H8) (a := tt) (o := .tup (row.map vO))
        generalize (upd H8 tt (.tup (row.map vO))) = H9 at st gt ⊢
        have s69 := s8.trans st
        refine ⟨_, rfl, rfl, c1, tt, false, b, m, s0, row, rfl, Same.sqt (s46.trans s69) hc4, hok, .tup gt, tn.ok, hmn, hn, ?_, ?_⟩
        · intro hM H10 s10
          have dw : DueW K H10 .non (mendF b s0 row (synS b m s0 (knownL row))) := .inl ⟨hM, rfl⟩
          have s610 := s69.trans s10
          refine ⟨_, rfl, dDueO (mendF b s0 row (synS b m s0 (knownL row))), dDueO (mendF b s0 row (synS b m s0 (knownL row))), dw.dp, (DW.same s610).dp, dDueO_shaped _, dDueO_shaped _, _, rfl, ?_⟩
          rw [dDueO_eq]
          refine iteF ?_
          refine ⟨_, rfl, _, rfl, c1, l, true, b, m, s0, row, rfl, Same.sqt (s46.trans s610) hc4, hok, .lst (s610 _ _ (s46 _ _ tn.lst)), tn.ok, hmn, hn, ?_, ?_⟩
          · intro hM2 H11 s11
            have dw2 : DueW K H11 .non (mendF b s0 row (synS b m s0 (knownL row))) := .inl ⟨hM2, rfl⟩
            have s611 := s610.trans s11
            refine ⟨_, rfl, dDueO (mendF b s0 row (synS b m s0 (knownL row))), dDueO (mendF b s0 row (synS b m s0 (knownL row))), dw2.dp, (DW.same s611).dp, dDueO_shaped _, dDueO_shaped _, _, rfl, ?_⟩
            rw [dDueO_eq]
            have sA := s46.trans s611
            exact iteF ⟨a4, c4, _, _, _, _, _, rfl, k3.trans (tn.kp.trans (Same.kp sA)), sA _ _ tn.well⟩
          · intro w2 ly2 hM2 t2 l2 u2 H11 s11 f1 f2 f3 _ _ _
            have dw2 : DueW K H11 (.ref t2) (mendF b s0 row (synS b m s0 (knownL row))) := .inr ⟨w2, ly2, t2, hM2, rfl, l2, u2, .inl (.inl f1), .inl (.inl f2), .inl (.inl f3)⟩
            have s611 := s610.trans s11
            refine ⟨_, rfl, dDueO (mendF b s0 row (synS b m s0 (knownL row))), dDueO (mendF b s0 row (synS b m s0 (knownL row))), dw2.dp, (DW.same s611).dp, dDueO_shaped _, dDueO_shaped _, _, rfl, ?_⟩
            rw [dDueO_eq]
            have sA := s46.trans s611
            exact iteF ⟨a4, c4, _, _, _, _, _, rfl, k3.trans (tn.kp.trans (Same.kp sA)), sA _ _ tn.well⟩
        · intro w1 ly1 hM t1 l1' u1 H10 s10 g1 g2 g3 _ _ _
          have dw : DueW K H10 (.ref t1) (mendF b s0 row (synS b m s0 (knownL row))) := .inr ⟨w1, ly1, t1, hM, rfl, l1', u1, .inl (.inl g1), .inl (.inl g2), .inl (.inl g3)⟩
          have s610 := s69.trans s10
          refine ⟨_, rfl, dDueO (mendF b s0 row (synS b m s0 (knownL row))), dDueO (mendF b s0 row (synS b m s0 (knownL row))), dw.dp, (DW.same s610).dp, dDueO_shaped _, dDueO_shaped _, _, rfl, ?_⟩
          rw [dDueO_eq]
          refine iteF ?_
          refine ⟨_, rfl, _, rfl, c1, l, true, b, m, s0, row, rfl, Same.sqt (s46.trans s610) hc4, hok, .lst (s610 _ _ (s46 _ _ tn.lst)), tn.ok, hmn, hn, ?_, ?_⟩
          · intro hM2 H11 s11
            have dw2 : DueW K H11 .non (mendF b s0 row (synS b m s0 (knownL row))) := .inl ⟨hM2, rfl⟩
            have s611 := s610.trans s11
            refine ⟨_, rfl, dDueO (mendF b s0 row (synS b m s0 (knownL row))), dDueO (mendF b s0 row (synS b m s0 (knownL row))), dw2.dp, (DW.same s611).dp, dDueO_shaped _, dDueO_shaped _, _, rfl, ?_⟩
            rw [dDueO_eq]
            have sA := s46.trans s611
            exact iteF ⟨a4, c4, _, _, _, _, _, rfl, k3.trans (tn.kp.trans (Same.kp sA)), sA _ _ tn.well⟩
          · intro w2 ly2 hM2 t2 l2 u2 H11 s11 f1 f2 f3 _ _ _
            have dw2 : DueW K H11 (.ref t2) (mendF b s0 row (synS b m s0 (knownL row))) := .inr ⟨w2, ly2, t2, hM2, rfl, l2, u2, .inl (.inl f1), .inl (.inl f2), .inl (.inl f3)⟩
            have s611 := s610.trans s11
            refine ⟨_, rfl, dDueO (mendF b s0 row (synS b m s0 (knownL row))), dDueO (mendF b s0 row (synS b m s0 (knownL row))), dw2.dp, (DW.same s611).dp, dDueO_shaped _, dDueO_shaped _, _, rfl, ?_⟩
            rw [dDueO_eq]
            have sA := s46.trans s611
            exact iteF ⟨a4, c4, _, _, _, _, _, rfl, k3.trans (tn.kp.trans (Same.kp sA)), sA _ _ tn.well⟩
    · rintro σ H3 ⟨a3, c3, z4, z5, z6, z7, z8, rfl, k3, hp3⟩
      exact q a3 c3 H3 (k2.trans k3) hp3
/-! CUT -/
theorem mnnn : mendF 4 0 [none, none, none] (synS 4 2 0 (knownL [none, none, none])) = none := by decide +kernel
def sp_law (K : PySem.W.Frag) : Sp := fun vs H Q _ => ∃ (a : Addr) (ns : List Int), vs = [.ref a] ∧ SqL K H a (ns.map V.int) ∧ ns.length ≤ 63 ∧ ∀ H', Q (.bl true) H'
theorem ok_law (T : Txt K mg) : FnOk P w K mg base CX0 8 T.f_law T.d_law ["_law_script"] (sp_law K) := by
  refine T.F_law.ok sc_law (fun vs H Q E h => ?_) (fun cdv A outer s H vs Q E hr h => ?_)
  · obtain ⟨a, ns, rfl, _⟩ := h
    rfl
  · obtain ⟨a, ns, rfl, hS, hlen, q⟩ := h
    refine ⟨_, (pss_cons (ps_for PassesOwn.never rfl (pi_enum (by rfl) T.n_enumerate (pa_cons (pe_slice sl_list (pe_op op_catL (pv 0) (pe_lst (pa_cons pe_int pa_nil))) po_none (po_some pe_int)) pa_nil)) (pg_tup rfl (pgs_cons (pg_name (i := 1) sc_law.nd rfl (.inl rfl)) (pgs_cons (pg_name (i := 2) sc_law.nd rfl (.inl rfl)) pgs_nil))) (pss_cons (ps_set (i := 3) sc_law.nd rfl (.inl rfl) (pe_lst (pa_cons (pe_op op_mul (pv 2) (pe_callTy call_int1 (by rfl) T.n_int (by decide +kernel) (pa_cons (pe_cmpR op_ge (pv 2) (pe_op op_pow pe_int pe_int) (nomark _)) pa_nil))) (pa_cons (pe_op op_add (pe_op op_mod (pe_callTy call_int1 (by rfl) T.n_int (by decide +kernel) (pa_cons (pv 2) pa_nil)) pe_int) (pe_op op_mul pe_int (pv 1))) (pa_cons pe_int pa_nil)))))
      (pss_one (ps_if (pt_not (pt_val (pe_call (ok__law_right T) (hr.mono (by decide)) (by rfl) T.g__law_right T.F__law_right.kp T.b__law_right .nil pass0 (pa_cons (pv 3) pa_nil)))) (pss_one (ps_ret pe_bl)) pss_nil))))
      (pss_one (ps_ret (pe_cmpR op_isN (pe_call (ok_repaired T) (hr.mono (by decide)) (by rfl) T.g_repaired T.F_repaired.kp T.b_repaired .nil pass0 (pa_cons (pe_tup (pa_cons pe_int (pa_cons pe_int (pa_cons pe_int pa_nil)))) (pa_cons (pe_tup (pa_cons pe_non (pa_cons pe_non (pa_cons pe_non pa_nil)))) pa_nil))) pe_non (nomark _))))), ?_⟩
    refine ⟨_, rfl, (by show 1 ≤ sizeLine; decide), fun p3 hp3 => ?_⟩
    have hS4 : SqL K (upd H p3 (.lst [.int 0])) a (ns.map V.int) := (same_upd hp3).seq hS
    refine ⟨a, p3, _, _, rfl, rfl, hS4, .inl (.inl upd_same), ?_, fun p4 hp4 => ?_⟩
    · rw [List.length_map]
      exact Nat.le_of_lt (small1000 (by show ns.length + 1 ≤ 1000; omega))
    refine ⟨3, rfl, p4, _, rfl, .inl (.inl upd_same), fun p5 hp5 => ?_⟩
    refine ⟨p5, _, rfl, .inl (.inl upd_same), ?_⟩
    refine for_it (walk_enum (K := K) (a := p5) (xs := cutV (ns.map V.int ++ [.int 0]) none (some 3))) (fun i σ H' => ∃ z1 z2 z3 : Option V, σ = [some (.ref a), z1, z2, z3] ∧ H' p5 = some (.lst (cutV (ns.map V.int ++ [.int 0]) none (some 3))))
      ⟨_, _, _, rfl, upd_same⟩ (fun i σ H' _ ⟨_, _, _, _, h5⟩ => .inl (.inl h5)) ?_ ?_
    · rintro i x σ H4 H5 hi ⟨z1, z2, z3, rfl, h54⟩ ⟨T1, x1, y1, rfl, hT, rfl, e1, e2⟩
      have ex1 : x1 = .int (i : Int) := (Option.some.inj e1).symm
      subst ex1
      obtain ⟨cell, rfl⟩ : ∃ c, y1 = V.int c := by
        have hm := List.mem_of_getElem? e2
        have hm2 : y1 ∈ ns.map V.int ++ [.int 0] := List.mem_of_mem_drop (List.mem_of_mem_take hm)
        rcases List.mem_append.mp hm2 with h | h
        · obtain ⟨c, _, rfl⟩ := List.mem_map.mp h
          exact ⟨c, rfl⟩
        · simp at h
          exact ⟨_, h⟩
      refine ⟨T1, [.int (i : Int), .int cell], rfl, .inl (.inl upd_same), rfl, .int (i : Int), [.int cell], rfl, .int cell, [], rfl, rfl, ?_⟩
      refine ⟨_, rfl, _, rfl, _, _, rfl, rfl, ⟨by decide, by decide, by decide⟩, _, _, rfl, rfl, .inr ⟨_, rfl, _, _, rfl, rfl, .inr (by split <;> decide), _, rfl, .inl ⟨_, rfl, _, _, rfl, rfl, (show (0 : Int) < 2147483647 by decide), _, rfl, _, _, rfl, rfl, .inl (by decide), _, _, rfl, rfl, (by show 3 ≤ sizeLine; decide), fun p6 hp6 => ?_⟩⟩⟩
      have h56 := (same_upd (o := .tup [.int (i : Int), .int cell]) hT) _ _ h54
      have n65 : p5 ≠ p6 := ne_of_none h56 hp6
      refine ⟨_, rfl, p6, _, _, _, rfl, upd_same, fun a1 c1 H6 k6 hp7 => ⟨_, rfl, iteF ?_⟩⟩
      exact ⟨_, _, _, rfl, k6 _ _ (same_upd hp6 _ _ h56) n65⟩
    · rintro σ H4 ⟨z1, z2, z3, rfl, h54⟩
      have hok : CodeOk 4 2 0 := ⟨.inl rfl, by decide, by decide, by decide⟩
      have r2 : RowOk 4 [none, none, none] := fun x hx => by simp at hx
      refine ⟨(by show 3 ≤ sizeLine; decide), fun t1 ht1 => ⟨(by show 3 ≤ sizeLine; decide), fun t2 ht2 => ?_⟩⟩
      have s2 := same_upd (o := .tup [.non, .non, .non]) ht2
      refine ⟨t1, t2, false, 4, 2, 0, [none, none, none], rfl, .inl (.inl (s2 _ _ upd_same)), hok, .tup upd_same, r2, by decide, by decide, (fun _ H5 s5 => ?_), fun w' ly' hw' => by rw [mnnn] at hw'; cases hw'⟩
      exact ⟨rfl, q _⟩
/-! CUT -/
end
theorem all_mk {P : Program} {w : World} {K : PySem.W.Frag} {h : Heap} {mg : Str → Option Value} {fa : Addr} (X : K.In h) (G : h.Ns mainGlobals mg) (hfa : mg "law" = some (.ref fa))
    {f0 : Addr} {od0 an0 : Option Addr} {sl0 : Array (Option Value)} {oc0 kV0 dc0 pm0 cd0 ct0 : Value}
    (a0 : PySem.W.nsIn K mainGlobals "is_number" = some (some (.ref f0)))
    (l0 : K.lookup f0 = some ⟨oc0, od0, .func (PySem.W.fnOf "is_number" "is_number" (defArgs s_is_number) (defBody s_is_number) (defScope s_is_number) .none kV0 dc0 pm0 an0 cd0 ct0), sl0⟩) (c0 : PySem.W.codeIn K cd0 "is_number" = true) (k0 : PySem.W.keepIn K (.ref f0) = true)
    {f1 : Addr} {od1 an1 : Option Addr} {sl1 : Array (Option Value)} {oc1 kV1 dc1 pm1 cd1 ct1 : Value}
    (a1 : PySem.W.nsIn K mainGlobals "is_number_to" = some (some (.ref f1)))
    (l1 : K.lookup f1 = some ⟨oc1, od1, .func (PySem.W.fnOf "is_number_to" "is_number_to" (defArgs s_is_number_to) (defBody s_is_number_to) (defScope s_is_number_to) .none kV1 dc1 pm1 an1 cd1 ct1), sl1⟩) (c1 : PySem.W.codeIn K cd1 "is_number_to" = true) (k1 : PySem.W.keepIn K (.ref f1) = true)
    {f2 : Addr} {od2 an2 : Option Addr} {sl2 : Array (Option Value)} {oc2 kV2 dc2 pm2 cd2 ct2 : Value}
    (a2 : PySem.W.nsIn K mainGlobals "is_word" = some (some (.ref f2)))
    (l2 : K.lookup f2 = some ⟨oc2, od2, .func (PySem.W.fnOf "is_word" "is_word" (defArgs s_is_word) (defBody s_is_word) (defScope s_is_word) .none kV2 dc2 pm2 an2 cd2 ct2), sl2⟩) (c2 : PySem.W.codeIn K cd2 "is_word" = true) (k2 : PySem.W.keepIn K (.ref f2) = true)
    {f3 : Addr} {od3 an3 : Option Addr} {sl3 : Array (Option Value)} {oc3 kV3 dc3 pm3 cd3 ct3 : Value}
    (a3 : PySem.W.nsIn K mainGlobals "is_row" = some (some (.ref f3)))
    (l3 : K.lookup f3 = some ⟨oc3, od3, .func (PySem.W.fnOf "is_row" "is_row" (defArgs s_is_row) (defBody s_is_row) (defScope s_is_row) .none kV3 dc3 pm3 an3 cd3 ct3), sl3⟩) (c3 : PySem.W.codeIn K cd3 "is_row" = true) (k3 : PySem.W.keepIn K (.ref f3) = true)
    {f4 : Addr} {od4 an4 : Option Addr} {sl4 : Array (Option Value)} {oc4 kV4 dc4 pm4 cd4 ct4 : Value}
    (a4 : PySem.W.nsIn K mainGlobals "are_plain_words" = some (some (.ref f4)))
    (l4 : K.lookup f4 = some ⟨oc4, od4, .func (PySem.W.fnOf "are_plain_words" "are_plain_words" (defArgs s_are_plain_words) (defBody s_are_plain_words) (defScope s_are_plain_words) .none kV4 dc4 pm4 an4 cd4 ct4), sl4⟩) (c4 : PySem.W.codeIn K cd4 "are_plain_words" = true) (k4 : PySem.W.keepIn K (.ref f4) = true)
    {f5 : Addr} {od5 an5 : Option Addr} {sl5 : Array (Option Value)} {oc5 kV5 dc5 pm5 cd5 ct5 : Value}
    (a5 : PySem.W.nsIn K mainGlobals "need_words" = some (some (.ref f5)))
    (l5 : K.lookup f5 = some ⟨oc5, od5, .func (PySem.W.fnOf "need_words" "need_words" (defArgs s_need_words) (defBody s_need_words) (defScope s_need_words) .none kV5 dc5 pm5 an5 cd5 ct5), sl5⟩) (c5 : PySem.W.codeIn K cd5 "need_words" = true) (k5 : PySem.W.keepIn K (.ref f5) = true)
    {f6 : Addr} {od6 an6 : Option Addr} {sl6 : Array (Option Value)} {oc6 kV6 dc6 pm6 cd6 ct6 : Value}
    (l6 : K.lookup f6 = some ⟨oc6, od6, .func (PySem.W.fnOf "__init__" "Field.__init__" (defArgs s_Field___init__) (defBody s_Field___init__) (defScope s_Field___init__) .none kV6 dc6 pm6 an6 cd6 ct6), sl6⟩) (c6 : PySem.W.codeIn K cd6 "Field.__init__" = true) (k6 : PySem.W.keepIn K (.ref f6) = true)
    {f7 : Addr} {od7 an7 : Option Addr} {sl7 : Array (Option Value)} {oc7 kV7 dc7 pm7 cd7 ct7 : Value}
    (l7 : K.lookup f7 = some ⟨oc7, od7, .func (PySem.W.fnOf "multiple" "Field.multiple" (defArgs s_Field_multiple) (defBody s_Field_multiple) (defScope s_Field_multiple) .none kV7 dc7 pm7 an7 cd7 ct7), sl7⟩) (c7 : PySem.W.codeIn K cd7 "Field.multiple" = true) (k7 : PySem.W.keepIn K (.ref f7) = true)
    {f8 : Addr} {od8 an8 : Option Addr} {sl8 : Array (Option Value)} {oc8 kV8 dc8 pm8 cd8 ct8 : Value}
    (l8 : K.lookup f8 = some ⟨oc8, od8, .func (PySem.W.fnOf "over" "Field.over" (defArgs s_Field_over) (defBody s_Field_over) (defScope s_Field_over) .none kV8 dc8 pm8 an8 cd8 ct8), sl8⟩) (c8 : PySem.W.codeIn K cd8 "Field.over" = true) (k8 : PySem.W.keepIn K (.ref f8) = true)
    {f9 : Addr} {od9 an9 : Option Addr} {sl9 : Array (Option Value)} {oc9 kV9 dc9 pm9 cd9 ct9 : Value}
    (l9 : K.lookup f9 = some ⟨oc9, od9, .func (PySem.W.fnOf "two_to" "Field.two_to" (defArgs s_Field_two_to) (defBody s_Field_two_to) (defScope s_Field_two_to) .none kV9 dc9 pm9 an9 cd9 ct9), sl9⟩) (c9 : PySem.W.codeIn K cd9 "Field.two_to" = true) (k9 : PySem.W.keepIn K (.ref f9) = true)
    {f10 : Addr} {od10 an10 : Option Addr} {sl10 : Array (Option Value)} {oc10 kV10 dc10 pm10 cd10 ct10 : Value}
    (l10 : K.lookup f10 = some ⟨oc10, od10, .func (PySem.W.fnOf "times" "Field.times" (defArgs s_Field_times) (defBody s_Field_times) (defScope s_Field_times) .none kV10 dc10 pm10 an10 cd10 ct10), sl10⟩) (c10 : PySem.W.codeIn K cd10 "Field.times" = true) (k10 : PySem.W.keepIn K (.ref f10) = true)
    {f11 : Addr} {od11 an11 : Option Addr} {sl11 : Array (Option Value)} {oc11 kV11 dc11 pm11 cd11 ct11 : Value}
    (a11 : PySem.W.nsIn K mainGlobals "check_factor" = some (some (.ref f11)))
    (l11 : K.lookup f11 = some ⟨oc11, od11, .func (PySem.W.fnOf "check_factor" "check_factor" (defArgs s_check_factor) (defBody s_check_factor) (defScope s_check_factor) .none kV11 dc11 pm11 an11 cd11 ct11), sl11⟩) (c11 : PySem.W.codeIn K cd11 "check_factor" = true) (k11 : PySem.W.keepIn K (.ref f11) = true)
    {f12 : Addr} {od12 an12 : Option Addr} {sl12 : Array (Option Value)} {oc12 kV12 dc12 pm12 cd12 ct12 : Value}
    (a12 : PySem.W.nsIn K mainGlobals "next_rest" = some (some (.ref f12)))
    (l12 : K.lookup f12 = some ⟨oc12, od12, .func (PySem.W.fnOf "next_rest" "next_rest" (defArgs s_next_rest) (defBody s_next_rest) (defScope s_next_rest) .none kV12 dc12 pm12 an12 cd12 ct12), sl12⟩) (c12 : PySem.W.codeIn K cd12 "next_rest" = true) (k12 : PySem.W.keepIn K (.ref f12) = true)
    {f13 : Addr} {od13 an13 : Option Addr} {sl13 : Array (Option Value)} {oc13 kV13 dc13 pm13 cd13 ct13 : Value}
    (a13 : PySem.W.nsIn K mainGlobals "with_checks" = some (some (.ref f13)))
    (l13 : K.lookup f13 = some ⟨oc13, od13, .func (PySem.W.fnOf "with_checks" "with_checks" (defArgs s_with_checks) (defBody s_with_checks) (defScope s_with_checks) .none kV13 dc13 pm13 an13 cd13 ct13), sl13⟩) (c13 : PySem.W.codeIn K cd13 "with_checks" = true) (k13 : PySem.W.keepIn K (.ref f13) = true)
    {f14 : Addr} {od14 an14 : Option Addr} {sl14 : Array (Option Value)} {oc14 kV14 dc14 pm14 cd14 ct14 : Value}
    (a14 : PySem.W.nsIn K mainGlobals "is_code" = some (some (.ref f14)))
    (l14 : K.lookup f14 = some ⟨oc14, od14, .func (PySem.W.fnOf "is_code" "is_code" (defArgs s_is_code) (defBody s_is_code) (defScope s_is_code) .none kV14 dc14 pm14 an14 cd14 ct14), sl14⟩) (c14 : PySem.W.codeIn K cd14 "is_code" = true) (k14 : PySem.W.keepIn K (.ref f14) = true)
    {f15 : Addr} {od15 an15 : Option Addr} {sl15 : Array (Option Value)} {oc15 kV15 dc15 pm15 cd15 ct15 : Value}
    (a15 : PySem.W.nsIn K mainGlobals "need_code" = some (some (.ref f15)))
    (l15 : K.lookup f15 = some ⟨oc15, od15, .func (PySem.W.fnOf "need_code" "need_code" (defArgs s_need_code) (defBody s_need_code) (defScope s_need_code) .none kV15 dc15 pm15 an15 cd15 ct15), sl15⟩) (c15 : PySem.W.codeIn K cd15 "need_code" = true) (k15 : PySem.W.keepIn K (.ref f15) = true)
    {f16 : Addr} {od16 an16 : Option Addr} {sl16 : Array (Option Value)} {oc16 kV16 dc16 pm16 cd16 ct16 : Value}
    (a16 : PySem.W.nsIn K mainGlobals "most_words" = some (some (.ref f16)))
    (l16 : K.lookup f16 = some ⟨oc16, od16, .func (PySem.W.fnOf "most_words" "most_words" (defArgs s_most_words) (defBody s_most_words) (defScope s_most_words) .none kV16 dc16 pm16 an16 cd16 ct16), sl16⟩) (c16 : PySem.W.codeIn K cd16 "most_words" = true) (k16 : PySem.W.keepIn K (.ref f16) = true)
    {f17 : Addr} {od17 an17 : Option Addr} {sl17 : Array (Option Value)} {oc17 kV17 dc17 pm17 cd17 ct17 : Value}
    (a17 : PySem.W.nsIn K mainGlobals "is_length" = some (some (.ref f17)))
    (l17 : K.lookup f17 = some ⟨oc17, od17, .func (PySem.W.fnOf "is_length" "is_length" (defArgs s_is_length) (defBody s_is_length) (defScope s_is_length) .none kV17 dc17 pm17 an17 cd17 ct17), sl17⟩) (c17 : PySem.W.codeIn K cd17 "is_length" = true) (k17 : PySem.W.keepIn K (.ref f17) = true)
    {f18 : Addr} {od18 an18 : Option Addr} {sl18 : Array (Option Value)} {oc18 kV18 dc18 pm18 cd18 ct18 : Value}
    (a18 : PySem.W.nsIn K mainGlobals "check_words" = some (some (.ref f18)))
    (l18 : K.lookup f18 = some ⟨oc18, od18, .func (PySem.W.fnOf "check_words" "check_words" (defArgs s_check_words) (defBody s_check_words) (defScope s_check_words) .none kV18 dc18 pm18 an18 cd18 ct18), sl18⟩) (c18 : PySem.W.codeIn K cd18 "check_words" = true) (k18 : PySem.W.keepIn K (.ref f18) = true)
    {f19 : Addr} {od19 an19 : Option Addr} {sl19 : Array (Option Value)} {oc19 kV19 dc19 pm19 cd19 ct19 : Value}
    (a19 : PySem.W.nsIn K mainGlobals "value_at" = some (some (.ref f19)))
    (l19 : K.lookup f19 = some ⟨oc19, od19, .func (PySem.W.fnOf "value_at" "value_at" (defArgs s_value_at) (defBody s_value_at) (defScope s_value_at) .none kV19 dc19 pm19 an19 cd19 ct19), sl19⟩) (c19 : PySem.W.codeIn K cd19 "value_at" = true) (k19 : PySem.W.keepIn K (.ref f19) = true)
    {f20 : Addr} {od20 an20 : Option Addr} {sl20 : Array (Option Value)} {oc20 kV20 dc20 pm20 cd20 ct20 : Value}
    (a20 : PySem.W.nsIn K mainGlobals "sums_of" = some (some (.ref f20)))
    (l20 : K.lookup f20 = some ⟨oc20, od20, .func (PySem.W.fnOf "sums_of" "sums_of" (defArgs s_sums_of) (defBody s_sums_of) (defScope s_sums_of) .none kV20 dc20 pm20 an20 cd20 ct20), sl20⟩) (c20 : PySem.W.codeIn K cd20 "sums_of" = true) (k20 : PySem.W.keepIn K (.ref f20) = true)
    {f21 : Addr} {od21 an21 : Option Addr} {sl21 : Array (Option Value)} {oc21 kV21 dc21 pm21 cd21 ct21 : Value}
    (a21 : PySem.W.nsIn K mainGlobals "without_place" = some (some (.ref f21)))
    (l21 : K.lookup f21 = some ⟨oc21, od21, .func (PySem.W.fnOf "without_place" "without_place" (defArgs s_without_place) (defBody s_without_place) (defScope s_without_place) .none kV21 dc21 pm21 an21 cd21 ct21), sl21⟩) (c21 : PySem.W.codeIn K cd21 "without_place" = true) (k21 : PySem.W.keepIn K (.ref f21) = true)
    {f22 : Addr} {od22 an22 : Option Addr} {sl22 : Array (Option Value)} {oc22 kV22 dc22 pm22 cd22 ct22 : Value}
    (a22 : PySem.W.nsIn K mainGlobals "heads_and_rest" = some (some (.ref f22)))
    (l22 : K.lookup f22 = some ⟨oc22, od22, .func (PySem.W.fnOf "heads_and_rest" "heads_and_rest" (defArgs s_heads_and_rest) (defBody s_heads_and_rest) (defScope s_heads_and_rest) .none kV22 dc22 pm22 an22 cd22 ct22), sl22⟩) (c22 : PySem.W.codeIn K cd22 "heads_and_rest" = true) (k22 : PySem.W.keepIn K (.ref f22) = true)
    {f23 : Addr} {od23 an23 : Option Addr} {sl23 : Array (Option Value)} {oc23 kV23 dc23 pm23 cd23 ct23 : Value}
    (a23 : PySem.W.nsIn K mainGlobals "corrected" = some (some (.ref f23)))
    (l23 : K.lookup f23 = some ⟨oc23, od23, .func (PySem.W.fnOf "corrected" "corrected" (defArgs s_corrected) (defBody s_corrected) (defScope s_corrected) .none kV23 dc23 pm23 an23 cd23 ct23), sl23⟩) (c23 : PySem.W.codeIn K cd23 "corrected" = true) (k23 : PySem.W.keepIn K (.ref f23) = true)
    {f24 : Addr} {od24 an24 : Option Addr} {sl24 : Array (Option Value)} {oc24 kV24 dc24 pm24 cd24 ct24 : Value}
    (a24 : PySem.W.nsIn K mainGlobals "shortest_rule" = some (some (.ref f24)))
    (l24 : K.lookup f24 = some ⟨oc24, od24, .func (PySem.W.fnOf "shortest_rule" "shortest_rule" (defArgs s_shortest_rule) (defBody s_shortest_rule) (defScope s_shortest_rule) .none kV24 dc24 pm24 an24 cd24 ct24), sl24⟩) (c24 : PySem.W.codeIn K cd24 "shortest_rule" = true) (k24 : PySem.W.keepIn K (.ref f24) = true)
    {f25 : Addr} {od25 an25 : Option Addr} {sl25 : Array (Option Value)} {oc25 kV25 dc25 pm25 cd25 ct25 : Value}
    (a25 : PySem.W.nsIn K mainGlobals "wrong_words" = some (some (.ref f25)))
    (l25 : K.lookup f25 = some ⟨oc25, od25, .func (PySem.W.fnOf "wrong_words" "wrong_words" (defArgs s_wrong_words) (defBody s_wrong_words) (defScope s_wrong_words) .none kV25 dc25 pm25 an25 cd25 ct25), sl25⟩) (c25 : PySem.W.codeIn K cd25 "wrong_words" = true) (k25 : PySem.W.keepIn K (.ref f25) = true)
    {f26 : Addr} {od26 an26 : Option Addr} {sl26 : Array (Option Value)} {oc26 kV26 dc26 pm26 cd26 ct26 : Value}
    (a26 : PySem.W.nsIn K mainGlobals "mended_row" = some (some (.ref f26)))
    (l26 : K.lookup f26 = some ⟨oc26, od26, .func (PySem.W.fnOf "mended_row" "mended_row" (defArgs s_mended_row) (defBody s_mended_row) (defScope s_mended_row) .none kV26 dc26 pm26 an26 cd26 ct26), sl26⟩) (c26 : PySem.W.codeIn K cd26 "mended_row" = true) (k26 : PySem.W.keepIn K (.ref f26) = true)
    {f27 : Addr} {od27 an27 : Option Addr} {sl27 : Array (Option Value)} {oc27 kV27 dc27 pm27 cd27 ct27 : Value}
    (a27 : PySem.W.nsIn K mainGlobals "need_gapped_row" = some (some (.ref f27)))
    (l27 : K.lookup f27 = some ⟨oc27, od27, .func (PySem.W.fnOf "need_gapped_row" "need_gapped_row" (defArgs s_need_gapped_row) (defBody s_need_gapped_row) (defScope s_need_gapped_row) .none kV27 dc27 pm27 an27 cd27 ct27), sl27⟩) (c27 : PySem.W.codeIn K cd27 "need_gapped_row" = true) (k27 : PySem.W.keepIn K (.ref f27) = true)
    {f28 : Addr} {od28 an28 : Option Addr} {sl28 : Array (Option Value)} {oc28 kV28 dc28 pm28 cd28 ct28 : Value}
    (a28 : PySem.W.nsIn K mainGlobals "repaired_row" = some (some (.ref f28)))
    (l28 : K.lookup f28 = some ⟨oc28, od28, .func (PySem.W.fnOf "repaired_row" "repaired_row" (defArgs s_repaired_row) (defBody s_repaired_row) (defScope s_repaired_row) .none kV28 dc28 pm28 an28 cd28 ct28), sl28⟩) (c28 : PySem.W.codeIn K cd28 "repaired_row" = true) (k28 : PySem.W.keepIn K (.ref f28) = true)
    {f29 : Addr} {od29 an29 : Option Addr} {sl29 : Array (Option Value)} {oc29 kV29 dc29 pm29 cd29 ct29 : Value}
    (a29 : PySem.W.nsIn K mainGlobals "repaired" = some (some (.ref f29)))
    (l29 : K.lookup f29 = some ⟨oc29, od29, .func (PySem.W.fnOf "repaired" "repaired" (defArgs s_repaired) (defBody s_repaired) (defScope s_repaired) .none kV29 dc29 pm29 an29 cd29 ct29), sl29⟩) (c29 : PySem.W.codeIn K cd29 "repaired" = true) (k29 : PySem.W.keepIn K (.ref f29) = true)
    {f30 : Addr} {od30 an30 : Option Addr} {sl30 : Array (Option Value)} {oc30 kV30 dc30 pm30 cd30 ct30 : Value}
    (a30 : PySem.W.nsIn K mainGlobals "_law_draw" = some (some (.ref f30)))
    (l30 : K.lookup f30 = some ⟨oc30, od30, .func (PySem.W.fnOf "_law_draw" "_law_draw" (defArgs s__law_draw) (defBody s__law_draw) (defScope s__law_draw) .none kV30 dc30 pm30 an30 cd30 ct30), sl30⟩) (c30 : PySem.W.codeIn K cd30 "_law_draw" = true) (k30 : PySem.W.keepIn K (.ref f30) = true)
    {f31 : Addr} {od31 an31 : Option Addr} {sl31 : Array (Option Value)} {oc31 kV31 dc31 pm31 cd31 ct31 : Value}
    (a31 : PySem.W.nsIn K mainGlobals "_law_pick" = some (some (.ref f31)))
    (l31 : K.lookup f31 = some ⟨oc31, od31, .func (PySem.W.fnOf "_law_pick" "_law_pick" (defArgs s__law_pick) (defBody s__law_pick) (defScope s__law_pick) .none kV31 dc31 pm31 an31 cd31 ct31), sl31⟩) (c31 : PySem.W.codeIn K cd31 "_law_pick" = true) (k31 : PySem.W.keepIn K (.ref f31) = true)
    {f32 : Addr} {od32 an32 : Option Addr} {sl32 : Array (Option Value)} {oc32 kV32 dc32 pm32 cd32 ct32 : Value}
    (a32 : PySem.W.nsIn K mainGlobals "_law_small" = some (some (.ref f32)))
    (l32 : K.lookup f32 = some ⟨oc32, od32, .func (PySem.W.fnOf "_law_small" "_law_small" (defArgs s__law_small) (defBody s__law_small) (defScope s__law_small) .none kV32 dc32 pm32 an32 cd32 ct32), sl32⟩) (c32 : PySem.W.codeIn K cd32 "_law_small" = true) (k32 : PySem.W.keepIn K (.ref f32) = true)
    {f33 : Addr} {od33 an33 : Option Addr} {sl33 : Array (Option Value)} {oc33 kV33 dc33 pm33 cd33 ct33 : Value}
    (a33 : PySem.W.nsIn K mainGlobals "_law_every" = some (some (.ref f33)))
    (l33 : K.lookup f33 = some ⟨oc33, od33, .func (PySem.W.fnOf "_law_every" "_law_every" (defArgs s__law_every) (defBody s__law_every) (defScope s__law_every) .none kV33 dc33 pm33 an33 cd33 ct33), sl33⟩) (c33 : PySem.W.codeIn K cd33 "_law_every" = true) (k33 : PySem.W.keepIn K (.ref f33) = true)
    {f34 : Addr} {od34 an34 : Option Addr} {sl34 : Array (Option Value)} {oc34 kV34 dc34 pm34 cd34 ct34 : Value}
    (a34 : PySem.W.nsIn K mainGlobals "_law_gap" = some (some (.ref f34)))
    (l34 : K.lookup f34 = some ⟨oc34, od34, .func (PySem.W.fnOf "_law_gap" "_law_gap" (defArgs s__law_gap) (defBody s__law_gap) (defScope s__law_gap) .none kV34 dc34 pm34 an34 cd34 ct34), sl34⟩) (c34 : PySem.W.codeIn K cd34 "_law_gap" = true) (k34 : PySem.W.keepIn K (.ref f34) = true)
    {f35 : Addr} {od35 an35 : Option Addr} {sl35 : Array (Option Value)} {oc35 kV35 dc35 pm35 cd35 ct35 : Value}
    (a35 : PySem.W.nsIn K mainGlobals "_law_torn" = some (some (.ref f35)))
    (l35 : K.lookup f35 = some ⟨oc35, od35, .func (PySem.W.fnOf "_law_torn" "_law_torn" (defArgs s__law_torn) (defBody s__law_torn) (defScope s__law_torn) .none kV35 dc35 pm35 an35 cd35 ct35), sl35⟩) (c35 : PySem.W.codeIn K cd35 "_law_torn" = true) (k35 : PySem.W.keepIn K (.ref f35) = true)
    {f36 : Addr} {od36 an36 : Option Addr} {sl36 : Array (Option Value)} {oc36 kV36 dc36 pm36 cd36 ct36 : Value}
    (a36 : PySem.W.nsIn K mainGlobals "_law_due" = some (some (.ref f36)))
    (l36 : K.lookup f36 = some ⟨oc36, od36, .func (PySem.W.fnOf "_law_due" "_law_due" (defArgs s__law_due) (defBody s__law_due) (defScope s__law_due) .none kV36 dc36 pm36 an36 cd36 ct36), sl36⟩) (c36 : PySem.W.codeIn K cd36 "_law_due" = true) (k36 : PySem.W.keepIn K (.ref f36) = true)
    {f37 : Addr} {od37 an37 : Option Addr} {sl37 : Array (Option Value)} {oc37 kV37 dc37 pm37 cd37 ct37 : Value}
    (a37 : PySem.W.nsIn K mainGlobals "_law_right" = some (some (.ref f37)))
    (l37 : K.lookup f37 = some ⟨oc37, od37, .func (PySem.W.fnOf "_law_right" "_law_right" (defArgs s__law_right) (defBody s__law_right) (defScope s__law_right) .none kV37 dc37 pm37 an37 cd37 ct37), sl37⟩) (c37 : PySem.W.codeIn K cd37 "_law_right" = true) (k37 : PySem.W.keepIn K (.ref f37) = true)
    {f38 : Addr} {od38 an38 : Option Addr} {sl38 : Array (Option Value)} {oc38 kV38 dc38 pm38 cd38 ct38 : Value}
    (a38 : PySem.W.nsIn K mainGlobals "law" = some (some (.ref f38)))
    (l38 : K.lookup f38 = some ⟨oc38, od38, .func (PySem.W.fnOf "law" "law" (defArgs s_law) (defBody s_law) (defScope s_law) .none kV38 dc38 pm38 an38 cd38 ct38), sl38⟩) (c38 : PySem.W.codeIn K cd38 "law" = true) (k38 : PySem.W.keepIn K (.ref f38) = true)
    {C_Field : Addr} (aC_Field : PySem.W.nsIn K mainGlobals "Field" = some (some (.ref C_Field))) (pg_Field : PySem.W.plainGet K C_Field Str.empty = true) (hd_Field : PySem.W.hasDictIn K C_Field = true) (po_Field : PySem.W.plainOver K C_Field = true)
    (sa_Field : PySem.W.findIn K (.ref C_Field) "__setattr__" = some (some (.builtin "object.__setattr__"))) (mk_Field : PySem.W.makesIn K C_Field = true) (kc_Field : PySem.W.keepIn K (.ref C_Field) = true)
    (a6 : PySem.W.findIn K (.ref C_Field) "__init__" = some (some (.ref f6))) (i6 : PySem.W.isFn K (.ref f6) = true)
    (a7 : PySem.W.findIn K (.ref C_Field) "multiple" = some (some (.ref f7))) (i7 : PySem.W.isFn K (.ref f7) = true)
    (a8 : PySem.W.findIn K (.ref C_Field) "over" = some (some (.ref f8))) (i8 : PySem.W.isFn K (.ref f8) = true)
    (a9 : PySem.W.findIn K (.ref C_Field) "two_to" = some (some (.ref f9))) (i9 : PySem.W.isFn K (.ref f9) = true)
    (a10 : PySem.W.findIn K (.ref C_Field) "times" = some (some (.ref f10))) (i10 : PySem.W.isFn K (.ref f10) = true)
    (na_Field_bits : PySem.W.findIn K (.ref C_Field) "bits" = some none)
    (na_Field_span : PySem.W.findIn K (.ref C_Field) "span" = some none)
    (na_Field_turn : PySem.W.findIn K (.ref C_Field) "turn" = some none)
    (na_Field_powers : PySem.W.findIn K (.ref C_Field) "powers" = some none)
    (na_Field_exponents : PySem.W.findIn K (.ref C_Field) "exponents" = some none)
    (z_any : PySem.W.nsIn K mainGlobals "any" = some none)
    (z_bool : PySem.W.nsIn K mainGlobals "bool" = some none)
    (z_enumerate : PySem.W.nsIn K mainGlobals "enumerate" = some none)
    (z_int : PySem.W.nsIn K mainGlobals "int" = some none)
    (z_isinstance : PySem.W.nsIn K mainGlobals "isinstance" = some none)
    (z_len : PySem.W.nsIn K mainGlobals "len" = some none)
    (z_list : PySem.W.nsIn K mainGlobals "list" = some none)
    (z_max : PySem.W.nsIn K mainGlobals "max" = some none)
    (z_min : PySem.W.nsIn K mainGlobals "min" = some none)
    (z_range : PySem.W.nsIn K mainGlobals "range" = some none)
    (z_sorted : PySem.W.nsIn K mainGlobals "sorted" = some none)
    (z_tuple : PySem.W.nsIn K mainGlobals "tuple" = some none)
    (z_type : PySem.W.nsIn K mainGlobals "type" = some none)
    (z_zip : PySem.W.nsIn K mainGlobals "zip" = some none)
    {d_EXPONENTS : Addr} {n_EXPONENTS : Nat} {u_EXPONENTS0 : Tok} {c_EXPONENTS0 : Addr} {u_EXPONENTS1 : Tok} {c_EXPONENTS1 : Addr}
    (a_EXPONENTS : PySem.W.nsIn K mainGlobals "EXPONENTS" = some (some (.ref d_EXPONENTS)))
    (l_EXPONENTS : K.lookup d_EXPONENTS = some ⟨.type "dict", none, .dict #[⟨4, .int 4 u_EXPONENTS0, .ref c_EXPONENTS0⟩, ⟨8, .int 8 u_EXPONENTS1, .ref c_EXPONENTS1⟩] n_EXPONENTS, #[]⟩)
    (w_EXPONENTS : (d_EXPONENTS == sysModules) = false)
    (t_EXPONENTS0 : tupB K c_EXPONENTS0 [0, 0, 1, 12, 2, 9, 13, 7, 3, 4, 10, 5, 14, 11, 8, 6] = true)
    (t_EXPONENTS1 : tupB K c_EXPONENTS1 [0, 0, 1, 231, 2, 207, 232, 59, 3, 35, 208, 154, 233, 20, 60, 183, 4, 159, 36, 66, 209, 118, 155, 251, 234, 245, 21, 11, 61, 130, 184, 146, 5, 122, 160, 79, 37, 113, 67, 106, 210, 224, 119, 221, 156, 242, 252, 32, 235, 213, 246, 135, 22, 42, 12, 140, 62, 227, 131, 75, 185, 191, 147, 94, 6, 70, 123, 195, 161, 53, 80, 167, 38, 109, 114, 203, 68, 51, 107, 49, 211, 40, 225, 189, 120, 111, 222, 240, 157, 116, 243, 128, 253, 205, 33, 18, 236, 163, 214, 98, 247, 55, 136, 102, 23, 82, 43, 177, 13, 169, 141, 89, 63, 8, 228, 151, 132, 72, 76, 218, 186, 125, 192, 200, 148, 197, 95, 174, 7, 150, 71, 217, 124, 199, 196, 173, 162, 97, 54, 101, 81, 176, 168, 88, 39, 188, 110, 239, 115, 127, 204, 17, 69, 194, 52, 166, 108, 202, 50, 48, 212, 134, 41, 139, 226, 74, 190, 93, 121, 78, 112, 105, 223, 220, 241, 31, 158, 65, 117, 250, 244, 10, 129, 145, 254, 230, 206, 58, 34, 153, 19, 182, 237, 15, 164, 46, 215, 171, 99, 86, 248, 143, 56, 180, 137, 91, 103, 29, 24, 25, 83, 26, 44, 84, 178, 27, 14, 45, 170, 85, 142, 179, 90, 28, 64, 249, 9, 144, 229, 57, 152, 181, 133, 138, 73, 92, 77, 104, 219, 30, 187, 238, 126, 16, 193, 165, 201, 47, 149, 216, 198, 172, 96, 100, 175, 87] = true)
    {d_MOST_CHECKS : Addr} {n_MOST_CHECKS : Nat} {u_MOST_CHECKS0 v_MOST_CHECKS0 : Tok} {u_MOST_CHECKS1 v_MOST_CHECKS1 : Tok}
    (a_MOST_CHECKS : PySem.W.nsIn K mainGlobals "MOST_CHECKS" = some (some (.ref d_MOST_CHECKS)))
    (l_MOST_CHECKS : K.lookup d_MOST_CHECKS = some ⟨.type "dict", none, .dict #[⟨4, .int 4 u_MOST_CHECKS0, .int 14 v_MOST_CHECKS0⟩, ⟨8, .int 8 u_MOST_CHECKS1, .int 40 v_MOST_CHECKS1⟩] n_MOST_CHECKS, #[]⟩)
    (w_MOST_CHECKS : (d_MOST_CHECKS == sysModules) = false)
    {d_POWERS : Addr} {n_POWERS : Nat} {u_POWERS0 : Tok} {c_POWERS0 : Addr} {u_POWERS1 : Tok} {c_POWERS1 : Addr}
    (a_POWERS : PySem.W.nsIn K mainGlobals "POWERS" = some (some (.ref d_POWERS)))
    (l_POWERS : K.lookup d_POWERS = some ⟨.type "dict", none, .dict #[⟨4, .int 4 u_POWERS0, .ref c_POWERS0⟩, ⟨8, .int 8 u_POWERS1, .ref c_POWERS1⟩] n_POWERS, #[]⟩)
    (w_POWERS : (d_POWERS == sysModules) = false)
    (t_POWERS0 : tupB K c_POWERS0 [1, 2, 4, 8, 9, 11, 15, 7, 14, 5, 10, 13, 3, 6, 12] = true)
    (t_POWERS1 : tupB K c_POWERS1 [1, 2, 4, 8, 16, 32, 64, 128, 113, 226, 181, 27, 54, 108, 216, 193, 243, 151, 95, 190, 13, 26, 52, 104, 208, 209, 211, 215, 223, 207, 239, 175, 47, 94, 188, 9, 18, 36, 72, 144, 81, 162, 53, 106, 212, 217, 195, 247, 159, 79, 158, 77, 154, 69, 138, 101, 202, 229, 187, 7, 14, 28, 56, 112, 224, 177, 19, 38, 76, 152, 65, 130, 117, 234, 165, 59, 118, 236, 169, 35, 70, 140, 105, 210, 213, 219, 199, 255, 143, 111, 222, 205, 235, 167, 63, 126, 252, 137, 99, 198, 253, 139, 103, 206, 237, 171, 39, 78, 156, 73, 146, 85, 170, 37, 74, 148, 89, 178, 21, 42, 84, 168, 33, 66, 132, 121, 242, 149, 91, 182, 29, 58, 116, 232, 161, 51, 102, 204, 233, 163, 55, 110, 220, 201, 227, 183, 31, 62, 124, 248, 129, 115, 230, 189, 11, 22, 44, 88, 176, 17, 34, 68, 136, 97, 194, 245, 155, 71, 142, 109, 218, 197, 251, 135, 127, 254, 141, 107, 214, 221, 203, 231, 191, 15, 30, 60, 120, 240, 145, 83, 166, 61, 122, 244, 153, 67, 134, 125, 250, 133, 123, 246, 157, 75, 150, 93, 186, 5, 10, 20, 40, 80, 160, 49, 98, 196, 249, 131, 119, 238, 173, 43, 86, 172, 41, 82, 164, 57, 114, 228, 185, 3, 6, 12, 24, 48, 96, 192, 241, 147, 87, 174, 45, 90, 180, 25, 50, 100, 200, 225, 179, 23, 46, 92, 184] = true)
    {d_SPANS : Addr} {n_SPANS : Nat} {u_SPANS0 v_SPANS0 : Tok} {u_SPANS1 v_SPANS1 : Tok}
    (a_SPANS : PySem.W.nsIn K mainGlobals "SPANS" = some (some (.ref d_SPANS)))
    (l_SPANS : K.lookup d_SPANS = some ⟨.type "dict", none, .dict #[⟨4, .int 4 u_SPANS0, .int 16 v_SPANS0⟩, ⟨8, .int 8 u_SPANS1, .int 256 v_SPANS1⟩] n_SPANS, #[]⟩)
    (w_SPANS : (d_SPANS == sysModules) = false)
    : ∃ fd : FuncData, (∀ (s : Shared) (v : Value), BindsTo s fd ⟨[v], []⟩ [("_law_script", v)]) ∧ ∀ base : Heap, K.In base → base.Ns mainGlobals mg → FnOk P w K mg base CX0 8 fa fd ["_law_script"] (sp_law K) := by
  have e := hfa.symm.trans (PySem.W.mg_of X G a38)
  cases e
  let T : Txt K mg := {
    f_is_number := _
    d_is_number := _
    F_is_number := fun_mk (st := s_is_number) l0 c0 k0
    g_is_number := PySem.W.mg_of X G a0
    b_is_number := (fun_mk (st := s_is_number) l0 c0 k0).binds (ps := ["thing"]) (fun _ _ _ _ _ _ us hl => match us, hl with | [_], _ => rfl)
    f_is_number_to := _
    d_is_number_to := _
    F_is_number_to := fun_mk (st := s_is_number_to) l1 c1 k1
    g_is_number_to := PySem.W.mg_of X G a1
    b_is_number_to := (fun_mk (st := s_is_number_to) l1 c1 k1).binds (ps := ["thing", "least", "most"]) (fun _ _ _ _ _ _ us hl => match us, hl with | [_, _, _], _ => rfl)
    f_is_word := _
    d_is_word := _
    F_is_word := fun_mk (st := s_is_word) l2 c2 k2
    g_is_word := PySem.W.mg_of X G a2
    b_is_word := (fun_mk (st := s_is_word) l2 c2 k2).binds (ps := ["bits", "thing"]) (fun _ _ _ _ _ _ us hl => match us, hl with | [_, _], _ => rfl)
    f_is_row := _
    d_is_row := _
    F_is_row := fun_mk (st := s_is_row) l3 c3 k3
    g_is_row := PySem.W.mg_of X G a3
    b_is_row := (fun_mk (st := s_is_row) l3 c3 k3).binds (ps := ["thing"]) (fun _ _ _ _ _ _ us hl => match us, hl with | [_], _ => rfl)
    f_are_plain_words := _
    d_are_plain_words := _
    F_are_plain_words := fun_mk (st := s_are_plain_words) l4 c4 k4
    g_are_plain_words := PySem.W.mg_of X G a4
    b_are_plain_words := (fun_mk (st := s_are_plain_words) l4 c4 k4).binds (ps := ["bits", "things"]) (fun _ _ _ _ _ _ us hl => match us, hl with | [_, _], _ => rfl)
    f_need_words := _
    d_need_words := _
    F_need_words := fun_mk (st := s_need_words) l5 c5 k5
    g_need_words := PySem.W.mg_of X G a5
    b_need_words := (fun_mk (st := s_need_words) l5 c5 k5).binds (ps := ["bits", "part", "words"]) (fun _ _ _ _ _ _ us hl => match us, hl with | [_, _, _], _ => rfl)
    f_Field___init__ := _
    d_Field___init__ := _
    F_Field___init__ := fun_mk (st := s_Field___init__) l6 c6 k6
    b_Field___init__ := (fun_mk (st := s_Field___init__) l6 c6 k6).binds (ps := ["self", "bits"]) (fun _ _ _ _ _ _ us hl => match us, hl with | [_, _], _ => rfl)
    f_Field_multiple := _
    d_Field_multiple := _
    F_Field_multiple := fun_mk (st := s_Field_multiple) l7 c7 k7
    b_Field_multiple := (fun_mk (st := s_Field_multiple) l7 c7 k7).binds (ps := ["self", "words", "factor"]) (fun _ _ _ _ _ _ us hl => match us, hl with | [_, _, _], _ => rfl)
    f_Field_over := _
    d_Field_over := _
    F_Field_over := fun_mk (st := s_Field_over) l8 c8 k8
    b_Field_over := (fun_mk (st := s_Field_over) l8 c8 k8).binds (ps := ["self", "one", "other"]) (fun _ _ _ _ _ _ us hl => match us, hl with | [_, _, _], _ => rfl)
    f_Field_two_to := _
    d_Field_two_to := _
    F_Field_two_to := fun_mk (st := s_Field_two_to) l9 c9 k9
    b_Field_two_to := (fun_mk (st := s_Field_two_to) l9 c9 k9).binds (ps := ["self", "times"]) (fun _ _ _ _ _ _ us hl => match us, hl with | [_, _], _ => rfl)
    f_Field_times := _
    d_Field_times := _
    F_Field_times := fun_mk (st := s_Field_times) l10 c10 k10
    b_Field_times := (fun_mk (st := s_Field_times) l10 c10 k10).binds (ps := ["self", "one", "other"]) (fun _ _ _ _ _ _ us hl => match us, hl with | [_, _, _], _ => rfl)
    f_check_factor := _
    d_check_factor := _
    F_check_factor := fun_mk (st := s_check_factor) l11 c11 k11
    g_check_factor := PySem.W.mg_of X G a11
    b_check_factor := (fun_mk (st := s_check_factor) l11 c11 k11).binds (ps := ["field", "many", "start"]) (fun _ _ _ _ _ _ us hl => match us, hl with | [_, _, _], _ => rfl)
    f_next_rest := _
    d_next_rest := _
    F_next_rest := fun_mk (st := s_next_rest) l12 c12 k12
    g_next_rest := PySem.W.mg_of X G a12
    b_next_rest := (fun_mk (st := s_next_rest) l12 c12 k12).binds (ps := ["field", "factor", "rest", "word"]) (fun _ _ _ _ _ _ us hl => match us, hl with | [_, _, _, _], _ => rfl)
    f_with_checks := _
    d_with_checks := _
    F_with_checks := fun_mk (st := s_with_checks) l13 c13 k13
    g_with_checks := PySem.W.mg_of X G a13
    b_with_checks := (fun_mk (st := s_with_checks) l13 c13 k13).binds (ps := ["field", "many", "start", "words"]) (fun _ _ _ _ _ _ us hl => match us, hl with | [_, _, _, _], _ => rfl)
    f_is_code := _
    d_is_code := _
    F_is_code := fun_mk (st := s_is_code) l14 c14 k14
    g_is_code := PySem.W.mg_of X G a14
    b_is_code := (fun_mk (st := s_is_code) l14 c14 k14).binds (ps := ["code"]) (fun _ _ _ _ _ _ us hl => match us, hl with | [_], _ => rfl)
    f_need_code := _
    d_need_code := _
    F_need_code := fun_mk (st := s_need_code) l15 c15 k15
    g_need_code := PySem.W.mg_of X G a15
    b_need_code := (fun_mk (st := s_need_code) l15 c15 k15).binds (ps := ["code"]) (fun _ _ _ _ _ _ us hl => match us, hl with | [_], _ => rfl)
    f_most_words := _
    d_most_words := _
    F_most_words := fun_mk (st := s_most_words) l16 c16 k16
    g_most_words := PySem.W.mg_of X G a16
    b_most_words := (fun_mk (st := s_most_words) l16 c16 k16).binds (ps := ["bits"]) (fun _ _ _ _ _ _ us hl => match us, hl with | [_], _ => rfl)
    f_is_length := _
    d_is_length := _
    F_is_length := fun_mk (st := s_is_length) l17 c17 k17
    g_is_length := PySem.W.mg_of X G a17
    b_is_length := (fun_mk (st := s_is_length) l17 c17 k17).binds (ps := ["code", "length"]) (fun _ _ _ _ _ _ us hl => match us, hl with | [_, _], _ => rfl)
    f_check_words := _
    d_check_words := _
    F_check_words := fun_mk (st := s_check_words) l18 c18 k18
    g_check_words := PySem.W.mg_of X G a18
    b_check_words := (fun_mk (st := s_check_words) l18 c18 k18).binds (ps := ["code", "words"]) (fun _ _ _ _ _ _ us hl => match us, hl with | [_, _], _ => rfl)
    f_value_at := _
    d_value_at := _
    F_value_at := fun_mk (st := s_value_at) l19 c19 k19
    g_value_at := PySem.W.mg_of X G a19
    b_value_at := (fun_mk (st := s_value_at) l19 c19 k19).binds (ps := ["field", "words", "at"]) (fun _ _ _ _ _ _ us hl => match us, hl with | [_, _, _], _ => rfl)
    f_sums_of := _
    d_sums_of := _
    F_sums_of := fun_mk (st := s_sums_of) l20 c20 k20
    g_sums_of := PySem.W.mg_of X G a20
    b_sums_of := (fun_mk (st := s_sums_of) l20 c20 k20).binds (ps := ["field", "many", "start", "row"]) (fun _ _ _ _ _ _ us hl => match us, hl with | [_, _, _, _], _ => rfl)
    f_without_place := _
    d_without_place := _
    F_without_place := fun_mk (st := s_without_place) l21 c21 k21
    g_without_place := PySem.W.mg_of X G a21
    b_without_place := (fun_mk (st := s_without_place) l21 c21 k21).binds (ps := ["field", "sums", "place"]) (fun _ _ _ _ _ _ us hl => match us, hl with | [_, _, _], _ => rfl)
    f_heads_and_rest := _
    d_heads_and_rest := _
    F_heads_and_rest := fun_mk (st := s_heads_and_rest) l22 c22 k22
    g_heads_and_rest := PySem.W.mg_of X G a22
    b_heads_and_rest := (fun_mk (st := s_heads_and_rest) l22 c22 k22).binds (ps := ["field", "sums", "places"]) (fun _ _ _ _ _ _ us hl => match us, hl with | [_, _, _], _ => rfl)
    f_corrected := _
    d_corrected := _
    F_corrected := fun_mk (st := s_corrected) l23 c23 k23
    g_corrected := PySem.W.mg_of X G a23
    b_corrected := (fun_mk (st := s_corrected) l23 c23 k23).binds (ps := ["field", "rule", "last", "shift", "factor"]) (fun _ _ _ _ _ _ us hl => match us, hl with | [_, _, _, _, _], _ => rfl)
    f_shortest_rule := _
    d_shortest_rule := _
    F_shortest_rule := fun_mk (st := s_shortest_rule) l24 c24 k24
    g_shortest_rule := PySem.W.mg_of X G a24
    b_shortest_rule := (fun_mk (st := s_shortest_rule) l24 c24 k24).binds (ps := ["field", "sums"]) (fun _ _ _ _ _ _ us hl => match us, hl with | [_, _], _ => rfl)
    f_wrong_words := _
    d_wrong_words := _
    F_wrong_words := fun_mk (st := s_wrong_words) l25 c25 k25
    g_wrong_words := PySem.W.mg_of X G a25
    b_wrong_words := (fun_mk (st := s_wrong_words) l25 c25 k25).binds (ps := ["field", "places", "heads"]) (fun _ _ _ _ _ _ us hl => match us, hl with | [_, _, _], _ => rfl)
    f_mended_row := _
    d_mended_row := _
    F_mended_row := fun_mk (st := s_mended_row) l26 c26 k26
    g_mended_row := PySem.W.mg_of X G a26
    b_mended_row := (fun_mk (st := s_mended_row) l26 c26 k26).binds (ps := ["field", "start", "row", "sums"]) (fun _ _ _ _ _ _ us hl => match us, hl with | [_, _, _, _], _ => rfl)
    f_need_gapped_row := _
    d_need_gapped_row := _
    F_need_gapped_row := fun_mk (st := s_need_gapped_row) l27 c27 k27
    g_need_gapped_row := PySem.W.mg_of X G a27
    b_need_gapped_row := (fun_mk (st := s_need_gapped_row) l27 c27 k27).binds (ps := ["code", "row"]) (fun _ _ _ _ _ _ us hl => match us, hl with | [_, _], _ => rfl)
    f_repaired_row := _
    d_repaired_row := _
    F_repaired_row := fun_mk (st := s_repaired_row) l28 c28 k28
    g_repaired_row := PySem.W.mg_of X G a28
    b_repaired_row := (fun_mk (st := s_repaired_row) l28 c28 k28).binds (ps := ["field", "many", "start", "row"]) (fun _ _ _ _ _ _ us hl => match us, hl with | [_, _, _, _], _ => rfl)
    f_repaired := _
    d_repaired := _
    F_repaired := fun_mk (st := s_repaired) l29 c29 k29
    g_repaired := PySem.W.mg_of X G a29
    b_repaired := (fun_mk (st := s_repaired) l29 c29 k29).binds (ps := ["code", "row"]) (fun _ _ _ _ _ _ us hl => match us, hl with | [_, _], _ => rfl)
    f__law_draw := _
    d__law_draw := _
    F__law_draw := fun_mk (st := s__law_draw) l30 c30 k30
    g__law_draw := PySem.W.mg_of X G a30
    b__law_draw := (fun_mk (st := s__law_draw) l30 c30 k30).binds (ps := ["_law_well", "_law_many"]) (fun _ _ _ _ _ _ us hl => match us, hl with | [_, _], _ => rfl)
    f__law_pick := _
    d__law_pick := _
    F__law_pick := fun_mk (st := s__law_pick) l31 c31 k31
    g__law_pick := PySem.W.mg_of X G a31
    b__law_pick := (fun_mk (st := s__law_pick) l31 c31 k31).binds (ps := ["_law_well", "_law_some"]) (fun _ _ _ _ _ _ us hl => match us, hl with | [_, _], _ => rfl)
    f__law_small := _
    d__law_small := _
    F__law_small := fun_mk (st := s__law_small) l32 c32 k32
    g__law_small := PySem.W.mg_of X G a32
    b__law_small := (fun_mk (st := s__law_small) l32 c32 k32).binds (ps := ["_law_well"]) (fun _ _ _ _ _ _ us hl => match us, hl with | [_], _ => rfl)
    f__law_every := _
    d__law_every := _
    F__law_every := fun_mk (st := s__law_every) l33 c33 k33
    g__law_every := PySem.W.mg_of X G a33
    b__law_every := (fun_mk (st := s__law_every) l33 c33 k33).binds (ps := ["_law_kit", "_law_size"]) (fun _ _ _ _ _ _ us hl => match us, hl with | [_, _], _ => rfl)
    f__law_gap := _
    d__law_gap := _
    F__law_gap := fun_mk (st := s__law_gap) l34 c34 k34
    g__law_gap := PySem.W.mg_of X G a34
    b__law_gap := (fun_mk (st := s__law_gap) l34 c34 k34).binds (ps := ["_law_torn_here", "_law_some"]) (fun _ _ _ _ _ _ us hl => match us, hl with | [_, _], _ => rfl)
    f__law_torn := _
    d__law_torn := _
    F__law_torn := fun_mk (st := s__law_torn) l35 c35 k35
    g__law_torn := PySem.W.mg_of X G a35
    b__law_torn := (fun_mk (st := s__law_torn) l35 c35 k35).binds (ps := ["_law_well", "_law_kit", "_law_size", "_law_every_here"]) (fun _ _ _ _ _ _ us hl => match us, hl with | [_, _, _, _], _ => rfl)
    f__law_due := _
    d__law_due := _
    F__law_due := fun_mk (st := s__law_due) l36 c36 k36
    g__law_due := PySem.W.mg_of X G a36
    b__law_due := (fun_mk (st := s__law_due) l36 c36 k36).binds (ps := ["_law_kit", "_law_torn_here", "_law_every_here"]) (fun _ _ _ _ _ _ us hl => match us, hl with | [_, _, _], _ => rfl)
    f__law_right := _
    d__law_right := _
    F__law_right := fun_mk (st := s__law_right) l37 c37 k37
    g__law_right := PySem.W.mg_of X G a37
    b__law_right := (fun_mk (st := s__law_right) l37 c37 k37).binds (ps := ["_law_well"]) (fun _ _ _ _ _ _ us hl => match us, hl with | [_], _ => rfl)
    f_law := _
    d_law := _
    F_law := fun_mk (st := s_law) l38 c38 k38
    g_law := PySem.W.mg_of X G a38
    b_law := (fun_mk (st := s_law) l38 c38 k38).binds (ps := ["_law_script"]) (fun _ _ _ _ _ _ us hl => match us, hl with | [_], _ => rfl)
    C_Field := C_Field
    g_Field := PySem.W.mg_of X G aC_Field
    cl_Field := ⟨pg_Field, hd_Field, po_Field, sa_Field⟩
    m_Field___init__ := ⟨a6, i6, k6⟩
    mk_Field := ⟨mk_Field, a6, i6, kc_Field⟩
    m_Field_multiple := ⟨a7, i7, k7⟩
    m_Field_over := ⟨a8, i8, k8⟩
    m_Field_two_to := ⟨a9, i9, k9⟩
    m_Field_times := ⟨a10, i10, k10⟩
    a_Field_bits := na_Field_bits
    a_Field_span := na_Field_span
    a_Field_turn := na_Field_turn
    a_Field_powers := na_Field_powers
    a_Field_exponents := na_Field_exponents
    n_any := PySem.W.mg_none_of X G z_any
    n_bool := PySem.W.mg_none_of X G z_bool
    n_enumerate := PySem.W.mg_none_of X G z_enumerate
    n_int := PySem.W.mg_none_of X G z_int
    n_isinstance := PySem.W.mg_none_of X G z_isinstance
    n_len := PySem.W.mg_none_of X G z_len
    n_list := PySem.W.mg_none_of X G z_list
    n_max := PySem.W.mg_none_of X G z_max
    n_min := PySem.W.mg_none_of X G z_min
    n_range := PySem.W.mg_none_of X G z_range
    n_sorted := PySem.W.mg_none_of X G z_sorted
    n_tuple := PySem.W.mg_none_of X G z_tuple
    n_type := PySem.W.mg_none_of X G z_type
    n_zip := PySem.W.mg_none_of X G z_zip
    c_EXPONENTS0 := c_EXPONENTS0
    t_EXPONENTS0 := t_EXPONENTS0
    c_EXPONENTS1 := c_EXPONENTS1
    t_EXPONENTS1 := t_EXPONENTS1
    a_EXPONENTS := d_EXPONENTS
    g_EXPONENTS := PySem.W.mg_of X G a_EXPONENTS
    l_EXPONENTS := ⟨_, _, l_EXPONENTS, (.cons (.cons .nil)), w_EXPONENTS⟩
    a_MOST_CHECKS := d_MOST_CHECKS
    g_MOST_CHECKS := PySem.W.mg_of X G a_MOST_CHECKS
    l_MOST_CHECKS := ⟨_, _, l_MOST_CHECKS, (.cons (.cons .nil)), w_MOST_CHECKS⟩
    c_POWERS0 := c_POWERS0
    t_POWERS0 := t_POWERS0
    c_POWERS1 := c_POWERS1
    t_POWERS1 := t_POWERS1
    a_POWERS := d_POWERS
    g_POWERS := PySem.W.mg_of X G a_POWERS
    l_POWERS := ⟨_, _, l_POWERS, (.cons (.cons .nil)), w_POWERS⟩
    a_SPANS := d_SPANS
    g_SPANS := PySem.W.mg_of X G a_SPANS
    l_SPANS := ⟨_, _, l_SPANS, (.cons (.cons .nil)), w_SPANS⟩ }
  exact ⟨T.d_law, fun s v => .of_eq rfl, fun base _ _ => ok_law T⟩
end My
open PySem PySem.W PyProof.Rows
set_option maxHeartbeats 0 in
theorem PySem.Challenge.cw_dotquilts_k10_whole_repairs_of_any_rows_holds : PySem.Challenge.rw_dotquilts_k10_whole_repairs_of_any_rows.Holds := by
  w_on; o_law; k_head; (case hw => w_witness2)
  k_fill
  refine L2.walk_of (l := PySem.Challenge.rw_dotquilts_k10_whole_repairs_of_any_rows) (n := 63) (k := 8) (x := "_law_script") (CX := fun _ => L2.CX0) (sp := fun w => My.sp_law _) rfl (by decide) rfl ⟨rfl, by decide, by decide⟩ (fun w h Y => PySem.W.kIn_of Y) ?F (fun _ _ a ns hl _ hS => ⟨a, ns, rfl, hS, hl, fun _ => rfl⟩) (fun _ _ _ _ _ h => h)
  case F =>
    intro w mg fa h KX G hmg
    refine' My.all_mk KX G hmg ?a0 ?l0 ?c0 ?k0 ?a1 ?l1 ?c1 ?k1 ?a2 ?l2 ?c2 ?k2 ?a3 ?l3 ?c3 ?k3 ?a4 ?l4 ?c4 ?k4 ?a5 ?l5 ?c5 ?k5 ?l6 ?c6 ?k6 ?l7 ?c7 ?k7 ?l8 ?c8 ?k8 ?l9 ?c9 ?k9 ?l10 ?c10 ?k10 ?a11 ?l11 ?c11 ?k11 ?a12 ?l12 ?c12 ?k12 ?a13 ?l13 ?c13 ?k13 ?a14 ?l14 ?c14 ?k14 ?a15 ?l15 ?c15 ?k15 ?a16 ?l16 ?c16 ?k16 ?a17 ?l17 ?c17 ?k17 ?a18 ?l18 ?c18 ?k18 ?a19 ?l19 ?c19 ?k19 ?a20 ?l20 ?c20 ?k20 ?a21 ?l21 ?c21 ?k21 ?a22 ?l22 ?c22 ?k22 ?a23 ?l23 ?c23 ?k23 ?a24 ?l24 ?c24 ?k24 ?a25 ?l25 ?c25 ?k25 ?a26 ?l26 ?c26 ?k26 ?a27 ?l27 ?c27 ?k27 ?a28 ?l28 ?c28 ?k28 ?a29 ?l29 ?c29 ?k29 ?a30 ?l30 ?c30 ?k30 ?a31 ?l31 ?c31 ?k31 ?a32 ?l32 ?c32 ?k32 ?a33 ?l33 ?c33 ?k33 ?a34 ?l34 ?c34 ?k34 ?a35 ?l35 ?c35 ?k35 ?a36 ?l36 ?c36 ?k36 ?a37 ?l37 ?c37 ?k37 ?a38 ?l38 ?c38 ?k38 ?aC_Field ?pg_Field ?hd_Field ?po_Field ?sa_Field ?mk_Field ?kc_Field ?a6 ?i6 ?a7 ?i7 ?a8 ?i8 ?a9 ?i9 ?a10 ?i10 ?na_Field_bits ?na_Field_span ?na_Field_turn ?na_Field_powers ?na_Field_exponents ?z_any ?z_bool ?z_enumerate ?z_int ?z_isinstance ?z_len ?z_list ?z_max ?z_min ?z_range ?z_sorted ?z_tuple ?z_type ?z_zip ?a_EXPONENTS ?l_EXPONENTS ?w_EXPONENTS ?t_EXPONENTS0 ?t_EXPONENTS1 ?a_MOST_CHECKS ?l_MOST_CHECKS ?w_MOST_CHECKS ?a_POWERS ?l_POWERS ?w_POWERS ?t_POWERS0 ?t_POWERS1 ?a_SPANS ?l_SPANS ?w_SPANS
    (case a0 => k_is)
    (case l0 => k_is)
    (case c0 => k_is)
    (case k0 => k_is)
    (case a1 => k_is)
    (case l1 => k_is)
    (case c1 => k_is)
    (case k1 => k_is)
    (case a2 => k_is)
    (case l2 => k_is)
    (case c2 => k_is)
    (case k2 => k_is)
    (case a3 => k_is)
    (case l3 => k_is)
    (case c3 => k_is)
    (case k3 => k_is)
    (case a4 => k_is)
    (case l4 => k_is)
    (case c4 => k_is)
    (case k4 => k_is)
    (case a5 => k_is)
    (case l5 => k_is)
    (case c5 => k_is)
    (case k5 => k_is)
    (case a11 => k_is)
    (case l11 => k_is)
    (case c11 => k_is)
    (case k11 => k_is)
    (case a12 => k_is)
    (case l12 => k_is)
    (case c12 => k_is)
    (case k12 => k_is)
    (case a13 => k_is)
    (case l13 => k_is)
    (case c13 => k_is)
    (case k13 => k_is)
    (case a14 => k_is)
    (case l14 => k_is)
    (case c14 => k_is)
    (case k14 => k_is)
    (case a15 => k_is)
    (case l15 => k_is)
    (case c15 => k_is)
    (case k15 => k_is)
    (case a16 => k_is)
    (case l16 => k_is)
    (case c16 => k_is)
    (case k16 => k_is)
    (case a17 => k_is)
    (case l17 => k_is)
    (case c17 => k_is)
    (case k17 => k_is)
    (case a18 => k_is)
    (case l18 => k_is)
    (case c18 => k_is)
    (case k18 => k_is)
    (case a19 => k_is)
    (case l19 => k_is)
    (case c19 => k_is)
    (case k19 => k_is)
    (case a20 => k_is)
    (case l20 => k_is)
    (case c20 => k_is)
    (case k20 => k_is)
    (case a21 => k_is)
    (case l21 => k_is)
    (case c21 => k_is)
    (case k21 => k_is)
    (case a22 => k_is)
    (case l22 => k_is)
    (case c22 => k_is)
    (case k22 => k_is)
    (case a23 => k_is)
    (case l23 => k_is)
    (case c23 => k_is)
    (case k23 => k_is)
    (case a24 => k_is)
    (case l24 => k_is)
    (case c24 => k_is)
    (case k24 => k_is)
    (case a25 => k_is)
    (case l25 => k_is)
    (case c25 => k_is)
    (case k25 => k_is)
    (case a26 => k_is)
    (case l26 => k_is)
    (case c26 => k_is)
    (case k26 => k_is)
    (case a27 => k_is)
    (case l27 => k_is)
    (case c27 => k_is)
    (case k27 => k_is)
    (case a28 => k_is)
    (case l28 => k_is)
    (case c28 => k_is)
    (case k28 => k_is)
    (case a29 => k_is)
    (case l29 => k_is)
    (case c29 => k_is)
    (case k29 => k_is)
    (case a30 => k_is)
    (case l30 => k_is)
    (case c30 => k_is)
    (case k30 => k_is)
    (case a31 => k_is)
    (case l31 => k_is)
    (case c31 => k_is)
    (case k31 => k_is)
    (case a32 => k_is)
    (case l32 => k_is)
    (case c32 => k_is)
    (case k32 => k_is)
    (case a33 => k_is)
    (case l33 => k_is)
    (case c33 => k_is)
    (case k33 => k_is)
    (case a34 => k_is)
    (case l34 => k_is)
    (case c34 => k_is)
    (case k34 => k_is)
    (case a35 => k_is)
    (case l35 => k_is)
    (case c35 => k_is)
    (case k35 => k_is)
    (case a36 => k_is)
    (case l36 => k_is)
    (case c36 => k_is)
    (case k36 => k_is)
    (case a37 => k_is)
    (case l37 => k_is)
    (case c37 => k_is)
    (case k37 => k_is)
    (case a38 => k_is)
    (case l38 => k_is)
    (case c38 => k_is)
    (case k38 => k_is)
    (case aC_Field => k_is)
    (case pg_Field => k_is)
    (case hd_Field => k_is)
    (case po_Field => k_is)
    (case sa_Field => k_is)
    (case mk_Field => k_is)
    (case kc_Field => k_is)
    (case a6 => k_is)
    (case i6 => k_is)
    (case a7 => k_is)
    (case i7 => k_is)
    (case a8 => k_is)
    (case i8 => k_is)
    (case a9 => k_is)
    (case i9 => k_is)
    (case a10 => k_is)
    (case i10 => k_is)
    (case na_Field_bits => k_is)
    (case na_Field_span => k_is)
    (case na_Field_turn => k_is)
    (case na_Field_powers => k_is)
    (case na_Field_exponents => k_is)
    (case z_any => k_is)
    (case z_bool => k_is)
    (case z_enumerate => k_is)
    (case z_int => k_is)
    (case z_isinstance => k_is)
    (case z_len => k_is)
    (case z_list => k_is)
    (case z_max => k_is)
    (case z_min => k_is)
    (case z_range => k_is)
    (case z_sorted => k_is)
    (case z_tuple => k_is)
    (case z_type => k_is)
    (case z_zip => k_is)
    (case a_EXPONENTS => k_is)
    (case l_EXPONENTS => k_is)
    (case w_EXPONENTS => first | rfl | decide)
    (case t_EXPONENTS0 => first | rfl | decide +kernel | k_is)
    (case t_EXPONENTS1 => first | rfl | decide +kernel | k_is)
    (case a_MOST_CHECKS => k_is)
    (case l_MOST_CHECKS => k_is)
    (case w_MOST_CHECKS => first | rfl | decide)
    (case a_POWERS => k_is)
    (case l_POWERS => k_is)
    (case w_POWERS => first | rfl | decide)
    (case t_POWERS0 => first | rfl | decide +kernel | k_is)
    (case t_POWERS1 => first | rfl | decide +kernel | k_is)
    (case a_SPANS => k_is)
    (case l_SPANS => k_is)
    (case w_SPANS => first | rfl | decide)
    (case l6 => k_is)
    (case c6 => k_is)
    (case k6 => k_is)
    (case l7 => k_is)
    (case c7 => k_is)
    (case k7 => k_is)
    (case l8 => k_is)
    (case c8 => k_is)
    (case k8 => k_is)
    (case l9 => k_is)
    (case c9 => k_is)
    (case k9 => k_is)
    (case l10 => k_is)
    (case c10 => k_is)
    (case k10 => k_is)

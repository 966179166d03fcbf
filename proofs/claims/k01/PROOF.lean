import PyProof.Rows.All
import Wide.All
import OpenK.AllK
import Wide.FinOn
import HandS.ForMost
import HandS.IsInst
import HandS.SortInts
import HandS.Evl
import HandS.Conv
import HandS.Walk
import KE.GoesEnum
import KE.GoesMore
import PySem.Challenge.RW_dotquilts_k01_whole_fields
set_option Elab.async false
set_option linter.all false
set_option maxRecDepth 100000
set_option maxHeartbeats 4000000
namespace My
open PySem PySem.Spec PyProof.Rows L2
/-! ### a dict of the module with int keys -/
inductive EntI : List DictEntry → List (Int × Int) → Prop where
  | nil : EntI [] []
  | cons {k v : Int} {t u : Tok} {es : List DictEntry} {kvs : List (Int × Int)} (h : EntI es kvs) (hk : hashInt k = k := by decide +kernel) : EntI (⟨k, .int k t, .int v u⟩ :: es) ((k, v) :: kvs)
def KInt (K : PySem.W.Frag) (d : Addr) (kvs : List (Int × Int)) : Prop :=
  ∃ (es : Array DictEntry) (n : Nat), K.lookup d = some ⟨.type "dict", none, .dict es n, #[]⟩ ∧ EntI es.toList kvs ∧ (d == sysModules) = false
theorem EntI.all {es : List DictEntry} {kvs : List (Int × Int)} (h : EntI es kvs) : ∀ e ∈ es, ∃ k t, e.key = .int k t ∧ e.hash = hashInt k := by
  induction h with
  | nil => intro e he; cases he
  | cons h hk ih =>
    intro e he
    cases he with
    | head => exact ⟨_, _, rfl, hk.symm⟩
    | tail _ m => exact ih e m
def getI (k : Int) : List (Int × Int) → Option Int
  | [] => none
  | (k', v) :: r => if k' = k then some v else getI k r
theorem EntI.find {es : List DictEntry} {kvs : List (Int × Int)} (h : EntI es kvs) (k : Int) :
    (getI k kvs = none → findBy Value.isInt es.toArray k = none) ∧ (∀ v, getI k kvs = some v → ∃ u, findBy Value.isInt es.toArray k = some (.int v u)) := by
  unfold findBy
  rw [List.find?_toArray]
  induction h with
  | nil => exact ⟨fun _ => rfl, fun v z => by cases z⟩
  | @cons k' v t u es kvs h hk ih =>
    rw [List.find?_cons]
    by_cases e : k' = k
    · have q : Value.isInt k (Value.int k' t) = true := by show (k' == k) = true; simp [e]
      simp only [q]
      refine ⟨fun z => ?_, fun v' z => ?_⟩
      · unfold getI at z; rw [if_pos e] at z; cases z
      · unfold getI at z; rw [if_pos e] at z; cases z; exact ⟨u, rfl⟩
    · have q : Value.isInt k (Value.int k' t) = false := by show (k' == k) = false; simp [e]
      simp only [q]
      unfold getI
      rw [if_neg e]
      exact ih
section
variable {X : Cx} {d : Addr} {kvs : List (Int × Int)}
theorem mapInt_K {prog : Program} {w : World} {K : PySem.W.Frag} {h : Heap} {es : Array DictEntry} {n : Nat} (X : K.In h) (hl : K.lookup d = some ⟨.type "dict", none, .dict es n, #[]⟩) (hk : EntI es.toList kvs) :
    h.MapOf (intKind prog w) d (fun k => findBy Value.isInt es k) :=
  ⟨_, es, n, X _ _ hl, ⟨rfl, rfl, rfl⟩, rfl, fun e he => by
    obtain ⟨x, t, e1, e2⟩ := hk.all e (Array.mem_toList_iff.mpr he)
    exact ⟨x, by rw [e1]; exact intKind_is prog w x t, e2⟩, fun _ => rfl⟩
/-- d[k] -/
def rKI (d : Addr) (kvs : List (Int × Int)) : R2 := fun x y H Q => ∃ k v, x = .ref d ∧ y = .int k ∧ getI k kvs = some v ∧ Q (.int v) H
theorem ix_kint (D : KInt X.K d kvs) : IxR X (rKI d kvs) := by
  intro value slice pins s σ H x y v u Q I rx ry h hs
  obtain ⟨k, r, rfl, rfl, e, q⟩ := h
  obtain ⟨es, n, hl, hk, hd⟩ := D
  obtain rfl : v = Value.ref d := rx
  obtain ⟨t, rfl⟩ := ry
  have hm := mapInt_K (prog := X.prog) (w := X.w) I.kIn hl hk
  obtain ⟨u0, eu⟩ := (hk.find k).2 r e
  exact tail_any hm.typeIs slot_dict_getitem.lookup (wpAny_getItem_of (intKind_is X.prog X.w k t) hm eu ⟨.int r, H, I.tok _, ⟨_, rfl⟩, q⟩) hs
/-- k in d, k not in d -/
def rInKI (d : Addr) (kvs : List (Int × Int)) (neg : Bool) : R2 := fun x y H Q => ∃ k, x = .int k ∧ y = .ref d ∧ Q (.bl (if neg then !(getI k kvs).isSome else (getI k kvs).isSome)) H
theorem find_is {es : Array DictEntry} (hk : EntI es.toList kvs) (k : Int) : (findBy Value.isInt es k).isSome = (getI k kvs).isSome := by
  have q : findBy Value.isInt es k = findBy Value.isInt es.toList.toArray k := by simp
  cases e : getI k kvs with
  | none => rw [q, (hk.find k).1 e] <;> rfl
  | some v =>
    obtain ⟨u, eu⟩ := (hk.find k).2 v e
    rw [q, eu]
    rfl
theorem op_inKI (D : KInt X.K d kvs) : OpR X (compareOp .In) (rInKI d kvs false) := by
  intro pins s σ H x y v u Q I rx ry h
  obtain ⟨k, rfl, rfl, q⟩ := h
  obtain ⟨es, n, hl, hk, hd⟩ := D
  obtain ⟨t, rfl⟩ := rx
  cases ry
  refine wpAny_in_of (intKind_is X.prog X.w k t) hd (mapInt_K (prog := X.prog) (w := X.w) I.kIn hl hk) ?_
  exact ⟨.bl _, H, I.tok _, rfl, by rw [find_is hk]; exact q⟩
theorem op_notInKI (D : KInt X.K d kvs) : OpR X (compareOp .NotIn) (rInKI d kvs true) := by
  intro pins s σ H x y v u Q I rx ry h
  obtain ⟨k, rfl, rfl, q⟩ := h
  obtain ⟨es, n, hl, hk, hd⟩ := D
  obtain ⟨t, rfl⟩ := rx
  cases ry
  refine wpAny_notIn_of (intKind_is X.prog X.w k t) hd (mapInt_K (prog := X.prog) (w := X.w) I.kIn hl hk) ?_
  exact ⟨.bl _, H, I.tok _, rfl, by rw [find_is hk]; exact q⟩
/-- xs + ys, whatever kind of lists stand there (the script, too) -/
def rCatL (K : PySem.W.Frag) : R2 := fun x y H Q => ∃ l b xs zs, x = .ref l ∧ y = .ref b ∧ SqL K H l xs ∧ SqL K H b zs ∧ xs.length + zs.length ≤ sizeLine ∧ ∀ p, H p = none → Q (.ref p) (upd H p (.lst (xs ++ zs)))
theorem op_catL : OpR X (binaryOp .Add) (rCatL X.K) := by
  intro pins s σ H x y v u Q I rx ry h
  obtain ⟨l, b, xs, zs, rfl, rfl, hl, hb, hz, q⟩ := h
  cases rx
  cases ry
  obtain ⟨its, r, ⟨⟨cls, dd, data, sl⟩, n, ho, hc, hd, hs⟩, z1⟩ := I.list hl
  obtain ⟨its2, r2, ⟨⟨cls2, dd2, data2, sl2⟩, n2, ho2, hc2, hd2, hs2⟩, z2⟩ := I.list hb
  have e1 := r.length
  have e2 := r2.length
  simp only at hc hd hs hc2 hd2 hs2
  subst hc hd hs hc2 hd2 hs2
  have e : its.toArray ++ its2.toArray = (its ++ its2).toArray := by simp
  refine concat_meets ⟨_, ho, rfl⟩ ⟨_, ho2, rfl⟩ noFill_list_add seq_list_add PySem.F.slot_list_add PySem.F.entry_list_add (PySem.F.args_list_add_2 _ _) (list_addW l b its.toArray its2.toArray n n2 none none sl sl2 (by simp; omega)) ⟨ho, ho2, ?_⟩
  rw [e]
  exact ⟨.ref _, _, I.lnew (t' := s.toks) (r.append r2) (by rw [List.length_append]; omega), rfl, q _ I.fresh⟩
/-- name op= e, by the in-place operator's rule -/
theorem pip_of {op : Operator} {r : R2} (h : OpR X (inplaceOp op) r) : PIp X op r := h
end
end My

set_option Elab.async false
set_option linter.all false
set_option maxRecDepth 100000
set_option maxHeartbeats 4000000
/-! ### written tuples of ints, dicts of the module from ints to objects -/
namespace My
open PySem PySem.Spec PyProof.Rows L2
def intsB : List Value → List Int → Bool
  | [], [] => true
  | .int i _ :: vs, j :: xs => (i == j) && intsB vs xs
  | _, _ => false
def tupB (K : PySem.W.Frag) (a : Addr) (xs : List Int) : Bool :=
  match K.lookup a with
  | some ⟨.type s, _, .seq its _, _⟩ => s == "tuple" && Nat.ble its.size 1000 && intsB its.toList xs
  | _ => false
theorem intsB_ok : ∀ {vs : List Value} {xs : List Int}, intsB vs xs = true → Vals (xs.map V.int) vs
  | [], [], _ => .nil
  | .int i t :: vs, j :: xs, h => by
    have h' : ((i == j) && intsB vs xs) = true := h
    rw [Bool.and_eq_true] at h'
    have e : i = j := by simpa using h'.1
    subst e
    exact .cons ⟨t, rfl⟩ (intsB_ok h'.2)
theorem tupB_ok {K : PySem.W.Frag} {a : Addr} {xs : List Int} {H : Hp} (h : tupB K a xs = true) : SqT K H a (xs.map V.int) := by
  unfold tupB at h
  split at h
  · next s _ its n _ e =>
    rw [Bool.and_eq_true, Bool.and_eq_true] at h
    have es : s = "tuple" := by simpa using h.1.1
    subst es
    exact .inr ⟨_, its, n, e, rfl, rfl, Nat.le_trans (Nat.le_of_ble_eq_true h.1.2) (by decide), intsB_ok h.2⟩
  · cases h
inductive EntR : List DictEntry → List (Int × Addr) → Prop where
  | nil : EntR [] []
  | cons {k : Int} {v : Addr} {t : Tok} {es : List DictEntry} {kvs : List (Int × Addr)} (h : EntR es kvs) (hk : hashInt k = k := by decide +kernel) : EntR (⟨k, .int k t, .ref v⟩ :: es) ((k, v) :: kvs)
def KRef (K : PySem.W.Frag) (d : Addr) (kvs : List (Int × Addr)) : Prop :=
  ∃ (es : Array DictEntry) (n : Nat), K.lookup d = some ⟨.type "dict", none, .dict es n, #[]⟩ ∧ EntR es.toList kvs ∧ (d == sysModules) = false
theorem EntR.all {es : List DictEntry} {kvs : List (Int × Addr)} (h : EntR es kvs) : ∀ e ∈ es, ∃ k t, e.key = .int k t ∧ e.hash = hashInt k := by
  induction h with
  | nil => intro e he; cases he
  | cons h hk ih =>
    intro e he
    cases he with
    | head => exact ⟨_, _, rfl, hk.symm⟩
    | tail _ m => exact ih e m
def getA (k : Int) : List (Int × Addr) → Option Addr
  | [] => none
  | (k', v) :: r => if k' = k then some v else getA k r
theorem EntR.find {es : List DictEntry} {kvs : List (Int × Addr)} (h : EntR es kvs) (k : Int) :
    (getA k kvs = none → findBy Value.isInt es.toArray k = none) ∧ (∀ v, getA k kvs = some v → findBy Value.isInt es.toArray k = some (.ref v)) := by
  unfold findBy
  rw [List.find?_toArray]
  induction h with
  | nil => exact ⟨fun _ => rfl, fun v z => by cases z⟩
  | @cons k' v t es kvs h hk ih =>
    rw [List.find?_cons]
    by_cases e : k' = k
    · have q : Value.isInt k (Value.int k' t) = true := by show (k' == k) = true; simp [e]
      simp only [q]
      refine ⟨fun z => ?_, fun v' z => ?_⟩
      · unfold getA at z; rw [if_pos e] at z; cases z
      · unfold getA at z; rw [if_pos e] at z; cases z; rfl
    · have q : Value.isInt k (Value.int k' t) = false := by show (k' == k) = false; simp [e]
      simp only [q]
      unfold getA
      rw [if_neg e]
      exact ih
section
variable {X : Cx} {d : Addr} {kvs : List (Int × Addr)}
theorem mapInt_R {prog : Program} {w : World} {K : PySem.W.Frag} {h : Heap} {es : Array DictEntry} {n : Nat} (X : K.In h) (hl : K.lookup d = some ⟨.type "dict", none, .dict es n, #[]⟩) (hk : EntR es.toList kvs) :
    h.MapOf (intKind prog w) d (fun k => findBy Value.isInt es k) :=
  ⟨_, es, n, X _ _ hl, ⟨rfl, rfl, rfl⟩, rfl, fun e he => by
    obtain ⟨x, t, e1, e2⟩ := hk.all e (Array.mem_toList_iff.mpr he)
    exact ⟨x, by rw [e1]; exact intKind_is prog w x t, e2⟩, fun _ => rfl⟩
/-- d[k] -/
def rKR (d : Addr) (kvs : List (Int × Addr)) : R2 := fun x y H Q => ∃ k v, x = .ref d ∧ y = .int k ∧ getA k kvs = some v ∧ Q (.ref v) H
theorem ix_kref (D : KRef X.K d kvs) : IxR X (rKR d kvs) := by
  intro value slice pins s σ H x y v u Q I rx ry h hs
  obtain ⟨k, r, rfl, rfl, e, q⟩ := h
  obtain ⟨es, n, hl, hk, hd⟩ := D
  obtain rfl : v = Value.ref d := rx
  obtain ⟨t, rfl⟩ := ry
  have hm := mapInt_R (prog := X.prog) (w := X.w) I.kIn hl hk
  have eu := (hk.find k).2 r e
  exact tail_any hm.typeIs slot_dict_getitem.lookup (wpAny_getItem_of (intKind_is X.prog X.w k t) hm eu ⟨.ref r, H, I.tok _, rfl, q⟩) hs
end
end My

set_option Elab.async false
set_option linter.all false
set_option maxRecDepth 100000
set_option maxHeartbeats 4000000
namespace My
open PySem PySem.Spec PyProof.Rows L2
/-! ### bits of ints that are not negative -/
theorem bx (a b : Nat) : Builtin.bitXor (a : Int) (b : Int) = ((a ^^^ b : Nat) : Int) := by
  have h := Bits.bitXor_pp (x := (a : Int)) (y := (b : Int)) (by omega) (by omega)
  simpa using h
theorem band1 (a : Nat) : Builtin.bitAnd (a : Int) 1 = ((a % 2 : Nat) : Int) := by
  have h := Bits.bitAnd_mask (x := (a : Int)) 1 (by omega)
  simpa using h
/-! ### the field: words as natural numbers -/
def span (b : Nat) : Nat := cond (Nat.beq b 4) 16 256
def foldw (b : Nat) : Nat := cond (Nat.beq b 4) 9 113
def turn (b : Nat) : Nat := cond (Nat.beq b 4) 15 255
def dbl (b x : Nat) : Nat := cond (Nat.blt (2 * x) (span b)) (2 * x) ((2 * x - span b) ^^^ foldw b)
def mulF (b : Nat) : Nat → Nat → Nat → Nat
  | 0, _, _ => 0
  | n + 1, x, y => (cond (Nat.beq (y % 2) 1) x 0) ^^^ mulF b n (dbl b x) (y / 2)
def mul (b x y : Nat) : Nat := mulF b b x y
def pw (b : Nat) : Nat → Nat
  | 0 => 1
  | n + 1 => dbl b (pw b n)
def pws (b : Nat) : List Nat := (List.range (turn b)).map (pw b)
def Wd (b : Nat) : Prop := b = 4 ∨ b = 8
def allB (p : Nat → Nat → Bool) (n : Nat) : Bool := (List.range n).all fun x => (List.range n).all fun y => p x y
theorem allB_ok {p : Nat → Nat → Bool} {n : Nat} (h : allB p n = true) {x y : Nat} (hx : x < n) (hy : y < n) : p x y = true :=
  List.all_eq_true.mp (List.all_eq_true.mp h x (List.mem_range.mpr hx)) y (List.mem_range.mpr hy)
def linB (b : Nat) (x y : Nat) : Bool := Nat.beq (dbl b (x ^^^ y)) (dbl b x ^^^ dbl b y)
theorem lin4 : allB (linB 4) 16 = true := by decide +kernel
theorem lin8 : allB (linB 8) 256 = true := by decide +kernel
theorem dbl_lin {b x y : Nat} (hb : Wd b) (hx : x < span b) (hy : y < span b) : dbl b (x ^^^ y) = dbl b x ^^^ dbl b y := by
  rcases hb with rfl | rfl
  · exact Nat.eq_of_beq_eq_true (allB_ok lin4 hx hy)
  · exact Nat.eq_of_beq_eq_true (allB_ok lin8 hx hy)
theorem dbl_lt {b x : Nat} (hb : Wd b) (hx : x < span b) : dbl b x < span b := by
  rcases hb with rfl | rfl
  · exact (by decide +kernel : ∀ x, x < 16 → dbl 4 x < 16) x hx
  · exact (by decide +kernel : ∀ x, x < 256 → dbl 8 x < 256) x hx
theorem dbl_zero {b : Nat} (hb : Wd b) : dbl b 0 = 0 := by rcases hb with rfl | rfl <;> rfl
theorem span_pow {b : Nat} (hb : Wd b) : span b = 2 ^ b := by rcases hb with rfl | rfl <;> rfl
theorem xor_lt {b x y : Nat} (hb : Wd b) (hx : x < span b) (hy : y < span b) : x ^^^ y < span b := by
  rw [span_pow hb] at *
  exact Nat.xor_lt_two_pow hx hy
theorem mulF_lt {b : Nat} (hb : Wd b) : ∀ (n x y : Nat), x < span b → mulF b n x y < span b
  | 0, _, _, _ => by
    show 0 < span b
    rcases hb with rfl | rfl <;> decide
  | n + 1, x, y, hx => by
    refine xor_lt hb ?_ (mulF_lt hb n _ _ (dbl_lt hb hx))
    cases Nat.beq (y % 2) 1
    · show 0 < span b; rcases hb with rfl | rfl <;> decide
    · exact hx
theorem mulF_zero {b : Nat} (x : Nat) : ∀ n x, mulF b n x 0 = 0
  | 0, _ => rfl
  | n + 1, x => by
    show (0 : Nat) ^^^ mulF b n (dbl b x) 0 = 0
    rw [mulF_zero x n _]
    rfl
theorem zero_mulF {b : Nat} (hb : Wd b) : ∀ n y, mulF b n 0 y = 0
  | 0, _ => rfl
  | n + 1, y => by
    show (cond (Nat.beq (y % 2) 1) 0 0) ^^^ mulF b n (dbl b 0) (y / 2) = 0
    rw [dbl_zero hb, zero_mulF hb n]
    cases Nat.beq (y % 2) 1 <;> rfl
theorem mulF_lin {b : Nat} (hb : Wd b) : ∀ (n x z y : Nat), x < span b → z < span b → mulF b n (x ^^^ z) y = mulF b n x y ^^^ mulF b n z y
  | 0, _, _, _, _, _ => by
    show (0 : Nat) = 0 ^^^ 0
    rfl
  | n + 1, x, z, y, hx, hz => by
    show (cond (Nat.beq (y % 2) 1) (x ^^^ z) 0) ^^^ mulF b n (dbl b (x ^^^ z)) (y / 2) = ((cond (Nat.beq (y % 2) 1) x 0) ^^^ mulF b n (dbl b x) (y / 2)) ^^^ ((cond (Nat.beq (y % 2) 1) z 0) ^^^ mulF b n (dbl b z) (y / 2))
    rw [dbl_lin hb hx hz, mulF_lin hb n _ _ _ (dbl_lt hb hx) (dbl_lt hb hz)]
    cases Nat.beq (y % 2) 1
    · simp
    · show (x ^^^ z) ^^^ (_ ^^^ _) = (x ^^^ _) ^^^ (z ^^^ _)
      ac_rfl
theorem mulF_dbl {b : Nat} (hb : Wd b) : ∀ (n x y : Nat), x < span b → mulF b n (dbl b x) y = dbl b (mulF b n x y)
  | 0, _, _, _ => (dbl_zero hb).symm
  | n + 1, x, y, hx => by
    show (cond (Nat.beq (y % 2) 1) (dbl b x) 0) ^^^ mulF b n (dbl b (dbl b x)) (y / 2) = dbl b ((cond (Nat.beq (y % 2) 1) x 0) ^^^ mulF b n (dbl b x) (y / 2))
    rw [mulF_dbl hb n _ _ (dbl_lt hb hx)]
    cases Nat.beq (y % 2) 1
    · simp
    · show dbl b x ^^^ _ = dbl b (x ^^^ _)
      rw [dbl_lin hb hx (mulF_lt hb _ _ _ (dbl_lt hb hx))]
theorem one_mul {b y : Nat} (hb : Wd b) (hy : y < span b) : mul b 1 y = y := by
  rcases hb with rfl | rfl
  · exact (by decide +kernel : ∀ x, x < 16 → mul 4 1 x = x) y hy
  · exact (by decide +kernel : ∀ x, x < 256 → mul 8 1 x = x) y hy
theorem pw_lt {b : Nat} (hb : Wd b) : ∀ n, pw b n < span b
  | 0 => by rcases hb with rfl | rfl <;> decide
  | n + 1 => dbl_lt hb (pw_lt hb n)
theorem mul_lt {b x y : Nat} (hb : Wd b) (hx : x < span b) : mul b x y < span b := mulF_lt hb _ _ _ hx
theorem pw_mul {b : Nat} (hb : Wd b) (j : Nat) : ∀ i, mul b (pw b i) (pw b j) = pw b (i + j)
  | 0 => by rw [Nat.zero_add]; exact one_mul hb (pw_lt hb j)
  | i + 1 => by
    show mulF b b (dbl b (pw b i)) (pw b j) = _
    rw [mulF_dbl hb _ _ _ (pw_lt hb i)]
    have h := pw_mul hb j i
    unfold mul at h
    rw [h, show i + 1 + j = (i + j) + 1 by omega]
    rfl
theorem pw_turn {b : Nat} (hb : Wd b) : pw b (turn b) = 1 := by rcases hb with rfl | rfl <;> decide +kernel
theorem pw_add_turn {b : Nat} (hb : Wd b) (i : Nat) : pw b (i + turn b) = pw b i := by
  rw [← pw_mul hb, pw_turn hb]
  have h := pw_mul hb 0 i
  exact h
theorem pw_add_mul {b : Nat} (hb : Wd b) (i : Nat) : ∀ k, pw b (i + k * turn b) = pw b i
  | 0 => by rw [Nat.zero_mul, Nat.add_zero]
  | k + 1 => by
    rw [Nat.succ_mul, ← Nat.add_assoc, pw_add_turn hb, pw_add_mul hb i k]
theorem pw_mod {b : Nat} (hb : Wd b) (i : Nat) : pw b i = pw b (i % turn b) := by
  have h := pw_add_mul hb (i % turn b) (i / turn b)
  have e : i % turn b + i / turn b * turn b = i := by
    have := Nat.mod_add_div i (turn b)
    rw [Nat.mul_comm] at this
    exact this
  rw [e] at h
  exact h
def lg (b x : Nat) : Nat := (pws b).idxOf x
def memB (b : Nat) (x : Nat) : Bool := Nat.beq x 0 || (pws b).any fun y => Nat.beq x y
theorem mem_pws {b x : Nat} (hb : Wd b) (hx : x < span b) (h0 : x ≠ 0) : x ∈ pws b := by
  have q : memB b x = true := by
    rcases hb with rfl | rfl
    · exact List.all_eq_true.mp (by decide +kernel : ((List.range 16).all fun x => memB 4 x) = true) x (List.mem_range.mpr hx)
    · exact List.all_eq_true.mp (by decide +kernel : ((List.range 256).all fun x => memB 8 x) = true) x (List.mem_range.mpr hx)
  rcases (Bool.or_eq_true _ _).mp q with h | h
  · exact absurd (Nat.eq_of_beq_eq_true h) h0
  · obtain ⟨y, hy, e⟩ := List.any_eq_true.mp h
    rw [Nat.eq_of_beq_eq_true e]
    exact hy
theorem pws_len (b : Nat) : (pws b).length = turn b := by simp [pws]
theorem pws_at {b i : Nat} (h : i < turn b) : (pws b)[i]? = some (pw b i) := by
  simp [pws, h]
theorem lg_lt {b x : Nat} (hb : Wd b) (hx : x < span b) (h0 : x ≠ 0) : lg b x < turn b := by
  rw [← pws_len b]
  exact List.idxOf_lt_length_of_mem (mem_pws hb hx h0)
theorem pw_lg {b x : Nat} (hb : Wd b) (hx : x < span b) (h0 : x ≠ 0) : pw b (lg b x) = x := by
  have h := lg_lt hb hx h0
  have e := pws_at h
  have e2 : (pws b)[lg b x]? = some x := by
    unfold lg
    rw [List.getElem?_eq_getElem (List.idxOf_lt_length_of_mem (mem_pws hb hx h0)), List.getElem_idxOf]
  rw [e] at e2
  exact Option.some.inj e2
theorem pw_ne {b : Nat} (hb : Wd b) (i : Nat) : pw b i ≠ 0 := by
  intro h
  have e := pw_mul hb ((turn b - i % turn b)) (i % turn b)
  rw [← pw_mod hb i, h] at e
  have ht : i % turn b < turn b := Nat.mod_lt _ (by rcases hb with rfl | rfl <;> decide)
  rw [show i % turn b + (turn b - i % turn b) = turn b by omega, pw_turn hb] at e
  unfold mul at e
  rw [zero_mulF hb] at e
  cases e
/-- before its place a word does not stand in the list of powers -/
theorem lg_first {b x m z : Nat} (hm : m < lg b x) (hz : (pws b)[m]? = some z) : z ≠ x := by
  intro e
  subst e
  have := List.not_of_lt_findIdx (xs := pws b) (p := (· == z)) (i := m) hm
  obtain ⟨hl, he⟩ := List.getElem?_eq_some_iff.mp hz
  simp [he] at this
theorem mul_comm {b x y : Nat} (hb : Wd b) (hx : x < span b) (hy : y < span b) : mul b x y = mul b y x := by
  by_cases h1 : x = 0
  · subst h1
    unfold mul
    rw [zero_mulF hb, mulF_zero 0]
  · by_cases h2 : y = 0
    · subst h2
      unfold mul
      rw [zero_mulF hb, mulF_zero 0]
    · rw [← pw_lg hb hx h1, ← pw_lg hb hy h2, pw_mul hb, pw_mul hb, Nat.add_comm]
theorem mulF_more {b : Nat} : ∀ (n x y : Nat), y < 2 ^ n → ∀ m, n ≤ m → mulF b m x y = mulF b n x y
  | 0, x, y, h, m, _ => by
    have : y = 0 := by simpa using h
    subst this
    rw [mulF_zero 0]
    rfl
  | n + 1, x, y, h, m, hm => by
    cases m with
    | zero => omega
    | succ m =>
      show (cond (Nat.beq (y % 2) 1) x 0) ^^^ mulF b m (dbl b x) (y / 2) = (cond (Nat.beq (y % 2) 1) x 0) ^^^ mulF b n (dbl b x) (y / 2)
      rw [mulF_more n _ _ (by rw [Nat.pow_succ] at h; omega) m (by omega)]
end My

set_option Elab.async false
set_option linter.all false
set_option maxRecDepth 100000
set_option maxHeartbeats 4000000
/-! ### enumerate of a tuple -/
namespace EnT
open PySem PySem.Spec PyProof.Rows
theorem meets_enumerate_newT (l : Addr) (items : Array Value) (n : Nat) (dct : Option Addr) (sl : Array (Option Value)) :
    Meets (Builtin.«enumerate.__new__» ⟨[.type "enumerate", .ref l], []⟩) (fun _ R s => s.heap.get? l = some { cls := .type "tuple", dict := dct, data := .seq items n, slots := sl } ∧
      R (.ok (.ret (.ref (s.heap.push { cls := .type "tuple_iterator", data := .fields #[.ref l, .int 0 0] }).objs.size)))
        { s with heap := (s.heap.push { cls := .type "tuple_iterator", data := .fields #[.ref l, .int 0 0] }).push { cls := .type "enumerate", data := .fields #[.none, .bool false, .ref s.heap.objs.size, rawInt 0, .none, .none] } }) :=
  .of_wp fun prog w A R s h => by
    obtain ⟨hp, g, d, tk, os⟩ := s; obtain ⟨hl, h⟩ := h
    have hsub := sub_enumerate
    have hL : Heap.IsTuple (Shared.heap ⟨hp, g, d, tk, os⟩) l items := ⟨_, hl, rfl, n, rfl⟩
    wp_walk using wpAny_loadPart' hl
    refine wpAny_stack_any fun st => wpAny_pure ?_
    split
    · rename_i c _ _ _ _ _
      cases (c == Value.type "enumerate")
      · wp_walk using wpAny_loadPart' hl, wpAny_pyIter_tuple hL
        exact ⟨_, rfl, h⟩
      · wp_walk using wpAny_loadPart' hl, wpAny_pyIter_tuple hL
        exact ⟨_, rfl, h⟩
    · wp_walk using wpAny_loadPart' hl, wpAny_pyIter_tuple hL
      exact ⟨_, rfl, h⟩
theorem call_enumerate_tuple {prog : Program} {w : World} {A : Around} {E : Value → Shared → Prop} {s : Shared} {l : Addr} {items : Array Value} {Q : Value → Shared → Prop} (hL : s.heap.IsTuple l items)
    (h : ∀ h', IsEnum h' (s.heap.objs.size + 1) s.heap.objs.size 0 .none → h'.IsTupleIter s.heap.objs.size l 0 → h'.objs.size = s.heap.objs.size + 2 →
      (∀ b o, s.heap.get? b = some o → h'.get? b = some o) → Q (.ref (s.heap.objs.size + 1)) { s with heap := h' }) :
    wpAny (model prog w) A (call (.type "enumerate") [.ref l]) Q E s := by
  obtain ⟨⟨c, dct, dt, sl⟩, hl, hc, n, hd⟩ := hL
  replace hc : c = .type "tuple" := hc
  replace hd : dt = .seq items n := hd
  subst hc hd
  refine callType_new F.called_enumerate (by decide) (F.typeCall_enumerate_1 _) (F.newCall_enumerate_1 _) (fun obj => F.args_object_init_2 obj _) F.entry_enumerate_new
    (meets_enumerate_newT l items n dct sl) ⟨hl, ?_⟩
  have hz : (s.heap.push { cls := .type "tuple_iterator", data := .fields #[.ref l, .int 0 0] }).objs.size = s.heap.objs.size + 1 := Heap.size_push ..
  show _ ∧ _
  rw [hz]
  have he : IsEnum ((s.heap.push { cls := .type "tuple_iterator", data := .fields #[.ref l, .int 0 0] }).push
      { cls := .type "enumerate", data := .fields #[.none, .bool false, .ref s.heap.objs.size, rawInt 0, .none, .none] }) (s.heap.objs.size + 1) s.heap.objs.size 0 .none := by
    have := Heap.get?_push_size (s.heap.push { cls := .type "tuple_iterator", data := .fields #[.ref l, .int 0 0] })
      (o := { cls := .type "enumerate", data := .fields #[.none, .bool false, .ref s.heap.objs.size, rawInt 0, .none, .none] }) rfl
    rw [hz] at this; exact this
  refine ⟨⟨_, he, rfl⟩, h _ he ⟨_, Heap.get?_push_of_some _ (Heap.get?_push_size _ rfl), rfl, rfl⟩ (by rw [Heap.size_push, hz]) fun b o x => Heap.get?_push_of_some _ (Heap.get?_push_of_some _ x)⟩
open L2
def IteT (K : PySem.W.Frag) (a : Addr) : It :=
  ⟨fun i H => ∃ (xs : List V) (x : V), SqT K H a xs ∧ xs[i]? = some x, fun i H v H' => ∃ T x, v = .ref T ∧ H T = none ∧ H' = upd H T (.tup [.int (i : Nat), x]) ∧ ∀ xs, SqT K H a xs → xs[i]? = some x, fun i H => ∃ xs : List V, SqT K H a xs ∧ xs.length = i⟩
theorem turn_enumT {P : Program} {w : World} {K : PySem.W.Frag} {elts : List Expr} {kk : Nat} {tpos : Pos} (a e it : Addr) :
    Turn P w K (.Tuple elts kk tpos) (IteT K a) [e, it] e (fun i h => (∃ old, IsEnum h e it ((i : Nat) : Int) old) ∧ h.IsTupleIter it a i ∧ e ≠ it ∧ a ≠ it ∧ e ≠ a) where
  mem := by simp
  obj := fun i h st b hb => by
    obtain ⟨⟨old, he⟩, ⟨o, ho, hc, hd⟩, _⟩ := st
    have e' : b = e ∨ b = it := by simpa using hb
    rcases e' with z | z
    · rw [z]; exact ⟨_, he, fun v q => nomatch q⟩
    · rw [z]; exact ⟨o, ho, fun v q => by rw [hd] at q; cases q⟩
  keep := fun i h h' st k => let ⟨⟨old, he⟩, hi, hne⟩ := st; ⟨⟨old, k e (by simp) _ he⟩, hi.at fun o q => k it (by simp) o q, hne⟩
  item := by
    intro X hP hw hK hc i pins s σ H E I hf st hg
    subst hP hw hK
    obtain ⟨⟨old, he⟩, hit, hne, hai, hea⟩ := st
    obtain ⟨xs, x, hq, hx⟩ := hg
    obtain ⟨its, rv, p, hz⟩ := I.tuple hq
    obtain ⟨u, hu, ru⟩ := rv.get hx
    have hel : e < s.heap.objs.size := Heap.lt_size he
    have hil : it < s.heap.objs.size := by obtain ⟨_, q, _⟩ := hit; exact Heap.lt_size q
    have hin : i < its.toArray.size := by
      have := (List.getElem?_eq_some_iff.mp hu).1
      simpa using this
    have hd0 : X.A.in1.handled = none := I.ok.hd hc
    refine wpAny_pyNext_enum_itemC (Draws.tuple hd0 it a hai its.toArray) he ⟨hit, p⟩ hin hne (by simp [hne, hea]) fun y h' tk hy ho hst' hT hsz hk => ?_
    obtain rfl : y = u := by
      have : its.toArray[i]? = some y := hy
      simp at this
      rw [hu] at this
      exact (Option.some.inj this).symm
    have hit' := hst'.1
    refine ⟨_, rfl, wpAny_letOwnedTupleGo_enum (s := { s with heap := h', toks := tk + 1 }) ho fun h'' he' sb => ?_⟩
    have hT2 : h''.get? s.heap.objs.size = some { cls := .type "tuple", data := .seq #[.int i tk, y] } := (sb.2 _ (Nat.ne_of_gt hel)).trans hT
    have new : ObjOk X.prog X.w (upd H s.heap.objs.size (.tup [.int (i : Nat), x])) h'' s.heap.objs.size (.tup [.int (i : Nat), x]) :=
      ⟨by show 2 ≤ sizeLine; decide, [.int i tk, y], .cons ⟨_, rfl⟩ (.cons ru .nil), ⟨_, hT2, rfl, _, rfl⟩⟩
    have I1 : Inv X pins σ (upd H s.heap.objs.size (.tup [.int (i : Nat), x])) { s with heap := h'', toks := tk + 1 } :=
      I.turnedNew (ch := [e, it]) (fun b ob hb q => (sb.2 b (fun z => hb (by simp [z]))).trans (hk b ob (fun z => hb (by simp [z])) (fun z => hb (by simp [z])) q)) hf (Nat.le_refl _) new
    refine ⟨.ref s.heap.objs.size, _, I1, rfl, ⟨_, x, rfl, I.hok.fresh (Nat.le_refl _), rfl, fun ys hy => by rw [I.tuple_inj hy hq]; exact hx⟩, ⟨⟨y, ?_⟩, hit'.at fun o q => (sb.2 it (Ne.symm hne)).trans q, hne, hai, hea⟩, fun b hb => ?_⟩
    · have e1 : ((i + 1 : Nat) : Int) = (i : Int) + 1 := by omega
      rw [e1]; exact he'
    · have hb' : b < s.heap.objs.size := by
        have e' : b = e ∨ b = it := by simpa using hb
        rcases e' with z | z
        · rw [z]; exact hel
        · rw [z]; exact hil
      rw [upd_ne (Nat.ne_of_lt hb')]
      exact (hf b hb).1
  done := by
    intro X hP hw hK hc i pins s σ H E I hf st hg
    subst hP hw hK
    obtain ⟨⟨old, he⟩, hit, hne, hai, hea⟩ := st
    obtain ⟨xs, hq, hx⟩ := hg
    obtain ⟨its, rv, p, hz⟩ := I.tuple hq
    obtain ⟨f0, f1, f2, f3, f4, f5⟩ := hf it (by simp)
    have hl := rv.length
    have hd0 : X.A.in1.handled = none := I.ok.hd hc
    have en : its.toArray.size = i := by simp; omega
    have hst : s.heap.IsTupleIter it a its.toArray.size ∧ s.heap.IsTuple a its.toArray := ⟨by rw [en]; exact hit, p⟩
    exact wpAny_pyNext_enum_endD (Draws.tuple hd0 it a hai its.toArray) he hst fun h' eb => ⟨rfl, I.turned (t' := s.toks) (fun b o hb q => eb b o hb q) f0 f1 f3 f4 f5⟩
  self := fun A i s Q E st h => let ⟨⟨_, he⟩, _⟩ := st; wpAny_pyIter_enum he h
def iEnumT (K : PySem.W.Frag) (ta : TA) : TI := fun σ H R => ta σ H fun vs H1 => ∃ a xs, vs = [.ref a] ∧ SqT K H1 a xs ∧ R (IteT K a) H1
theorem pi_enumT {X : Cx} {e : Expr} {ta : TA} {p pos tpos : Pos} {elts : List Expr} {kk : Nat} (hg : Gl X "enumerate") (hm : X.mg "enumerate" = none) (ha : PA X [e] ta) (hs : starEach [e] X.env = [(false, eval e X.env)] := by rfl) :
    PI X (.Tuple elts kk tpos) (.Call (.Name "enumerate" p) [e] [] pos) (iEnumT X.K ta) := by
  refine ⟨fun pins s σ H R I h => ?_⟩
  refine Call_ (ld_blt I hg hm boot_enumerate (PyProof.Rows.callWith_type1 (thn (ha.run pos pins s σ H _ I h) fun us s1 ⟨vs, H1, I1, r1, q1⟩ => ?_) hs rfl))
  obtain ⟨a, xs, ex, hq, q⟩ := q1
  subst ex
  cases r1 with
  | cons r rr =>
    cases rr
    cases r
    obtain ⟨its, rv, p', hz⟩ := I1.tuple hq
    have hal : a < s1.heap.objs.size := by obtain ⟨_, q, _⟩ := p'; exact Heap.lt_size q
    refine call_enumerate_tuple p' fun h' he hit hsz hk => wpAny_pyIter_enum he ?_
    have I2 : Inv X pins σ H1 { s1 with heap := h' } := I1.kept (t' := s1.toks) hk
    refine ⟨s1.heap.objs.size + 1, [s1.heap.objs.size + 1, s1.heap.objs.size], _, _, H1, rfl, I2, turn_enumT a (s1.heap.objs.size + 1) s1.heap.objs.size, ⟨⟨.none, he⟩, hit, Nat.succ_ne_self _, Nat.ne_of_lt hal, Nat.ne_of_gt (Nat.lt_succ_of_lt hal)⟩, fun b hb => ?_, q⟩
    have e' : b = s1.heap.objs.size + 1 ∨ b = s1.heap.objs.size := by simpa using hb
    have hle : s1.heap.objs.size ≤ b := by
      rcases e' with z | z
      · rw [z]; exact Nat.le_add_right _ _
      · rw [z]; exact Nat.le_refl _
    exact I1.fpOk hle (I1.hok.fresh hle)
theorem walk_enumT {K : PySem.W.Frag} {a : Addr} {xs : List V} : Walk (IteT K a) xs.length (fun H => SqT K H a xs) (YPair (fun i => some (.int (i : Nat))) (fun i => xs[i]?)) where
  goes := fun i H hi h => ⟨xs, xs[i], h, List.getElem?_eq_getElem hi⟩
  stops := fun H h => ⟨xs, h, rfl⟩
  yields := fun i H x H' hi h y => by
    obtain ⟨T, z, e1, e2, e3, e4⟩ := y
    exact ⟨T, _, z, e1, e2, e3, rfl, e4 xs h⟩
end EnT

set_option Elab.async false
set_option linter.all false
set_option maxRecDepth 100000
set_option maxHeartbeats 4000000
/-! ### rows: lists (true) and tuples (false) in one -/
namespace My
open PySem PySem.Spec PyProof.Rows L2
def SqB (b : Bool) (K : PySem.W.Frag) (H : Hp) (a : Addr) (xs : List V) : Prop := if b = true then SqL K H a xs else SqT K H a xs
def ItB (b : Bool) (K : PySem.W.Frag) (a : Addr) : It := if b = true then Itl K a else Itt K a
def IteB (b : Bool) (K : PySem.W.Frag) (a : Addr) : It := if b = true then Ite K a else EnT.IteT K a
section
variable {b : Bool} {K : PySem.W.Frag} {H H' : Hp} {a : Addr} {xs : List V}
theorem SqB.or (h : SqB b K H a xs) : SqL K H a xs ∨ SqT K H a xs := by
  cases b
  · exact .inr h
  · exact .inl h
theorem Same.sqt (e : Same H H') (h : SqT K H a xs) : SqT K H' a xs := by
  rcases h with (h | ⟨o, h⟩) | h
  · exact .inl (.inl (e _ _ h))
  · exact .inl (.inr ⟨o, e _ _ h⟩)
  · exact .inr h
theorem Same.sqb (e : Same H H') (h : SqB b K H a xs) : SqB b K H' a xs := by
  cases b
  · exact Same.sqt e h
  · exact e.seq h
theorem SqB.lst (h : H a = some (.lst xs)) : SqB true K H a xs := .inl (.inl h)
theorem SqB.tup (h : H a = some (.tup xs)) : SqB false K H a xs := .inl (.inl h)
theorem SqB.ty (h : SqB b K H a xs) : TyX K H (.ref a) (.type (if b = true then "list" else "tuple")) := by
  cases b
  · rcases h with (h | ⟨o, h⟩) | ⟨o, its, n, hk, hc, _⟩
    · exact .base (.tup h)
    · exact .fTuple h
    · exact .kTuple hk hc
  · rcases h with (h | ⟨o, h⟩) | ⟨o, its, n, hk, hc, _⟩
    · exact .base (.lst h)
    · exact .base (.frz h)
    · exact .kList hk hc
theorem walk_seq : Walk (ItB b K a) xs.length (fun H => SqB b K H a xs) (YAt xs) := by
  cases b
  · exact walk_tup
  · exact walk_list
theorem walk_enumS : Walk (IteB b K a) xs.length (fun H => SqB b K H a xs) (YPair (fun i => some (.int (i : Nat))) (fun i => xs[i]?)) := by
  cases b
  · exact EnT.walk_enumT
  · exact walk_enum
end
section
variable {X : Cx} {tg : Expr}
def iSeq (K : PySem.W.Frag) (tl : TE) : TI := fun σ H R => tl σ H fun x H1 => ∃ a xs b, x = .ref a ∧ SqB b K H1 a xs ∧ R (ItB b K a) H1
theorem pi_seq {l : Expr} {tl : TE} (hl : PE X l tl) : PI X tg l (iSeq X.K tl) := by
  refine ⟨fun pins s σ H R I h => ?_⟩
  refine thn (hl.run pins s σ H _ I h) fun v s1 ⟨x, H1, I1, r1, q1⟩ => ?_
  obtain ⟨a, xs, b, e, hq, q⟩ := q1
  subst e
  cases r1
  cases b
  · obtain ⟨its, rv, p, hz⟩ := I1.tuple hq
    refine wpAny_pyIter_tuple (show s1.heap.IsTuple a its.toArray from p) ?_
    refine ⟨s1.heap.objs.size, [s1.heap.objs.size], _, _, H1, rfl, I1.kept (t' := s1.toks) fun b o e => Heap.get?_push_of_some _ e, turn_tuple a _, ⟨_, Heap.get?_push_size _ rfl, rfl, rfl⟩, fun b hb => ?_, q⟩
    have e : b = s1.heap.objs.size := by simpa using hb
    subst e
    exact I1.fpOk (Nat.le_refl _) (I1.hok.fresh (Nat.le_refl _))
  · obtain ⟨its, rv, p, hz⟩ := I1.list hq
    refine wpAny_pyIter_list p.isList ?_
    refine ⟨s1.heap.objs.size, [s1.heap.objs.size], _, _, H1, rfl, I1.kept (t' := s1.toks) fun b o e => Heap.get?_push_of_some _ e, turn_list a _, ⟨_, Heap.get?_push_size _ rfl, rfl, rfl⟩, fun b hb => ?_, q⟩
    have e : b = s1.heap.objs.size := by simpa using hb
    subst e
    exact I1.fpOk (Nat.le_refl _) (I1.hok.fresh (Nat.le_refl _))
def iEnumS (K : PySem.W.Frag) (ta : TA) : TI := fun σ H R => ta σ H fun vs H1 => ∃ a xs b, vs = [.ref a] ∧ SqB b K H1 a xs ∧ R (IteB b K a) H1
theorem pi_enumS {e : Expr} {ta : TA} {p pos tpos : Pos} {elts : List Expr} {kk : Nat} (hg : Gl X "enumerate") (hm : X.mg "enumerate" = none) (ha : PA X [e] ta) (hs : starEach [e] X.env = [(false, eval e X.env)] := by rfl) :
    PI X (.Tuple elts kk tpos) (.Call (.Name "enumerate" p) [e] [] pos) (iEnumS X.K ta) := by
  refine ⟨fun pins s σ H R I h => ?_⟩
  refine Call_ (ld_blt I hg hm boot_enumerate (PyProof.Rows.callWith_type1 (thn (ha.run pos pins s σ H _ I h) fun us s1 ⟨vs, H1, I1, r1, q1⟩ => ?_) hs rfl))
  obtain ⟨a, xs, b, ex, hq, q⟩ := q1
  subst ex
  cases r1 with
  | cons r rr =>
    cases rr
    cases r
    cases b
    · obtain ⟨its, rv, p', hz⟩ := I1.tuple hq
      have hal : a < s1.heap.objs.size := by obtain ⟨_, q, _⟩ := p'; exact Heap.lt_size q
      refine EnT.call_enumerate_tuple p' fun h' he hit hsz hk => wpAny_pyIter_enum he ?_
      have I2 : Inv X pins σ H1 { s1 with heap := h' } := I1.kept (t' := s1.toks) hk
      refine ⟨s1.heap.objs.size + 1, [s1.heap.objs.size + 1, s1.heap.objs.size], _, _, H1, rfl, I2, EnT.turn_enumT a (s1.heap.objs.size + 1) s1.heap.objs.size, ⟨⟨.none, he⟩, hit, Nat.succ_ne_self _, Nat.ne_of_lt hal, Nat.ne_of_gt (Nat.lt_succ_of_lt hal)⟩, fun b hb => ?_, q⟩
      have e' : b = s1.heap.objs.size + 1 ∨ b = s1.heap.objs.size := by simpa using hb
      have hle : s1.heap.objs.size ≤ b := by
        rcases e' with z | z
        · rw [z]; exact Nat.le_add_right _ _
        · rw [z]; exact Nat.le_refl _
      exact I1.fpOk hle (I1.hok.fresh hle)
    · obtain ⟨its, rv, p', hz⟩ := I1.list hq
      refine call_enumerate_list p'.isList fun h' he hit hsz hk => wpAny_pyIter_enum he ?_
      have I2 : Inv X pins σ H1 { s1 with heap := h' } := I1.kept (t' := s1.toks) hk
      refine ⟨s1.heap.objs.size + 1, [s1.heap.objs.size + 1, s1.heap.objs.size], _, _, H1, rfl, I2, turn_enum a (s1.heap.objs.size + 1) s1.heap.objs.size, ⟨⟨.none, he⟩, hit, Nat.succ_ne_self _⟩, fun b hb => ?_, q⟩
      have e' : b = s1.heap.objs.size + 1 ∨ b = s1.heap.objs.size := by simpa using hb
      have hle : s1.heap.objs.size ≤ b := by
        rcases e' with z | z
        · rw [z]; exact Nat.le_add_right _ _
        · rw [z]; exact Nat.le_refl _
      exact I1.fpOk hle (I1.hok.fresh hle)
/-- xs[i] of a list or a tuple -/
def rIxB (K : PySem.W.Frag) : R2 := fun x y H Q => ∃ p xs i v b, x = .ref p ∧ y = .int i ∧ SqB b K H p xs ∧ atI xs i = some v ∧ Q v H
theorem ix_rowB : IxR X (rIxB X.K) := by
  intro value slice pins s σ H x y v u Q I rx ry h hs
  obtain ⟨p, xs, i, z, b, rfl, rfl, hq, ha, q⟩ := h
  refine ix_seq value slice pins s σ H _ _ v u Q I rx ry ?_ hs
  cases b
  · exact .inr (.inl ⟨p, xs, i, z, rfl, rfl, hq, ha, q⟩)
  · exact .inl ⟨p, xs, i, z, rfl, rfl, hq, ha, q⟩
end
end My

set_option Elab.async false
set_option linter.all false
set_option maxRecDepth 100000
set_option maxHeartbeats 4000000
/-! ### the program's tables of powers and exponents -/
namespace My
open PySem PySem.Spec PyProof.Rows L2
def E4 : List Int := [0, 0, 1, 12, 2, 9, 13, 7, 3, 4, 10, 5, 14, 11, 8, 6]
def E8 : List Int := [0, 0, 1, 231, 2, 207, 232, 59, 3, 35, 208, 154, 233, 20, 60, 183, 4, 159, 36, 66, 209, 118, 155, 251, 234, 245, 21, 11, 61, 130, 184, 146, 5, 122, 160, 79, 37, 113, 67, 106, 210, 224, 119, 221, 156, 242, 252, 32, 235, 213, 246, 135, 22, 42, 12, 140, 62, 227, 131, 75, 185, 191, 147, 94, 6, 70, 123, 195, 161, 53, 80, 167, 38, 109, 114, 203, 68, 51, 107, 49, 211, 40, 225, 189, 120, 111, 222, 240, 157, 116, 243, 128, 253, 205, 33, 18, 236, 163, 214, 98, 247, 55, 136, 102, 23, 82, 43, 177, 13, 169, 141, 89, 63, 8, 228, 151, 132, 72, 76, 218, 186, 125, 192, 200, 148, 197, 95, 174, 7, 150, 71, 217, 124, 199, 196, 173, 162, 97, 54, 101, 81, 176, 168, 88, 39, 188, 110, 239, 115, 127, 204, 17, 69, 194, 52, 166, 108, 202, 50, 48, 212, 134, 41, 139, 226, 74, 190, 93, 121, 78, 112, 105, 223, 220, 241, 31, 158, 65, 117, 250, 244, 10, 129, 145, 254, 230, 206, 58, 34, 153, 19, 182, 237, 15, 164, 46, 215, 171, 99, 86, 248, 143, 56, 180, 137, 91, 103, 29, 24, 25, 83, 26, 44, 84, 178, 27, 14, 45, 170, 85, 142, 179, 90, 28, 64, 249, 9, 144, 229, 57, 152, 181, 133, 138, 73, 92, 77, 104, 219, 30, 187, 238, 126, 16, 193, 165, 201, 47, 149, 216, 198, 172, 96, 100, 175, 87]
def P4 : List Int := [1, 2, 4, 8, 9, 11, 15, 7, 14, 5, 10, 13, 3, 6, 12]
def P8 : List Int := [1, 2, 4, 8, 16, 32, 64, 128, 113, 226, 181, 27, 54, 108, 216, 193, 243, 151, 95, 190, 13, 26, 52, 104, 208, 209, 211, 215, 223, 207, 239, 175, 47, 94, 188, 9, 18, 36, 72, 144, 81, 162, 53, 106, 212, 217, 195, 247, 159, 79, 158, 77, 154, 69, 138, 101, 202, 229, 187, 7, 14, 28, 56, 112, 224, 177, 19, 38, 76, 152, 65, 130, 117, 234, 165, 59, 118, 236, 169, 35, 70, 140, 105, 210, 213, 219, 199, 255, 143, 111, 222, 205, 235, 167, 63, 126, 252, 137, 99, 198, 253, 139, 103, 206, 237, 171, 39, 78, 156, 73, 146, 85, 170, 37, 74, 148, 89, 178, 21, 42, 84, 168, 33, 66, 132, 121, 242, 149, 91, 182, 29, 58, 116, 232, 161, 51, 102, 204, 233, 163, 55, 110, 220, 201, 227, 183, 31, 62, 124, 248, 129, 115, 230, 189, 11, 22, 44, 88, 176, 17, 34, 68, 136, 97, 194, 245, 155, 71, 142, 109, 218, 197, 251, 135, 127, 254, 141, 107, 214, 221, 203, 231, 191, 15, 30, 60, 120, 240, 145, 83, 166, 61, 122, 244, 153, 67, 134, 125, 250, 133, 123, 246, 157, 75, 150, 93, 186, 5, 10, 20, 40, 80, 160, 49, 98, 196, 249, 131, 119, 238, 173, 43, 86, 172, 41, 82, 164, 57, 114, 228, 185, 3, 6, 12, 24, 48, 96, 192, 241, 147, 87, 174, 45, 90, 180, 25, 50, 100, 200, 225, 179, 23, 46, 92, 184]
def tabE (b : Nat) : List Int := cond (Nat.beq b 4) E4 E8
def tabP (b : Nat) : List Int := cond (Nat.beq b 4) P4 P8
theorem lgpw' {b i : Nat} (hb : Wd b) (h : i < turn b) : lg b (pw b i) = i := by
  have q : ((List.range (turn b)).all fun i => Nat.beq (lg b (pw b i)) i) = true := by rcases hb with rfl | rfl <;> decide +kernel
  exact Nat.eq_of_beq_eq_true (List.all_eq_true.mp q i (List.mem_range.mpr h))
def goodE (b : Nat) (x : Nat) : Bool := match (tabE b)[x]? with
  | some (Int.ofNat e) => Nat.beq x 0 || (Nat.blt e (turn b) && Nat.beq (pw b e) x)
  | _ => false
theorem goodE_all {b : Nat} (hb : Wd b) : ((List.range (span b)).all (goodE b)) = true := by rcases hb with rfl | rfl <;> decide +kernel
theorem tabE_at {b x : Nat} (hb : Wd b) (hx : x < span b) (h0 : x ≠ 0) : (tabE b)[x]? = some (lg b x : Int) := by
  have h := List.all_eq_true.mp (goodE_all hb) x (List.mem_range.mpr hx)
  unfold goodE at h
  split at h
  · next e he =>
    rcases (Bool.or_eq_true _ _).mp h with z | z
    · exact absurd (Nat.eq_of_beq_eq_true z) h0
    · rw [Bool.and_eq_true] at z
      have h1 : e < turn b := by
        have := z.1
        rw [Nat.blt_eq] at this
        exact this
      have h2 := Nat.eq_of_beq_eq_true z.2
      rw [he, ← h2, lgpw' hb h1]
      rfl
  · cases h
theorem tabE_len {b : Nat} (hb : Wd b) : (tabE b).length = span b := by rcases hb with rfl | rfl <;> decide +kernel
theorem tabP_is {b : Nat} (hb : Wd b) : tabP b = (pws b).map (fun n : Nat => (n : Int)) := by rcases hb with rfl | rfl <;> decide +kernel
theorem tabP_len {b : Nat} (hb : Wd b) : (tabP b).length = turn b := by rw [tabP_is hb, List.length_map, pws_len]
theorem tabP_at {b i : Nat} (hb : Wd b) (h : i < turn b) : (tabP b)[i]? = some (pw b i : Int) := by
  rw [tabP_is hb, List.getElem?_map, pws_at h]
  rfl
end My

set_option Elab.async false
set_option linter.all false
set_option maxRecDepth 100000
set_option maxHeartbeats 4000000
namespace My
open PySem PySem.Spec PyProof.Rows L2
def topS (i : Nat) : Stmt := PySem.Challenge.pw_dotquilts_k01_whole_fields.main.body.getD i (.Pass ⟨0, 0, 0, 0⟩)
abbrev s_is_number : Stmt := topS 1
theorem sc_is_number : FnScope ["thing"] ["thing"] (defScope s_is_number) := ⟨rfl, rfl, rfl, by decide +kernel, rfl, by decide +kernel, by decide +kernel⟩
abbrev s_is_number_to : Stmt := topS 2
theorem sc_is_number_to : FnScope ["thing", "least", "most"] ["thing", "least", "most"] (defScope s_is_number_to) := ⟨rfl, rfl, rfl, by decide +kernel, rfl, by decide +kernel, by decide +kernel⟩
abbrev s_is_word : Stmt := topS 14
theorem sc_is_word : FnScope ["bits", "thing"] ["bits", "thing"] (defScope s_is_word) := ⟨rfl, rfl, rfl, by decide +kernel, rfl, by decide +kernel, by decide +kernel⟩
abbrev s_need_field : Stmt := topS 15
theorem sc_need_field : FnScope ["bits"] ["bits"] (defScope s_need_field) := ⟨rfl, rfl, rfl, by decide +kernel, rfl, by decide +kernel, by decide +kernel⟩
abbrev s_need_word : Stmt := topS 16
theorem sc_need_word : FnScope ["bits", "part", "thing"] ["bits", "part", "thing"] (defScope s_need_word) := ⟨rfl, rfl, rfl, by decide +kernel, rfl, by decide +kernel, by decide +kernel⟩
abbrev s_doubled : Stmt := topS 11
theorem sc_doubled : FnScope ["bits", "one", "twice"] ["bits", "one"] (defScope s_doubled) := ⟨rfl, rfl, rfl, by decide +kernel, rfl, by decide +kernel, by decide +kernel⟩
abbrev s_word_product : Stmt := topS 12
theorem sc_word_product : FnScope ["bits", "one", "other", "total"] ["bits", "one", "other"] (defScope s_word_product) := ⟨rfl, rfl, rfl, by decide +kernel, rfl, by decide +kernel, by decide +kernel⟩
abbrev s_word_power : Stmt := topS 13
theorem sc_word_power : FnScope ["bits", "one", "times", "total"] ["bits", "one", "times"] (defScope s_word_power) := ⟨rfl, rfl, rfl, by decide +kernel, rfl, by decide +kernel, by decide +kernel⟩
abbrev s_product : Stmt := topS 17
theorem sc_product : FnScope ["bits", "one", "other"] ["bits", "one", "other"] (defScope s_product) := ⟨rfl, rfl, rfl, by decide +kernel, rfl, by decide +kernel, by decide +kernel⟩
abbrev s_quotient : Stmt := topS 18
theorem sc_quotient : FnScope ["bits", "one", "other"] ["bits", "one", "other"] (defScope s_quotient) := ⟨rfl, rfl, rfl, by decide +kernel, rfl, by decide +kernel, by decide +kernel⟩
abbrev s_power : Stmt := topS 19
theorem sc_power : FnScope ["bits", "one", "times"] ["bits", "one", "times"] (defScope s_power) := ⟨rfl, rfl, rfl, by decide +kernel, rfl, by decide +kernel, by decide +kernel⟩
abbrev s_exponent : Stmt := topS 20
theorem sc_exponent : FnScope ["bits", "one"] ["bits", "one"] (defScope s_exponent) := ⟨rfl, rfl, rfl, by decide +kernel, rfl, by decide +kernel, by decide +kernel⟩
abbrev s__law_draw : Stmt := topS 22
theorem sc__law_draw : FnScope ["_law_well", "_law_many", "_law_found", "_law_number"] ["_law_well", "_law_many"] (defScope s__law_draw) := ⟨rfl, rfl, rfl, by decide +kernel, rfl, by decide +kernel, by decide +kernel⟩
abbrev s__law_one : Stmt := topS 23
theorem sc__law_one : FnScope ["_law_well", "_law_some"] ["_law_well", "_law_some"] (defScope s__law_one) := ⟨rfl, rfl, rfl, by decide +kernel, rfl, by decide +kernel, by decide +kernel⟩
abbrev s__law_doubled : Stmt := topS 24
theorem sc__law_doubled : FnScope ["_law_wide", "_law_one_here", "_law_tail"] ["_law_wide", "_law_one_here"] (defScope s__law_doubled) := ⟨rfl, rfl, rfl, by decide +kernel, rfl, by decide +kernel, by decide +kernel⟩
abbrev s__law_product : Stmt := topS 25
theorem sc__law_product : FnScope ["_law_wide", "_law_one_here", "_law_other", "_law_found", "_law_factor", "_law_place"] ["_law_wide", "_law_one_here", "_law_other"] (defScope s__law_product) := ⟨rfl, rfl, rfl, by decide +kernel, rfl, by decide +kernel, by decide +kernel⟩
abbrev s__law_powers : Stmt := topS 26
theorem sc__law_powers : FnScope ["_law_wide", "_law_found", "_law_turn"] ["_law_wide"] (defScope s__law_powers) := ⟨rfl, rfl, rfl, by decide +kernel, rfl, by decide +kernel, by decide +kernel⟩
abbrev s__law_word : Stmt := topS 28
theorem sc__law_word : FnScope ["_law_well", "_law_wide", "_law_most"] ["_law_well", "_law_wide"] (defScope s__law_word) := ⟨rfl, rfl, rfl, by decide +kernel, rfl, by decide +kernel, by decide +kernel⟩
abbrev s__law_pair_right : Stmt := topS 29
theorem sc__law_pair_right : FnScope ["_law_wide", "_law_powers_here", "_law_one_here", "_law_other", "_law_due", "_law_place", "_law_part"] ["_law_wide", "_law_powers_here", "_law_one_here", "_law_other"] (defScope s__law_pair_right) := ⟨rfl, rfl, rfl, by decide +kernel, rfl, by decide +kernel, by decide +kernel⟩
abbrev s__law_powers_right : Stmt := topS 30
theorem sc__law_powers_right : FnScope ["_law_wide", "_law_powers_here", "_law_one_here", "_law_times", "_law_place"] ["_law_wide", "_law_powers_here", "_law_one_here", "_law_times"] (defScope s__law_powers_right) := ⟨rfl, rfl, rfl, by decide +kernel, rfl, by decide +kernel, by decide +kernel⟩
abbrev s__law_small_right : Stmt := topS 31
theorem sc__law_small_right : FnScope ["_law_powers_here", "_law_one_here", "_law_other"] [] (defScope s__law_small_right) := ⟨rfl, rfl, rfl, by decide +kernel, rfl, by decide +kernel, by decide +kernel⟩
abbrev s_law : Stmt := topS 32
theorem sc_law : FnScope ["_law_script", "_law_powers_here", "_law_k", "_law_cell", "_law_well", "_law_turn", "_law_one_here", "_law_other", "_law_times"] ["_law_script"] (defScope s_law) := ⟨rfl, rfl, rfl, by decide +kernel, rfl, by decide +kernel, by decide +kernel⟩
structure Txt (K : PySem.W.Frag) (mg : Str → Option Value) where
  f_is_number : Addr
  d_is_number : FuncData
  F_is_number : Fun K "is_number" "is_number" s_is_number f_is_number d_is_number
  g_is_number : mg "is_number" = some (.ref f_is_number)
  b_is_number : Binds K d_is_number ["thing"] []
  f_is_number_to : Addr
  d_is_number_to : FuncData
  F_is_number_to : Fun K "is_number_to" "is_number_to" s_is_number_to f_is_number_to d_is_number_to
  g_is_number_to : mg "is_number_to" = some (.ref f_is_number_to)
  b_is_number_to : Binds K d_is_number_to ["thing", "least", "most"] []
  f_is_word : Addr
  d_is_word : FuncData
  F_is_word : Fun K "is_word" "is_word" s_is_word f_is_word d_is_word
  g_is_word : mg "is_word" = some (.ref f_is_word)
  b_is_word : Binds K d_is_word ["bits", "thing"] []
  f_need_field : Addr
  d_need_field : FuncData
  F_need_field : Fun K "need_field" "need_field" s_need_field f_need_field d_need_field
  g_need_field : mg "need_field" = some (.ref f_need_field)
  b_need_field : Binds K d_need_field ["bits"] []
  f_need_word : Addr
  d_need_word : FuncData
  F_need_word : Fun K "need_word" "need_word" s_need_word f_need_word d_need_word
  g_need_word : mg "need_word" = some (.ref f_need_word)
  b_need_word : Binds K d_need_word ["bits", "part", "thing"] []
  f_doubled : Addr
  d_doubled : FuncData
  F_doubled : Fun K "doubled" "doubled" s_doubled f_doubled d_doubled
  g_doubled : mg "doubled" = some (.ref f_doubled)
  b_doubled : Binds K d_doubled ["bits", "one"] []
  f_word_product : Addr
  d_word_product : FuncData
  F_word_product : Fun K "word_product" "word_product" s_word_product f_word_product d_word_product
  g_word_product : mg "word_product" = some (.ref f_word_product)
  b_word_product : Binds K d_word_product ["bits", "one", "other"] []
  f_word_power : Addr
  d_word_power : FuncData
  F_word_power : Fun K "word_power" "word_power" s_word_power f_word_power d_word_power
  g_word_power : mg "word_power" = some (.ref f_word_power)
  b_word_power : Binds K d_word_power ["bits", "one", "times"] []
  f_product : Addr
  d_product : FuncData
  F_product : Fun K "product" "product" s_product f_product d_product
  g_product : mg "product" = some (.ref f_product)
  b_product : Binds K d_product ["bits", "one", "other"] []
  f_quotient : Addr
  d_quotient : FuncData
  F_quotient : Fun K "quotient" "quotient" s_quotient f_quotient d_quotient
  g_quotient : mg "quotient" = some (.ref f_quotient)
  b_quotient : Binds K d_quotient ["bits", "one", "other"] []
  f_power : Addr
  d_power : FuncData
  F_power : Fun K "power" "power" s_power f_power d_power
  g_power : mg "power" = some (.ref f_power)
  b_power : Binds K d_power ["bits", "one", "times"] []
  f_exponent : Addr
  d_exponent : FuncData
  F_exponent : Fun K "exponent" "exponent" s_exponent f_exponent d_exponent
  g_exponent : mg "exponent" = some (.ref f_exponent)
  b_exponent : Binds K d_exponent ["bits", "one"] []
  f__law_draw : Addr
  d__law_draw : FuncData
  F__law_draw : Fun K "_law_draw" "_law_draw" s__law_draw f__law_draw d__law_draw
  g__law_draw : mg "_law_draw" = some (.ref f__law_draw)
  b__law_draw : Binds K d__law_draw ["_law_well", "_law_many"] []
  f__law_one : Addr
  d__law_one : FuncData
  F__law_one : Fun K "_law_one" "_law_one" s__law_one f__law_one d__law_one
  g__law_one : mg "_law_one" = some (.ref f__law_one)
  b__law_one : Binds K d__law_one ["_law_well", "_law_some"] []
  f__law_doubled : Addr
  d__law_doubled : FuncData
  F__law_doubled : Fun K "_law_doubled" "_law_doubled" s__law_doubled f__law_doubled d__law_doubled
  g__law_doubled : mg "_law_doubled" = some (.ref f__law_doubled)
  b__law_doubled : Binds K d__law_doubled ["_law_wide", "_law_one_here"] []
  f__law_product : Addr
  d__law_product : FuncData
  F__law_product : Fun K "_law_product" "_law_product" s__law_product f__law_product d__law_product
  g__law_product : mg "_law_product" = some (.ref f__law_product)
  b__law_product : Binds K d__law_product ["_law_wide", "_law_one_here", "_law_other"] []
  f__law_powers : Addr
  d__law_powers : FuncData
  F__law_powers : Fun K "_law_powers" "_law_powers" s__law_powers f__law_powers d__law_powers
  g__law_powers : mg "_law_powers" = some (.ref f__law_powers)
  b__law_powers : Binds K d__law_powers ["_law_wide"] []
  f__law_word : Addr
  d__law_word : FuncData
  F__law_word : Fun K "_law_word" "_law_word" s__law_word f__law_word d__law_word
  g__law_word : mg "_law_word" = some (.ref f__law_word)
  b__law_word : Binds K d__law_word ["_law_well", "_law_wide"] []
  f__law_pair_right : Addr
  d__law_pair_right : FuncData
  F__law_pair_right : Fun K "_law_pair_right" "_law_pair_right" s__law_pair_right f__law_pair_right d__law_pair_right
  g__law_pair_right : mg "_law_pair_right" = some (.ref f__law_pair_right)
  b__law_pair_right : Binds K d__law_pair_right ["_law_wide", "_law_powers_here", "_law_one_here", "_law_other"] []
  f__law_powers_right : Addr
  d__law_powers_right : FuncData
  F__law_powers_right : Fun K "_law_powers_right" "_law_powers_right" s__law_powers_right f__law_powers_right d__law_powers_right
  g__law_powers_right : mg "_law_powers_right" = some (.ref f__law_powers_right)
  b__law_powers_right : Binds K d__law_powers_right ["_law_wide", "_law_powers_here", "_law_one_here", "_law_times"] []
  f__law_small_right : Addr
  d__law_small_right : FuncData
  F__law_small_right : Fun K "_law_small_right" "_law_small_right" s__law_small_right f__law_small_right d__law_small_right
  g__law_small_right : mg "_law_small_right" = some (.ref f__law_small_right)
  b__law_small_right : Binds K d__law_small_right [] []
  f_law : Addr
  d_law : FuncData
  F_law : Fun K "law" "law" s_law f_law d_law
  g_law : mg "law" = some (.ref f_law)
  b_law : Binds K d_law ["_law_script"] []
  n_bool : mg "bool" = none
  n_enumerate : mg "enumerate" = none
  n_int : mg "int" = none
  n_isinstance : mg "isinstance" = none
  n_len : mg "len" = none
  n_list : mg "list" = none
  n_range : mg "range" = none
  n_sorted : mg "sorted" = none
  c_EXPONENTS0 : Addr
  t_EXPONENTS0 : tupB K c_EXPONENTS0 [0, 0, 1, 12, 2, 9, 13, 7, 3, 4, 10, 5, 14, 11, 8, 6] = true
  c_EXPONENTS1 : Addr
  t_EXPONENTS1 : tupB K c_EXPONENTS1 [0, 0, 1, 231, 2, 207, 232, 59, 3, 35, 208, 154, 233, 20, 60, 183, 4, 159, 36, 66, 209, 118, 155, 251, 234, 245, 21, 11, 61, 130, 184, 146, 5, 122, 160, 79, 37, 113, 67, 106, 210, 224, 119, 221, 156, 242, 252, 32, 235, 213, 246, 135, 22, 42, 12, 140, 62, 227, 131, 75, 185, 191, 147, 94, 6, 70, 123, 195, 161, 53, 80, 167, 38, 109, 114, 203, 68, 51, 107, 49, 211, 40, 225, 189, 120, 111, 222, 240, 157, 116, 243, 128, 253, 205, 33, 18, 236, 163, 214, 98, 247, 55, 136, 102, 23, 82, 43, 177, 13, 169, 141, 89, 63, 8, 228, 151, 132, 72, 76, 218, 186, 125, 192, 200, 148, 197, 95, 174, 7, 150, 71, 217, 124, 199, 196, 173, 162, 97, 54, 101, 81, 176, 168, 88, 39, 188, 110, 239, 115, 127, 204, 17, 69, 194, 52, 166, 108, 202, 50, 48, 212, 134, 41, 139, 226, 74, 190, 93, 121, 78, 112, 105, 223, 220, 241, 31, 158, 65, 117, 250, 244, 10, 129, 145, 254, 230, 206, 58, 34, 153, 19, 182, 237, 15, 164, 46, 215, 171, 99, 86, 248, 143, 56, 180, 137, 91, 103, 29, 24, 25, 83, 26, 44, 84, 178, 27, 14, 45, 170, 85, 142, 179, 90, 28, 64, 249, 9, 144, 229, 57, 152, 181, 133, 138, 73, 92, 77, 104, 219, 30, 187, 238, 126, 16, 193, 165, 201, 47, 149, 216, 198, 172, 96, 100, 175, 87] = true
  a_EXPONENTS : Addr
  g_EXPONENTS : mg "EXPONENTS" = some (.ref a_EXPONENTS)
  l_EXPONENTS : KRef K a_EXPONENTS [(4, c_EXPONENTS0), (8, c_EXPONENTS1)]
  a_FOLDS : Addr
  g_FOLDS : mg "FOLDS" = some (.ref a_FOLDS)
  l_FOLDS : KInt K a_FOLDS [(4, 9), (8, 113)]
  a_SPANS : Addr
  g_SPANS : mg "SPANS" = some (.ref a_SPANS)
  l_SPANS : KInt K a_SPANS [(4, 16), (8, 256)]
/-- a list of words as values -/
def vN (n : Nat) : V := .int (n : Int)
theorem same_upd {H : Hp} {p : Addr} {o : HO} (h : H p = none) : Same H (upd H p o) := fun b x e => by
  rw [upd_ne (ne_of_none e h)]
  exact e
theorem getI_span {b : Nat} (hb : Wd b) : getI (b : Int) [(4, 16), (8, 256)] = some (span b : Int) := by rcases hb with rfl | rfl <;> rfl
theorem getI_fold {b : Nat} (hb : Wd b) : getI (b : Int) [(4, 9), (8, 113)] = some (foldw b : Int) := by rcases hb with rfl | rfl <;> rfl
theorem span_eq {b : Nat} (hb : Wd b) : span b = turn b + 1 := by rcases hb with rfl | rfl <;> rfl
theorem turn_pos {b : Nat} (hb : Wd b) : 0 < turn b := by rcases hb with rfl | rfl <;> decide
theorem span_small {b : Nat} (hb : Wd b) : span b ≤ 256 := by rcases hb with rfl | rfl <;> decide
def expA {K : PySem.W.Frag} {mg : Str → Option Value} (T : Txt K mg) (b : Nat) : Addr := cond (Nat.beq b 4) T.c_EXPONENTS0 T.c_EXPONENTS1
theorem tab_of {K : PySem.W.Frag} {mg : Str → Option Value} (T : Txt K mg) {b : Nat} (hb : Wd b) : getA (b : Int) [(4, T.c_EXPONENTS0), (8, T.c_EXPONENTS1)] = some (expA T b) ∧ ∀ H, SqT K H (expA T b) ((tabE b).map V.int) := by
  rcases hb with rfl | rfl
  · exact ⟨rfl, fun H => tupB_ok (xs := E4) T.t_EXPONENTS0⟩
  · exact ⟨rfl, fun H => tupB_ok (xs := E8) T.t_EXPONENTS1⟩
section
variable {P : Program} {w : World} {K : PySem.W.Frag} {mg : Str → Option Value} {base : Heap}
/-! ### the program's defs -/
def sp_is_number : Sp := fun vs H Q _ => ∃ i : Int, vs = [.int i] ∧ Q (.bl true) H
theorem ok_is_number (T : Txt K mg) : FnOk P w K mg base CX0 1 T.f_is_number T.d_is_number ["thing"] sp_is_number := by
  refine T.F_is_number.ok sc_is_number (fun vs H Q E h => ?_) (fun cdv A outer s H vs Q E hr h => ?_)
  · obtain ⟨i, rfl, _⟩ := h
    rfl
  · obtain ⟨i, rfl, q⟩ := h
    refine ⟨_, (pss_one (ps_ret (pe_and (pe_callB call_isi (by rfl) T.n_isinstance (by decide +kernel) (pa_cons (pv 0) (pa_cons (pe_bltn (v := .ty "int") (by rfl) T.n_int (by decide +kernel) rfl) pa_nil))) (pe_one (pe_not (pe_callB call_isi (by rfl) T.n_isinstance (by decide +kernel) (pa_cons (pv 0) (pa_cons (pe_bltn (v := .ty "bool") (by rfl) T.n_bool (by decide +kernel) rfl) pa_nil)))))))), ?_⟩
    refine ⟨_, rfl, .int i, .ty "int", .type "int", .type "int", true, rfl, .ty _, .base (.int i), kit_ty (by decide +kernel), true, rfl, ?_⟩
    exact ⟨_, rfl, .int i, .ty "bool", .type "int", .type "bool", false, rfl, .ty _, .base (.int i), kit_ty (by decide +kernel), _, rfl, q⟩
def sp_is_number_to : Sp := fun vs H Q _ => ∃ i l m : Int, vs = [.int i, .int l, .int m] ∧ Q (.bl (decide (l ≤ i) && decide (i ≤ m))) H
theorem ok_is_number_to (T : Txt K mg) : FnOk P w K mg base CX0 2 T.f_is_number_to T.d_is_number_to ["thing", "least", "most"] sp_is_number_to := by
  refine T.F_is_number_to.ok sc_is_number_to (fun vs H Q E h => ?_) (fun cdv A outer s H vs Q E hr h => ?_)
  · obtain ⟨i, l, m, rfl, _⟩ := h
    rfl
  · obtain ⟨i, l, m, rfl, q⟩ := h
    refine ⟨_, (pss_one (ps_ret (pe_and (pe_callB call_isi (by rfl) T.n_isinstance (by decide +kernel) (pa_cons (pv 0) (pa_cons (pe_bltn (v := .ty "int") (by rfl) T.n_int (by decide +kernel) rfl) pa_nil))) (pe_and (pe_not (pe_callB call_isi (by rfl) T.n_isinstance (by decide +kernel) (pa_cons (pv 0) (pa_cons (pe_bltn (v := .ty "bool") (by rfl) T.n_bool (by decide +kernel) rfl) pa_nil)))) (pe_one (pe_chain op_le op_le (pv 1) (pv 0) (pv 2))))))), ?_⟩
    refine ⟨_, rfl, .int i, .ty "int", .type "int", .type "int", true, rfl, .ty _, .base (.int i), kit_ty (by decide +kernel), true, rfl, ?_⟩
    refine ⟨_, rfl, .int i, .ty "bool", .type "int", .type "bool", false, rfl, .ty _, .base (.int i), kit_ty (by decide +kernel), _, rfl, true, rfl, ?_⟩
    refine ⟨_, rfl, _, rfl, _, _, rfl, rfl, _, rfl, ?_⟩
    refine ite2 (fun c => ?_) (fun c => ?_)
    · refine ⟨_, rfl, _, _, rfl, rfl, ?_⟩
      rw [show decide (l ≤ i) = true from c, Bool.true_and] at q
      exact q
    · rw [show decide (l ≤ i) = false by simpa using c, Bool.false_and] at q
      exact q
def sp_is_word : Sp := fun vs H Q _ => ∃ b x : Nat, vs = [vN b, vN x] ∧ Wd b ∧ x < span b ∧ Q (.bl true) H
theorem ok_is_word (T : Txt K mg) : FnOk P w K mg base CX0 3 T.f_is_word T.d_is_word ["bits", "thing"] sp_is_word := by
  refine T.F_is_word.ok sc_is_word (fun vs H Q E h => ?_) (fun cdv A outer s H vs Q E hr h => ?_)
  · obtain ⟨b, x, rfl, _⟩ := h
    rfl
  · obtain ⟨b, x, rfl, hb, hx, q⟩ := h
    refine ⟨_, (pss_one (ps_ret (pe_call (ok_is_number_to T) (hr.mono (by decide)) (by rfl) T.g_is_number_to T.F_is_number_to.kp T.b_is_number_to .nil pass0 (pa_cons (pv 1) (pa_cons pe_int (pa_cons (pe_op op_sub (pe_ix (ix_kint T.l_SPANS) (pe_glob (v := .ref T.a_SPANS) (by rfl) T.g_SPANS rfl) (pv 0) (fun _ _ => rfl)) pe_int) pa_nil)))))), ?_⟩
    refine ⟨_, rfl, _, rfl, _, _, rfl, rfl, getI_span hb, _, _, rfl, rfl, _, _, _, rfl, ?_⟩
    have e : (decide ((0 : Int) ≤ (x : Int)) && decide ((x : Int) ≤ (span b : Int) - 1)) = true := by
      simp
      omega
    rw [e]
    exact q
def sp_need_field : Sp := fun vs H Q _ => ∃ b : Nat, vs = [vN b] ∧ Wd b ∧ Q .non H
theorem ok_need_field (T : Txt K mg) : FnOk P w K mg base CX0 2 T.f_need_field T.d_need_field ["bits"] sp_need_field := by
  refine T.F_need_field.ok sc_need_field (fun vs H Q E h => ?_) (fun cdv A outer s H vs Q E hr h => ?_)
  · obtain ⟨b, rfl, _⟩ := h
    rfl
  · obtain ⟨b, rfl, hb, q⟩ := h
    refine ⟨_, (pss_one (ps_if (PW.pt (pw_or (pt_not (pt_val (pe_call (ok_is_number T) (hr.mono (by decide)) (by rfl) T.g_is_number T.F_is_number.kp T.b_is_number .nil pass0 (pa_cons (pv 0) pa_nil)))) (pw_or1 (pt_cmpR (op_notInKI T.l_SPANS) (pv 0) (pe_glob (v := .ref T.a_SPANS) (by rfl) T.g_SPANS rfl) (by rfl))))) (pss_one ps_never) pss_nil)), ?_⟩
    refine ⟨_, rfl, _, rfl, _, rfl, iteF ?_⟩
    refine ⟨_, rfl, _, rfl, rfl, _, rfl, ?_⟩
    rw [getI_span hb]
    exact iteF q
def sp_need_word : Sp := fun vs H Q _ => ∃ (b x : Nat) (p : Str), vs = [vN b, .str p, vN x] ∧ Wd b ∧ x < span b ∧ Q .non H
theorem ok_need_word (T : Txt K mg) : FnOk P w K mg base CX0 4 T.f_need_word T.d_need_word ["bits", "part", "thing"] sp_need_word := by
  refine T.F_need_word.ok sc_need_word (fun vs H Q E h => ?_) (fun cdv A outer s H vs Q E hr h => ?_)
  · obtain ⟨b, x, p, rfl, _⟩ := h
    rfl
  · obtain ⟨b, x, p, rfl, hb, hx, q⟩ := h
    refine ⟨_, (pss_one (ps_if (pt_not (pt_val (pe_call (ok_is_word T) (hr.mono (by decide)) (by rfl) T.g_is_word T.F_is_word.kp T.b_is_word .nil pass0 (pa_cons (pv 0) (pa_cons (pv 2) pa_nil))))) (pss_one ps_never) pss_nil)), ?_⟩
    exact ⟨_, rfl, _, rfl, b, x, rfl, hb, hx, _, rfl, iteF q⟩
def sp_doubled : Sp := fun vs H Q _ => ∃ b x : Nat, vs = [vN b, vN x] ∧ Wd b ∧ x < span b ∧ Q (vN (dbl b x)) H
theorem ok_doubled (T : Txt K mg) : FnOk P w K mg base CX0 1 T.f_doubled T.d_doubled ["bits", "one"] sp_doubled := by
  refine T.F_doubled.ok sc_doubled (fun vs H Q E h => ?_) (fun cdv A outer s H vs Q E hr h => ?_)
  · obtain ⟨b, x, rfl, _⟩ := h
    rfl
  · obtain ⟨b, x, rfl, hb, hx, q⟩ := h
    refine ⟨_, (pss_cons (ps_set (i := 2) sc_doubled.nd rfl (.inl rfl) (pe_op op_mul pe_int (pv 1)))
      (pss_cons (ps_if (pt_cmpR op_lt (pv 2) (pe_ix (ix_kint T.l_SPANS) (pe_glob (v := .ref T.a_SPANS) (by rfl) T.g_SPANS rfl) (pv 0) (fun _ _ => rfl)) (nomark _)) (pss_one (ps_ret (pv 2))) pss_nil)
      (pss_one (ps_ret (pe_op op_xor (pe_op op_sub (pv 2) (pe_ix (ix_kint T.l_SPANS) (pe_glob (v := .ref T.a_SPANS) (by rfl) T.g_SPANS rfl) (pv 0) (fun _ _ => rfl))) (pe_ix (ix_kint T.l_FOLDS) (pe_glob (v := .ref T.a_FOLDS) (by rfl) T.g_FOLDS rfl) (pv 0) (fun _ _ => rfl))))))), ?_⟩
    refine ⟨_, rfl, _, _, rfl, rfl, .inl (by decide), ?_⟩
    refine ⟨_, rfl, _, rfl, _, _, rfl, rfl, getI_span hb, _, _, rfl, rfl, _, rfl, ?_⟩
    refine ite2 (fun c => ?_) (fun c => ?_)
    · refine ⟨_, rfl, ?_⟩
      have c' : 2 * (x : Int) < (span b : Int) := of_decide_eq_true c
      have e : dbl b x = 2 * x := by
        unfold dbl
        rw [show Nat.blt (2 * x) (span b) = true by rw [Nat.blt_eq]; omega]
        rfl
      rw [e] at q
      exact q
    · have c' : ¬ 2 * (x : Int) < (span b : Int) := fun z => c (decide_eq_true z)
      refine ⟨_, rfl, _, rfl, _, _, rfl, rfl, getI_span hb, _, _, rfl, rfl, _, rfl, _, _, rfl, rfl, getI_fold hb, _, _, rfl, rfl, ?_⟩
      have e : dbl b x = (2 * x - span b) ^^^ foldw b := by
        unfold dbl
        rw [show Nat.blt (2 * x) (span b) = false by rw [← Bool.not_eq_true, Nat.blt_eq]; omega]
        rfl
      rw [e] at q
      rw [show 2 * (x : Int) - (span b : Int) = ((2 * x - span b : Nat) : Int) by omega]
      show Q (V.int (Builtin.bitXor _ _)) H
      rw [bx]
      exact q
/-- the int in a slot, as a measure -/
def uat (i : Nat) (σ : L2.St) : Nat := match σ[i]? with | some (some (.int u)) => u.toNat | _ => 0
theorem half (u : Nat) : (u : Int) / 2 ^ (1 : Int).toNat = ((u / 2 : Nat) : Int) := by
  show (u : Int) / 2 = _
  omega
theorem odd_ne {u : Nat} (h : u % 2 = 1) : ((Builtin.bitAnd (u : Int) 1) != 0) = true := by rw [band1, h]; rfl
theorem even_ne {u : Nat} (h : ¬ u % 2 = 1) : ((Builtin.bitAnd (u : Int) 1) != 0) = false := by rw [band1, show u % 2 = 0 by omega]; rfl
def sp_word_product : Sp := fun vs H Q _ => ∃ b x y : Nat, vs = [vN b, vN x, vN y] ∧ Wd b ∧ x < span b ∧ y < span b ∧ Q (vN (mul b x y)) H
theorem ok_word_product (T : Txt K mg) : FnOk P w K mg base CX0 2 T.f_word_product T.d_word_product ["bits", "one", "other"] sp_word_product := by
  refine T.F_word_product.ok sc_word_product (fun vs H Q E h => ?_) (fun cdv A outer s H vs Q E hr h => ?_)
  · obtain ⟨b, x, y, rfl, _⟩ := h
    rfl
  · obtain ⟨b, x, y, rfl, hb, hx, hy, q⟩ := h
    refine ⟨_, (pss_cons (ps_set (i := 3) sc_word_product.nd rfl (.inl rfl) pe_int)
      (pss_cons (ps_while PassesOwn.never (pt_cmpR op_gt (pv 2) pe_int (nomark _)) (pss_cons (ps_if (pt_truth (pe_op op_and (pv 2) pe_int) (by intro _; rfl)) (pss_one (ps_aug (i := 3) sc_word_product.nd rfl (.inl rfl) (pv 1) (pip_of iop_xor))) pss_nil)
      (pss_cons (ps_set (i := 1) sc_word_product.nd rfl (.inl rfl) (pe_call (ok_doubled T) (hr.mono (by decide)) (by rfl) T.g_doubled T.F_doubled.kp T.b_doubled .nil pass0 (pa_cons (pv 0) (pa_cons (pv 1) pa_nil))))
      (pss_one (ps_aug (i := 2) sc_word_product.nd rfl (.inl rfl) pe_int (pip_of iop_shr))))))
      (pss_one (ps_ret (pv 3))))), ?_⟩
    refine while_by (fun σ H' => ∃ n t o u : Nat, σ = [some (vN b), some (vN o), some (vN u), some (vN t)] ∧ o < span b ∧ u < 2 ^ n ∧ t ^^^ mulF b n o u = mul b x y ∧ H' = H) (fun σ _ => uat 2 σ) ?_ ?_ ?_
    · exact ⟨b, 0, x, y, rfl, hx, by rw [← span_pow hb]; exact hy, by simp [mul], rfl⟩
    · rintro σ H' ⟨n, t, o, u, rfl, ho, hu, he, rfl⟩
      refine ⟨_, rfl, _, _, rfl, rfl, _, rfl, ?_⟩
      refine ite2 (fun c => ?_) (fun c => ?_)
      · have c' : (0 : Int) < (u : Int) := of_decide_eq_true c
        cases n with
        | zero => simp at hu; omega
        | succ n =>
          have hm : t ^^^ ((cond (Nat.beq (u % 2) 1) o 0) ^^^ mulF b n (dbl b o) (u / 2)) = mul b x y := he
          have hu2 : u / 2 < 2 ^ n := by rw [Nat.pow_succ] at hu; omega
          have hmu : uat 2 [some (vN b), some (vN (dbl b o)), some (V.int ((u : Int) / 2 ^ (1 : Int).toNat)), some (vN t)] < uat 2 [some (vN b), some (vN o), some (vN u), some (vN t)] := by
            show ((u : Int) / 2 ^ (1 : Int).toNat).toNat < (u : Int).toNat
            rw [half]
            omega
          refine ⟨_, rfl, _, _, rfl, rfl, _, rfl, ?_⟩
          by_cases hodd : u % 2 = 1
          · rw [odd_ne hodd]
            rw [hodd] at hm
            refine iteT ?_
            refine ⟨_, rfl, _, rfl, _, _, rfl, rfl, ?_⟩
            refine ⟨_, rfl, _, rfl, b, o, rfl, hb, ho, ?_⟩
            refine ⟨_, rfl, _, _, rfl, rfl, (by show (0 : Int) ≤ 1; decide), ?_⟩
            refine ⟨⟨n, t ^^^ o, dbl b o, u / 2, ?_, dbl_lt hb ho, hu2, ?_, rfl⟩, hmu⟩
            · show [some (vN b), some (vN (dbl b o)), some (V.int _), some (V.int _)] = _
              rw [half, bx]
              rfl
            · rw [Nat.xor_assoc]
              exact hm
          · rw [even_ne hodd]
            have hz : u % 2 = 0 := by omega
            rw [hz] at hm
            refine iteF ?_
            refine ⟨_, rfl, _, rfl, b, o, rfl, hb, ho, ?_⟩
            refine ⟨_, rfl, _, _, rfl, rfl, (by show (0 : Int) ≤ 1; decide), ?_⟩
            refine ⟨⟨n, t, dbl b o, u / 2, ?_, dbl_lt hb ho, hu2, ?_, rfl⟩, hmu⟩
            · show [some (vN b), some (vN (dbl b o)), some (V.int _), some (vN t)] = _
              rw [half]
              rfl
            · have e : (cond (Nat.beq 0 1) o 0) ^^^ mulF b n (dbl b o) (u / 2) = mulF b n (dbl b o) (u / 2) := Nat.zero_xor _
              rw [e] at hm
              exact hm
      · have c' : ¬ (0 : Int) < (u : Int) := fun z => c (decide_eq_true z)
        have : u = 0 := by omega
        subst this
        rw [mulF_zero 0, Nat.xor_zero] at he
        subst he
        exact ⟨_, rfl, q⟩
    · intro σ H Q Q' h hc
      obtain ⟨v, e, i, j, e9, e10, bb, e13, rest⟩ := hc
      exact ⟨v, e, i, j, e9, e10, bb, e13, h _ _ rest⟩
def sp_word_power : Sp := fun vs H Q _ => ∃ b e t : Nat, vs = [vN b, vN (pw b e), vN t] ∧ Wd b ∧ Q (vN (pw b (e * t))) H
theorem ok_word_power (T : Txt K mg) : FnOk P w K mg base CX0 3 T.f_word_power T.d_word_power ["bits", "one", "times"] sp_word_power := by
  refine T.F_word_power.ok sc_word_power (fun vs H Q E h => ?_) (fun cdv A outer s H vs Q E hr h => ?_)
  · obtain ⟨b, x, y, rfl, _⟩ := h
    rfl
  · obtain ⟨b, e, t0, rfl, hb, q⟩ := h
    refine ⟨_, (pss_cons (ps_set (i := 3) sc_word_power.nd rfl (.inl rfl) pe_int)
      (pss_cons (ps_while PassesOwn.never (pt_cmpR op_gt (pv 2) pe_int (nomark _)) (pss_cons (ps_if (pt_truth (pe_op op_and (pv 2) pe_int) (by intro _; rfl)) (pss_one (ps_set (i := 3) sc_word_power.nd rfl (.inl rfl) (pe_call (ok_word_product T) (hr.mono (by decide)) (by rfl) T.g_word_product T.F_word_product.kp T.b_word_product .nil pass0 (pa_cons (pv 0) (pa_cons (pv 3) (pa_cons (pv 1) pa_nil)))))) pss_nil)
      (pss_cons (ps_set (i := 1) sc_word_power.nd rfl (.inl rfl) (pe_call (ok_word_product T) (hr.mono (by decide)) (by rfl) T.g_word_product T.F_word_product.kp T.b_word_product .nil pass0 (pa_cons (pv 0) (pa_cons (pv 1) (pa_cons (pv 1) pa_nil)))))
      (pss_one (ps_aug (i := 2) sc_word_power.nd rfl (.inl rfl) pe_int (pip_of iop_shr))))))
      (pss_one (ps_ret (pv 3))))), ?_⟩
    refine while_by (fun σ H' => ∃ a c u : Nat, σ = [some (vN b), some (vN (pw b c)), some (vN u), some (vN (pw b a))] ∧ a + c * u = e * t0 ∧ H' = H) (fun σ _ => uat 2 σ) ?_ ?_ ?_
    · exact ⟨0, e, t0, rfl, by omega, rfl⟩
    · rintro σ H' ⟨a, c, u, rfl, he, rfl⟩
      refine ⟨_, rfl, _, _, rfl, rfl, _, rfl, ?_⟩
      refine ite2 (fun cc => ?_) (fun cc => ?_)
      · have c' : (0 : Int) < (u : Int) := of_decide_eq_true cc
        have hmu : ∀ x y z, uat 2 [x, y, some (V.int ((u : Int) / 2 ^ (1 : Int).toNat)), z] < uat 2 [some (vN b), some (vN (pw b c)), some (vN u), some (vN (pw b a))] := by
          intro x y z
          show ((u : Int) / 2 ^ (1 : Int).toNat).toNat < (u : Int).toNat
          rw [half]
          omega
        have hc2 : ∀ a' : Nat, a' + 2 * (c * (u / 2)) = e * t0 → a' + (c + c) * (u / 2) = e * t0 := by
          intro a' h
          rw [Nat.add_mul]
          omega
        refine ⟨_, rfl, _, _, rfl, rfl, _, rfl, ?_⟩
        by_cases hodd : u % 2 = 1
        · rw [odd_ne hodd]
          refine iteT ?_
          refine ⟨_, rfl, _, rfl, _, rfl, b, pw b a, pw b c, rfl, hb, pw_lt hb a, pw_lt hb c, ?_⟩
          refine ⟨_, rfl, _, rfl, _, rfl, b, pw b c, pw b c, rfl, hb, pw_lt hb c, pw_lt hb c, ?_⟩
          refine ⟨_, rfl, _, _, rfl, rfl, (by show (0 : Int) ≤ 1; decide), ?_⟩
          refine ⟨⟨a + c, c + c, u / 2, ?_, ?_, rfl⟩, hmu _ _ _⟩
          · show [some (vN b), some (vN (mul b (pw b c) (pw b c))), some (V.int _), some (vN (mul b (pw b a) (pw b c)))] = _
            rw [half, pw_mul hb, pw_mul hb]
            rfl
          · refine hc2 _ ?_
            have e2 : c * u = c * (2 * (u / 2) + 1) := by rw [show 2 * (u / 2) + 1 = u by omega]
            rw [Nat.mul_add, Nat.mul_one, Nat.mul_left_comm] at e2
            omega
        · rw [even_ne hodd]
          refine iteF ?_
          refine ⟨_, rfl, _, rfl, _, rfl, b, pw b c, pw b c, rfl, hb, pw_lt hb c, pw_lt hb c, ?_⟩
          refine ⟨_, rfl, _, _, rfl, rfl, (by show (0 : Int) ≤ 1; decide), ?_⟩
          refine ⟨⟨a, c + c, u / 2, ?_, ?_, rfl⟩, hmu _ _ _⟩
          · show [some (vN b), some (vN (mul b (pw b c) (pw b c))), some (V.int _), some (vN (pw b a))] = _
            rw [half, pw_mul hb]
            rfl
          · refine hc2 _ ?_
            have e2 : c * u = c * (2 * (u / 2)) := by rw [show 2 * (u / 2) = u by omega]
            rw [Nat.mul_left_comm] at e2
            omega
      · have c' : ¬ (0 : Int) < (u : Int) := fun z => cc (decide_eq_true z)
        have : u = 0 := by omega
        subst this
        rw [Nat.mul_zero, Nat.add_zero] at he
        subst he
        exact ⟨_, rfl, q⟩
    · intro σ H Q Q' h hc
      obtain ⟨v, e, i, j, e9, e10, bb, e13, rest⟩ := hc
      exact ⟨v, e, i, j, e9, e10, bb, e13, h _ _ rest⟩
def sp_product : Sp := fun vs H Q _ => ∃ b x y : Nat, vs = [vN b, vN x, vN y] ∧ Wd b ∧ x < span b ∧ y < span b ∧ Q (vN (mul b x y)) H
theorem ok_product (T : Txt K mg) : FnOk P w K mg base CX0 5 T.f_product T.d_product ["bits", "one", "other"] sp_product := by
  refine T.F_product.ok sc_product (fun vs H Q E h => ?_) (fun cdv A outer s H vs Q E hr h => ?_)
  · obtain ⟨b, x, y, rfl, _⟩ := h
    rfl
  · obtain ⟨b, x, y, rfl, hb, hx, hy, q⟩ := h
    refine ⟨_, (pss_cons (ps_expr (pe_call (ok_need_field T) (hr.mono (by decide)) (by rfl) T.g_need_field T.F_need_field.kp T.b_need_field .nil pass0 (pa_cons (pv 0) pa_nil)))
      (pss_cons (ps_expr (pe_call (ok_need_word T) (hr.mono (by decide)) (by rfl) T.g_need_word T.F_need_word.kp T.b_need_word .nil pass0 (pa_cons (pv 0) (pa_cons pe_str (pa_cons (pv 1) pa_nil)))))
      (pss_cons (ps_expr (pe_call (ok_need_word T) (hr.mono (by decide)) (by rfl) T.g_need_word T.F_need_word.kp T.b_need_word .nil pass0 (pa_cons (pv 0) (pa_cons pe_str (pa_cons (pv 2) pa_nil)))))
      (pss_one (ps_ret (pe_call (ok_word_product T) (hr.mono (by decide)) (by rfl) T.g_word_product T.F_word_product.kp T.b_word_product .nil pass0 (pa_cons (pv 0) (pa_cons (pv 1) (pa_cons (pv 2) pa_nil))))))))), ?_⟩
    exact ⟨_, rfl, b, rfl, hb, _, rfl, _, rfl, b, x, _, rfl, hb, hx, _, rfl, _, rfl, b, y, _, rfl, hb, hy, _, rfl, _, rfl, _, rfl, b, x, y, rfl, hb, hx, hy, q⟩
/-- the quotient: the word whose product with y is x -/
def quo (b x y : Nat) : Nat := mul b x (pw b (lg b y * (turn b - 1)))
def sp_quotient : Sp := fun vs H Q _ => ∃ b x y : Nat, vs = [vN b, vN x, vN y] ∧ Wd b ∧ x < span b ∧ y < span b ∧ y ≠ 0 ∧ Q (vN (quo b x y)) H
theorem ok_quotient (T : Txt K mg) : FnOk P w K mg base CX0 5 T.f_quotient T.d_quotient ["bits", "one", "other"] sp_quotient := by
  refine T.F_quotient.ok sc_quotient (fun vs H Q E h => ?_) (fun cdv A outer s H vs Q E hr h => ?_)
  · obtain ⟨b, x, y, rfl, _⟩ := h
    rfl
  · obtain ⟨b, x, y, rfl, hb, hx, hy, h0, q⟩ := h
    refine ⟨_, (pss_cons (ps_expr (pe_call (ok_need_field T) (hr.mono (by decide)) (by rfl) T.g_need_field T.F_need_field.kp T.b_need_field .nil pass0 (pa_cons (pv 0) pa_nil)))
      (pss_cons (ps_expr (pe_call (ok_need_word T) (hr.mono (by decide)) (by rfl) T.g_need_word T.F_need_word.kp T.b_need_word .nil pass0 (pa_cons (pv 0) (pa_cons pe_str (pa_cons (pv 1) pa_nil)))))
      (pss_cons (ps_expr (pe_call (ok_need_word T) (hr.mono (by decide)) (by rfl) T.g_need_word T.F_need_word.kp T.b_need_word .nil pass0 (pa_cons (pv 0) (pa_cons pe_str (pa_cons (pv 2) pa_nil)))))
      (pss_cons (ps_if (pt_cmpR op_eq (pv 2) pe_int (nomark _)) (pss_one ps_never) pss_nil)
      (pss_one (ps_ret (pe_call (ok_word_product T) (hr.mono (by decide)) (by rfl) T.g_word_product T.F_word_product.kp T.b_word_product .nil pass0 (pa_cons (pv 0) (pa_cons (pv 1) (pa_cons (pe_call (ok_word_power T) (hr.mono (by decide)) (by rfl) T.g_word_power T.F_word_power.kp T.b_word_power .nil pass0 (pa_cons (pv 0) (pa_cons (pv 2) (pa_cons (pe_op op_sub (pe_ix (ix_kint T.l_SPANS) (pe_glob (v := .ref T.a_SPANS) (by rfl) T.g_SPANS rfl) (pv 0) (fun _ _ => rfl)) pe_int) pa_nil)))) pa_nil)))))))))), ?_⟩
    refine ⟨_, rfl, b, rfl, hb, _, rfl, _, rfl, b, x, _, rfl, hb, hx, _, rfl, _, rfl, b, y, _, rfl, hb, hy, ?_⟩
    refine ⟨_, rfl, rfl, _, rfl, ?_⟩
    refine ite2 (fun c => ?_) (fun c => ?_)
    · have := V.int.inj (of_decide_eq_true c)
      omega
    · refine ⟨_, rfl, _, rfl, _, rfl, _, rfl, _, rfl, _, _, rfl, rfl, getI_span hb, _, _, rfl, rfl, b, lg b y, span b - 2, ?_, hb, b, x, _, rfl, hb, hx, pw_lt hb _, ?_⟩
      · rw [pw_lg hb hy h0]
        have := span_eq hb
        have := turn_pos hb
        show [vN b, vN y, V.int ((span b : Int) - 2)] = [vN b, vN y, V.int ((span b - 2 : Nat) : Int)]
        rw [show (span b : Int) - 2 = ((span b - 2 : Nat) : Int) by rcases hb with rfl | rfl <;> rfl]
      · unfold quo at q
        rw [show turn b - 1 = span b - 2 by have := span_eq hb; omega] at q
        exact q
/-- the power -/
def pwr (b x : Nat) (t : Int) : Nat := if x = 0 then (if t = 0 then 1 else 0) else pw b (lg b x * (t % (turn b : Int)).toNat)
def sp_power : Sp := fun vs H Q _ => ∃ (b x : Nat) (t : Int), vs = [vN b, vN x, .int t] ∧ Wd b ∧ x < span b ∧ (x = 0 → 0 ≤ t) ∧ Q (vN (pwr b x t)) H
theorem ok_power (T : Txt K mg) : FnOk P w K mg base CX0 5 T.f_power T.d_power ["bits", "one", "times"] sp_power := by
  refine T.F_power.ok sc_power (fun vs H Q E h => ?_) (fun cdv A outer s H vs Q E hr h => ?_)
  · obtain ⟨b, x, y, rfl, _⟩ := h
    rfl
  · obtain ⟨b, x, t, rfl, hb, hx, h0, q⟩ := h
    refine ⟨_, (pss_cons (ps_expr (pe_call (ok_need_field T) (hr.mono (by decide)) (by rfl) T.g_need_field T.F_need_field.kp T.b_need_field .nil pass0 (pa_cons (pv 0) pa_nil)))
      (pss_cons (ps_expr (pe_call (ok_need_word T) (hr.mono (by decide)) (by rfl) T.g_need_word T.F_need_word.kp T.b_need_word .nil pass0 (pa_cons (pv 0) (pa_cons pe_str (pa_cons (pv 1) pa_nil)))))
      (pss_cons (ps_if (PW.pt (pw_or (pt_not (pt_val (pe_call (ok_is_number T) (hr.mono (by decide)) (by rfl) T.g_is_number T.F_is_number.kp T.b_is_number .nil pass0 (pa_cons (pv 2) pa_nil)))) (pw_or1 (PW.pt (pw_and (pt_cmpR op_lt (pv 2) pe_int (nomark _)) (pw_and1 (pt_cmpR op_eq (pv 1) pe_int (nomark _)))))))) (pss_one ps_never) pss_nil)
      (pss_cons (ps_if (pt_cmpR op_eq (pv 1) pe_int (nomark _)) (pss_one (ps_ret (pe_ifExp (pt_cmpR op_eq (pv 2) pe_int (nomark _)) pe_int pe_int))) pss_nil)
      (pss_one (ps_ret (pe_call (ok_word_power T) (hr.mono (by decide)) (by rfl) T.g_word_power T.F_word_power.kp T.b_word_power .nil pass0 (pa_cons (pv 0) (pa_cons (pv 1) (pa_cons (pe_op op_mod (pv 2) (pe_op op_sub (pe_ix (ix_kint T.l_SPANS) (pe_glob (v := .ref T.a_SPANS) (by rfl) T.g_SPANS rfl) (pv 0) (fun _ _ => rfl)) pe_int)) pa_nil)))))))))), ?_⟩
    refine ⟨_, rfl, b, rfl, hb, _, rfl, _, rfl, b, x, _, rfl, hb, hx, ?_⟩
    refine ⟨_, rfl, t, rfl, _, rfl, iteF ?_⟩
    refine ⟨_, rfl, _, _, rfl, rfl, _, rfl, ?_⟩
    by_cases hx0 : x = 0
    · have ht := h0 hx0
      subst hx0
      refine ite2 (fun c => ?_) (fun c => iteF ?_)
      · have := of_decide_eq_true c
        omega
      · refine ⟨_, rfl, rfl, _, rfl, iteT ?_⟩
        refine ⟨_, rfl, rfl, _, rfl, ?_⟩
        have e : pwr b 0 t = if t = 0 then 1 else 0 := rfl
        rw [e] at q
        refine ite2 (fun c => ?_) (fun c => ?_)
        · rw [if_pos (V.int.inj (of_decide_eq_true c))] at q
          exact q
        · rw [if_neg (fun z => c (by rw [z]; rfl))] at q
          exact q
    · have hne : ¬ decide (vN x = V.int 0) = true := fun z => hx0 (by have := V.int.inj (of_decide_eq_true z); omega)
      have e : pwr b x t = pw b (lg b x * (t % (turn b : Int)).toNat) := if_neg hx0
      rw [e] at q
      have hT : (span b : Int) - 1 = (turn b : Int) := by have := span_eq hb; omega
      have hpos : (0 : Int) < (span b : Int) - 1 := by have := turn_pos hb; omega
      refine ite2 (fun c => ?_) (fun c => iteF ?_)
      · refine ⟨_, rfl, rfl, _, rfl, ?_⟩
        refine ite2 (fun c2 => absurd c2 hne) (fun c2 => ?_)
        refine ⟨_, rfl, rfl, _, rfl, ite2 (fun c2 => absurd c2 hne) (fun c2 => ?_)⟩
        refine ⟨_, rfl, _, rfl, _, rfl, _, rfl, _, _, rfl, rfl, getI_span hb, _, _, rfl, rfl, _, _, rfl, rfl, hpos, b, lg b x, (t % (turn b : Int)).toNat, ?_, hb, q⟩
        rw [pw_lg hb hx hx0]
        show [vN b, vN x, V.int (t % ((span b : Int) - 1))] = [vN b, vN x, V.int ((t % (turn b : Int)).toNat : Int)]
        rw [hT, Int.toNat_of_nonneg (Int.emod_nonneg _ (by omega))]
      · refine ⟨_, rfl, rfl, _, rfl, ite2 (fun c2 => absurd c2 hne) (fun c2 => ?_)⟩
        refine ⟨_, rfl, _, rfl, _, rfl, _, rfl, _, _, rfl, rfl, getI_span hb, _, _, rfl, rfl, _, _, rfl, rfl, hpos, b, lg b x, (t % (turn b : Int)).toNat, ?_, hb, q⟩
        rw [pw_lg hb hx hx0]
        show [vN b, vN x, V.int (t % ((span b : Int) - 1))] = [vN b, vN x, V.int ((t % (turn b : Int)).toNat : Int)]
        rw [hT, Int.toNat_of_nonneg (Int.emod_nonneg _ (by omega))]
/-- list.index of a word among the powers -/
theorem all_flat (l : List Nat) : (l.map vN).all flatV = true := by
  rw [List.all_eq_true]
  intro x hx
  obtain ⟨n, _, rfl⟩ := List.mem_map.mp hx
  rfl
theorem ix_pws {b x : Nat} (hb : Wd b) (hx : x < span b) (h0 : x ≠ 0) : ((pws b).map vN)[lg b x]? = some (vN x) := by
  rw [List.getElem?_map, pws_at (lg_lt hb hx h0), pw_lg hb hx h0]
  rfl
theorem no_pws {b x : Nat} : ∀ (m : Nat) (z' : V), m < lg b x → ((pws b).map vN)[m]? = some z' → eqV z' (vN x) = false := by
  intro m z' hm hz
  rw [List.getElem?_map] at hz
  cases e : (pws b)[m]? with
  | none => rw [e] at hz; cases hz
  | some y =>
    rw [e] at hz
    cases hz
    have := lg_first hm e
    show ((y : Int) == (x : Int)) = false
    simp
    omega
theorem eq_vN (x : Nat) : eqV (vN x) (vN x) = true := by
  show ((x : Int) == (x : Int)) = true
  simp
def sp_exponent : Sp := fun vs H Q _ => ∃ b x : Nat, vs = [vN b, vN x] ∧ Wd b ∧ x < span b ∧ x ≠ 0 ∧ ∀ H', Same H H' → Q (vN (lg b x)) H'
theorem ok_exponent (T : Txt K mg) : FnOk P w K mg base CX0 5 T.f_exponent T.d_exponent ["bits", "one"] sp_exponent := by
  refine T.F_exponent.ok sc_exponent (fun vs H Q E h => ?_) (fun cdv A outer s H vs Q E hr h => ?_)
  · obtain ⟨b, x, rfl, _⟩ := h
    rfl
  · obtain ⟨b, x, rfl, hb, hx, h0, q⟩ := h
    refine ⟨_, (pss_cons (ps_expr (pe_call (ok_need_field T) (hr.mono (by decide)) (by rfl) T.g_need_field T.F_need_field.kp T.b_need_field .nil pass0 (pa_cons (pv 0) pa_nil)))
      (pss_cons (ps_expr (pe_call (ok_need_word T) (hr.mono (by decide)) (by rfl) T.g_need_word T.F_need_word.kp T.b_need_word .nil pass0 (pa_cons (pv 0) (pa_cons pe_str (pa_cons (pv 1) pa_nil)))))
      (pss_cons (ps_if (pt_cmpR op_eq (pv 1) pe_int (nomark _)) (pss_one ps_never) pss_nil)
      (pss_one (ps_ret (pe_ix ix_rowB (pe_ix (ix_kref T.l_EXPONENTS) (pe_glob (v := .ref T.a_EXPONENTS) (by rfl) T.g_EXPONENTS rfl) (pv 0) (fun _ _ => rfl)) (pv 1) (fun _ _ => rfl))))))), ?_⟩
    refine ⟨_, rfl, b, rfl, hb, _, rfl, _, rfl, b, x, _, rfl, hb, hx, ?_⟩
    refine ⟨_, rfl, rfl, _, rfl, ?_⟩
    refine ite2 (fun c => ?_) (fun c => ?_)
    · have := V.int.inj (of_decide_eq_true c)
      omega
    · refine ⟨_, rfl, _, _, rfl, rfl, (tab_of T hb).1, _, rfl, _, _, _, vN (lg b x), false, rfl, rfl, (tab_of T hb).2 H, ?_, q H (Same.refl _)⟩
      exact atI_nat (by rw [List.getElem?_map, tabE_at hb hx h0]; rfl)
/-! ### the law's own defs -/
def WellL (a b c : Int) : HO := .lst [.int a, .int b, .int c]
def sp_draw : Sp := fun vs H Q _ => ∃ (p : Addr) (a b c m : Int), vs = [.ref p, .int m] ∧ H p = some (WellL a b c) ∧ 0 < m ∧ m < 1073741824 ∧ ∀ n a' c' : Int, 0 ≤ n → n < m → Q (.int n) (upd H p (WellL a' b c'))
theorem ok__law_draw (T : Txt K mg) : FnOk P w K mg base CX0 1 T.f__law_draw T.d__law_draw ["_law_well", "_law_many"] sp_draw := by
  refine T.F__law_draw.ok sc__law_draw (fun vs H Q E h => ?_) (fun cdv A outer s H vs Q E hr h => ?_)
  · obtain ⟨p, a, b, c, m, rfl, _⟩ := h
    rfl
  · obtain ⟨p, a, b, c, m, rfl, hp, m0, m1, q⟩ := h
    refine ⟨_, (pss_cons (ps_if (pt_cmpR op_gt (pe_ix ix_list (pv 0) pe_int (fun _ _ => rfl)) pe_int (nomark _)) (pss_cons (ps_set (i := 2) sc__law_draw.nd rfl (.inl rfl) (pe_op op_mod (pe_callTy call_int1 (by rfl) T.n_int (by decide +kernel) (pa_cons (pe_ix ix_list (pv 0) pe_int (fun _ _ => rfl)) pa_nil)) (pv 1)))
      (pss_cons (ps_asg (pe_op op_fdiv (pe_ix ix_list (pv 0) pe_int (fun _ _ => rfl)) (pv 1)) (pg_sub (pv 0) pe_int set_list))
      (pss_one (ps_ret (pv 2))))) pss_nil)
      (pss_cons (ps_asg (pe_op op_add (pe_ix ix_list (pv 0) pe_int (fun _ _ => rfl)) pe_int) (pg_sub (pv 0) pe_int set_list))
      (pss_cons (ps_set (i := 3) sc__law_draw.nd rfl (.inl rfl) (pe_op op_mod (pe_callTy call_int1 (by rfl) T.n_int (by decide +kernel) (pa_cons (pe_op op_mul (pe_op op_add (pe_op op_add (pe_ix ix_list (pv 0) pe_int (fun _ _ => rfl)) (pe_op op_mul pe_int (pe_ix ix_list (pv 0) pe_int (fun _ _ => rfl)))) pe_int) pe_int) pa_nil)) pe_int))
      (pss_cons (ps_set (i := 3) sc__law_draw.nd rfl (.inl rfl) (pe_op op_mod (pe_callTy call_int1 (by rfl) T.n_int (by decide +kernel) (pa_cons (pe_op op_mul (pv 3) (pe_op op_add (pe_op op_fdiv (pv 3) pe_int) pe_int)) pa_nil)) pe_int))
      (pss_one (ps_ret (pe_op op_mod (pe_callTy call_int1 (by rfl) T.n_int (by decide +kernel) (pa_cons (pe_op op_mod (pe_callTy call_int1 (by rfl) T.n_int (by decide +kernel) (pa_cons (pe_op op_mul (pv 3) (pe_op op_add (pe_op op_fdiv (pv 3) pe_int) pe_int)) pa_nil)) pe_int) pa_nil)) (pv 1)))))))), ?_⟩
    have hw : ∀ {H' : Hp} {xs : List V}, H' p = some (.lst xs) → SqL K H' p xs := fun h => .inl (.inl h)
    refine ⟨_, rfl, p, _, 0, _, rfl, rfl, hw hp, rfl, _, _, rfl, rfl, _, rfl, ?_⟩
    refine ite2 (fun cc => ?_) (fun cc => ?_)
    · refine ⟨_, rfl, p, _, 0, _, rfl, rfl, hw hp, rfl, .inl ⟨_, rfl, _, rfl, _, _, rfl, rfl, m0, ?_⟩⟩
      refine ⟨_, rfl, p, _, 0, _, rfl, rfl, hw hp, rfl, _, rfl, _, _, rfl, rfl, ⟨m0, m1⟩, ?_⟩
      refine ⟨_, rfl, p, _, 0, 0, rfl, rfl, hp, rfl, ?_⟩
      exact ⟨_, rfl, q _ _ _ (Int.emod_nonneg _ (by omega)) (Int.emod_lt_of_pos _ m0)⟩
    · refine ⟨_, rfl, p, _, 2, _, rfl, rfl, hw hp, rfl, _, _, rfl, rfl, _, rfl, p, _, 2, 2, rfl, rfl, hp, rfl, ?_⟩
      have hs : (upd H p (.lst ([V.int a, V.int b, V.int c].set 2 (.int (c + 1))))) p = some (WellL a b (c + 1)) := upd_same
      refine ⟨_, rfl, p, _, 1, _, rfl, rfl, hw hs, rfl, _, rfl, p, _, 2, _, rfl, rfl, hw hs, rfl, _, _, rfl, rfl, .inl (by decide), _, _, rfl, rfl, _, _, rfl, rfl, _, _, rfl, rfl, .inr (by decide), .inl ⟨_, rfl, _, _, rfl, rfl, (show (0 : Int) < 2147483647 by decide), ?_⟩⟩
      generalize hz : ((b + 104729 * (c + 1) + 1) * 48271) % 2147483647 = z
      have z0 : 0 ≤ z := by rw [← hz]; exact Int.emod_nonneg _ (by decide)
      have z1 : z < 2147483647 := by rw [← hz]; exact Int.emod_lt_of_pos _ (by decide)
      refine ⟨_, rfl, _, rfl, _, _, rfl, rfl, ⟨by decide, by decide⟩, _, _, rfl, rfl, _, _, rfl, rfl, .inl ⟨by omega, by omega⟩, .inl ⟨_, rfl, _, _, rfl, rfl, (show (0 : Int) < 2147483647 by decide), ?_⟩⟩
      generalize hy : (z * (z / 1009 + 69621)) % 2147483647 = y
      have y0 : 0 ≤ y := by rw [← hy]; exact Int.emod_nonneg _ (by decide)
      have y1 : y < 2147483647 := by rw [← hy]; exact Int.emod_lt_of_pos _ (by decide)
      refine ⟨_, rfl, _, rfl, _, _, rfl, rfl, ⟨by decide, by decide⟩, _, _, rfl, rfl, _, _, rfl, rfl, .inl ⟨by omega, by omega⟩, .inl ⟨_, rfl, _, _, rfl, rfl, (show (0 : Int) < 2147483399 by decide), .inl ⟨_, rfl, _, rfl, _, _, rfl, rfl, m0, ?_⟩⟩⟩
      exact q _ _ _ (Int.emod_nonneg _ (by omega)) (Int.emod_lt_of_pos _ m0)
def sp_one : Sp := fun vs H Q _ => ∃ (p l : Addr) (a b c : Int) (xs : List V), vs = [.ref p, .ref l] ∧ p ≠ l ∧ H p = some (WellL a b c) ∧ H l = some (.lst xs) ∧ 0 < xs.length ∧ xs.length ≤ 1000 ∧ ∀ (i : Nat) (v : V) (a' c' : Int), xs[i]? = some v → Q v (upd H p (WellL a' b c'))
theorem ok__law_one (T : Txt K mg) : FnOk P w K mg base CX0 2 T.f__law_one T.d__law_one ["_law_well", "_law_some"] sp_one := by
  refine T.F__law_one.ok sc__law_one (fun vs H Q E h => ?_) (fun cdv A outer s H vs Q E hr h => ?_)
  · obtain ⟨p, l, a, b, c, xs, rfl, _⟩ := h
    rfl
  · obtain ⟨p, l, a, b, c, xs, rfl, hpl, hp, hl, l0, l1, q⟩ := h
    refine ⟨_, (pss_one (ps_ret (pe_ix ix_list (pv 1) (pe_call (ok__law_draw T) (hr.mono (by decide)) (by rfl) T.g__law_draw T.F__law_draw.kp T.b__law_draw .nil pass0 (pa_cons (pv 0) (pa_cons (pe_callB call_len_seq (by rfl) T.n_len (by decide +kernel) (pa_cons (pv 1) pa_nil)) pa_nil))) (fun _ _ => rfl)))), ?_⟩
    refine ⟨_, rfl, _, rfl, _, rfl, l, xs, rfl, .inl (.inl (.inl hl)), p, a, b, c, _, rfl, hp, by omega, by omega, fun n a' c' n0 n1 => ?_⟩
    obtain ⟨k, rfl⟩ := Int.eq_ofNat_of_zero_le n0
    have hk : k < xs.length := by omega
    exact ⟨l, xs, (k : Int), xs[k], rfl, rfl, .inl (.inl (by rw [upd_ne hpl.symm]; exact hl)), atI_nat (List.getElem?_eq_getElem hk), q k _ a' c' (List.getElem?_eq_getElem hk)⟩
/-- 1 << b -/
theorem shl_span {b : Nat} (hb : Wd b) : (1 : Int) * 2 ^ ((b : Int)).toNat = (span b : Int) := by rcases hb with rfl | rfl <;> rfl
theorem shl_ok {b : Nat} (hb : Wd b) : CPow 1 (b : Int) := by rcases hb with rfl | rfl <;> exact ⟨by decide, by decide, by decide⟩
def sp_ldoubled : Sp := fun vs H Q _ => ∃ b x : Nat, vs = [vN b, vN x] ∧ Wd b ∧ x < span b ∧ Q (vN (dbl b x)) H
theorem ok__law_doubled (T : Txt K mg) : FnOk P w K mg base CX0 1 T.f__law_doubled T.d__law_doubled ["_law_wide", "_law_one_here"] sp_ldoubled := by
  refine T.F__law_doubled.ok sc__law_doubled (fun vs H Q E h => ?_) (fun cdv A outer s H vs Q E hr h => ?_)
  · obtain ⟨b, x, rfl, _⟩ := h
    rfl
  · obtain ⟨b, x, rfl, hb, hx, q⟩ := h
    refine ⟨_, (pss_cons (ps_set (i := 2) sc__law_doubled.nd rfl (.inl rfl) (pe_ifExp (pt_cmpR op_eq (pv 0) pe_int (nomark _)) pe_int pe_int))
      (pss_one (ps_ret (pe_ifExp (pt_cmpR op_lt (pe_op op_mul (pv 1) pe_int) (pe_op op_shl pe_int (pv 0)) (nomark _)) (pe_op op_mul (pv 1) pe_int) (pe_op op_xor (pe_op op_sub (pe_op op_mul (pv 1) pe_int) (pe_op op_shl pe_int (pv 0))) (pv 2)))))), ?_⟩
    have key : ∀ z : V, z = vN (foldw b) → (tRet (tIf (tTest (tOp (rI0 fun i j => .bl (decide (i < j))) (tOp (rI CMul fun i j => .int (i * j)) (tVar 1) (tC (.int 2))) (tOp (rI CPow fun i j => .int (i * 2 ^ j.toNat)) (tC (.int 1)) (tVar 0))))
        (tOp (rI CMul fun i j => .int (i * j)) (tVar 1) (tC (.int 2))) (tOp (rI0 fun i j => .int (Builtin.bitXor i j)) (tOp (rI0 fun i j => .int (i - j)) (tOp (rI CMul fun i j => .int (i * j)) (tVar 1) (tC (.int 2))) (tOp (rI CPow fun i j => .int (i * 2 ^ j.toNat)) (tC (.int 1)) (tVar 0))) (tVar 2)))) { nx := fun _ H' => Q .non H', rt := Q } [some (vN b), some (vN x), some z] H := by
      rintro z rfl
      refine ⟨_, rfl, _, _, rfl, rfl, .inr (by decide), _, rfl, _, _, rfl, rfl, shl_ok hb, _, _, rfl, rfl, _, rfl, ?_⟩
      rw [shl_span hb]
      refine ite2 (fun c => ?_) (fun c => ?_)
      · refine ⟨_, rfl, _, _, rfl, rfl, .inr (by decide), ?_⟩
        have c' : (x : Int) * 2 < (span b : Int) := of_decide_eq_true c
        have e : dbl b x = x * 2 := by
          unfold dbl
          rw [show Nat.blt (2 * x) (span b) = true by rw [Nat.blt_eq]; omega]
          exact Nat.mul_comm 2 x
        rw [e] at q
        show Q (.int ((x : Int) * 2)) H
        rw [show (x : Int) * 2 = ((x * 2 : Nat) : Int) by omega]
        exact q
      · have c' : ¬ (x : Int) * 2 < (span b : Int) := fun z => c (decide_eq_true z)
        refine ⟨_, rfl, _, _, rfl, rfl, .inr (by decide), _, rfl, _, _, rfl, rfl, shl_ok hb, _, _, rfl, rfl, _, rfl, _, _, rfl, rfl, ?_⟩
        have e : dbl b x = (2 * x - span b) ^^^ foldw b := by
          unfold dbl
          rw [show Nat.blt (2 * x) (span b) = false by rw [← Bool.not_eq_true, Nat.blt_eq]; omega]
          rfl
        rw [e] at q
        show Q (.int (Builtin.bitXor ((x : Int) * 2 - 1 * 2 ^ ((b : Int)).toNat) (foldw b : Int))) H
        rw [shl_span hb, show (x : Int) * 2 - (span b : Int) = ((2 * x - span b : Nat) : Int) by omega, bx]
        exact q
    refine ⟨_, rfl, rfl, _, rfl, ?_⟩
    refine ite2 (fun c => ?_) (fun c => ?_)
    · have e4 : b = 4 := by have := V.int.inj (of_decide_eq_true c); omega
      exact key _ (by rw [e4]; rfl)
    · have e8 : b = 8 := by
        rcases hb with rfl | rfl
        · exact absurd (decide_eq_true rfl) c
        · rfl
      exact key _ (by rw [e8]; rfl)
def sp_lproduct : Sp := fun vs H Q _ => ∃ b x y : Nat, vs = [vN b, vN x, vN y] ∧ Wd b ∧ x < span b ∧ y < span b ∧ Q (vN (mul b x y)) H
theorem ok__law_product (T : Txt K mg) : FnOk P w K mg base CX0 2 T.f__law_product T.d__law_product ["_law_wide", "_law_one_here", "_law_other"] sp_lproduct := by
  refine T.F__law_product.ok sc__law_product (fun vs H Q E h => ?_) (fun cdv A outer s H vs Q E hr h => ?_)
  · obtain ⟨b, x, y, rfl, _⟩ := h
    rfl
  · obtain ⟨b, x, y, rfl, hb, hx, hy, q⟩ := h
    refine ⟨_, (pss_cons (ps_par (i := 3) (j := 4) (by rfl) sc__law_product.nd rfl rfl (by decide) rfl rfl (pa_cons pe_int (pa_cons (pv 1) pa_nil)) (by rfl))
      (pss_cons (ps_for PassesOwn.never rfl (pi_range1 (by rfl) T.n_range (pa_cons (pv 0) pa_nil)) (pg_name (i := 5) sc__law_product.nd rfl (.inl rfl)) (pss_cons (ps_if (pt_cmpR op_eq (pe_op op_mod (pe_callTy call_int1 (by rfl) T.n_int (by decide +kernel) (pa_cons (pe_op op_shr (pv 2) (pv 5)) pa_nil)) pe_int) pe_int (nomark _)) (pss_one (ps_set (i := 3) sc__law_product.nd rfl (.inl rfl) (pe_op op_xor (pv 3) (pv 4)))) pss_nil)
      (pss_one (ps_set (i := 4) sc__law_product.nd rfl (.inl rfl) (pe_call (ok__law_doubled T) (hr.mono (by decide)) (by rfl) T.g__law_doubled T.F__law_doubled.kp T.b__law_doubled .nil pass0 (pa_cons (pv 0) (pa_cons (pv 4) pa_nil)))))))
      (pss_one (ps_ret (pv 3))))), ?_⟩
    have hb8 : b ≤ 8 := by rcases hb with rfl | rfl <;> decide
    refine ⟨_, rfl, _, _, rfl, _, rfl, _, rfl, by omega, by omega, ?_⟩
    refine for_range (fun i σ H' => ∃ (t o : Nat) (z : Option V), σ = [some (vN b), some (vN x), some (vN y), some (vN t), some (vN o), z] ∧ o < span b ∧ t ^^^ mulF b (b - i) o (y / 2 ^ i) = mul b x y ∧ H' = H) ?_ ?_ ?_
    · exact ⟨0, x, none, rfl, hx, by simp [mul], rfl⟩
    · rintro i σ H' hi ⟨t, o, z, rfl, ho, he, rfl⟩
      have hi' : i < b := by simpa using hi
      have hm : t ^^^ ((cond (Nat.beq ((y / 2 ^ i) % 2) 1) o 0) ^^^ mulF b (b - (i + 1)) (dbl b o) (y / 2 ^ (i + 1))) = mul b x y := by
        rw [show b - i = (b - (i + 1)) + 1 by omega] at he
        rw [Nat.pow_succ, ← Nat.div_div_eq_div_mul]
        exact he
      refine ⟨_, rfl, _, rfl, _, _, rfl, rfl, by omega, .inl ⟨_, rfl, _, _, rfl, rfl, (show (0 : Int) < 2 by decide), rfl, _, rfl, ?_⟩⟩
      have ev : (y : Int) / 2 ^ ((0 : Int) + (i : Int)).toNat % 2 = ((y / 2 ^ i % 2 : Nat) : Int) := by
        rw [show ((0 : Int) + (i : Int)).toNat = i by omega]
        simp
      refine ite2 (fun c => ?_) (fun c => ?_)
      · have hodd : y / 2 ^ i % 2 = 1 := by
          have e1 : (y : Int) / 2 ^ ((0 : Int) + (i : Int)).toNat % 2 = 1 := V.int.inj (of_decide_eq_true c)
          rw [ev] at e1
          omega
        rw [hodd] at hm
        refine ⟨_, rfl, _, rfl, _, _, rfl, rfl, _, rfl, _, rfl, b, o, rfl, hb, ho, ?_⟩
        refine ⟨t ^^^ o, dbl b o, some (.int (0 + (i : Int))), ?_, dbl_lt hb ho, ?_, rfl⟩
        · show [some (vN b), some (vN x), some (vN y), some (V.int _), some (vN (dbl b o)), _] = _
          rw [bx]
          rfl
        · rw [Nat.xor_assoc]
          exact hm
      · have hz : y / 2 ^ i % 2 = 0 := by
          have e1 : ¬ (y : Int) / 2 ^ ((0 : Int) + (i : Int)).toNat % 2 = 1 := fun z => c (decide_eq_true (congrArg V.int z))
          rw [ev] at e1
          omega
        rw [hz] at hm
        refine ⟨_, rfl, _, rfl, b, o, rfl, hb, ho, ?_⟩
        refine ⟨t, dbl b o, some (.int (0 + (i : Int))), rfl, dbl_lt hb ho, ?_, rfl⟩
        have e : (cond (Nat.beq 0 1) o 0) ^^^ mulF b (b - (i + 1)) (dbl b o) (y / 2 ^ (i + 1)) = mulF b (b - (i + 1)) (dbl b o) (y / 2 ^ (i + 1)) := Nat.zero_xor _
        rw [e] at hm
        exact hm
    · rintro σ H' ⟨t, o, z, rfl, ho, he, rfl⟩
      have e0 : b - ((b : Int)).toNat = 0 := by omega
      rw [e0] at he
      have e1 : t = mul b x y := by
        rw [← he]
        exact (Nat.xor_zero t).symm
      rw [← e1] at q
      exact ⟨_, rfl, q⟩
def sp_lpowers : Sp := fun vs H Q _ => ∃ b : Nat, vs = [vN b] ∧ Wd b ∧ ∀ p H', Same H H' → H p = none → H' p = some (.lst ((pws b).map vN)) → Q (.ref p) H'
theorem ok__law_powers (T : Txt K mg) : FnOk P w K mg base CX0 2 T.f__law_powers T.d__law_powers ["_law_wide"] sp_lpowers := by
  refine T.F__law_powers.ok sc__law_powers (fun vs H Q E h => ?_) (fun cdv A outer s H vs Q E hr h => ?_)
  · obtain ⟨b, rfl, _⟩ := h
    rfl
  · obtain ⟨b, rfl, hb, q⟩ := h
    refine ⟨_, (pss_cons (ps_set (i := 1) sc__law_powers.nd rfl (.inl rfl) (pe_lst (pa_cons pe_int pa_nil)))
      (pss_cons (ps_for PassesOwn.never rfl (pi_range1 (by rfl) T.n_range (pa_cons (pe_op op_sub (pe_op op_shl pe_int (pv 0)) pe_int) pa_nil)) (pg_name (i := 2) sc__law_powers.nd rfl (.inl rfl)) (pss_one (ps_expr (pe_bm PySem.F.plainAttrs_list PySem.F.slot_list_append PySem.F.type_list_append mt_append (pv 1) (pa_cons (pe_call (ok__law_doubled T) (hr.mono (by decide)) (by rfl) T.g__law_doubled T.F__law_doubled.kp T.b__law_doubled .nil pass0 (pa_cons (pv 0) (pa_cons (pe_ix ix_list (pv 1) (pe_un un_neg pe_int) (fun _ _ => rfl)) pa_nil))) pa_nil)))))
      (pss_one (ps_ret (pv 1))))), ?_⟩
    refine ⟨by decide, fun p hp => ?_⟩
    have ht : (1 : Int) * 2 ^ ((b : Int)).toNat - 2 = ((turn b - 1 : Nat) : Int) := by rw [shl_span hb]; rcases hb with rfl | rfl <;> rfl
    have hs := span_small hb
    have hs2 := span_eq hb
    refine ⟨_, rfl, _, _, rfl, rfl, shl_ok hb, _, _, rfl, rfl, _, rfl, ?_, ?_, ?_⟩
    · rw [ht]; omega
    · rw [ht]; omega
    rw [ht]
    refine for_range (fun i σ H' => ∃ z : Option V, σ = [some (vN b), some (.ref p), z] ∧ Same H H' ∧ H' p = some (.lst ((List.range (i + 1)).map fun i => vN (pw b i)))) ?_ ?_ ?_
    · exact ⟨none, rfl, same_upd hp, upd_same⟩
    · rintro i σ H' hi ⟨z, rfl, sm, hH⟩
      have hi' : i < turn b - 1 := by simpa using hi
      have hl : atI ((List.range (i + 1)).map fun i => vN (pw b i)) (-1) = some (vN (pw b i)) := by
        rw [List.range_succ, List.map_append]
        exact atI_last _ _
      refine ⟨.ref p, rfl, .inl ⟨rfl, _, .inl (.inl hH)⟩, ?_⟩
      refine ⟨_, rfl, .ref p, rfl, 1, rfl, p, _, _, _, rfl, rfl, .inl (.inl hH), hl, b, pw b i, rfl, hb, pw_lt hb i, ?_⟩
      refine ⟨p, _, _, rfl, rfl, hH, ?_, ⟨_, rfl, fun c o e => ?_, ?_⟩⟩
      · rw [List.length_map, List.length_range]
        exact small1000 (by omega)
      · rw [upd_ne (ne_of_none e hp)]
        exact sm c o e
      · rw [upd_same, List.range_succ (n := i + 1), List.map_append]
        rfl
    · rintro σ H' ⟨z, rfl, sm, hH⟩
      refine ⟨.ref p, rfl, q p H' sm hp ?_⟩
      rw [hH, pws, List.map_map]
      have := turn_pos hb
      rw [show (((turn b - 1 : Nat) : Int)).toNat + 1 = turn b by omega]
      rfl
/-- what stands but for p stays -/
def Kp (p : Addr) (H H' : Hp) : Prop := ∀ b o, H b = some o → b ≠ p → H' b = some o
theorem Kp.upd {p : Addr} {H : Hp} {o : HO} : Kp p H (upd H p o) := fun b u e n => by
  rw [upd_ne n]
  exact e
theorem Kp.trans {p : Addr} {H H1 H2 : Hp} (a : Kp p H H1) (b : Kp p H1 H2) : Kp p H H2 := fun c o e n => b c o (a c o e n) n
theorem Same.kp {p : Addr} {H H1 : Hp} (a : Same H H1) : Kp p H H1 := fun c o e _ => a c o e
def sp_word : Sp := fun vs H Q _ => ∃ (p : Addr) (a b c : Int) (w : Nat), vs = [.ref p, vN w] ∧ Wd w ∧ H p = some (WellL a b c) ∧ ∀ (x : Nat) (a' c' : Int) (H' : Hp), x < span w → Kp p H H' → H' p = some (WellL a' b c') → Q (vN x) H'
theorem ok__law_word (T : Txt K mg) : FnOk P w K mg base CX0 2 T.f__law_word T.d__law_word ["_law_well", "_law_wide"] sp_word := by
  refine T.F__law_word.ok sc__law_word (fun vs H Q E h => ?_) (fun cdv A outer s H vs Q E hr h => ?_)
  · obtain ⟨p, a, b, c, w, rfl, _⟩ := h
    rfl
  · obtain ⟨p, a, b, c, w, rfl, hw, hp, q⟩ := h
    refine ⟨_, (pss_cons (ps_set (i := 2) sc__law_word.nd rfl (.inl rfl) (pe_op op_shl pe_int (pv 1)))
      (pss_one (ps_ret (pe_ix ix_list (pe_lst (pa_cons pe_int (pa_cons pe_int (pa_cons pe_int (pa_cons (pe_op op_sub (pv 2) pe_int) (pa_cons (pe_op op_fdiv (pv 2) pe_int) (pa_cons (pe_call (ok__law_draw T) (hr.mono (by decide)) (by rfl) T.g__law_draw T.F__law_draw.kp T.b__law_draw .nil pass0 (pa_cons (pv 0) (pa_cons (pv 2) pa_nil))) (pa_cons (pe_call (ok__law_draw T) (hr.mono (by decide)) (by rfl) T.g__law_draw T.F__law_draw.kp T.b__law_draw .nil pass0 (pa_cons (pv 0) (pa_cons (pv 2) pa_nil))) pa_nil)))))))) (pe_call (ok__law_draw T) (hr.mono (by decide)) (by rfl) T.g__law_draw T.F__law_draw.kp T.b__law_draw .nil pass0 (pa_cons (pv 0) (pa_cons pe_int pa_nil))) (fun _ _ => rfl))))), ?_⟩
    have hs0 : 0 < span w := by rcases hw with rfl | rfl <;> decide
    have hs1 := span_small hw
    have hs2 : 16 ≤ span w := by rcases hw with rfl | rfl <;> decide
    refine ⟨_, rfl, _, _, rfl, rfl, shl_ok hw, ?_⟩
    have e := shl_span hw
    have key : ∀ m : Int, m = (span w : Int) → (tRet (tOp (rIxL K) (tLst (tCons (tC (.int 0)) (tCons (tC (.int 1)) (tCons (tC (.int 2)) (tCons (tOp (rI0 fun i j => .int (i - j)) (tVar 2) (tC (.int 1))) (tCons (tOp (rI CDiv fun i j => .int (i / j)) (tVar 2) (tC (.int 2)))
        (tCons (tCall sp_draw [] E0 (tCons (tVar 0) (tCons (tVar 2) tNil))) (tCons (tCall sp_draw [] E0 (tCons (tVar 0) (tCons (tVar 2) tNil))) tNil)))))))) (tCall sp_draw [] E0 (tCons (tVar 0) (tCons (tC (.int 7)) tNil))))) { nx := fun _ H' => Q .non H', rt := Q } [some (.ref p), some (vN w), some (.int m)] H := by
      rintro m rfl
      refine ⟨_, rfl, _, _, rfl, rfl, _, rfl, _, _, rfl, rfl, ⟨by decide, by decide⟩, ?_⟩
      refine ⟨_, rfl, _, rfl, p, a, b, c, _, rfl, hp, by omega, by omega, fun n1 a1 c1 n10 n11 => ?_⟩
      refine ⟨_, rfl, _, rfl, p, a1, b, c1, _, rfl, upd_same, by omega, by omega, fun n2 a2 c2 n20 n21 => ?_⟩
      refine ⟨(by show 7 ≤ sizeLine; decide), fun l hl => ?_⟩
      have hpl : p ≠ l := ne_of_none upd_same hl
      have hlH : H l = none := by
        rw [upd_ne hpl.symm, upd_ne hpl.symm] at hl
        exact hl
      refine ⟨_, rfl, p, a2, b, c2, 7, rfl, by rw [upd_ne hpl]; exact upd_same, by decide, by decide, fun k a3 c3 k0 k1 => ?_⟩
      obtain ⟨k, rfl⟩ := Int.eq_ofNat_of_zero_le k0
      obtain ⟨n1, rfl⟩ := Int.eq_ofNat_of_zero_le n10
      obtain ⟨n2, rfl⟩ := Int.eq_ofNat_of_zero_le n20
      have hk : k < 7 := by omega
      have hx : ∃ x : Nat, ([V.int 0, V.int 1, V.int 2, V.int ((span w : Int) - 1), V.int ((span w : Int) / 2), V.int (n1 : Int), V.int (n2 : Int)] : List V)[k]? = some (vN x) ∧ x < span w := by
        match k, hk with
        | 0, _ => exact ⟨0, rfl, by omega⟩
        | 1, _ => exact ⟨1, rfl, by omega⟩
        | 2, _ => exact ⟨2, rfl, by omega⟩
        | 3, _ => exact ⟨span w - 1, by show some (V.int ((span w : Int) - 1)) = some (V.int ((span w - 1 : Nat) : Int)); rw [show (span w : Int) - 1 = ((span w - 1 : Nat) : Int) by omega], by omega⟩
        | 4, _ => exact ⟨span w / 2, by show some (V.int ((span w : Int) / 2)) = some (V.int ((span w / 2 : Nat) : Int)); rw [show (span w : Int) / 2 = ((span w / 2 : Nat) : Int) by omega], by omega⟩
        | 5, _ => exact ⟨n1, rfl, by omega⟩
        | 6, _ => exact ⟨n2, rfl, by omega⟩
      obtain ⟨x, ex, hx⟩ := hx
      refine ⟨l, _, (k : Int), _, rfl, rfl, .inl (.inl (by rw [upd_ne hpl.symm]; exact upd_same)), atI_nat ex, q x a3 c3 _ hx ?_ upd_same⟩
      intro d o ed nd
      rw [upd_ne nd, upd_ne (ne_of_none ed hlH), upd_ne nd, upd_ne nd]
      exact ed
    exact key _ e
theorem eqT {x y : V} {Q : VK} {H : Hp} (h : x = y) (q : Q (.bl true) H) : Q (.bl (decide (x = y))) H := by
  rw [decide_eq_true h]
  exact q
theorem len_pws (b : Nat) : ((pws b).map vN).length = turn b := by rw [List.length_map, pws_len]
theorem at_sum {b x y : Nat} (hb : Wd b) (hx : x < span b) (hy : y < span b) (h0 : x ≠ 0) (h1 : y ≠ 0) :
    atI ((pws b).map vN) (((lg b x : Nat) : Int) + ((lg b y : Nat) : Int) |> fun z => z % ((((pws b).map vN).length : Nat) : Int)) = some (vN (mul b x y)) := by
  show atI ((pws b).map vN) ((((lg b x : Nat) : Int) + ((lg b y : Nat) : Int)) % ((((pws b).map vN).length : Nat) : Int)) = _
  rw [len_pws, show (((lg b x : Nat) : Int) + ((lg b y : Nat) : Int)) % ((turn b : Nat) : Int) = (((lg b x + lg b y) % turn b : Nat) : Int) by push_cast; rfl]
  refine atI_nat ?_
  rw [List.getElem?_map, pws_at (Nat.mod_lt _ (turn_pos hb)), ← pw_mod hb, ← pw_mul hb, pw_lg hb hx h0, pw_lg hb hy h1]
  rfl
theorem quo_mul {b x y : Nat} (hb : Wd b) (hx : x < span b) (hy : y < span b) (h1 : y ≠ 0) : quo b (mul b x y) y = x := by
  unfold quo
  by_cases h0 : x = 0
  · subst h0
    have e : mul b 0 y = 0 := zero_mulF hb _ _
    rw [e]
    exact zero_mulF hb _ _
  · have ex := pw_lg hb hx h0
    have ey := pw_lg hb hy h1
    have e : mul b x y = pw b (lg b x + lg b y) := by rw [← pw_mul hb, ex, ey]
    rw [e, pw_mul hb]
    have h := pw_add_mul hb (lg b x) (lg b y)
    have e2 : lg b x + lg b y + lg b y * (turn b - 1) = lg b x + lg b y * turn b := by
      have ht := turn_pos hb
      have : lg b y * turn b = lg b y * (turn b - 1) + lg b y := by
        rw [← Nat.mul_succ]
        rw [show (turn b - 1).succ = turn b by omega]
      omega
    rw [e2, h, ex]
theorem mul_quo {b x y : Nat} (hb : Wd b) (hx : x < span b) (hy : y < span b) (h1 : y ≠ 0) : mul b (quo b x y) y = x := by
  unfold quo
  by_cases h0 : x = 0
  · subst h0
    have e : mul b 0 (pw b (lg b y * (turn b - 1))) = 0 := zero_mulF hb _ _
    rw [e]
    exact zero_mulF hb _ _
  · have ex := pw_lg hb hx h0
    have ey := pw_lg hb hy h1
    have e : mul b x (pw b (lg b y * (turn b - 1))) = pw b (lg b x + lg b y * (turn b - 1)) := by rw [← pw_mul hb, ex]
    have e3 : mul b (pw b (lg b x + lg b y * (turn b - 1))) y = pw b (lg b x + lg b y * (turn b - 1) + lg b y) := by
      rw [← pw_mul hb _ (lg b x + lg b y * (turn b - 1)), ey]
    rw [e, e3]
    have h := pw_add_mul hb (lg b x) (lg b y)
    have e2 : lg b x + lg b y * (turn b - 1) + lg b y = lg b x + lg b y * turn b := by
      have ht := turn_pos hb
      have : lg b y * turn b = lg b y * (turn b - 1) + lg b y := by
        rw [← Nat.mul_succ]
        rw [show (turn b - 1).succ = turn b by omega]
      omega
    rw [e2, h, ex]
theorem quo_lt {b x y : Nat} (hb : Wd b) (hx : x < span b) : quo b x y < span b := mul_lt hb hx
def sp_pair_right : Sp := fun vs H Q _ => ∃ (b x y : Nat) (l : Addr), vs = [vN b, .ref l, vN x, vN y] ∧ Wd b ∧ x < span b ∧ y < span b ∧ H l = some (.lst ((pws b).map vN)) ∧ Q (.bl true) H
theorem ok__law_pair_right (T : Txt K mg) : FnOk P w K mg base CX0 6 T.f__law_pair_right T.d__law_pair_right ["_law_wide", "_law_powers_here", "_law_one_here", "_law_other"] sp_pair_right := by
  refine T.F__law_pair_right.ok sc__law_pair_right (fun vs H Q E h => ?_) (fun cdv A outer s H vs Q E hr h => ?_)
  · obtain ⟨b, x, y, l, rfl, _⟩ := h
    rfl
  · obtain ⟨b, x, y, l, rfl, hb, hx, hy, hl, q⟩ := h
    refine ⟨_, (pss_cons (ps_set (i := 4) sc__law_pair_right.nd rfl (.inl rfl) (pe_call (ok__law_product T) (hr.mono (by decide)) (by rfl) T.g__law_product T.F__law_product.kp T.b__law_product .nil pass0 (pa_cons (pv 0) (pa_cons (pv 2) (pa_cons (pv 3) pa_nil)))))
      (pss_cons (ps_if (PW.pt (pw_or (pt_cmpR op_ne (pe_call (ok_product T) (hr.mono (by decide)) (by rfl) T.g_product T.F_product.kp T.b_product .nil pass0 (pa_cons (pv 0) (pa_cons (pv 2) (pa_cons (pv 3) pa_nil)))) (pv 4) (nomark _)) (pw_or1 (pt_cmpR op_ne (pe_call (ok_product T) (hr.mono (by decide)) (by rfl) T.g_product T.F_product.kp T.b_product .nil pass0 (pa_cons (pv 0) (pa_cons (pv 3) (pa_cons (pv 2) pa_nil)))) (pv 4) (nomark _))))) (pss_one (ps_ret pe_bl)) pss_nil)
      (Evl.pss_cut (ps_if (PW.pt (pw_and (pt_cmpR op_ne (pv 2) pe_int (nomark _)) (pw_and1 (pt_cmpR op_ne (pv 3) pe_int (nomark _))))) (pss_cons (ps_set (i := 5) sc__law_pair_right.nd rfl (.inl rfl) (pe_op op_add (pe_bm PySem.F.plainAttrs_list PySem.F.slot_list_index PySem.F.type_list_index mt_index (pv 1) (pa_cons (pv 2) pa_nil)) (pe_bm PySem.F.plainAttrs_list PySem.F.slot_list_index PySem.F.type_list_index mt_index (pv 1) (pa_cons (pv 3) pa_nil))))
      (pss_one (ps_if (pt_cmpR op_ne (pv 4) (pe_ix ix_list (pv 1) (pe_op op_mod (pe_callTy call_int1 (by rfl) T.n_int (by decide +kernel) (pa_cons (pv 5) pa_nil)) (pe_callB call_len_seq (by rfl) T.n_len (by decide +kernel) (pa_cons (pv 1) pa_nil))) (fun _ _ => rfl)) (nomark _)) (pss_one (ps_ret pe_bl)) pss_nil))) pss_nil)
      (Evl.pss_cut (ps_if (pt_cmpR op_ne (pv 3) pe_int (nomark _)) (pss_cons (ps_set (i := 6) sc__law_pair_right.nd rfl (.inl rfl) (pe_call (ok_quotient T) (hr.mono (by decide)) (by rfl) T.g_quotient T.F_quotient.kp T.b_quotient .nil pass0 (pa_cons (pv 0) (pa_cons (pv 2) (pa_cons (pv 3) pa_nil)))))
      (pss_one (ps_if (PW.pt (pw_or (pt_cmpR op_ne (pe_call (ok_quotient T) (hr.mono (by decide)) (by rfl) T.g_quotient T.F_quotient.kp T.b_quotient .nil pass0 (pa_cons (pv 0) (pa_cons (pv 4) (pa_cons (pv 3) pa_nil)))) (pv 2) (nomark _)) (pw_or1 (pt_cmpR op_ne (pe_call (ok_product T) (hr.mono (by decide)) (by rfl) T.g_product T.F_product.kp T.b_product .nil pass0 (pa_cons (pv 0) (pa_cons (pv 6) (pa_cons (pv 3) pa_nil)))) (pv 2) (nomark _))))) (pss_one (ps_ret pe_bl)) pss_nil))) pss_nil)
      (pss_one (ps_ret (pe_cmpR op_eq (pe_call (ok_product T) (hr.mono (by decide)) (by rfl) T.g_product T.F_product.kp T.b_product .nil pass0 (pa_cons (pv 0) (pa_cons (pe_op op_xor (pv 2) (pv 3)) (pa_cons pe_int pa_nil)))) (pe_op op_xor (pe_call (ok_product T) (hr.mono (by decide)) (by rfl) T.g_product T.F_product.kp T.b_product .nil pass0 (pa_cons (pv 0) (pa_cons (pv 2) (pa_cons pe_int pa_nil)))) (pe_call (ok_product T) (hr.mono (by decide)) (by rfl) T.g_product T.F_product.kp T.b_product .nil pass0 (pa_cons (pv 0) (pa_cons (pv 3) (pa_cons pe_int pa_nil))))) (nomark _)))))))), ?_⟩
    have h3 : 3 < span b := by rcases hb with rfl | rfl <;> decide
    -- due, the products
    refine ⟨_, rfl, _, rfl, _, rfl, b, x, y, rfl, hb, hx, hy, ?_⟩
    refine ⟨_, rfl, _, rfl, _, rfl, b, x, y, rfl, hb, hx, hy, _, rfl, rfl, _, rfl, iteNS rfl ?_⟩
    refine ⟨_, rfl, _, rfl, _, rfl, b, y, x, rfl, hb, hy, hx, _, rfl, rfl, _, rfl, iteNS (by rw [mul_comm hb hy hx]) ?_⟩
    -- the places
    refine ⟨fun σ' H' => ∃ z, σ' = [some (vN b), some (.ref l), some (vN x), some (vN y), some (vN (mul b x y)), z, none] ∧ H' = H, ?_, ?_⟩
    · refine ⟨_, rfl, rfl, _, rfl, ?_⟩
      refine ite2 (fun c => ?_) (fun c => iteF ⟨none, rfl, rfl⟩)
      have h0 : x ≠ 0 := by
        intro z
        subst z
        simp at c
        exact c rfl
      refine ⟨_, rfl, rfl, _, rfl, ?_⟩
      refine ite2 (fun c2 => ?_) (fun c2 => ⟨none, rfl, rfl⟩)
      have h1 : y ≠ 0 := by
        intro z
        subst z
        simp at c2
        exact c2 rfl
      refine ⟨_, rfl, .inl ⟨rfl, _, .inl (.inl hl)⟩, _, rfl, l, _, _, lg b x, _, rfl, rfl, .inl (.inl hl), rfl, all_flat _, ix_pws hb hx h0, eq_vN x, no_pws, ?_⟩
      refine ⟨_, rfl, .inl ⟨rfl, _, .inl (.inl hl)⟩, _, rfl, l, _, _, lg b y, _, rfl, rfl, .inl (.inl hl), rfl, all_flat _, ix_pws hb hy h1, eq_vN y, no_pws, _, _, rfl, rfl, ?_⟩
      refine ⟨_, rfl, _, rfl, _, rfl, .inl ⟨_, rfl, _, rfl, l, _, rfl, .inl (.inl (.inl hl)), _, _, rfl, rfl, ?_, l, _, _, _, rfl, rfl, .inl (.inl hl), at_sum hb hx hy h0 h1, rfl, _, rfl, iteNS rfl ?_⟩⟩
      · rw [len_pws]
        have := turn_pos hb
        omega
      · exact ⟨some _, rfl, rfl⟩
    · rintro σ' H' ⟨z, rfl, rfl⟩
      -- the quotients
      refine ⟨fun σ' H'' => ∃ z z2, σ' = [some (vN b), some (.ref l), some (vN x), some (vN y), some (vN (mul b x y)), z, z2] ∧ H'' = H', ?_, ?_⟩
      · refine ⟨_, rfl, rfl, _, rfl, ?_⟩
        refine ite2 (fun c => ?_) (fun c => ⟨z, none, rfl, rfl⟩)
        have h1 : y ≠ 0 := by
          intro z
          subst z
          simp at c
          exact c rfl
        refine ⟨_, rfl, _, rfl, _, rfl, b, x, y, rfl, hb, hx, hy, h1, ?_⟩
        refine ⟨_, rfl, _, rfl, _, rfl, b, mul b x y, y, rfl, hb, mul_lt hb hx, hy, h1, _, rfl, rfl, _, rfl, iteNS (by rw [quo_mul hb hx hy h1]) ?_⟩
        refine ⟨_, rfl, _, rfl, _, rfl, b, quo b x y, y, rfl, hb, quo_lt hb hx, hy, _, rfl, rfl, _, rfl, iteNS (by rw [mul_quo hb hx hy h1]) ?_⟩
        exact ⟨z, _, rfl, rfl⟩
      · rintro σ' H'' ⟨z, z2, rfl, rfl⟩
        refine ⟨_, rfl, _, rfl, _, rfl, _, _, rfl, rfl, b, x ^^^ y, 3, ?_, hb, xor_lt hb hx hy, h3, ?_⟩
        · show [vN b, V.int (Builtin.bitXor (x : Int) (y : Int)), V.int 3] = _
          rw [bx]
          rfl
        refine ⟨_, rfl, _, rfl, b, x, 3, rfl, hb, hx, h3, _, rfl, _, rfl, b, y, 3, rfl, hb, hy, h3, _, _, rfl, rfl, rfl, ?_⟩
        refine eqT ?_ q
        show vN (mul b (x ^^^ y) 3) = V.int (Builtin.bitXor _ _)
        rw [bx, mul, mulF_lin hb _ _ _ _ hx hy]
        rfl
theorem lg_two {b : Nat} (hb : Wd b) : lg b 2 = 1 := by rcases hb with rfl | rfl <;> decide +kernel
theorem pwr_two {b x : Nat} (hb : Wd b) (hx : x < span b) (h0 : x ≠ 0) : pwr b 2 ((lg b x : Nat) : Int) = x := by
  unfold pwr
  have hl := lg_lt hb hx h0
  rw [if_neg (by decide), lg_two hb, Int.emod_eq_of_lt (by omega) (by omega), Nat.one_mul, Int.toNat_natCast, pw_lg hb hx h0]
theorem pwr_pos {b x : Nat} {t : Int} (h0 : x ≠ 0) : pwr b x t = pw b (lg b x * (t % (turn b : Int)).toNat) := if_neg h0
theorem pwr_lt {b x : Nat} {t : Int} (hb : Wd b) : pwr b x t < span b := by
  unfold pwr
  have h16 : 1 < span b := by rcases hb with rfl | rfl <;> decide
  split
  · split <;> omega
  · exact pw_lt hb _
theorem at_pow {b x : Nat} {t : Int} (hb : Wd b) (h0 : x ≠ 0) :
    atI ((pws b).map vN) ((((lg b x : Nat) : Int) * t) % ((((pws b).map vN).length : Nat) : Int)) = some (vN (pwr b x t)) := by
  have ht := turn_pos hb
  have e1 := Int.emod_nonneg (((lg b x : Nat) : Int) * t) (show ((turn b : Nat) : Int) ≠ 0 by omega)
  have e2 := Int.emod_lt_of_pos (((lg b x : Nat) : Int) * t) (show (0 : Int) < ((turn b : Nat) : Int) by omega)
  rw [len_pws]
  obtain ⟨k, ek⟩ := Int.eq_ofNat_of_zero_le e1
  rw [ek]
  refine atI_nat ?_
  have hk : k < turn b := by omega
  rw [List.getElem?_map, pws_at hk, pwr_pos h0]
  have h3 : ((lg b x * (t % (turn b : Int)).toNat) % turn b) = k := by
    have h5 := Int.emod_nonneg t (show ((turn b : Nat) : Int) ≠ 0 by omega)
    have h4 : (((lg b x * (t % (turn b : Int)).toNat) % turn b : Nat) : Int) = (k : Int) := by
      rw [Int.natCast_emod, Int.natCast_mul, Int.toNat_of_nonneg h5, ← ek, Int.mul_emod, Int.emod_emod_of_dvd _ (Int.dvd_refl _), ← Int.mul_emod]
    omega
  rw [pw_mod hb (lg b x * _), h3]
  rfl
theorem pow_inv {b x : Nat} {t : Int} (hb : Wd b) (h0 : x ≠ 0) : mul b (pwr b x t) (pwr b x (0 - t)) = 1 := by
  have ht := turn_pos hb
  rw [pwr_pos h0, pwr_pos h0, pw_mul hb, ← Nat.mul_add]
  have h1 := Int.emod_nonneg t (show ((turn b : Nat) : Int) ≠ 0 by omega)
  have h2 := Int.emod_nonneg (0 - t) (show ((turn b : Nat) : Int) ≠ 0 by omega)
  have h3 := Int.emod_lt_of_pos t (show (0 : Int) < ((turn b : Nat) : Int) by omega)
  have h4 := Int.emod_lt_of_pos (0 - t) (show (0 : Int) < ((turn b : Nat) : Int) by omega)
  have h5 : (t % (turn b : Int) + (0 - t) % (turn b : Int)) % (turn b : Int) = 0 := by
    rw [← Int.add_emod]
    rw [show t + (0 - t) = 0 by omega]
    simp
  have h6 : (t % (turn b : Int)).toNat + ((0 - t) % (turn b : Int)).toNat = 0 ∨ (t % (turn b : Int)).toNat + ((0 - t) % (turn b : Int)).toNat = turn b := by
    generalize t % (turn b : Int) = u at *
    generalize (0 - t) % (turn b : Int) = v at *
    by_cases hz : u + v < (turn b : Int)
    · rw [Int.emod_eq_of_lt (by omega) hz] at h5
      left
      omega
    · right
      have : (u + v - (turn b : Int)) % (turn b : Int) = 0 := by
        rw [Int.sub_emod, h5]
        simp
      rw [Int.emod_eq_of_lt (by omega) (by omega)] at this
      omega
  rcases h6 with h6 | h6
  · rw [h6, Nat.mul_zero]
    rfl
  · rw [h6]
    have := pw_add_mul hb 0 (lg b x)
    rw [Nat.zero_add] at this
    exact this
def sp_powers_right : Sp := fun vs H Q _ => ∃ (b x : Nat) (t : Int) (l : Addr), vs = [vN b, .ref l, vN x, .int t] ∧ Wd b ∧ x < span b ∧ H l = some (.lst ((pws b).map vN)) ∧ ∀ H', Same H H' → Q (.bl true) H'
theorem ok__law_powers_right (T : Txt K mg) : FnOk P w K mg base CX0 6 T.f__law_powers_right T.d__law_powers_right ["_law_wide", "_law_powers_here", "_law_one_here", "_law_times"] sp_powers_right := by
  refine T.F__law_powers_right.ok sc__law_powers_right (fun vs H Q E h => ?_) (fun cdv A outer s H vs Q E hr h => ?_)
  · obtain ⟨b, x, t, l, rfl, _⟩ := h
    rfl
  · obtain ⟨b, x, t, l, rfl, hb, hx, hl, q⟩ := h
    refine ⟨_, (pss_cons (ps_if (pt_cmpR op_eq (pv 2) pe_int (nomark _)) (pss_one (ps_ret (pe_or (pe_cmpR op_lt (pv 3) pe_int (nomark _)) (pe_one (pe_cmpR op_eq (pe_call (ok_power T) (hr.mono (by decide)) (by rfl) T.g_power T.F_power.kp T.b_power .nil pass0 (pa_cons (pv 0) (pa_cons (pv 2) (pa_cons (pv 3) pa_nil)))) (pe_callTy call_int1 (by rfl) T.n_int (by decide +kernel) (pa_cons (pe_cmpR op_eq (pv 3) pe_int (nomark _)) pa_nil)) (nomark _)))))) pss_nil)
      (pss_cons (ps_set (i := 4) sc__law_powers_right.nd rfl (.inl rfl) (pe_bm PySem.F.plainAttrs_list PySem.F.slot_list_index PySem.F.type_list_index mt_index (pv 1) (pa_cons (pv 2) pa_nil)))
      (pss_cons (ps_if (PW.pt (pw_or (pt_cmpR op_ne (pe_call (ok_exponent T) (hr.mono (by decide)) (by rfl) T.g_exponent T.F_exponent.kp T.b_exponent .nil pass0 (pa_cons (pv 0) (pa_cons (pv 2) pa_nil))) (pv 4) (nomark _)) (pw_or1 (pt_cmpR op_ne (pe_call (ok_power T) (hr.mono (by decide)) (by rfl) T.g_power T.F_power.kp T.b_power .nil pass0 (pa_cons (pv 0) (pa_cons pe_int (pa_cons (pv 4) pa_nil)))) (pv 2) (nomark _))))) (pss_one (ps_ret pe_bl)) pss_nil)
      (pss_cons (ps_if (pt_cmpR op_ne (pe_call (ok_power T) (hr.mono (by decide)) (by rfl) T.g_power T.F_power.kp T.b_power .nil pass0 (pa_cons (pv 0) (pa_cons (pv 2) (pa_cons (pv 3) pa_nil)))) (pe_ix ix_list (pv 1) (pe_op op_mod (pe_callTy call_int1 (by rfl) T.n_int (by decide +kernel) (pa_cons (pe_op op_mul (pv 4) (pv 3)) pa_nil)) (pe_callB call_len_seq (by rfl) T.n_len (by decide +kernel) (pa_cons (pv 1) pa_nil))) (fun _ _ => rfl)) (nomark _)) (pss_one (ps_ret pe_bl)) pss_nil)
      (pss_one (ps_ret (pe_cmpR op_eq (pe_call (ok_product T) (hr.mono (by decide)) (by rfl) T.g_product T.F_product.kp T.b_product .nil pass0 (pa_cons (pv 0) (pa_cons (pe_call (ok_power T) (hr.mono (by decide)) (by rfl) T.g_power T.F_power.kp T.b_power .nil pass0 (pa_cons (pv 0) (pa_cons (pv 2) (pa_cons (pv 3) pa_nil)))) (pa_cons (pe_call (ok_power T) (hr.mono (by decide)) (by rfl) T.g_power T.F_power.kp T.b_power .nil pass0 (pa_cons (pv 0) (pa_cons (pv 2) (pa_cons (pe_op op_sub pe_int (pv 3)) pa_nil)))) pa_nil)))) pe_int (nomark _)))))))), ?_⟩
    have h2 : 2 < span b := by rcases hb with rfl | rfl <;> decide
    refine ⟨_, rfl, rfl, _, rfl, ?_⟩
    refine ite2 (fun c => ?_) (fun c => ?_)
    · have e0 : x = 0 := by have := V.int.inj (of_decide_eq_true c); omega
      subst e0
      refine ⟨_, rfl, _, _, rfl, rfl, _, rfl, ?_⟩
      refine ite2 (fun c2 => q H (Same.refl H)) (fun c2 => ?_)
      have ht : 0 ≤ t := by
        have : ¬ t < 0 := fun z => c2 (decide_eq_true z)
        omega
      refine ⟨_, rfl, _, rfl, _, rfl, b, 0, t, rfl, hb, hx, fun _ => ht, _, rfl, rfl, .inr ⟨_, rfl, rfl, ?_⟩⟩
      refine eqT ?_ (q H (Same.refl H))
      show vN (pwr b 0 t) = V.int (if decide (V.int t = V.int 0) = true then 1 else 0)
      have e : pwr b 0 t = if t = 0 then 1 else 0 := rfl
      rw [e]
      by_cases hz : t = 0
      · subst hz
        rfl
      · rw [if_neg hz, if_neg (fun z => hz (V.int.inj (of_decide_eq_true z)))]
        rfl
    · have h0 : x ≠ 0 := fun z => c (by rw [z]; rfl)
      refine ⟨_, rfl, .inl ⟨rfl, _, .inl (.inl hl)⟩, _, rfl, l, _, _, lg b x, _, rfl, rfl, .inl (.inl hl), rfl, all_flat _, ix_pws hb hx h0, eq_vN x, no_pws, ?_⟩
      refine ⟨_, rfl, _, rfl, b, x, rfl, hb, hx, h0, fun H1 s1 => ⟨_, rfl, rfl, _, rfl, iteNS rfl ?_⟩⟩
      have hl1 := s1 _ _ hl
      refine ⟨_, rfl, _, rfl, b, 2, _, rfl, hb, h2, fun z => absurd z (by decide), _, rfl, rfl, _, rfl, iteNS (by rw [pwr_two hb hx h0]) ?_⟩
      have hlg := lg_lt hb hx h0
      have hsm := span_small hb
      have hse := span_eq hb
      refine ⟨_, rfl, _, rfl, _, rfl, b, x, t, rfl, hb, hx, fun z => absurd z h0, _, rfl, _, rfl, _, rfl, _, _, rfl, rfl, .inl ⟨by omega, by omega⟩, .inl ⟨_, rfl, _, rfl, l, _, rfl, .inl (.inl (.inl hl1)), _, _, rfl, rfl, ?_, l, _, _, _, rfl, rfl, .inl (.inl hl1), at_pow hb h0, rfl, _, rfl, iteNS rfl ?_⟩⟩
      · rw [len_pws]
        have := turn_pos hb
        omega
      · refine ⟨_, rfl, _, rfl, _, rfl, _, rfl, b, x, t, rfl, hb, hx, fun z => absurd z h0, _, rfl, _, rfl, _, rfl, _, _, rfl, rfl, b, x, _, rfl, hb, hx, fun z => absurd z h0, b, _, _, rfl, hb, pwr_lt hb, pwr_lt hb, rfl, ?_⟩
        exact eqT (by rw [pow_inv hb h0]; rfl) (q H1 s1)
/-! ### lists of ints, compared -/
theorem dpAll_ints {K : PySem.W.Frag} {H : Hp} : ∀ ns : List Int, DpAll K H (ns.map V.int) (ns.map PyData.int)
  | [] => .nil
  | n :: r => .cons (.int n) (dpAll_ints r)
theorem perm_range {b : Nat} (hb : Wd b) (ns : List Int) (hp : ns.Perm ((pws b).map fun n : Nat => (n : Int))) (hs : ns.Pairwise (· ≤ ·)) : ns = (List.range (turn b)).map fun i : Nat => (1 : Int) + (i : Int) := by
  have h1 : ((pws b).map fun n : Nat => (n : Int)).Perm ((List.range (turn b)).map fun i : Nat => (1 : Int) + (i : Int)) := by
    have e : (List.range (turn b)).map (fun i : Nat => (1 : Int) + (i : Int)) = ((List.range (turn b)).map fun i => 1 + i).map fun n : Nat => (n : Int) := by
      rw [List.map_map]
      refine List.map_congr_left fun i _ => ?_
      show (1 : Int) + (i : Int) = ((1 + i : Nat) : Int)
      omega
    rw [e]
    refine List.Perm.map _ ?_
    rcases hb with rfl | rfl
    · exact List.isPerm_iff.mp (by decide +kernel)
    · exact List.isPerm_iff.mp (by decide +kernel)
  have h2 : ((List.range (turn b)).map fun i : Nat => (1 : Int) + (i : Int)).Pairwise (· ≤ ·) := by
    rw [List.pairwise_map]
    refine List.Pairwise.imp ?_ List.pairwise_lt_range
    intro x y h
    omega
  exact (hp.trans h1).eq_of_pairwise (fun x y _ _ a b => Int.le_antisymm a b) hs h2
def rngD (b : Nat) : PyData := .list (((List.range (turn b)).map fun i : Nat => (1 : Int) + (i : Int)).map PyData.int)
theorem rngD_eqv {b : Nat} (hb : Wd b) : PyData.eqv (rngD b) (rngD b) = true := by
  rcases hb with rfl | rfl <;> decide +kernel
theorem rngD_shaped {b : Nat} (hb : Wd b) : SeqAt.shaped (rngD b) = true := by
  rcases hb with rfl | rfl <;> decide +kernel
theorem rgV_eq {b : Nat} (hb : Wd b) (e : Int) (he : e = (span b : Int)) : rgV 1 e = ((List.range (turn b)).map fun i : Nat => (1 : Int) + (i : Int)).map V.int := by
  have hs := span_eq hb
  unfold rgV
  rw [List.map_map, show (e - 1).toNat = turn b by omega]
  rfl
theorem pws_ints (b : Nat) : (pws b).map vN = ((pws b).map fun n : Nat => (n : Int)).map V.int := by
  rw [List.map_map]
  rfl
def sp_small : Sp := fun vs H Q _ => vs = [] ∧ ∀ H', Same H H' → Q (.bl true) H'
theorem ok__law_small_right (T : Txt K mg) : FnOk P w K mg base CX0 7 T.f__law_small_right T.d__law_small_right [] sp_small := by
  refine T.F__law_small_right.ok sc__law_small_right (fun vs H Q E h => ?_) (fun cdv A outer s H vs Q E hr h => ?_)
  · obtain ⟨rfl, _⟩ := h
    rfl
  · obtain ⟨rfl, q⟩ := h
    refine ⟨_, (pss_cons (ps_set (i := 0) sc__law_small_right.nd rfl (.inl rfl) (pe_call (ok__law_powers T) (hr.mono (by decide)) (by rfl) T.g__law_powers T.F__law_powers.kp T.b__law_powers .nil pass0 (pa_cons pe_int pa_nil)))
      (pss_cons (ps_if (pt_cmpR (op_neD hr.units) (pe_callB cr_sortedI (by rfl) T.n_sorted (by decide +kernel) (pa_cons (pv 0) pa_nil)) (pe_listRg rfl (by rfl) T.n_list (prg_2 (by rfl) T.n_range pe_int pe_int)) (nomark _)) (pss_one (ps_ret pe_bl)) pss_nil)
      (pss_cons (ps_for PassesOwn.never rfl (pi_range1 (by rfl) T.n_range (pa_cons pe_int pa_nil)) (pg_name (i := 1) sc__law_small_right.nd rfl (.inl rfl)) (pss_one (ps_for PassesOwn.never rfl (pi_range1 (by rfl) T.n_range (pa_cons pe_int pa_nil)) (pg_name (i := 2) sc__law_small_right.nd rfl (.inl rfl)) (pss_one (ps_if (PW.pt (pw_or (pt_not (pt_val (pe_call (ok__law_pair_right T) (hr.mono (by decide)) (by rfl) T.g__law_pair_right T.F__law_pair_right.kp T.b__law_pair_right .nil pass0 (pa_cons pe_int (pa_cons (pv 0) (pa_cons (pv 1) (pa_cons (pv 2) pa_nil))))))) (pw_or1 (pt_not (pt_val (pe_call (ok__law_powers_right T) (hr.mono (by decide)) (by rfl) T.g__law_powers_right T.F__law_powers_right.kp T.b__law_powers_right .nil pass0 (pa_cons pe_int (pa_cons (pv 0) (pa_cons (pv 1) (pa_cons (pe_op op_sub (pv 2) pe_int) pa_nil)))))))))) (pss_one (ps_ret pe_bl)) pss_nil)))))
      (pss_one (ps_ret pe_bl))))), ?_⟩
    have hb : Wd 4 := .inl rfl
    refine ⟨4, rfl, hb, fun l H1 s1 hn hl => ?_⟩
    refine ⟨_, rfl, l, _, rfl, .inl (.inl (by rw [← pws_ints]; exact hl)), fun ns p hpm hpw hp => ?_⟩
    have e := perm_range hb ns hpm hpw
    subst e
    refine ⟨1, 16, rfl, rfl, RgOk.of_le (by decide) (by decide) (by decide) (by decide), fun p2 hp2 => ?_⟩
    have s2 := s1.trans ((same_upd hp).trans (same_upd (o := .lst (rgV 1 16)) hp2))
    have hpp : p ≠ p2 := ne_of_none upd_same hp2
    refine ⟨rngD 4, rngD 4, .lst (.inl (.inl (by rw [upd_ne hpp]; exact upd_same))) (dpAll_ints _), .lst (.inl (.inl (by rw [upd_same, rgV_eq hb 16 rfl]))) (dpAll_ints _), rngD_shaped hb, rngD_shaped hb, _, rfl, ?_⟩
    rw [rngD_eqv hb]
    refine iteF ?_
    have hl2 := (Same.trans (same_upd hp) (same_upd (o := .lst (rgV 1 16)) hp2)) _ _ hl
    refine ⟨_, rfl, by decide, by decide, ?_⟩
    refine for_range (fun i σ H' => ∃ z z2 : Option V, σ = [some (.ref l), z, z2] ∧ Same H H' ∧ H' l = some (.lst ((pws 4).map vN))) ⟨none, none, rfl, s2, hl2⟩ ?_ ?_
    · rintro i σ H' hi ⟨z, z2, rfl, sm, hL⟩
      have hi' : i < 16 := by simpa using hi
      refine ⟨_, rfl, by decide, by decide, ?_⟩
      refine for_range (fun j σ H' => ∃ z2 : Option V, σ = [some (.ref l), some (.int (0 + (i : Int))), z2] ∧ Same H H' ∧ H' l = some (.lst ((pws 4).map vN))) ⟨z2, rfl, sm, hL⟩ ?_ ?_
      · rintro j σ H' hj ⟨z2, rfl, sm, hL⟩
        have hj' : j < 16 := by simpa using hj
        have ei : V.int (0 + (i : Int)) = vN i := by rw [Int.zero_add]; rfl
        have ej : V.int (0 + (j : Int)) = vN j := by rw [Int.zero_add]; rfl
        refine ⟨_, rfl, _, rfl, _, rfl, 4, i, j, l, ?_, hb, hi', hj', hL, _, rfl, iteF ?_⟩
        · rw [ei, ej]
          rfl
        refine ⟨_, rfl, _, rfl, _, rfl, _, _, rfl, rfl, 4, i, (0 + (j : Int)) - 7, l, ?_, hb, hi', hL, fun H3 s3 => ⟨_, rfl, iteF ?_⟩⟩
        · rw [ei]
          rfl
        exact ⟨_, rfl, sm.trans s3, s3 _ _ hL⟩
      · rintro σ H' ⟨z2, rfl, sm, hL⟩
        exact ⟨_, _, rfl, sm, hL⟩
    · rintro σ H' ⟨z, z2, rfl, sm, hL⟩
      exact q H' sm
def sp_law (K : PySem.W.Frag) : Sp := fun vs H Q _ => ∃ (a : Addr) (ns : List Int), vs = [.ref a] ∧ SqL K H a (ns.map V.int) ∧ ns.length ≤ 63 ∧ ∀ H', Q (.bl true) H'
theorem ok_law (T : Txt K mg) : FnOk P w K mg base CX0 8 T.f_law T.d_law ["_law_script"] (sp_law K) := by
  refine T.F_law.ok sc_law (fun vs H Q E h => ?_) (fun cdv A outer s H vs Q E hr h => ?_)
  · obtain ⟨a, ns, rfl, _⟩ := h
    rfl
  · obtain ⟨a, ns, rfl, hS, hlen, q⟩ := h
    refine ⟨_, (pss_cons (ps_set (i := 1) sc_law.nd rfl (.inl rfl) (pe_call (ok__law_powers T) (hr.mono (by decide)) (by rfl) T.g__law_powers T.F__law_powers.kp T.b__law_powers .nil pass0 (pa_cons pe_int pa_nil)))
      (pss_cons (ps_if (PW.pt (pw_or (pt_cmpR (op_neD hr.units) (pe_callB cr_sortedI (by rfl) T.n_sorted (by decide +kernel) (pa_cons (pv 1) pa_nil)) (pe_listRg rfl (by rfl) T.n_list (prg_2 (by rfl) T.n_range pe_int pe_int)) (nomark _)) (pw_or1 (pt_not (pt_val (pe_call0 (ok__law_small_right T) (hr.mono (by decide)) (by rfl) T.g__law_small_right T.F__law_small_right.kp T.b__law_small_right .nil pass0)))))) (pss_one (ps_ret pe_bl)) pss_nil)
      (pss_cons (ps_for PassesOwn.never rfl (pi_enum (by rfl) T.n_enumerate (pa_cons (pe_slice sl_list (pe_op op_catL (pv 0) (pe_lst (pa_cons pe_int (pa_cons pe_int pa_nil)))) po_none (po_some pe_int)) pa_nil)) (pg_tup rfl (pgs_cons (pg_name (i := 2) sc_law.nd rfl (.inl rfl)) (pgs_cons (pg_name (i := 3) sc_law.nd rfl (.inl rfl)) pgs_nil))) (pss_cons (ps_set (i := 4) sc_law.nd rfl (.inl rfl) (pe_lst (pa_cons (pe_op op_mul (pv 3) (pe_callTy call_int1 (by rfl) T.n_int (by decide +kernel) (pa_cons (pe_cmpR op_ge (pv 3) (pe_op op_pow pe_int pe_int) (nomark _)) pa_nil))) (pa_cons (pe_op op_add (pe_op op_mod (pe_callTy call_int1 (by rfl) T.n_int (by decide +kernel) (pa_cons (pv 3) pa_nil)) pe_int) (pe_op op_mul pe_int (pv 2))) (pa_cons pe_int pa_nil)))))
      (pss_one (ps_for PassesOwn.never rfl (pi_range1 (by rfl) T.n_range (pa_cons pe_int pa_nil)) (pg_name (i := 5) sc_law.nd rfl (.inl rfl)) (pss_cons (ps_par (i := 6) (j := 7) (by rfl) sc_law.nd rfl rfl (by decide) rfl rfl (pa_cons (pe_call (ok__law_word T) (hr.mono (by decide)) (by rfl) T.g__law_word T.F__law_word.kp T.b__law_word .nil pass0 (pa_cons (pv 4) (pa_cons pe_int pa_nil))) (pa_cons (pe_call (ok__law_word T) (hr.mono (by decide)) (by rfl) T.g__law_word T.F__law_word.kp T.b__law_word .nil pass0 (pa_cons (pv 4) (pa_cons pe_int pa_nil))) pa_nil)) (by rfl))
      (pss_cons (ps_set (i := 8) sc_law.nd rfl (.inl rfl) (pe_call (ok__law_one T) (hr.mono (by decide)) (by rfl) T.g__law_one T.F__law_one.kp T.b__law_one .nil pass0 (pa_cons (pv 4) (pa_cons (pe_lst (pa_cons pe_int (pa_cons pe_int (pa_cons (pe_un un_neg pe_int) (pa_cons pe_int (pa_cons pe_int (pa_cons pe_int (pa_cons pe_int (pa_cons (pe_un un_neg pe_int) (pa_cons (pe_op op_pow pe_int pe_int) (pa_cons (pe_op op_sub (pe_call (ok__law_draw T) (hr.mono (by decide)) (by rfl) T.g__law_draw T.F__law_draw.kp T.b__law_draw .nil pass0 (pa_cons (pv 4) (pa_cons pe_int pa_nil))) pe_int) pa_nil))))))))))) pa_nil))))
      (pss_one (ps_if (PW.pt (pw_or (pt_not (pt_val (pe_call (ok__law_pair_right T) (hr.mono (by decide)) (by rfl) T.g__law_pair_right T.F__law_pair_right.kp T.b__law_pair_right .nil pass0 (pa_cons pe_int (pa_cons (pv 1) (pa_cons (pv 6) (pa_cons (pv 7) pa_nil))))))) (pw_or1 (pt_not (pt_val (pe_call (ok__law_powers_right T) (hr.mono (by decide)) (by rfl) T.g__law_powers_right T.F__law_powers_right.kp T.b__law_powers_right .nil pass0 (pa_cons pe_int (pa_cons (pv 1) (pa_cons (pv 6) (pa_cons (pv 8) pa_nil)))))))))) (pss_one (ps_ret pe_bl)) pss_nil))))))))
      (pss_one (ps_ret pe_bl))))), ?_⟩
    have hb : Wd 8 := .inr rfl
    refine ⟨8, rfl, hb, fun l H1 s1 hn hl => ?_⟩
    refine ⟨_, rfl, l, _, rfl, .inl (.inl (by rw [← pws_ints]; exact hl)), fun ns' p hpm hpw hp => ?_⟩
    have e := perm_range hb ns' hpm hpw
    subst e
    refine ⟨1, 256, rfl, rfl, RgOk.of_le (by decide) (by decide) (by decide) (by decide), fun p2 hp2 => ?_⟩
    have s2 := s1.trans ((same_upd hp).trans (same_upd (o := .lst (rgV 1 256)) hp2))
    have hpp : p ≠ p2 := ne_of_none upd_same hp2
    refine ⟨rngD 8, rngD 8, .lst (.inl (.inl (by rw [upd_ne hpp]; exact upd_same))) (dpAll_ints _), .lst (.inl (.inl (by rw [upd_same, rgV_eq hb 256 rfl]))) (dpAll_ints _), rngD_shaped hb, rngD_shaped hb, _, rfl, ?_⟩
    rw [rngD_eqv hb]
    refine iteF ?_
    have hl2 := (Same.trans (same_upd hp) (same_upd (o := .lst (rgV 1 256)) hp2)) _ _ hl
    refine ⟨rfl, fun H3 s3 => ⟨_, rfl, iteF ?_⟩⟩
    have hl3 := s3 _ _ hl2
    have hS3 : SqL K H3 a (ns.map V.int) := (s2.trans s3).seq hS
    -- the cells
    refine ⟨_, rfl, (by show 2 ≤ sizeLine; decide), fun p3 hp3 => ?_⟩
    have hS4 : SqL K (upd H3 p3 (.lst [.int 0, .int 1])) a (ns.map V.int) := (same_upd hp3).seq hS3
    refine ⟨a, p3, _, _, rfl, rfl, hS4, .inl (.inl upd_same), ?_, fun p4 hp4 => ?_⟩
    · rw [List.length_map]
      exact Nat.le_of_lt (small1000 (by show ns.length + 2 ≤ 1000; omega))
    refine ⟨20, rfl, p4, _, rfl, .inl (.inl upd_same), fun p5 hp5 => ?_⟩
    have hl5 := ((same_upd hp3).trans ((same_upd hp4).trans (same_upd (o := .lst (cutV (ns.map V.int ++ [.int 0, .int 1]) none (some 20))) hp5))) _ _ hl3
    refine ⟨p5, _, rfl, .inl (.inl upd_same), ?_⟩
    refine for_it (walk_enum (K := K) (a := p5) (xs := cutV (ns.map V.int ++ [.int 0, .int 1]) none (some 20))) (fun i σ H' => ∃ z2 z3 z4 z5 z6 z7 z8 : Option V, σ = [some (.ref a), some (.ref l), z2, z3, z4, z5, z6, z7, z8] ∧ H' l = some (.lst ((pws 8).map vN)) ∧ H' p5 = some (.lst (cutV (ns.map V.int ++ [.int 0, .int 1]) none (some 20))))
      ⟨_, _, _, _, _, _, _, rfl, hl5, upd_same⟩ (fun i σ H' _ ⟨_, _, _, _, _, _, _, _, _, h5⟩ => .inl (.inl h5)) ?_ (fun σ H' _ => q H')
    rintro i x σ H4 H5 hi ⟨z2, z3, z4, z5, z6, z7, z8, rfl, hl4, h54⟩ ⟨T1, x1, y1, rfl, hT, rfl, e1, e2⟩
    have ex1 : x1 = .int (i : Int) := (Option.some.inj e1).symm
    subst ex1
    obtain ⟨cell, rfl⟩ : ∃ c, y1 = V.int c := by
      have hm := List.mem_of_getElem? e2
      have hm2 : y1 ∈ ns.map V.int ++ [.int 0, .int 1] := List.mem_of_mem_drop (List.mem_of_mem_take hm)
      rcases List.mem_append.mp hm2 with h | h
      · obtain ⟨c, _, rfl⟩ := List.mem_map.mp h
        exact ⟨c, rfl⟩
      · simp at h
        rcases h with rfl | rfl <;> exact ⟨_, rfl⟩
    refine ⟨T1, [.int (i : Int), .int cell], rfl, .inl (.inl upd_same), rfl, .int (i : Int), [.int cell], rfl, .int cell, [], rfl, rfl, ?_⟩
    -- the well
    refine ⟨_, rfl, _, rfl, _, _, rfl, rfl, ⟨by decide, by decide, by decide⟩, _, _, rfl, rfl, .inr ⟨_, rfl, _, _, rfl, rfl, .inr (by split <;> decide), _, rfl, .inl ⟨_, rfl, _, _, rfl, rfl, (show (0 : Int) < 2147483647 by decide), _, rfl, _, _, rfl, rfl, .inl (by decide), _, _, rfl, rfl, (by show 3 ≤ sizeLine; decide), fun p6 hp6 => ?_⟩⟩⟩
    have hl6 := (same_upd (o := .tup [.int (i : Int), .int cell]) hT) _ _ hl4
    have h56 := (same_upd (o := .tup [.int (i : Int), .int cell]) hT) _ _ h54
    have n6l : l ≠ p6 := ne_of_none hl6 hp6
    have n65 : p5 ≠ p6 := ne_of_none h56 hp6
    refine ⟨_, rfl, by decide, by decide, ?_⟩
    refine for_range (fun j σ H' => ∃ (a1 b1 c1 : Int) (z5 z6 z7 z8 : Option V), σ = [some (.ref a), some (.ref l), some (.int (i : Int)), some (.int cell), some (.ref p6), z5, z6, z7, z8] ∧ H' l = some (.lst ((pws 8).map vN)) ∧ H' p5 = some (.lst (cutV (ns.map V.int ++ [.int 0, .int 1]) none (some 20))) ∧ H' p6 = some (WellL a1 b1 c1))
      ⟨_, _, _, _, _, _, _, rfl, by rw [upd_ne n6l]; exact hl6, by rw [upd_ne n65]; exact h56, upd_same⟩ ?_ ?_
    · rintro j σ H7 hj ⟨a1, b1, c1, z5, z6, z7, z8, rfl, hl7, h57, h67⟩
      refine ⟨_, rfl, p6, a1, b1, c1, 8, rfl, hb, h67, fun x1 a2 c2 H8 hx1 k8 h68 => ?_⟩
      refine ⟨_, rfl, p6, a2, b1, c2, 8, rfl, hb, h68, fun x2 a3 c3 H9 hx2 k9 h69 => ⟨_, _, rfl, ?_⟩⟩
      have hl9 := k9 _ _ (k8 _ _ hl7 n6l) n6l
      have h59 := k9 _ _ (k8 _ _ h57 n65) n65
      refine ⟨_, rfl, _, rfl, _, rfl, _, _, rfl, rfl, ⟨by decide, by decide, by decide⟩, _, rfl, p6, a3, b1, c3, 1000, rfl, h69, by decide, by decide, fun n a4 c4 n0 n1 => ⟨_, _, rfl, rfl, (by show 10 ≤ sizeLine; decide), fun p7 hp7 => ?_⟩⟩
      have n67 : p6 ≠ p7 := ne_of_none upd_same hp7
      have hp7' : H9 p7 = none := by
        rw [upd_ne n67.symm] at hp7
        exact hp7
      have n7l : l ≠ p7 := ne_of_none hl9 hp7'
      have n75 : p5 ≠ p7 := ne_of_none h59 hp7'
      refine ⟨p6, p7, a4, b1, c4, _, rfl, n67, by rw [upd_ne n67]; exact upd_same, upd_same, (by show 0 < 10; decide), (by show 10 ≤ 1000; decide), fun i2 v a5 c5 hv => ?_⟩
      obtain ⟨t, rfl⟩ : ∃ t, v = V.int t := by
        have hm := List.mem_of_getElem? hv
        simp at hm
        rcases hm with rfl | rfl | rfl | rfl | rfl | rfl | rfl | rfl | rfl | rfl <;> exact ⟨_, rfl⟩
      have hl10 : (upd (upd (upd H9 p6 (WellL a4 b1 c4)) p7 (.lst [.int 0, .int 1, .int (-1), .int 2, .int 254, .int 255, .int 256, .int (-255), .int (10 ^ (30 : Int).toNat), .int (n - 500)])) p6 (WellL a5 b1 c5)) l = some (.lst ((pws 8).map vN)) := by
        rw [upd_ne n6l, upd_ne n7l, upd_ne n6l]
        exact hl9
      have h510 : (upd (upd (upd H9 p6 (WellL a4 b1 c4)) p7 (.lst [.int 0, .int 1, .int (-1), .int 2, .int 254, .int 255, .int 256, .int (-255), .int (10 ^ (30 : Int).toNat), .int (n - 500)])) p6 (WellL a5 b1 c5)) p5 = some (.lst (cutV (ns.map V.int ++ [.int 0, .int 1]) none (some 20))) := by
        rw [upd_ne n65, upd_ne n75, upd_ne n65]
        exact h59
      refine ⟨_, rfl, _, rfl, _, rfl, 8, x1, x2, l, rfl, hb, hx1, hx2, hl10, _, rfl, iteF ?_⟩
      refine ⟨_, rfl, _, rfl, _, rfl, 8, x1, t, l, rfl, hb, hx1, hl10, fun H11 s11 => ⟨_, rfl, iteF ?_⟩⟩
      exact ⟨_, _, _, _, _, _, _, rfl, s11 _ _ hl10, s11 _ _ h510, s11 _ _ upd_same⟩
    · rintro σ H7 ⟨a1, b1, c1, z5, z6, z7, z8, rfl, hl7, h57, h67⟩
      exact ⟨_, _, _, _, _, _, _, rfl, hl7, h57⟩
end
theorem all_mk {P : Program} {w : World} {K : PySem.W.Frag} {h : Heap} {mg : Str → Option Value} {fa : Addr} (X : K.In h) (G : h.Ns mainGlobals mg) (hfa : mg "law" = some (.ref fa))
    {f0 : Addr} {od0 an0 : Option Addr} {sl0 : Array (Option Value)} {oc0 kV0 dc0 pm0 cd0 ct0 : Value}
    (a0 : PySem.W.nsIn K mainGlobals "is_number" = some (some (.ref f0)))
    (l0 : K.lookup f0 = some ⟨oc0, od0, .func (PySem.W.fnOf "is_number" "is_number" (defArgs s_is_number) (defBody s_is_number) (defScope s_is_number) .none kV0 dc0 pm0 an0 cd0 ct0), sl0⟩) (c0 : PySem.W.codeIn K cd0 "is_number" = true) (k0 : PySem.W.keepIn K (.ref f0) = true)
    {f1 : Addr} {od1 an1 : Option Addr} {sl1 : Array (Option Value)} {oc1 kV1 dc1 pm1 cd1 ct1 : Value}
    (a1 : PySem.W.nsIn K mainGlobals "is_number_to" = some (some (.ref f1)))
    (l1 : K.lookup f1 = some ⟨oc1, od1, .func (PySem.W.fnOf "is_number_to" "is_number_to" (defArgs s_is_number_to) (defBody s_is_number_to) (defScope s_is_number_to) .none kV1 dc1 pm1 an1 cd1 ct1), sl1⟩) (c1 : PySem.W.codeIn K cd1 "is_number_to" = true) (k1 : PySem.W.keepIn K (.ref f1) = true)
    {f2 : Addr} {od2 an2 : Option Addr} {sl2 : Array (Option Value)} {oc2 kV2 dc2 pm2 cd2 ct2 : Value}
    (a2 : PySem.W.nsIn K mainGlobals "is_word" = some (some (.ref f2)))
    (l2 : K.lookup f2 = some ⟨oc2, od2, .func (PySem.W.fnOf "is_word" "is_word" (defArgs s_is_word) (defBody s_is_word) (defScope s_is_word) .none kV2 dc2 pm2 an2 cd2 ct2), sl2⟩) (c2 : PySem.W.codeIn K cd2 "is_word" = true) (k2 : PySem.W.keepIn K (.ref f2) = true)
    {f3 : Addr} {od3 an3 : Option Addr} {sl3 : Array (Option Value)} {oc3 kV3 dc3 pm3 cd3 ct3 : Value}
    (a3 : PySem.W.nsIn K mainGlobals "need_field" = some (some (.ref f3)))
    (l3 : K.lookup f3 = some ⟨oc3, od3, .func (PySem.W.fnOf "need_field" "need_field" (defArgs s_need_field) (defBody s_need_field) (defScope s_need_field) .none kV3 dc3 pm3 an3 cd3 ct3), sl3⟩) (c3 : PySem.W.codeIn K cd3 "need_field" = true) (k3 : PySem.W.keepIn K (.ref f3) = true)
    {f4 : Addr} {od4 an4 : Option Addr} {sl4 : Array (Option Value)} {oc4 kV4 dc4 pm4 cd4 ct4 : Value}
    (a4 : PySem.W.nsIn K mainGlobals "need_word" = some (some (.ref f4)))
    (l4 : K.lookup f4 = some ⟨oc4, od4, .func (PySem.W.fnOf "need_word" "need_word" (defArgs s_need_word) (defBody s_need_word) (defScope s_need_word) .none kV4 dc4 pm4 an4 cd4 ct4), sl4⟩) (c4 : PySem.W.codeIn K cd4 "need_word" = true) (k4 : PySem.W.keepIn K (.ref f4) = true)
    {f5 : Addr} {od5 an5 : Option Addr} {sl5 : Array (Option Value)} {oc5 kV5 dc5 pm5 cd5 ct5 : Value}
    (a5 : PySem.W.nsIn K mainGlobals "doubled" = some (some (.ref f5)))
    (l5 : K.lookup f5 = some ⟨oc5, od5, .func (PySem.W.fnOf "doubled" "doubled" (defArgs s_doubled) (defBody s_doubled) (defScope s_doubled) .none kV5 dc5 pm5 an5 cd5 ct5), sl5⟩) (c5 : PySem.W.codeIn K cd5 "doubled" = true) (k5 : PySem.W.keepIn K (.ref f5) = true)
    {f6 : Addr} {od6 an6 : Option Addr} {sl6 : Array (Option Value)} {oc6 kV6 dc6 pm6 cd6 ct6 : Value}
    (a6 : PySem.W.nsIn K mainGlobals "word_product" = some (some (.ref f6)))
    (l6 : K.lookup f6 = some ⟨oc6, od6, .func (PySem.W.fnOf "word_product" "word_product" (defArgs s_word_product) (defBody s_word_product) (defScope s_word_product) .none kV6 dc6 pm6 an6 cd6 ct6), sl6⟩) (c6 : PySem.W.codeIn K cd6 "word_product" = true) (k6 : PySem.W.keepIn K (.ref f6) = true)
    {f7 : Addr} {od7 an7 : Option Addr} {sl7 : Array (Option Value)} {oc7 kV7 dc7 pm7 cd7 ct7 : Value}
    (a7 : PySem.W.nsIn K mainGlobals "word_power" = some (some (.ref f7)))
    (l7 : K.lookup f7 = some ⟨oc7, od7, .func (PySem.W.fnOf "word_power" "word_power" (defArgs s_word_power) (defBody s_word_power) (defScope s_word_power) .none kV7 dc7 pm7 an7 cd7 ct7), sl7⟩) (c7 : PySem.W.codeIn K cd7 "word_power" = true) (k7 : PySem.W.keepIn K (.ref f7) = true)
    {f8 : Addr} {od8 an8 : Option Addr} {sl8 : Array (Option Value)} {oc8 kV8 dc8 pm8 cd8 ct8 : Value}
    (a8 : PySem.W.nsIn K mainGlobals "product" = some (some (.ref f8)))
    (l8 : K.lookup f8 = some ⟨oc8, od8, .func (PySem.W.fnOf "product" "product" (defArgs s_product) (defBody s_product) (defScope s_product) .none kV8 dc8 pm8 an8 cd8 ct8), sl8⟩) (c8 : PySem.W.codeIn K cd8 "product" = true) (k8 : PySem.W.keepIn K (.ref f8) = true)
    {f9 : Addr} {od9 an9 : Option Addr} {sl9 : Array (Option Value)} {oc9 kV9 dc9 pm9 cd9 ct9 : Value}
    (a9 : PySem.W.nsIn K mainGlobals "quotient" = some (some (.ref f9)))
    (l9 : K.lookup f9 = some ⟨oc9, od9, .func (PySem.W.fnOf "quotient" "quotient" (defArgs s_quotient) (defBody s_quotient) (defScope s_quotient) .none kV9 dc9 pm9 an9 cd9 ct9), sl9⟩) (c9 : PySem.W.codeIn K cd9 "quotient" = true) (k9 : PySem.W.keepIn K (.ref f9) = true)
    {f10 : Addr} {od10 an10 : Option Addr} {sl10 : Array (Option Value)} {oc10 kV10 dc10 pm10 cd10 ct10 : Value}
    (a10 : PySem.W.nsIn K mainGlobals "power" = some (some (.ref f10)))
    (l10 : K.lookup f10 = some ⟨oc10, od10, .func (PySem.W.fnOf "power" "power" (defArgs s_power) (defBody s_power) (defScope s_power) .none kV10 dc10 pm10 an10 cd10 ct10), sl10⟩) (c10 : PySem.W.codeIn K cd10 "power" = true) (k10 : PySem.W.keepIn K (.ref f10) = true)
    {f11 : Addr} {od11 an11 : Option Addr} {sl11 : Array (Option Value)} {oc11 kV11 dc11 pm11 cd11 ct11 : Value}
    (a11 : PySem.W.nsIn K mainGlobals "exponent" = some (some (.ref f11)))
    (l11 : K.lookup f11 = some ⟨oc11, od11, .func (PySem.W.fnOf "exponent" "exponent" (defArgs s_exponent) (defBody s_exponent) (defScope s_exponent) .none kV11 dc11 pm11 an11 cd11 ct11), sl11⟩) (c11 : PySem.W.codeIn K cd11 "exponent" = true) (k11 : PySem.W.keepIn K (.ref f11) = true)
    {f12 : Addr} {od12 an12 : Option Addr} {sl12 : Array (Option Value)} {oc12 kV12 dc12 pm12 cd12 ct12 : Value}
    (a12 : PySem.W.nsIn K mainGlobals "_law_draw" = some (some (.ref f12)))
    (l12 : K.lookup f12 = some ⟨oc12, od12, .func (PySem.W.fnOf "_law_draw" "_law_draw" (defArgs s__law_draw) (defBody s__law_draw) (defScope s__law_draw) .none kV12 dc12 pm12 an12 cd12 ct12), sl12⟩) (c12 : PySem.W.codeIn K cd12 "_law_draw" = true) (k12 : PySem.W.keepIn K (.ref f12) = true)
    {f13 : Addr} {od13 an13 : Option Addr} {sl13 : Array (Option Value)} {oc13 kV13 dc13 pm13 cd13 ct13 : Value}
    (a13 : PySem.W.nsIn K mainGlobals "_law_one" = some (some (.ref f13)))
    (l13 : K.lookup f13 = some ⟨oc13, od13, .func (PySem.W.fnOf "_law_one" "_law_one" (defArgs s__law_one) (defBody s__law_one) (defScope s__law_one) .none kV13 dc13 pm13 an13 cd13 ct13), sl13⟩) (c13 : PySem.W.codeIn K cd13 "_law_one" = true) (k13 : PySem.W.keepIn K (.ref f13) = true)
    {f14 : Addr} {od14 an14 : Option Addr} {sl14 : Array (Option Value)} {oc14 kV14 dc14 pm14 cd14 ct14 : Value}
    (a14 : PySem.W.nsIn K mainGlobals "_law_doubled" = some (some (.ref f14)))
    (l14 : K.lookup f14 = some ⟨oc14, od14, .func (PySem.W.fnOf "_law_doubled" "_law_doubled" (defArgs s__law_doubled) (defBody s__law_doubled) (defScope s__law_doubled) .none kV14 dc14 pm14 an14 cd14 ct14), sl14⟩) (c14 : PySem.W.codeIn K cd14 "_law_doubled" = true) (k14 : PySem.W.keepIn K (.ref f14) = true)
    {f15 : Addr} {od15 an15 : Option Addr} {sl15 : Array (Option Value)} {oc15 kV15 dc15 pm15 cd15 ct15 : Value}
    (a15 : PySem.W.nsIn K mainGlobals "_law_product" = some (some (.ref f15)))
    (l15 : K.lookup f15 = some ⟨oc15, od15, .func (PySem.W.fnOf "_law_product" "_law_product" (defArgs s__law_product) (defBody s__law_product) (defScope s__law_product) .none kV15 dc15 pm15 an15 cd15 ct15), sl15⟩) (c15 : PySem.W.codeIn K cd15 "_law_product" = true) (k15 : PySem.W.keepIn K (.ref f15) = true)
    {f16 : Addr} {od16 an16 : Option Addr} {sl16 : Array (Option Value)} {oc16 kV16 dc16 pm16 cd16 ct16 : Value}
    (a16 : PySem.W.nsIn K mainGlobals "_law_powers" = some (some (.ref f16)))
    (l16 : K.lookup f16 = some ⟨oc16, od16, .func (PySem.W.fnOf "_law_powers" "_law_powers" (defArgs s__law_powers) (defBody s__law_powers) (defScope s__law_powers) .none kV16 dc16 pm16 an16 cd16 ct16), sl16⟩) (c16 : PySem.W.codeIn K cd16 "_law_powers" = true) (k16 : PySem.W.keepIn K (.ref f16) = true)
    {f17 : Addr} {od17 an17 : Option Addr} {sl17 : Array (Option Value)} {oc17 kV17 dc17 pm17 cd17 ct17 : Value}
    (a17 : PySem.W.nsIn K mainGlobals "_law_word" = some (some (.ref f17)))
    (l17 : K.lookup f17 = some ⟨oc17, od17, .func (PySem.W.fnOf "_law_word" "_law_word" (defArgs s__law_word) (defBody s__law_word) (defScope s__law_word) .none kV17 dc17 pm17 an17 cd17 ct17), sl17⟩) (c17 : PySem.W.codeIn K cd17 "_law_word" = true) (k17 : PySem.W.keepIn K (.ref f17) = true)
    {f18 : Addr} {od18 an18 : Option Addr} {sl18 : Array (Option Value)} {oc18 kV18 dc18 pm18 cd18 ct18 : Value}
    (a18 : PySem.W.nsIn K mainGlobals "_law_pair_right" = some (some (.ref f18)))
    (l18 : K.lookup f18 = some ⟨oc18, od18, .func (PySem.W.fnOf "_law_pair_right" "_law_pair_right" (defArgs s__law_pair_right) (defBody s__law_pair_right) (defScope s__law_pair_right) .none kV18 dc18 pm18 an18 cd18 ct18), sl18⟩) (c18 : PySem.W.codeIn K cd18 "_law_pair_right" = true) (k18 : PySem.W.keepIn K (.ref f18) = true)
    {f19 : Addr} {od19 an19 : Option Addr} {sl19 : Array (Option Value)} {oc19 kV19 dc19 pm19 cd19 ct19 : Value}
    (a19 : PySem.W.nsIn K mainGlobals "_law_powers_right" = some (some (.ref f19)))
    (l19 : K.lookup f19 = some ⟨oc19, od19, .func (PySem.W.fnOf "_law_powers_right" "_law_powers_right" (defArgs s__law_powers_right) (defBody s__law_powers_right) (defScope s__law_powers_right) .none kV19 dc19 pm19 an19 cd19 ct19), sl19⟩) (c19 : PySem.W.codeIn K cd19 "_law_powers_right" = true) (k19 : PySem.W.keepIn K (.ref f19) = true)
    {f20 : Addr} {od20 an20 : Option Addr} {sl20 : Array (Option Value)} {oc20 kV20 dc20 pm20 cd20 ct20 : Value}
    (a20 : PySem.W.nsIn K mainGlobals "_law_small_right" = some (some (.ref f20)))
    (l20 : K.lookup f20 = some ⟨oc20, od20, .func (PySem.W.fnOf "_law_small_right" "_law_small_right" (defArgs s__law_small_right) (defBody s__law_small_right) (defScope s__law_small_right) .none kV20 dc20 pm20 an20 cd20 ct20), sl20⟩) (c20 : PySem.W.codeIn K cd20 "_law_small_right" = true) (k20 : PySem.W.keepIn K (.ref f20) = true)
    {f21 : Addr} {od21 an21 : Option Addr} {sl21 : Array (Option Value)} {oc21 kV21 dc21 pm21 cd21 ct21 : Value}
    (a21 : PySem.W.nsIn K mainGlobals "law" = some (some (.ref f21)))
    (l21 : K.lookup f21 = some ⟨oc21, od21, .func (PySem.W.fnOf "law" "law" (defArgs s_law) (defBody s_law) (defScope s_law) .none kV21 dc21 pm21 an21 cd21 ct21), sl21⟩) (c21 : PySem.W.codeIn K cd21 "law" = true) (k21 : PySem.W.keepIn K (.ref f21) = true)
    (z_bool : PySem.W.nsIn K mainGlobals "bool" = some none)
    (z_enumerate : PySem.W.nsIn K mainGlobals "enumerate" = some none)
    (z_int : PySem.W.nsIn K mainGlobals "int" = some none)
    (z_isinstance : PySem.W.nsIn K mainGlobals "isinstance" = some none)
    (z_len : PySem.W.nsIn K mainGlobals "len" = some none)
    (z_list : PySem.W.nsIn K mainGlobals "list" = some none)
    (z_range : PySem.W.nsIn K mainGlobals "range" = some none)
    (z_sorted : PySem.W.nsIn K mainGlobals "sorted" = some none)
    {d_EXPONENTS : Addr} {n_EXPONENTS : Nat} {u_EXPONENTS0 : Tok} {c_EXPONENTS0 : Addr} {u_EXPONENTS1 : Tok} {c_EXPONENTS1 : Addr}
    (a_EXPONENTS : PySem.W.nsIn K mainGlobals "EXPONENTS" = some (some (.ref d_EXPONENTS)))
    (l_EXPONENTS : K.lookup d_EXPONENTS = some ⟨.type "dict", none, .dict #[⟨4, .int 4 u_EXPONENTS0, .ref c_EXPONENTS0⟩, ⟨8, .int 8 u_EXPONENTS1, .ref c_EXPONENTS1⟩] n_EXPONENTS, #[]⟩)
    (w_EXPONENTS : (d_EXPONENTS == sysModules) = false)
    (t_EXPONENTS0 : tupB K c_EXPONENTS0 [0, 0, 1, 12, 2, 9, 13, 7, 3, 4, 10, 5, 14, 11, 8, 6] = true)
    (t_EXPONENTS1 : tupB K c_EXPONENTS1 [0, 0, 1, 231, 2, 207, 232, 59, 3, 35, 208, 154, 233, 20, 60, 183, 4, 159, 36, 66, 209, 118, 155, 251, 234, 245, 21, 11, 61, 130, 184, 146, 5, 122, 160, 79, 37, 113, 67, 106, 210, 224, 119, 221, 156, 242, 252, 32, 235, 213, 246, 135, 22, 42, 12, 140, 62, 227, 131, 75, 185, 191, 147, 94, 6, 70, 123, 195, 161, 53, 80, 167, 38, 109, 114, 203, 68, 51, 107, 49, 211, 40, 225, 189, 120, 111, 222, 240, 157, 116, 243, 128, 253, 205, 33, 18, 236, 163, 214, 98, 247, 55, 136, 102, 23, 82, 43, 177, 13, 169, 141, 89, 63, 8, 228, 151, 132, 72, 76, 218, 186, 125, 192, 200, 148, 197, 95, 174, 7, 150, 71, 217, 124, 199, 196, 173, 162, 97, 54, 101, 81, 176, 168, 88, 39, 188, 110, 239, 115, 127, 204, 17, 69, 194, 52, 166, 108, 202, 50, 48, 212, 134, 41, 139, 226, 74, 190, 93, 121, 78, 112, 105, 223, 220, 241, 31, 158, 65, 117, 250, 244, 10, 129, 145, 254, 230, 206, 58, 34, 153, 19, 182, 237, 15, 164, 46, 215, 171, 99, 86, 248, 143, 56, 180, 137, 91, 103, 29, 24, 25, 83, 26, 44, 84, 178, 27, 14, 45, 170, 85, 142, 179, 90, 28, 64, 249, 9, 144, 229, 57, 152, 181, 133, 138, 73, 92, 77, 104, 219, 30, 187, 238, 126, 16, 193, 165, 201, 47, 149, 216, 198, 172, 96, 100, 175, 87] = true)
    {d_FOLDS : Addr} {n_FOLDS : Nat} {u_FOLDS0 v_FOLDS0 : Tok} {u_FOLDS1 v_FOLDS1 : Tok}
    (a_FOLDS : PySem.W.nsIn K mainGlobals "FOLDS" = some (some (.ref d_FOLDS)))
    (l_FOLDS : K.lookup d_FOLDS = some ⟨.type "dict", none, .dict #[⟨4, .int 4 u_FOLDS0, .int 9 v_FOLDS0⟩, ⟨8, .int 8 u_FOLDS1, .int 113 v_FOLDS1⟩] n_FOLDS, #[]⟩)
    (w_FOLDS : (d_FOLDS == sysModules) = false)
    {d_SPANS : Addr} {n_SPANS : Nat} {u_SPANS0 v_SPANS0 : Tok} {u_SPANS1 v_SPANS1 : Tok}
    (a_SPANS : PySem.W.nsIn K mainGlobals "SPANS" = some (some (.ref d_SPANS)))
    (l_SPANS : K.lookup d_SPANS = some ⟨.type "dict", none, .dict #[⟨4, .int 4 u_SPANS0, .int 16 v_SPANS0⟩, ⟨8, .int 8 u_SPANS1, .int 256 v_SPANS1⟩] n_SPANS, #[]⟩)
    (w_SPANS : (d_SPANS == sysModules) = false)
    : ∃ fd : FuncData, (∀ (s : Shared) (v : Value), BindsTo s fd ⟨[v], []⟩ [("_law_script", v)]) ∧ ∀ base : Heap, K.In base → base.Ns mainGlobals mg → FnOk P w K mg base CX0 8 fa fd ["_law_script"] (sp_law K) := by
  have e := hfa.symm.trans (PySem.W.mg_of X G a21)
  cases e
  let T : Txt K mg := {
    f_is_number := _
    d_is_number := _
    F_is_number := fun_mk (st := s_is_number) l0 c0 k0
    g_is_number := PySem.W.mg_of X G a0
    b_is_number := (fun_mk (st := s_is_number) l0 c0 k0).binds (ps := ["thing"]) (fun _ _ _ _ _ _ us hl => match us, hl with | [_], _ => rfl)
    f_is_number_to := _
    d_is_number_to := _
    F_is_number_to := fun_mk (st := s_is_number_to) l1 c1 k1
    g_is_number_to := PySem.W.mg_of X G a1
    b_is_number_to := (fun_mk (st := s_is_number_to) l1 c1 k1).binds (ps := ["thing", "least", "most"]) (fun _ _ _ _ _ _ us hl => match us, hl with | [_, _, _], _ => rfl)
    f_is_word := _
    d_is_word := _
    F_is_word := fun_mk (st := s_is_word) l2 c2 k2
    g_is_word := PySem.W.mg_of X G a2
    b_is_word := (fun_mk (st := s_is_word) l2 c2 k2).binds (ps := ["bits", "thing"]) (fun _ _ _ _ _ _ us hl => match us, hl with | [_, _], _ => rfl)
    f_need_field := _
    d_need_field := _
    F_need_field := fun_mk (st := s_need_field) l3 c3 k3
    g_need_field := PySem.W.mg_of X G a3
    b_need_field := (fun_mk (st := s_need_field) l3 c3 k3).binds (ps := ["bits"]) (fun _ _ _ _ _ _ us hl => match us, hl with | [_], _ => rfl)
    f_need_word := _
    d_need_word := _
    F_need_word := fun_mk (st := s_need_word) l4 c4 k4
    g_need_word := PySem.W.mg_of X G a4
    b_need_word := (fun_mk (st := s_need_word) l4 c4 k4).binds (ps := ["bits", "part", "thing"]) (fun _ _ _ _ _ _ us hl => match us, hl with | [_, _, _], _ => rfl)
    f_doubled := _
    d_doubled := _
    F_doubled := fun_mk (st := s_doubled) l5 c5 k5
    g_doubled := PySem.W.mg_of X G a5
    b_doubled := (fun_mk (st := s_doubled) l5 c5 k5).binds (ps := ["bits", "one"]) (fun _ _ _ _ _ _ us hl => match us, hl with | [_, _], _ => rfl)
    f_word_product := _
    d_word_product := _
    F_word_product := fun_mk (st := s_word_product) l6 c6 k6
    g_word_product := PySem.W.mg_of X G a6
    b_word_product := (fun_mk (st := s_word_product) l6 c6 k6).binds (ps := ["bits", "one", "other"]) (fun _ _ _ _ _ _ us hl => match us, hl with | [_, _, _], _ => rfl)
    f_word_power := _
    d_word_power := _
    F_word_power := fun_mk (st := s_word_power) l7 c7 k7
    g_word_power := PySem.W.mg_of X G a7
    b_word_power := (fun_mk (st := s_word_power) l7 c7 k7).binds (ps := ["bits", "one", "times"]) (fun _ _ _ _ _ _ us hl => match us, hl with | [_, _, _], _ => rfl)
    f_product := _
    d_product := _
    F_product := fun_mk (st := s_product) l8 c8 k8
    g_product := PySem.W.mg_of X G a8
    b_product := (fun_mk (st := s_product) l8 c8 k8).binds (ps := ["bits", "one", "other"]) (fun _ _ _ _ _ _ us hl => match us, hl with | [_, _, _], _ => rfl)
    f_quotient := _
    d_quotient := _
    F_quotient := fun_mk (st := s_quotient) l9 c9 k9
    g_quotient := PySem.W.mg_of X G a9
    b_quotient := (fun_mk (st := s_quotient) l9 c9 k9).binds (ps := ["bits", "one", "other"]) (fun _ _ _ _ _ _ us hl => match us, hl with | [_, _, _], _ => rfl)
    f_power := _
    d_power := _
    F_power := fun_mk (st := s_power) l10 c10 k10
    g_power := PySem.W.mg_of X G a10
    b_power := (fun_mk (st := s_power) l10 c10 k10).binds (ps := ["bits", "one", "times"]) (fun _ _ _ _ _ _ us hl => match us, hl with | [_, _, _], _ => rfl)
    f_exponent := _
    d_exponent := _
    F_exponent := fun_mk (st := s_exponent) l11 c11 k11
    g_exponent := PySem.W.mg_of X G a11
    b_exponent := (fun_mk (st := s_exponent) l11 c11 k11).binds (ps := ["bits", "one"]) (fun _ _ _ _ _ _ us hl => match us, hl with | [_, _], _ => rfl)
    f__law_draw := _
    d__law_draw := _
    F__law_draw := fun_mk (st := s__law_draw) l12 c12 k12
    g__law_draw := PySem.W.mg_of X G a12
    b__law_draw := (fun_mk (st := s__law_draw) l12 c12 k12).binds (ps := ["_law_well", "_law_many"]) (fun _ _ _ _ _ _ us hl => match us, hl with | [_, _], _ => rfl)
    f__law_one := _
    d__law_one := _
    F__law_one := fun_mk (st := s__law_one) l13 c13 k13
    g__law_one := PySem.W.mg_of X G a13
    b__law_one := (fun_mk (st := s__law_one) l13 c13 k13).binds (ps := ["_law_well", "_law_some"]) (fun _ _ _ _ _ _ us hl => match us, hl with | [_, _], _ => rfl)
    f__law_doubled := _
    d__law_doubled := _
    F__law_doubled := fun_mk (st := s__law_doubled) l14 c14 k14
    g__law_doubled := PySem.W.mg_of X G a14
    b__law_doubled := (fun_mk (st := s__law_doubled) l14 c14 k14).binds (ps := ["_law_wide", "_law_one_here"]) (fun _ _ _ _ _ _ us hl => match us, hl with | [_, _], _ => rfl)
    f__law_product := _
    d__law_product := _
    F__law_product := fun_mk (st := s__law_product) l15 c15 k15
    g__law_product := PySem.W.mg_of X G a15
    b__law_product := (fun_mk (st := s__law_product) l15 c15 k15).binds (ps := ["_law_wide", "_law_one_here", "_law_other"]) (fun _ _ _ _ _ _ us hl => match us, hl with | [_, _, _], _ => rfl)
    f__law_powers := _
    d__law_powers := _
    F__law_powers := fun_mk (st := s__law_powers) l16 c16 k16
    g__law_powers := PySem.W.mg_of X G a16
    b__law_powers := (fun_mk (st := s__law_powers) l16 c16 k16).binds (ps := ["_law_wide"]) (fun _ _ _ _ _ _ us hl => match us, hl with | [_], _ => rfl)
    f__law_word := _
    d__law_word := _
    F__law_word := fun_mk (st := s__law_word) l17 c17 k17
    g__law_word := PySem.W.mg_of X G a17
    b__law_word := (fun_mk (st := s__law_word) l17 c17 k17).binds (ps := ["_law_well", "_law_wide"]) (fun _ _ _ _ _ _ us hl => match us, hl with | [_, _], _ => rfl)
    f__law_pair_right := _
    d__law_pair_right := _
    F__law_pair_right := fun_mk (st := s__law_pair_right) l18 c18 k18
    g__law_pair_right := PySem.W.mg_of X G a18
    b__law_pair_right := (fun_mk (st := s__law_pair_right) l18 c18 k18).binds (ps := ["_law_wide", "_law_powers_here", "_law_one_here", "_law_other"]) (fun _ _ _ _ _ _ us hl => match us, hl with | [_, _, _, _], _ => rfl)
    f__law_powers_right := _
    d__law_powers_right := _
    F__law_powers_right := fun_mk (st := s__law_powers_right) l19 c19 k19
    g__law_powers_right := PySem.W.mg_of X G a19
    b__law_powers_right := (fun_mk (st := s__law_powers_right) l19 c19 k19).binds (ps := ["_law_wide", "_law_powers_here", "_law_one_here", "_law_times"]) (fun _ _ _ _ _ _ us hl => match us, hl with | [_, _, _, _], _ => rfl)
    f__law_small_right := _
    d__law_small_right := _
    F__law_small_right := fun_mk (st := s__law_small_right) l20 c20 k20
    g__law_small_right := PySem.W.mg_of X G a20
    b__law_small_right := (fun_mk (st := s__law_small_right) l20 c20 k20).binds (ps := []) (fun _ _ _ _ _ _ us hl => match us, hl with | [], _ => rfl)
    f_law := _
    d_law := _
    F_law := fun_mk (st := s_law) l21 c21 k21
    g_law := PySem.W.mg_of X G a21
    b_law := (fun_mk (st := s_law) l21 c21 k21).binds (ps := ["_law_script"]) (fun _ _ _ _ _ _ us hl => match us, hl with | [_], _ => rfl)
    n_bool := PySem.W.mg_none_of X G z_bool
    n_enumerate := PySem.W.mg_none_of X G z_enumerate
    n_int := PySem.W.mg_none_of X G z_int
    n_isinstance := PySem.W.mg_none_of X G z_isinstance
    n_len := PySem.W.mg_none_of X G z_len
    n_list := PySem.W.mg_none_of X G z_list
    n_range := PySem.W.mg_none_of X G z_range
    n_sorted := PySem.W.mg_none_of X G z_sorted
    c_EXPONENTS0 := c_EXPONENTS0
    t_EXPONENTS0 := t_EXPONENTS0
    c_EXPONENTS1 := c_EXPONENTS1
    t_EXPONENTS1 := t_EXPONENTS1
    a_EXPONENTS := d_EXPONENTS
    g_EXPONENTS := PySem.W.mg_of X G a_EXPONENTS
    l_EXPONENTS := ⟨_, _, l_EXPONENTS, (.cons (.cons .nil)), w_EXPONENTS⟩
    a_FOLDS := d_FOLDS
    g_FOLDS := PySem.W.mg_of X G a_FOLDS
    l_FOLDS := ⟨_, _, l_FOLDS, (.cons (.cons .nil)), w_FOLDS⟩
    a_SPANS := d_SPANS
    g_SPANS := PySem.W.mg_of X G a_SPANS
    l_SPANS := ⟨_, _, l_SPANS, (.cons (.cons .nil)), w_SPANS⟩ }
  exact ⟨T.d_law, fun s v => .of_eq rfl, fun base _ _ => ok_law T⟩
end My
open PySem PySem.W PyProof.Rows
set_option maxHeartbeats 0 in
theorem PySem.Challenge.cw_dotquilts_k01_whole_fields_holds : PySem.Challenge.rw_dotquilts_k01_whole_fields.Holds := by
  w_on; o_law; k_head; (case hw => w_witness2)
  k_fill
  refine L2.walk_of (l := PySem.Challenge.rw_dotquilts_k01_whole_fields) (n := 63) (k := 8) (x := "_law_script") (CX := fun _ => L2.CX0) (sp := fun w => My.sp_law _) rfl (by decide) rfl ⟨rfl, by decide, by decide⟩ (fun w h Y => PySem.W.kIn_of Y) ?F (fun _ _ a ns hl _ hS => ⟨a, ns, rfl, hS, hl, fun _ => rfl⟩) (fun _ _ _ _ _ h => h)
  case F =>
    intro w mg fa h KX G hmg
    refine' My.all_mk KX G hmg ?a0 ?l0 ?c0 ?k0 ?a1 ?l1 ?c1 ?k1 ?a2 ?l2 ?c2 ?k2 ?a3 ?l3 ?c3 ?k3 ?a4 ?l4 ?c4 ?k4 ?a5 ?l5 ?c5 ?k5 ?a6 ?l6 ?c6 ?k6 ?a7 ?l7 ?c7 ?k7 ?a8 ?l8 ?c8 ?k8 ?a9 ?l9 ?c9 ?k9 ?a10 ?l10 ?c10 ?k10 ?a11 ?l11 ?c11 ?k11 ?a12 ?l12 ?c12 ?k12 ?a13 ?l13 ?c13 ?k13 ?a14 ?l14 ?c14 ?k14 ?a15 ?l15 ?c15 ?k15 ?a16 ?l16 ?c16 ?k16 ?a17 ?l17 ?c17 ?k17 ?a18 ?l18 ?c18 ?k18 ?a19 ?l19 ?c19 ?k19 ?a20 ?l20 ?c20 ?k20 ?a21 ?l21 ?c21 ?k21 ?z_bool ?z_enumerate ?z_int ?z_isinstance ?z_len ?z_list ?z_range ?z_sorted ?a_EXPONENTS ?l_EXPONENTS ?w_EXPONENTS ?t_EXPONENTS0 ?t_EXPONENTS1 ?a_FOLDS ?l_FOLDS ?w_FOLDS ?a_SPANS ?l_SPANS ?w_SPANS
    (case a0 => k_is)
    (case l0 => k_is)
    (case c0 => k_is)
    (case k0 => k_is)
    (case a1 => k_is)
    (case l1 => k_is)
    (case c1 => k_is)
    (case k1 => k_is)
    (case a2 => k_is)
    (case l2 => k_is)
    (case c2 => k_is)
    (case k2 => k_is)
    (case a3 => k_is)
    (case l3 => k_is)
    (case c3 => k_is)
    (case k3 => k_is)
    (case a4 => k_is)
    (case l4 => k_is)
    (case c4 => k_is)
    (case k4 => k_is)
    (case a5 => k_is)
    (case l5 => k_is)
    (case c5 => k_is)
    (case k5 => k_is)
    (case a6 => k_is)
    (case l6 => k_is)
    (case c6 => k_is)
    (case k6 => k_is)
    (case a7 => k_is)
    (case l7 => k_is)
    (case c7 => k_is)
    (case k7 => k_is)
    (case a8 => k_is)
    (case l8 => k_is)
    (case c8 => k_is)
    (case k8 => k_is)
    (case a9 => k_is)
    (case l9 => k_is)
    (case c9 => k_is)
    (case k9 => k_is)
    (case a10 => k_is)
    (case l10 => k_is)
    (case c10 => k_is)
    (case k10 => k_is)
    (case a11 => k_is)
    (case l11 => k_is)
    (case c11 => k_is)
    (case k11 => k_is)
    (case a12 => k_is)
    (case l12 => k_is)
    (case c12 => k_is)
    (case k12 => k_is)
    (case a13 => k_is)
    (case l13 => k_is)
    (case c13 => k_is)
    (case k13 => k_is)
    (case a14 => k_is)
    (case l14 => k_is)
    (case c14 => k_is)
    (case k14 => k_is)
    (case a15 => k_is)
    (case l15 => k_is)
    (case c15 => k_is)
    (case k15 => k_is)
    (case a16 => k_is)
    (case l16 => k_is)
    (case c16 => k_is)
    (case k16 => k_is)
    (case a17 => k_is)
    (case l17 => k_is)
    (case c17 => k_is)
    (case k17 => k_is)
    (case a18 => k_is)
    (case l18 => k_is)
    (case c18 => k_is)
    (case k18 => k_is)
    (case a19 => k_is)
    (case l19 => k_is)
    (case c19 => k_is)
    (case k19 => k_is)
    (case a20 => k_is)
    (case l20 => k_is)
    (case c20 => k_is)
    (case k20 => k_is)
    (case a21 => k_is)
    (case l21 => k_is)
    (case c21 => k_is)
    (case k21 => k_is)
    (case z_bool => k_is)
    (case z_enumerate => k_is)
    (case z_int => k_is)
    (case z_isinstance => k_is)
    (case z_len => k_is)
    (case z_list => k_is)
    (case z_range => k_is)
    (case z_sorted => k_is)
    (case a_EXPONENTS => k_is)
    (case l_EXPONENTS => k_is)
    (case w_EXPONENTS => first | rfl | decide)
    (case t_EXPONENTS0 => first | rfl | decide +kernel | k_is)
    (case t_EXPONENTS1 => first | rfl | decide +kernel | k_is)
    (case a_FOLDS => k_is)
    (case l_FOLDS => k_is)
    (case w_FOLDS => first | rfl | decide)
    (case a_SPANS => k_is)
    (case l_SPANS => k_is)
    (case w_SPANS => first | rfl | decide)

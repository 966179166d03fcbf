import PyProof.Rows.All
import Wide.All
import OpenK.AllK
import Wide.FinOn
import HandS.ForMost
import HandS.IsInst
import HandS.SortInts
import HandS.Evl
import HandS.Conv
import HandS.Walk
import KE.GoesEnum
import KE.GoesMore
import HandS.Defaults
import HandS.Rev
import HandS.TupAny
import HandS.TupMul
import HandS.Flow
import HandS.More
import HandS.Zip
import HandS.TupLe
import PyProof.ZipIter
import PyProof.Draws
import KE.KStar
import HandS.Star
import HandS.Style
import HandS.Strs
import HandS.List
import HandS.Wide
import PySem.Challenge.RW_dotquilts_k43_whole_poses_dot_by_dot
set_option Elab.async false
set_option linter.all false
set_option maxRecDepth 100000
set_option maxHeartbeats 4000000
namespace My
open PySem PySem.Spec PyProof.Rows L2
/-! ### a dict of the module with int keys -/
inductive EntI : List DictEntry → List (Int × Int) → Prop where
  | nil : EntI [] []
  | cons {k v : Int} {t u : Tok} {es : List DictEntry} {kvs : List (Int × Int)} (h : EntI es kvs) (hk : hashInt k = k := by decide +kernel) : EntI (⟨k, .int k t, .int v u⟩ :: es) ((k, v) :: kvs)
def KInt (K : PySem.W.Frag) (d : Addr) (kvs : List (Int × Int)) : Prop :=
  ∃ (es : Array DictEntry) (n : Nat), K.lookup d = some ⟨.type "dict", none, .dict es n, #[]⟩ ∧ EntI es.toList kvs ∧ (d == sysModules) = false
theorem EntI.all {es : List DictEntry} {kvs : List (Int × Int)} (h : EntI es kvs) : ∀ e ∈ es, ∃ k t, e.key = .int k t ∧ e.hash = hashInt k := by
  induction h with
  | nil => intro e he; cases he
  | cons h hk ih =>
    intro e he
    cases he with
    | head => exact ⟨_, _, rfl, hk.symm⟩
    | tail _ m => exact ih e m
def getI (k : Int) : List (Int × Int) → Option Int
  | [] => none
  | (k', v) :: r => if k' = k then some v else getI k r
theorem EntI.find {es : List DictEntry} {kvs : List (Int × Int)} (h : EntI es kvs) (k : Int) :
    (getI k kvs = none → findBy Value.isInt es.toArray k = none) ∧ (∀ v, getI k kvs = some v → ∃ u, findBy Value.isInt es.toArray k = some (.int v u)) := by
  unfold findBy
  rw [List.find?_toArray]
  induction h with
  | nil => exact ⟨fun _ => rfl, fun v z => by cases z⟩
  | @cons k' v t u es kvs h hk ih =>
    rw [List.find?_cons]
    by_cases e : k' = k
    · have q : Value.isInt k (Value.int k' t) = true := by show (k' == k) = true; simp [e]
      simp only [q]
      refine ⟨fun z => ?_, fun v' z => ?_⟩
      · unfold getI at z; rw [if_pos e] at z; cases z
      · unfold getI at z; rw [if_pos e] at z; cases z; exact ⟨u, rfl⟩
    · have q : Value.isInt k (Value.int k' t) = false := by show (k' == k) = false; simp [e]
      simp only [q]
      unfold getI
      rw [if_neg e]
      exact ih
section
variable {X : Cx} {d : Addr} {kvs : List (Int × Int)}
theorem mapInt_K {prog : Program} {w : World} {K : PySem.W.Frag} {h : Heap} {es : Array DictEntry} {n : Nat} (X : K.In h) (hl : K.lookup d = some ⟨.type "dict", none, .dict es n, #[]⟩) (hk : EntI es.toList kvs) :
    h.MapOf (intKind prog w) d (fun k => findBy Value.isInt es k) :=
  ⟨_, es, n, X _ _ hl, ⟨rfl, rfl, rfl⟩, rfl, fun e he => by
    obtain ⟨x, t, e1, e2⟩ := hk.all e (Array.mem_toList_iff.mpr he)
    exact ⟨x, by rw [e1]; exact intKind_is prog w x t, e2⟩, fun _ => rfl⟩
/-- d[k] -/
def rKI (d : Addr) (kvs : List (Int × Int)) : R2 := fun x y H Q => ∃ k v, x = .ref d ∧ y = .int k ∧ getI k kvs = some v ∧ Q (.int v) H
theorem ix_kint (D : KInt X.K d kvs) : IxR X (rKI d kvs) := by
  intro value slice pins s σ H x y v u Q I rx ry h hs
  obtain ⟨k, r, rfl, rfl, e, q⟩ := h
  obtain ⟨es, n, hl, hk, hd⟩ := D
  obtain rfl : v = Value.ref d := rx
  obtain ⟨t, rfl⟩ := ry
  have hm := mapInt_K (prog := X.prog) (w := X.w) I.kIn hl hk
  obtain ⟨u0, eu⟩ := (hk.find k).2 r e
  exact tail_any hm.typeIs slot_dict_getitem.lookup (wpAny_getItem_of (intKind_is X.prog X.w k t) hm eu ⟨.int r, H, I.tok _, ⟨_, rfl⟩, q⟩) hs
/-- k in d, k not in d -/
def rInKI (d : Addr) (kvs : List (Int × Int)) (neg : Bool) : R2 := fun x y H Q => ∃ k, x = .int k ∧ y = .ref d ∧ Q (.bl (if neg then !(getI k kvs).isSome else (getI k kvs).isSome)) H
theorem find_is {es : Array DictEntry} (hk : EntI es.toList kvs) (k : Int) : (findBy Value.isInt es k).isSome = (getI k kvs).isSome := by
  have q : findBy Value.isInt es k = findBy Value.isInt es.toList.toArray k := by simp
  cases e : getI k kvs with
  | none => rw [q, (hk.find k).1 e] <;> rfl
  | some v =>
    obtain ⟨u, eu⟩ := (hk.find k).2 v e
    rw [q, eu]
    rfl
theorem op_inKI (D : KInt X.K d kvs) : OpR X (compareOp .In) (rInKI d kvs false) := by
  intro pins s σ H x y v u Q I rx ry h
  obtain ⟨k, rfl, rfl, q⟩ := h
  obtain ⟨es, n, hl, hk, hd⟩ := D
  obtain ⟨t, rfl⟩ := rx
  cases ry
  refine wpAny_in_of (intKind_is X.prog X.w k t) hd (mapInt_K (prog := X.prog) (w := X.w) I.kIn hl hk) ?_
  exact ⟨.bl _, H, I.tok _, rfl, by rw [find_is hk]; exact q⟩
theorem op_notInKI (D : KInt X.K d kvs) : OpR X (compareOp .NotIn) (rInKI d kvs true) := by
  intro pins s σ H x y v u Q I rx ry h
  obtain ⟨k, rfl, rfl, q⟩ := h
  obtain ⟨es, n, hl, hk, hd⟩ := D
  obtain ⟨t, rfl⟩ := rx
  cases ry
  refine wpAny_notIn_of (intKind_is X.prog X.w k t) hd (mapInt_K (prog := X.prog) (w := X.w) I.kIn hl hk) ?_
  exact ⟨.bl _, H, I.tok _, rfl, by rw [find_is hk]; exact q⟩
/-- xs + ys, whatever kind of lists stand there (the script, too) -/
def rCatL (K : PySem.W.Frag) : R2 := fun x y H Q => ∃ l b xs zs, x = .ref l ∧ y = .ref b ∧ SqL K H l xs ∧ SqL K H b zs ∧ xs.length + zs.length ≤ sizeLine ∧ ∀ p, H p = none → Q (.ref p) (upd H p (.lst (xs ++ zs)))
theorem op_catL : OpR X (binaryOp .Add) (rCatL X.K) := by
  intro pins s σ H x y v u Q I rx ry h
  obtain ⟨l, b, xs, zs, rfl, rfl, hl, hb, hz, q⟩ := h
  cases rx
  cases ry
  obtain ⟨its, r, ⟨⟨cls, dd, data, sl⟩, n, ho, hc, hd, hs⟩, z1⟩ := I.list hl
  obtain ⟨its2, r2, ⟨⟨cls2, dd2, data2, sl2⟩, n2, ho2, hc2, hd2, hs2⟩, z2⟩ := I.list hb
  have e1 := r.length
  have e2 := r2.length
  simp only at hc hd hs hc2 hd2 hs2
  subst hc hd hs hc2 hd2 hs2
  have e : its.toArray ++ its2.toArray = (its ++ its2).toArray := by simp
  refine concat_meets ⟨_, ho, rfl⟩ ⟨_, ho2, rfl⟩ noFill_list_add seq_list_add PySem.F.slot_list_add PySem.F.entry_list_add (PySem.F.args_list_add_2 _ _) (list_addW l b its.toArray its2.toArray n n2 none none sl sl2 (by simp; omega)) ⟨ho, ho2, ?_⟩
  rw [e]
  exact ⟨.ref _, _, I.lnew (t' := s.toks) (r.append r2) (by rw [List.length_append]; omega), rfl, q _ I.fresh⟩
/-- name op= e, by the in-place operator's rule -/
theorem pip_of {op : Operator} {r : R2} (h : OpR X (inplaceOp op) r) : PIp X op r := h
end
end My

set_option Elab.async false
set_option linter.all false
set_option maxRecDepth 100000
set_option maxHeartbeats 4000000
/-! ### written tuples of ints, dicts of the module from ints to objects -/
namespace My
open PySem PySem.Spec PyProof.Rows L2
def intsB : List Value → List Int → Bool
  | [], [] => true
  | .int i _ :: vs, j :: xs => (i == j) && intsB vs xs
  | _, _ => false
def tupB (K : PySem.W.Frag) (a : Addr) (xs : List Int) : Bool :=
  match K.lookup a with
  | some ⟨.type s, none, .seq its _, _⟩ => s == "tuple" && Nat.ble its.size 1000 && intsB its.toList xs
  | _ => false
theorem intsB_ok : ∀ {vs : List Value} {xs : List Int}, intsB vs xs = true → Vals (xs.map V.int) vs
  | [], [], _ => .nil
  | .int i t :: vs, j :: xs, h => by
    have h' : ((i == j) && intsB vs xs) = true := h
    rw [Bool.and_eq_true] at h'
    have e : i = j := by simpa using h'.1
    subst e
    exact .cons ⟨t, rfl⟩ (intsB_ok h'.2)
theorem tupB_ok {K : PySem.W.Frag} {a : Addr} {xs : List Int} {H : Hp} (h : tupB K a xs = true) : SqT K H a (xs.map V.int) := by
  unfold tupB at h
  split at h
  · next s its n _ e =>
    rw [Bool.and_eq_true, Bool.and_eq_true] at h
    have es : s = "tuple" := by simpa using h.1.1
    subst es
    exact .inr ⟨_, its, n, e, rfl, rfl, Nat.le_trans (Nat.le_of_ble_eq_true h.1.2) (by decide), intsB_ok h.2⟩
  · cases h
theorem tupB_ty {K : PySem.W.Frag} {a : Addr} {xs : List Int} (h : tupB K a xs = true) : ∃ o, K.lookup a = some o ∧ o.cls = .type "tuple" ∧ o.dict = none := by
  unfold tupB at h
  split at h
  · next s its n _ e =>
    rw [Bool.and_eq_true, Bool.and_eq_true] at h
    have es : s = "tuple" := by simpa using h.1.1
    subst es
    exact ⟨_, e, rfl, rfl⟩
  · cases h
inductive EntR : List DictEntry → List (Int × Addr) → Prop where
  | nil : EntR [] []
  | cons {k : Int} {v : Addr} {t : Tok} {es : List DictEntry} {kvs : List (Int × Addr)} (h : EntR es kvs) (hk : hashInt k = k := by decide +kernel) : EntR (⟨k, .int k t, .ref v⟩ :: es) ((k, v) :: kvs)
def KRef (K : PySem.W.Frag) (d : Addr) (kvs : List (Int × Addr)) : Prop :=
  ∃ (es : Array DictEntry) (n : Nat), K.lookup d = some ⟨.type "dict", none, .dict es n, #[]⟩ ∧ EntR es.toList kvs ∧ (d == sysModules) = false
theorem EntR.all {es : List DictEntry} {kvs : List (Int × Addr)} (h : EntR es kvs) : ∀ e ∈ es, ∃ k t, e.key = .int k t ∧ e.hash = hashInt k := by
  induction h with
  | nil => intro e he; cases he
  | cons h hk ih =>
    intro e he
    cases he with
    | head => exact ⟨_, _, rfl, hk.symm⟩
    | tail _ m => exact ih e m
def getA (k : Int) : List (Int × Addr) → Option Addr
  | [] => none
  | (k', v) :: r => if k' = k then some v else getA k r
theorem EntR.find {es : List DictEntry} {kvs : List (Int × Addr)} (h : EntR es kvs) (k : Int) :
    (getA k kvs = none → findBy Value.isInt es.toArray k = none) ∧ (∀ v, getA k kvs = some v → findBy Value.isInt es.toArray k = some (.ref v)) := by
  unfold findBy
  rw [List.find?_toArray]
  induction h with
  | nil => exact ⟨fun _ => rfl, fun v z => by cases z⟩
  | @cons k' v t es kvs h hk ih =>
    rw [List.find?_cons]
    by_cases e : k' = k
    · have q : Value.isInt k (Value.int k' t) = true := by show (k' == k) = true; simp [e]
      simp only [q]
      refine ⟨fun z => ?_, fun v' z => ?_⟩
      · unfold getA at z; rw [if_pos e] at z; cases z
      · unfold getA at z; rw [if_pos e] at z; cases z; rfl
    · have q : Value.isInt k (Value.int k' t) = false := by show (k' == k) = false; simp [e]
      simp only [q]
      unfold getA
      rw [if_neg e]
      exact ih
section
variable {X : Cx} {d : Addr} {kvs : List (Int × Addr)}
theorem mapInt_R {prog : Program} {w : World} {K : PySem.W.Frag} {h : Heap} {es : Array DictEntry} {n : Nat} (X : K.In h) (hl : K.lookup d = some ⟨.type "dict", none, .dict es n, #[]⟩) (hk : EntR es.toList kvs) :
    h.MapOf (intKind prog w) d (fun k => findBy Value.isInt es k) :=
  ⟨_, es, n, X _ _ hl, ⟨rfl, rfl, rfl⟩, rfl, fun e he => by
    obtain ⟨x, t, e1, e2⟩ := hk.all e (Array.mem_toList_iff.mpr he)
    exact ⟨x, by rw [e1]; exact intKind_is prog w x t, e2⟩, fun _ => rfl⟩
/-- d[k] -/
def rKR (d : Addr) (kvs : List (Int × Addr)) : R2 := fun x y H Q => ∃ k v, x = .ref d ∧ y = .int k ∧ getA k kvs = some v ∧ Q (.ref v) H
theorem ix_kref (D : KRef X.K d kvs) : IxR X (rKR d kvs) := by
  intro value slice pins s σ H x y v u Q I rx ry h hs
  obtain ⟨k, r, rfl, rfl, e, q⟩ := h
  obtain ⟨es, n, hl, hk, hd⟩ := D
  obtain rfl : v = Value.ref d := rx
  obtain ⟨t, rfl⟩ := ry
  have hm := mapInt_R (prog := X.prog) (w := X.w) I.kIn hl hk
  have eu := (hk.find k).2 r e
  exact tail_any hm.typeIs slot_dict_getitem.lookup (wpAny_getItem_of (intKind_is X.prog X.w k t) hm eu ⟨.ref r, H, I.tok _, rfl, q⟩) hs
end
end My

set_option Elab.async false
set_option linter.all false
set_option maxRecDepth 100000
set_option maxHeartbeats 4000000
namespace My
open PySem PySem.Spec PyProof.Rows L2
/-! ### bits of ints that are not negative -/
theorem bx (a b : Nat) : Builtin.bitXor (a : Int) (b : Int) = ((a ^^^ b : Nat) : Int) := by
  have h := Bits.bitXor_pp (x := (a : Int)) (y := (b : Int)) (by omega) (by omega)
  simpa using h
theorem band1 (a : Nat) : Builtin.bitAnd (a : Int) 1 = ((a % 2 : Nat) : Int) := by
  have h := Bits.bitAnd_mask (x := (a : Int)) 1 (by omega)
  simpa using h
/-! ### the field: words as natural numbers -/
def span (b : Nat) : Nat := cond (Nat.beq b 4) 16 256
def foldw (b : Nat) : Nat := cond (Nat.beq b 4) 9 113
def turn (b : Nat) : Nat := cond (Nat.beq b 4) 15 255
def dbl (b x : Nat) : Nat := cond (Nat.blt (2 * x) (span b)) (2 * x) ((2 * x - span b) ^^^ foldw b)
def mulF (b : Nat) : Nat → Nat → Nat → Nat
  | 0, _, _ => 0
  | n + 1, x, y => (cond (Nat.beq (y % 2) 1) x 0) ^^^ mulF b n (dbl b x) (y / 2)
def mul (b x y : Nat) : Nat := mulF b b x y
def pw (b : Nat) : Nat → Nat
  | 0 => 1
  | n + 1 => dbl b (pw b n)
def pws (b : Nat) : List Nat := (List.range (turn b)).map (pw b)
def Wd (b : Nat) : Prop := b = 4 ∨ b = 8
def allB (p : Nat → Nat → Bool) (n : Nat) : Bool := (List.range n).all fun x => (List.range n).all fun y => p x y
theorem allB_ok {p : Nat → Nat → Bool} {n : Nat} (h : allB p n = true) {x y : Nat} (hx : x < n) (hy : y < n) : p x y = true :=
  List.all_eq_true.mp (List.all_eq_true.mp h x (List.mem_range.mpr hx)) y (List.mem_range.mpr hy)
def linB (b : Nat) (x y : Nat) : Bool := Nat.beq (dbl b (x ^^^ y)) (dbl b x ^^^ dbl b y)
theorem lin4 : allB (linB 4) 16 = true := by decide +kernel
theorem lin8 : allB (linB 8) 256 = true := by decide +kernel
theorem dbl_lin {b x y : Nat} (hb : Wd b) (hx : x < span b) (hy : y < span b) : dbl b (x ^^^ y) = dbl b x ^^^ dbl b y := by
  rcases hb with rfl | rfl
  · exact Nat.eq_of_beq_eq_true (allB_ok lin4 hx hy)
  · exact Nat.eq_of_beq_eq_true (allB_ok lin8 hx hy)
theorem dbl_lt {b x : Nat} (hb : Wd b) (hx : x < span b) : dbl b x < span b := by
  rcases hb with rfl | rfl
  · exact (by decide +kernel : ∀ x, x < 16 → dbl 4 x < 16) x hx
  · exact (by decide +kernel : ∀ x, x < 256 → dbl 8 x < 256) x hx
theorem dbl_zero {b : Nat} (hb : Wd b) : dbl b 0 = 0 := by rcases hb with rfl | rfl <;> rfl
theorem span_pow {b : Nat} (hb : Wd b) : span b = 2 ^ b := by rcases hb with rfl | rfl <;> rfl
theorem xor_lt {b x y : Nat} (hb : Wd b) (hx : x < span b) (hy : y < span b) : x ^^^ y < span b := by
  rw [span_pow hb] at *
  exact Nat.xor_lt_two_pow hx hy
theorem mulF_lt {b : Nat} (hb : Wd b) : ∀ (n x y : Nat), x < span b → mulF b n x y < span b
  | 0, _, _, _ => by
    show 0 < span b
    rcases hb with rfl | rfl <;> decide
  | n + 1, x, y, hx => by
    refine xor_lt hb ?_ (mulF_lt hb n _ _ (dbl_lt hb hx))
    cases Nat.beq (y % 2) 1
    · show 0 < span b; rcases hb with rfl | rfl <;> decide
    · exact hx
theorem mulF_zero {b : Nat} (x : Nat) : ∀ n x, mulF b n x 0 = 0
  | 0, _ => rfl
  | n + 1, x => by
    show (0 : Nat) ^^^ mulF b n (dbl b x) 0 = 0
    rw [mulF_zero x n _]
    rfl
theorem zero_mulF {b : Nat} (hb : Wd b) : ∀ n y, mulF b n 0 y = 0
  | 0, _ => rfl
  | n + 1, y => by
    show (cond (Nat.beq (y % 2) 1) 0 0) ^^^ mulF b n (dbl b 0) (y / 2) = 0
    rw [dbl_zero hb, zero_mulF hb n]
    cases Nat.beq (y % 2) 1 <;> rfl
theorem mulF_lin {b : Nat} (hb : Wd b) : ∀ (n x z y : Nat), x < span b → z < span b → mulF b n (x ^^^ z) y = mulF b n x y ^^^ mulF b n z y
  | 0, _, _, _, _, _ => by
    show (0 : Nat) = 0 ^^^ 0
    rfl
  | n + 1, x, z, y, hx, hz => by
    show (cond (Nat.beq (y % 2) 1) (x ^^^ z) 0) ^^^ mulF b n (dbl b (x ^^^ z)) (y / 2) = ((cond (Nat.beq (y % 2) 1) x 0) ^^^ mulF b n (dbl b x) (y / 2)) ^^^ ((cond (Nat.beq (y % 2) 1) z 0) ^^^ mulF b n (dbl b z) (y / 2))
    rw [dbl_lin hb hx hz, mulF_lin hb n _ _ _ (dbl_lt hb hx) (dbl_lt hb hz)]
    cases Nat.beq (y % 2) 1
    · simp
    · show (x ^^^ z) ^^^ (_ ^^^ _) = (x ^^^ _) ^^^ (z ^^^ _)
      ac_rfl
theorem mulF_dbl {b : Nat} (hb : Wd b) : ∀ (n x y : Nat), x < span b → mulF b n (dbl b x) y = dbl b (mulF b n x y)
  | 0, _, _, _ => (dbl_zero hb).symm
  | n + 1, x, y, hx => by
    show (cond (Nat.beq (y % 2) 1) (dbl b x) 0) ^^^ mulF b n (dbl b (dbl b x)) (y / 2) = dbl b ((cond (Nat.beq (y % 2) 1) x 0) ^^^ mulF b n (dbl b x) (y / 2))
    rw [mulF_dbl hb n _ _ (dbl_lt hb hx)]
    cases Nat.beq (y % 2) 1
    · simp
    · show dbl b x ^^^ _ = dbl b (x ^^^ _)
      rw [dbl_lin hb hx (mulF_lt hb _ _ _ (dbl_lt hb hx))]
theorem one_mul {b y : Nat} (hb : Wd b) (hy : y < span b) : mul b 1 y = y := by
  rcases hb with rfl | rfl
  · exact (by decide +kernel : ∀ x, x < 16 → mul 4 1 x = x) y hy
  · exact (by decide +kernel : ∀ x, x < 256 → mul 8 1 x = x) y hy
theorem pw_lt {b : Nat} (hb : Wd b) : ∀ n, pw b n < span b
  | 0 => by rcases hb with rfl | rfl <;> decide
  | n + 1 => dbl_lt hb (pw_lt hb n)
theorem mul_lt {b x y : Nat} (hb : Wd b) (hx : x < span b) : mul b x y < span b := mulF_lt hb _ _ _ hx
theorem pw_mul {b : Nat} (hb : Wd b) (j : Nat) : ∀ i, mul b (pw b i) (pw b j) = pw b (i + j)
  | 0 => by rw [Nat.zero_add]; exact one_mul hb (pw_lt hb j)
  | i + 1 => by
    show mulF b b (dbl b (pw b i)) (pw b j) = _
    rw [mulF_dbl hb _ _ _ (pw_lt hb i)]
    have h := pw_mul hb j i
    unfold mul at h
    rw [h, show i + 1 + j = (i + j) + 1 by omega]
    rfl
theorem pw_turn {b : Nat} (hb : Wd b) : pw b (turn b) = 1 := by rcases hb with rfl | rfl <;> decide +kernel
theorem pw_add_turn {b : Nat} (hb : Wd b) (i : Nat) : pw b (i + turn b) = pw b i := by
  rw [← pw_mul hb, pw_turn hb]
  have h := pw_mul hb 0 i
  exact h
theorem pw_add_mul {b : Nat} (hb : Wd b) (i : Nat) : ∀ k, pw b (i + k * turn b) = pw b i
  | 0 => by rw [Nat.zero_mul, Nat.add_zero]
  | k + 1 => by
    rw [Nat.succ_mul, ← Nat.add_assoc, pw_add_turn hb, pw_add_mul hb i k]
theorem pw_mod {b : Nat} (hb : Wd b) (i : Nat) : pw b i = pw b (i % turn b) := by
  have h := pw_add_mul hb (i % turn b) (i / turn b)
  have e : i % turn b + i / turn b * turn b = i := by
    have := Nat.mod_add_div i (turn b)
    rw [Nat.mul_comm] at this
    exact this
  rw [e] at h
  exact h
def lg (b x : Nat) : Nat := (pws b).idxOf x
def memB (b : Nat) (x : Nat) : Bool := Nat.beq x 0 || (pws b).any fun y => Nat.beq x y
theorem mem_pws {b x : Nat} (hb : Wd b) (hx : x < span b) (h0 : x ≠ 0) : x ∈ pws b := by
  have q : memB b x = true := by
    rcases hb with rfl | rfl
    · exact List.all_eq_true.mp (by decide +kernel : ((List.range 16).all fun x => memB 4 x) = true) x (List.mem_range.mpr hx)
    · exact List.all_eq_true.mp (by decide +kernel : ((List.range 256).all fun x => memB 8 x) = true) x (List.mem_range.mpr hx)
  rcases (Bool.or_eq_true _ _).mp q with h | h
  · exact absurd (Nat.eq_of_beq_eq_true h) h0
  · obtain ⟨y, hy, e⟩ := List.any_eq_true.mp h
    rw [Nat.eq_of_beq_eq_true e]
    exact hy
theorem pws_len (b : Nat) : (pws b).length = turn b := by simp [pws]
theorem pws_at {b i : Nat} (h : i < turn b) : (pws b)[i]? = some (pw b i) := by
  simp [pws, h]
theorem lg_lt {b x : Nat} (hb : Wd b) (hx : x < span b) (h0 : x ≠ 0) : lg b x < turn b := by
  rw [← pws_len b]
  exact List.idxOf_lt_length_of_mem (mem_pws hb hx h0)
theorem pw_lg {b x : Nat} (hb : Wd b) (hx : x < span b) (h0 : x ≠ 0) : pw b (lg b x) = x := by
  have h := lg_lt hb hx h0
  have e := pws_at h
  have e2 : (pws b)[lg b x]? = some x := by
    unfold lg
    rw [List.getElem?_eq_getElem (List.idxOf_lt_length_of_mem (mem_pws hb hx h0)), List.getElem_idxOf]
  rw [e] at e2
  exact Option.some.inj e2
theorem pw_ne {b : Nat} (hb : Wd b) (i : Nat) : pw b i ≠ 0 := by
  intro h
  have e := pw_mul hb ((turn b - i % turn b)) (i % turn b)
  rw [← pw_mod hb i, h] at e
  have ht : i % turn b < turn b := Nat.mod_lt _ (by rcases hb with rfl | rfl <;> decide)
  rw [show i % turn b + (turn b - i % turn b) = turn b by omega, pw_turn hb] at e
  unfold mul at e
  rw [zero_mulF hb] at e
  cases e
/-- before its place a word does not stand in the list of powers -/
theorem lg_first {b x m z : Nat} (hm : m < lg b x) (hz : (pws b)[m]? = some z) : z ≠ x := by
  intro e
  subst e
  have := List.not_of_lt_findIdx (xs := pws b) (p := (· == z)) (i := m) hm
  obtain ⟨hl, he⟩ := List.getElem?_eq_some_iff.mp hz
  simp [he] at this
theorem mul_comm {b x y : Nat} (hb : Wd b) (hx : x < span b) (hy : y < span b) : mul b x y = mul b y x := by
  by_cases h1 : x = 0
  · subst h1
    unfold mul
    rw [zero_mulF hb, mulF_zero 0]
  · by_cases h2 : y = 0
    · subst h2
      unfold mul
      rw [zero_mulF hb, mulF_zero 0]
    · rw [← pw_lg hb hx h1, ← pw_lg hb hy h2, pw_mul hb, pw_mul hb, Nat.add_comm]
theorem mulF_more {b : Nat} : ∀ (n x y : Nat), y < 2 ^ n → ∀ m, n ≤ m → mulF b m x y = mulF b n x y
  | 0, x, y, h, m, _ => by
    have : y = 0 := by simpa using h
    subst this
    rw [mulF_zero 0]
    rfl
  | n + 1, x, y, h, m, hm => by
    cases m with
    | zero => omega
    | succ m =>
      show (cond (Nat.beq (y % 2) 1) x 0) ^^^ mulF b m (dbl b x) (y / 2) = (cond (Nat.beq (y % 2) 1) x 0) ^^^ mulF b n (dbl b x) (y / 2)
      rw [mulF_more n _ _ (by rw [Nat.pow_succ] at h; omega) m (by omega)]
end My

set_option Elab.async false
set_option linter.all false
set_option maxRecDepth 100000
set_option maxHeartbeats 4000000
/-! ### enumerate of a tuple -/
namespace EnT
open PySem PySem.Spec PyProof.Rows
theorem meets_enumerate_newT (l : Addr) (items : Array Value) (n : Nat) (dct : Option Addr) (sl : Array (Option Value)) :
    Meets (Builtin.«enumerate.__new__» ⟨[.type "enumerate", .ref l], []⟩) (fun _ R s => s.heap.get? l = some { cls := .type "tuple", dict := dct, data := .seq items n, slots := sl } ∧
      R (.ok (.ret (.ref (s.heap.push { cls := .type "tuple_iterator", data := .fields #[.ref l, .int 0 0] }).objs.size)))
        { s with heap := (s.heap.push { cls := .type "tuple_iterator", data := .fields #[.ref l, .int 0 0] }).push { cls := .type "enumerate", data := .fields #[.none, .bool false, .ref s.heap.objs.size, rawInt 0, .none, .none] } }) :=
  .of_wp fun prog w A R s h => by
    obtain ⟨hp, g, d, tk, os⟩ := s; obtain ⟨hl, h⟩ := h
    have hsub := sub_enumerate
    have hL : Heap.IsTuple (Shared.heap ⟨hp, g, d, tk, os⟩) l items := ⟨_, hl, rfl, n, rfl⟩
    wp_walk using wpAny_loadPart' hl
    refine wpAny_stack_any fun st => wpAny_pure ?_
    split
    · rename_i c _ _ _ _ _
      cases (c == Value.type "enumerate")
      · wp_walk using wpAny_loadPart' hl, wpAny_pyIter_tuple hL
        exact ⟨_, rfl, h⟩
      · wp_walk using wpAny_loadPart' hl, wpAny_pyIter_tuple hL
        exact ⟨_, rfl, h⟩
    · wp_walk using wpAny_loadPart' hl, wpAny_pyIter_tuple hL
      exact ⟨_, rfl, h⟩
theorem call_enumerate_tuple {prog : Program} {w : World} {A : Around} {E : Value → Shared → Prop} {s : Shared} {l : Addr} {items : Array Value} {Q : Value → Shared → Prop} (hL : s.heap.IsTuple l items)
    (h : ∀ h', IsEnum h' (s.heap.objs.size + 1) s.heap.objs.size 0 .none → h'.IsTupleIter s.heap.objs.size l 0 → h'.objs.size = s.heap.objs.size + 2 →
      (∀ b o, s.heap.get? b = some o → h'.get? b = some o) → Q (.ref (s.heap.objs.size + 1)) { s with heap := h' }) :
    wpAny (model prog w) A (call (.type "enumerate") [.ref l]) Q E s := by
  obtain ⟨⟨c, dct, dt, sl⟩, hl, hc, n, hd⟩ := hL
  replace hc : c = .type "tuple" := hc
  replace hd : dt = .seq items n := hd
  subst hc hd
  refine callType_new F.called_enumerate (by decide) (F.typeCall_enumerate_1 _) (F.newCall_enumerate_1 _) (fun obj => F.args_object_init_2 obj _) F.entry_enumerate_new
    (meets_enumerate_newT l items n dct sl) ⟨hl, ?_⟩
  have hz : (s.heap.push { cls := .type "tuple_iterator", data := .fields #[.ref l, .int 0 0] }).objs.size = s.heap.objs.size + 1 := Heap.size_push ..
  show _ ∧ _
  rw [hz]
  have he : IsEnum ((s.heap.push { cls := .type "tuple_iterator", data := .fields #[.ref l, .int 0 0] }).push
      { cls := .type "enumerate", data := .fields #[.none, .bool false, .ref s.heap.objs.size, rawInt 0, .none, .none] }) (s.heap.objs.size + 1) s.heap.objs.size 0 .none := by
    have := Heap.get?_push_size (s.heap.push { cls := .type "tuple_iterator", data := .fields #[.ref l, .int 0 0] })
      (o := { cls := .type "enumerate", data := .fields #[.none, .bool false, .ref s.heap.objs.size, rawInt 0, .none, .none] }) rfl
    rw [hz] at this; exact this
  refine ⟨⟨_, he, rfl⟩, h _ he ⟨_, Heap.get?_push_of_some _ (Heap.get?_push_size _ rfl), rfl, rfl⟩ (by rw [Heap.size_push, hz]) fun b o x => Heap.get?_push_of_some _ (Heap.get?_push_of_some _ x)⟩
open L2
def IteT (K : PySem.W.Frag) (a : Addr) : It :=
  ⟨fun i H => ∃ (xs : List V) (x : V), SqT K H a xs ∧ xs[i]? = some x, fun i H v H' => ∃ T x, v = .ref T ∧ H T = none ∧ H' = upd H T (.tup [.int (i : Nat), x]) ∧ ∀ xs, SqT K H a xs → xs[i]? = some x, fun i H => ∃ xs : List V, SqT K H a xs ∧ xs.length = i⟩
theorem turn_enumT {P : Program} {w : World} {K : PySem.W.Frag} {elts : List Expr} {kk : Nat} {tpos : Pos} (a e it : Addr) :
    Turn P w K (.Tuple elts kk tpos) (IteT K a) [e, it] e (fun i h => (∃ old, IsEnum h e it ((i : Nat) : Int) old) ∧ h.IsTupleIter it a i ∧ e ≠ it ∧ a ≠ it ∧ e ≠ a) where
  mem := by simp
  obj := fun i h st b hb => by
    obtain ⟨⟨old, he⟩, ⟨o, ho, hc, hd⟩, _⟩ := st
    have e' : b = e ∨ b = it := by simpa using hb
    rcases e' with z | z
    · rw [z]; exact ⟨_, he, fun v q => nomatch q⟩
    · rw [z]; exact ⟨o, ho, fun v q => by rw [hd] at q; cases q⟩
  keep := fun i h h' st k => let ⟨⟨old, he⟩, hi, hne⟩ := st; ⟨⟨old, k e (by simp) _ he⟩, hi.at fun o q => k it (by simp) o q, hne⟩
  item := by
    intro X hP hw hK hc i pins s σ H E I hf st hg
    subst hP hw hK
    obtain ⟨⟨old, he⟩, hit, hne, hai, hea⟩ := st
    obtain ⟨xs, x, hq, hx⟩ := hg
    obtain ⟨its, rv, p, hz⟩ := I.tuple hq
    obtain ⟨u, hu, ru⟩ := rv.get hx
    have hel : e < s.heap.objs.size := Heap.lt_size he
    have hil : it < s.heap.objs.size := by obtain ⟨_, q, _⟩ := hit; exact Heap.lt_size q
    have hin : i < its.toArray.size := by
      have := (List.getElem?_eq_some_iff.mp hu).1
      simpa using this
    have hd0 : X.A.in1.handled = none := I.ok.hd hc
    refine wpAny_pyNext_enum_itemC (Draws.tuple hd0 it a hai its.toArray) he ⟨hit, p⟩ hin hne (by simp [hne, hea]) fun y h' tk hy ho hst' hT hsz hk => ?_
    obtain rfl : y = u := by
      have : its.toArray[i]? = some y := hy
      simp at this
      rw [hu] at this
      exact (Option.some.inj this).symm
    have hit' := hst'.1
    refine ⟨_, rfl, wpAny_letOwnedTupleGo_enum (s := { s with heap := h', toks := tk + 1 }) ho fun h'' he' sb => ?_⟩
    have hT2 : h''.get? s.heap.objs.size = some { cls := .type "tuple", data := .seq #[.int i tk, y] } := (sb.2 _ (Nat.ne_of_gt hel)).trans hT
    have new : ObjOk X.prog X.w (upd H s.heap.objs.size (.tup [.int (i : Nat), x])) h'' s.heap.objs.size (.tup [.int (i : Nat), x]) :=
      ⟨by show 2 ≤ sizeLine; decide, [.int i tk, y], .cons ⟨_, rfl⟩ (.cons ru .nil), ⟨_, hT2, rfl, _, rfl⟩⟩
    have I1 : Inv X pins σ (upd H s.heap.objs.size (.tup [.int (i : Nat), x])) { s with heap := h'', toks := tk + 1 } :=
      I.turnedNew (ch := [e, it]) (fun b ob hb q => (sb.2 b (fun z => hb (by simp [z]))).trans (hk b ob (fun z => hb (by simp [z])) (fun z => hb (by simp [z])) q)) hf (Nat.le_refl _) new
    refine ⟨.ref s.heap.objs.size, _, I1, rfl, ⟨_, x, rfl, I.hok.fresh (Nat.le_refl _), rfl, fun ys hy => by rw [I.tuple_inj hy hq]; exact hx⟩, ⟨⟨y, ?_⟩, hit'.at fun o q => (sb.2 it (Ne.symm hne)).trans q, hne, hai, hea⟩, fun b hb => ?_⟩
    · have e1 : ((i + 1 : Nat) : Int) = (i : Int) + 1 := by omega
      rw [e1]; exact he'
    · have hb' : b < s.heap.objs.size := by
        have e' : b = e ∨ b = it := by simpa using hb
        rcases e' with z | z
        · rw [z]; exact hel
        · rw [z]; exact hil
      rw [upd_ne (Nat.ne_of_lt hb')]
      exact (hf b hb).1
  done := by
    intro X hP hw hK hc i pins s σ H E I hf st hg
    subst hP hw hK
    obtain ⟨⟨old, he⟩, hit, hne, hai, hea⟩ := st
    obtain ⟨xs, hq, hx⟩ := hg
    obtain ⟨its, rv, p, hz⟩ := I.tuple hq
    obtain ⟨f0, f1, f2, f3, f4, f5⟩ := hf it (by simp)
    have hl := rv.length
    have hd0 : X.A.in1.handled = none := I.ok.hd hc
    have en : its.toArray.size = i := by simp; omega
    have hst : s.heap.IsTupleIter it a its.toArray.size ∧ s.heap.IsTuple a its.toArray := ⟨by rw [en]; exact hit, p⟩
    exact wpAny_pyNext_enum_endD (Draws.tuple hd0 it a hai its.toArray) he hst fun h' eb => ⟨rfl, I.turned (t' := s.toks) (fun b o hb q => eb b o hb q) f0 f1 f3 f4 f5⟩
  self := fun A i s Q E st h => let ⟨⟨_, he⟩, _⟩ := st; wpAny_pyIter_enum he h
def iEnumT (K : PySem.W.Frag) (ta : TA) : TI := fun σ H R => ta σ H fun vs H1 => ∃ a xs, vs = [.ref a] ∧ SqT K H1 a xs ∧ R (IteT K a) H1
theorem pi_enumT {X : Cx} {e : Expr} {ta : TA} {p pos tpos : Pos} {elts : List Expr} {kk : Nat} (hg : Gl X "enumerate") (hm : X.mg "enumerate" = none) (ha : PA X [e] ta) (hs : starEach [e] X.env = [(false, eval e X.env)] := by rfl) :
    PI X (.Tuple elts kk tpos) (.Call (.Name "enumerate" p) [e] [] pos) (iEnumT X.K ta) := by
  refine ⟨fun pins s σ H R I h => ?_⟩
  refine Call_ (ld_blt I hg hm boot_enumerate (PyProof.Rows.callWith_type1 (thn (ha.run pos pins s σ H _ I h) fun us s1 ⟨vs, H1, I1, r1, q1⟩ => ?_) hs rfl))
  obtain ⟨a, xs, ex, hq, q⟩ := q1
  subst ex
  cases r1 with
  | cons r rr =>
    cases rr
    cases r
    obtain ⟨its, rv, p', hz⟩ := I1.tuple hq
    have hal : a < s1.heap.objs.size := by obtain ⟨_, q, _⟩ := p'; exact Heap.lt_size q
    refine call_enumerate_tuple p' fun h' he hit hsz hk => wpAny_pyIter_enum he ?_
    have I2 : Inv X pins σ H1 { s1 with heap := h' } := I1.kept (t' := s1.toks) hk
    refine ⟨s1.heap.objs.size + 1, [s1.heap.objs.size + 1, s1.heap.objs.size], _, _, H1, rfl, I2, turn_enumT a (s1.heap.objs.size + 1) s1.heap.objs.size, ⟨⟨.none, he⟩, hit, Nat.succ_ne_self _, Nat.ne_of_lt hal, Nat.ne_of_gt (Nat.lt_succ_of_lt hal)⟩, fun b hb => ?_, q⟩
    have e' : b = s1.heap.objs.size + 1 ∨ b = s1.heap.objs.size := by simpa using hb
    have hle : s1.heap.objs.size ≤ b := by
      rcases e' with z | z
      · rw [z]; exact Nat.le_add_right _ _
      · rw [z]; exact Nat.le_refl _
    exact I1.fpOk hle (I1.hok.fresh hle)
theorem walk_enumT {K : PySem.W.Frag} {a : Addr} {xs : List V} : Walk (IteT K a) xs.length (fun H => SqT K H a xs) (YPair (fun i => some (.int (i : Nat))) (fun i => xs[i]?)) where
  goes := fun i H hi h => ⟨xs, xs[i], h, List.getElem?_eq_getElem hi⟩
  stops := fun H h => ⟨xs, h, rfl⟩
  yields := fun i H x H' hi h y => by
    obtain ⟨T, z, e1, e2, e3, e4⟩ := y
    exact ⟨T, _, z, e1, e2, e3, rfl, e4 xs h⟩
end EnT

set_option Elab.async false
set_option linter.all false
set_option maxRecDepth 100000
set_option maxHeartbeats 4000000
/-! ### rows: lists (true) and tuples (false) in one -/
namespace My
open PySem PySem.Spec PyProof.Rows L2
def SqB (b : Bool) (K : PySem.W.Frag) (H : Hp) (a : Addr) (xs : List V) : Prop := if b = true then SqL K H a xs else SqT K H a xs
def ItB (b : Bool) (K : PySem.W.Frag) (a : Addr) : It := if b = true then Itl K a else Itt K a
def IteB (b : Bool) (K : PySem.W.Frag) (a : Addr) : It := if b = true then Ite K a else EnT.IteT K a
section
variable {b : Bool} {K : PySem.W.Frag} {H H' : Hp} {a : Addr} {xs : List V}
theorem SqB.or (h : SqB b K H a xs) : SqL K H a xs ∨ SqT K H a xs := by
  cases b
  · exact .inr h
  · exact .inl h
theorem Same.sqt (e : Same H H') (h : SqT K H a xs) : SqT K H' a xs := by
  rcases h with (h | ⟨o, h⟩) | h
  · exact .inl (.inl (e _ _ h))
  · exact .inl (.inr ⟨o, e _ _ h⟩)
  · exact .inr h
theorem Same.sqb (e : Same H H') (h : SqB b K H a xs) : SqB b K H' a xs := by
  cases b
  · exact Same.sqt e h
  · exact e.seq h
theorem SqB.lst (h : H a = some (.lst xs)) : SqB true K H a xs := .inl (.inl h)
theorem SqB.tup (h : H a = some (.tup xs)) : SqB false K H a xs := .inl (.inl h)
theorem SqB.ty (h : SqB b K H a xs) : TyX K H (.ref a) (.type (if b = true then "list" else "tuple")) := by
  cases b
  · rcases h with (h | ⟨o, h⟩) | ⟨o, its, n, hk, hc, _⟩
    · exact .base (.tup h)
    · exact .fTuple h
    · exact .kTuple hk hc
  · rcases h with (h | ⟨o, h⟩) | ⟨o, its, n, hk, hc, _⟩
    · exact .base (.lst h)
    · exact .base (.frz h)
    · exact .kList hk hc
theorem walk_seq : Walk (ItB b K a) xs.length (fun H => SqB b K H a xs) (YAt xs) := by
  cases b
  · exact walk_tup
  · exact walk_list
theorem walk_enumS : Walk (IteB b K a) xs.length (fun H => SqB b K H a xs) (YPair (fun i => some (.int (i : Nat))) (fun i => xs[i]?)) := by
  cases b
  · exact EnT.walk_enumT
  · exact walk_enum
end
section
variable {X : Cx} {tg : Expr}
def iSeq (K : PySem.W.Frag) (tl : TE) : TI := fun σ H R => tl σ H fun x H1 => ∃ a xs b, x = .ref a ∧ SqB b K H1 a xs ∧ R (ItB b K a) H1
theorem pi_seq {l : Expr} {tl : TE} (hl : PE X l tl) : PI X tg l (iSeq X.K tl) := by
  refine ⟨fun pins s σ H R I h => ?_⟩
  refine thn (hl.run pins s σ H _ I h) fun v s1 ⟨x, H1, I1, r1, q1⟩ => ?_
  obtain ⟨a, xs, b, e, hq, q⟩ := q1
  subst e
  cases r1
  cases b
  · obtain ⟨its, rv, p, hz⟩ := I1.tuple hq
    refine wpAny_pyIter_tuple (show s1.heap.IsTuple a its.toArray from p) ?_
    refine ⟨s1.heap.objs.size, [s1.heap.objs.size], _, _, H1, rfl, I1.kept (t' := s1.toks) fun b o e => Heap.get?_push_of_some _ e, turn_tuple a _, ⟨_, Heap.get?_push_size _ rfl, rfl, rfl⟩, fun b hb => ?_, q⟩
    have e : b = s1.heap.objs.size := by simpa using hb
    subst e
    exact I1.fpOk (Nat.le_refl _) (I1.hok.fresh (Nat.le_refl _))
  · obtain ⟨its, rv, p, hz⟩ := I1.list hq
    refine wpAny_pyIter_list p.isList ?_
    refine ⟨s1.heap.objs.size, [s1.heap.objs.size], _, _, H1, rfl, I1.kept (t' := s1.toks) fun b o e => Heap.get?_push_of_some _ e, turn_list a _, ⟨_, Heap.get?_push_size _ rfl, rfl, rfl⟩, fun b hb => ?_, q⟩
    have e : b = s1.heap.objs.size := by simpa using hb
    subst e
    exact I1.fpOk (Nat.le_refl _) (I1.hok.fresh (Nat.le_refl _))
def iEnumS (K : PySem.W.Frag) (ta : TA) : TI := fun σ H R => ta σ H fun vs H1 => ∃ a xs b, vs = [.ref a] ∧ SqB b K H1 a xs ∧ R (IteB b K a) H1
theorem pi_enumS {e : Expr} {ta : TA} {p pos tpos : Pos} {elts : List Expr} {kk : Nat} (hg : Gl X "enumerate") (hm : X.mg "enumerate" = none) (ha : PA X [e] ta) (hs : starEach [e] X.env = [(false, eval e X.env)] := by rfl) :
    PI X (.Tuple elts kk tpos) (.Call (.Name "enumerate" p) [e] [] pos) (iEnumS X.K ta) := by
  refine ⟨fun pins s σ H R I h => ?_⟩
  refine Call_ (ld_blt I hg hm boot_enumerate (PyProof.Rows.callWith_type1 (thn (ha.run pos pins s σ H _ I h) fun us s1 ⟨vs, H1, I1, r1, q1⟩ => ?_) hs rfl))
  obtain ⟨a, xs, b, ex, hq, q⟩ := q1
  subst ex
  cases r1 with
  | cons r rr =>
    cases rr
    cases r
    cases b
    · obtain ⟨its, rv, p', hz⟩ := I1.tuple hq
      have hal : a < s1.heap.objs.size := by obtain ⟨_, q, _⟩ := p'; exact Heap.lt_size q
      refine EnT.call_enumerate_tuple p' fun h' he hit hsz hk => wpAny_pyIter_enum he ?_
      have I2 : Inv X pins σ H1 { s1 with heap := h' } := I1.kept (t' := s1.toks) hk
      refine ⟨s1.heap.objs.size + 1, [s1.heap.objs.size + 1, s1.heap.objs.size], _, _, H1, rfl, I2, EnT.turn_enumT a (s1.heap.objs.size + 1) s1.heap.objs.size, ⟨⟨.none, he⟩, hit, Nat.succ_ne_self _, Nat.ne_of_lt hal, Nat.ne_of_gt (Nat.lt_succ_of_lt hal)⟩, fun b hb => ?_, q⟩
      have e' : b = s1.heap.objs.size + 1 ∨ b = s1.heap.objs.size := by simpa using hb
      have hle : s1.heap.objs.size ≤ b := by
        rcases e' with z | z
        · rw [z]; exact Nat.le_add_right _ _
        · rw [z]; exact Nat.le_refl _
      exact I1.fpOk hle (I1.hok.fresh hle)
    · obtain ⟨its, rv, p', hz⟩ := I1.list hq
      refine call_enumerate_list p'.isList fun h' he hit hsz hk => wpAny_pyIter_enum he ?_
      have I2 : Inv X pins σ H1 { s1 with heap := h' } := I1.kept (t' := s1.toks) hk
      refine ⟨s1.heap.objs.size + 1, [s1.heap.objs.size + 1, s1.heap.objs.size], _, _, H1, rfl, I2, turn_enum a (s1.heap.objs.size + 1) s1.heap.objs.size, ⟨⟨.none, he⟩, hit, Nat.succ_ne_self _⟩, fun b hb => ?_, q⟩
      have e' : b = s1.heap.objs.size + 1 ∨ b = s1.heap.objs.size := by simpa using hb
      have hle : s1.heap.objs.size ≤ b := by
        rcases e' with z | z
        · rw [z]; exact Nat.le_add_right _ _
        · rw [z]; exact Nat.le_refl _
      exact I1.fpOk hle (I1.hok.fresh hle)
/-- xs[i] of a list or a tuple -/
def rIxB (K : PySem.W.Frag) : R2 := fun x y H Q => ∃ p xs i v b, x = .ref p ∧ y = .int i ∧ SqB b K H p xs ∧ atI xs i = some v ∧ Q v H
theorem ix_rowB : IxR X (rIxB X.K) := by
  intro value slice pins s σ H x y v u Q I rx ry h hs
  obtain ⟨p, xs, i, z, b, rfl, rfl, hq, ha, q⟩ := h
  refine ix_seq value slice pins s σ H _ _ v u Q I rx ry ?_ hs
  cases b
  · exact .inr (.inl ⟨p, xs, i, z, rfl, rfl, hq, ha, q⟩)
  · exact .inl ⟨p, xs, i, z, rfl, rfl, hq, ha, q⟩
end
end My

set_option Elab.async false
set_option linter.all false
set_option maxRecDepth 100000
set_option maxHeartbeats 4000000
namespace My
open PySem PySem.Spec PyProof.Rows L2
section
variable {X : Cx}
/-- xs[i] of a list, by the item's own rule (for xs[i] op= e) -/
def rGetL (K : PySem.W.Frag) : V → V → Hp → VK → Prop := fun x y H Q => ∃ p xs v, ∃ j : Nat, x = .ref p ∧ y = .int (j : Int) ∧ SqL K H p xs ∧ xs[j]? = some v ∧ Q v H
theorem get_list : PGet X (rGetL X.K) := by
  intro pins s σ H x y v u Q I rx ry h
  obtain ⟨p, xs, z, j, rfl, rfl, hq, he, q⟩ := h
  cases rx
  obtain ⟨t, rfl⟩ := ry
  obtain ⟨its, r, pl, hz⟩ := I.list hq
  obtain ⟨w, ew, rw'⟩ := r.get he
  have hl := r.length
  have hn := line63
  have hj : j < xs.length := (List.getElem?_eq_some_iff.mp he).1
  exact wpAny_getItem_list pl.isList (by omega) (by omega) (by simpa using ew) ⟨z, H, I, rw', q⟩
end
end My

set_option Elab.async false
set_option linter.all false
set_option maxRecDepth 100000
set_option maxHeartbeats 4000000
/-! ### polynomials over the field -/
namespace My
theorem span_eq' {b : Nat} (hb : Wd b) : span b = turn b + 1 := by rcases hb with rfl | rfl <;> rfl
theorem turn_pos {b : Nat} (hb : Wd b) : 0 < turn b := by rcases hb with rfl | rfl <;> decide
/-- the quotient: the word whose product with y is x -/
def quo (b x y : Nat) : Nat := mul b x (pw b (lg b y * (turn b - 1)))
theorem quo_mul {b x y : Nat} (hb : Wd b) (hx : x < span b) (hy : y < span b) (h1 : y ≠ 0) : quo b (mul b x y) y = x := by
  unfold quo
  by_cases h0 : x = 0
  · subst h0
    have e : mul b 0 y = 0 := zero_mulF hb _ _
    rw [e]
    exact zero_mulF hb _ _
  · have ex := pw_lg hb hx h0
    have ey := pw_lg hb hy h1
    have e : mul b x y = pw b (lg b x + lg b y) := by rw [← pw_mul hb, ex, ey]
    rw [e, pw_mul hb]
    have h := pw_add_mul hb (lg b x) (lg b y)
    have e2 : lg b x + lg b y + lg b y * (turn b - 1) = lg b x + lg b y * turn b := by
      have ht := turn_pos hb
      have : lg b y * turn b = lg b y * (turn b - 1) + lg b y := by
        rw [← Nat.mul_succ]
        rw [show (turn b - 1).succ = turn b by omega]
      omega
    rw [e2, h, ex]
theorem mul_quo {b x y : Nat} (hb : Wd b) (hx : x < span b) (hy : y < span b) (h1 : y ≠ 0) : mul b (quo b x y) y = x := by
  unfold quo
  by_cases h0 : x = 0
  · subst h0
    have e : mul b 0 (pw b (lg b y * (turn b - 1))) = 0 := zero_mulF hb _ _
    rw [e]
    exact zero_mulF hb _ _
  · have ex := pw_lg hb hx h0
    have ey := pw_lg hb hy h1
    have e : mul b x (pw b (lg b y * (turn b - 1))) = pw b (lg b x + lg b y * (turn b - 1)) := by rw [← pw_mul hb, ex]
    have e3 : mul b (pw b (lg b x + lg b y * (turn b - 1))) y = pw b (lg b x + lg b y * (turn b - 1) + lg b y) := by
      rw [← pw_mul hb _ (lg b x + lg b y * (turn b - 1)), ey]
    rw [e, e3]
    have h := pw_add_mul hb (lg b x) (lg b y)
    have e2 : lg b x + lg b y * (turn b - 1) + lg b y = lg b x + lg b y * turn b := by
      have ht := turn_pos hb
      have : lg b y * turn b = lg b y * (turn b - 1) + lg b y := by
        rw [← Nat.mul_succ]
        rw [show (turn b - 1).succ = turn b by omega]
      omega
    rw [e2, h, ex]
theorem mul_zero {b x : Nat} : mul b x 0 = 0 := mulF_zero 0 _ _
theorem zero_mul {b y : Nat} (hb : Wd b) : mul b 0 y = 0 := zero_mulF hb _ _
theorem span_pos {b : Nat} (hb : Wd b) : 1 < span b := by rcases hb with rfl | rfl <;> decide
theorem mul_one {b x : Nat} (hb : Wd b) (hx : x < span b) : mul b x 1 = x := by
  rw [mul_comm hb hx (span_pos hb)]
  exact one_mul hb hx
theorem mul_xor_l {b x z y : Nat} (hb : Wd b) (hx : x < span b) (hz : z < span b) : mul b (x ^^^ z) y = mul b x y ^^^ mul b z y := mulF_lin hb _ _ _ _ hx hz
theorem mul_xor_r {b x z y : Nat} (hb : Wd b) (hx : x < span b) (hz : z < span b) (hy : y < span b) : mul b y (x ^^^ z) = mul b y x ^^^ mul b y z := by
  rw [mul_comm hb hy (xor_lt hb hx hz), mul_xor_l hb hx hz, mul_comm hb hx hy, mul_comm hb hz hy]
theorem mul_assoc {b x y z : Nat} (hb : Wd b) (hx : x < span b) (hy : y < span b) (hz : z < span b) : mul b (mul b x y) z = mul b x (mul b y z) := by
  by_cases h1 : x = 0
  · subst h1
    rw [zero_mul hb, zero_mul hb, zero_mul hb]
  · by_cases h2 : y = 0
    · subst h2
      rw [mul_zero, zero_mul hb, mul_zero]
    · by_cases h3 : z = 0
      · subst h3
        rw [mul_zero, mul_zero, mul_zero]
      · rw [← pw_lg hb hx h1, ← pw_lg hb hy h2, ← pw_lg hb hz h3, pw_mul hb, pw_mul hb, pw_mul hb, pw_mul hb, Nat.add_assoc]
/-- a row of words of so many bits -/
def Ws (b : Nat) (ws : List Nat) : Prop := ∀ w ∈ ws, w < span b
def evF (b t : Nat) (acc : Nat) (ws : List Nat) : Nat := ws.foldl (fun acc w => mul b acc t ^^^ w) acc
def evl (b t : Nat) (ws : List Nat) : Nat := evF b t 0 ws
def powT (b t : Nat) : Nat → Nat
  | 0 => 1
  | n + 1 => mul b (powT b t n) t
theorem powT_lt {b t : Nat} (hb : Wd b) : ∀ n, powT b t n < span b
  | 0 => span_pos hb
  | n + 1 => mul_lt hb (powT_lt hb n)
theorem evF_lt {b t : Nat} (hb : Wd b) : ∀ (ws : List Nat) (acc : Nat), acc < span b → Ws b ws → evF b t acc ws < span b
  | [], _, h, _ => h
  | w :: r, acc, h, hw => evF_lt hb r _ (xor_lt hb (mul_lt hb h) (hw w (List.mem_cons_self ..))) fun x hx => hw x (List.mem_cons_of_mem _ hx)
theorem evl_lt {b t : Nat} {ws : List Nat} (hb : Wd b) (h : Ws b ws) : evl b t ws < span b := evF_lt hb ws 0 (by have := span_pos hb; omega) h
theorem evF_xor {b t : Nat} (hb : Wd b) (ht : t < span b) : ∀ (ws : List Nat) (acc : Nat), acc < span b → Ws b ws → evF b t acc ws = mul b acc (powT b t ws.length) ^^^ evl b t ws
  | [], acc, h, _ => by
    show acc = mul b acc 1 ^^^ 0
    rw [mul_one hb h, Nat.xor_zero]
  | w :: r, acc, h, hw => by
    have hr : Ws b r := fun x hx => hw x (List.mem_cons_of_mem _ hx)
    have hw0 := hw w (List.mem_cons_self ..)
    have hz : (0 : Nat) < span b := by have := span_pos hb; omega
    show evF b t (mul b acc t ^^^ w) r = mul b acc (mul b (powT b t r.length) t) ^^^ evF b t (mul b 0 t ^^^ w) r
    rw [evF_xor hb ht r _ (xor_lt hb (mul_lt hb h) hw0) hr, evF_xor hb ht r _ (xor_lt hb (mul_lt hb hz) hw0) hr, zero_mul hb, Nat.zero_xor, mul_xor_l hb (mul_lt hb h) hw0,
      mul_assoc hb h ht (powT_lt hb _), mul_comm hb ht (powT_lt hb _), Nat.xor_assoc]
theorem evl_cons {b t w : Nat} {r : List Nat} (hb : Wd b) (ht : t < span b) (hw : w < span b) (hr : Ws b r) : evl b t (w :: r) = mul b w (powT b t r.length) ^^^ evl b t r := by
  show evF b t (mul b 0 t ^^^ w) r = _
  rw [zero_mul hb, Nat.zero_xor]
  exact evF_xor hb ht r w hw hr
theorem evl_snoc {b t w : Nat} {r : List Nat} : evl b t (r ++ [w]) = mul b (evl b t r) t ^^^ w := by
  show (r ++ [w]).foldl _ 0 = _
  rw [List.foldl_append]
  rfl
theorem evl_zeros {b t : Nat} (hb : Wd b) : ∀ n, evl b t (List.replicate n 0) = 0
  | 0 => rfl
  | n + 1 => by
    rw [List.replicate_succ', evl_snoc, evl_zeros hb n, zero_mul hb]
    rfl
theorem evl_pad {b t : Nat} (hb : Wd b) (n : Nat) (ws : List Nat) : evl b t (List.replicate n 0 ++ ws) = evl b t ws := by
  show (List.replicate n 0 ++ ws).foldl _ 0 = _
  rw [List.foldl_append]
  have h := evl_zeros (t := t) hb n
  unfold evl evF at h
  rw [h]
  rfl
/-- sums, word by word, by the places below n -/
def xsum (n : Nat) (f : Nat → Nat) : Nat := (List.range n).foldl (fun acc i => acc ^^^ f i) 0
theorem xsum_succ (n : Nat) (f : Nat → Nat) : xsum (n + 1) f = xsum n f ^^^ f n := by
  unfold xsum
  rw [List.range_succ, List.foldl_append]
  rfl
theorem xsum_congr {n : Nat} {f g : Nat → Nat} (h : ∀ i, i < n → f i = g i) : xsum n f = xsum n g := by
  induction n with
  | zero => rfl
  | succ n ih => rw [xsum_succ, xsum_succ, ih fun i hi => h i (by omega), h n (by omega)]
theorem xsum_lt {b n : Nat} {f : Nat → Nat} (hb : Wd b) (h : ∀ i, i < n → f i < span b) : xsum n f < span b := by
  induction n with
  | zero => have := span_pos hb; show 0 < span b; omega
  | succ n ih =>
    rw [xsum_succ]
    exact xor_lt hb (ih fun i hi => h i (by omega)) (h n (by omega))
/-- the i-th word times the (k - i)-th word of the other -/
def term (b : Nat) (f g : Nat → Nat) (k i : Nat) : Nat := if i ≤ k then mul b (f i) (g (k - i)) else 0
def gd (ws : List Nat) (i : Nat) : Nat := ws.getD i 0
theorem gd_lt {b : Nat} {ws : List Nat} (hb : Wd b) (h : Ws b ws) (i : Nat) : gd ws i < span b := by
  unfold gd
  by_cases hi : i < ws.length
  · rw [List.getD_eq_getElem?_getD, List.getElem?_eq_getElem hi]
    exact h _ (List.getElem_mem hi)
  · rw [List.getD_eq_getElem?_getD, List.getElem?_eq_none (by omega)]
    have := span_pos hb
    show 0 < span b
    omega
theorem gd_out {ws : List Nat} {i : Nat} (h : ws.length ≤ i) : gd ws i = 0 := by
  unfold gd
  rw [List.getD_eq_getElem?_getD, List.getElem?_eq_none h]
  rfl
theorem gd_in {ws : List Nat} {i : Nat} (h : i < ws.length) : ws[i]? = some (gd ws i) := by
  unfold gd
  rw [List.getD_eq_getElem?_getD, List.getElem?_eq_getElem h]
  rfl
theorem gd_list (ws : List Nat) : (List.range ws.length).map (gd ws) = ws := by
  refine List.ext_getElem? fun i => ?_
  by_cases h : i < ws.length
  · rw [gd_in h]
    simp [h]
  · rw [List.getElem?_eq_none (by simp; omega), List.getElem?_eq_none (by omega)]
def cf (b : Nat) (xs ys : List Nat) (k : Nat) : Nat := xsum xs.length (term b (gd xs) (gd ys) k)
/-- the product -/
def conv (b : Nat) (xs ys : List Nat) : List Nat := if xs = [] ∨ ys = [] then [] else (List.range (xs.length + ys.length - 1)).map (cf b xs ys)
theorem term_lt {b : Nat} {f g : Nat → Nat} {k i : Nat} (hb : Wd b) (h : f i < span b) : term b f g k i < span b := by
  unfold term
  split
  · exact mul_lt hb h
  · have := span_pos hb; omega
theorem cf_lt {b k : Nat} {xs ys : List Nat} (hb : Wd b) (hx : Ws b xs) : cf b xs ys k < span b := xsum_lt hb fun i _ => term_lt hb (gd_lt hb hx i)
theorem conv_ws {b : Nat} {xs ys : List Nat} (hb : Wd b) (hx : Ws b xs) : Ws b (conv b xs ys) := by
  intro w hw
  unfold conv at hw
  split at hw
  · cases hw
  · obtain ⟨k, _, rfl⟩ := List.mem_map.mp hw
    exact cf_lt hb hx
/-- sums of two rows of one length -/
def zx (xs ys : List Nat) : List Nat := (List.range xs.length).map fun k => gd xs k ^^^ gd ys k
theorem evl_fn {b t : Nat} (hb : Wd b) (ht : t < span b) (f g : Nat → Nat) (hf : ∀ i, f i < span b) (hg : ∀ i, g i < span b) : ∀ n, evl b t ((List.range n).map fun k => f k ^^^ g k) = evl b t ((List.range n).map f) ^^^ evl b t ((List.range n).map g)
  | 0 => by
    show (0 : Nat) = 0 ^^^ 0
    rfl
  | n + 1 => by
    have w1 : Ws b ((List.range n).map f) := fun w hw => by obtain ⟨k, _, rfl⟩ := List.mem_map.mp hw; exact hf k
    have w2 : Ws b ((List.range n).map g) := fun w hw => by obtain ⟨k, _, rfl⟩ := List.mem_map.mp hw; exact hg k
    rw [List.range_succ, List.map_append, List.map_append, List.map_append]
    show evl b t (_ ++ [f n ^^^ g n]) = evl b t (_ ++ [_]) ^^^ evl b t (_ ++ [_])
    rw [evl_snoc, evl_snoc, evl_snoc, evl_fn hb ht f g hf hg n, mul_xor_l hb (evl_lt hb w1) (evl_lt hb w2)]
    generalize mul b (evl b t (List.map f (List.range n))) t = u
    generalize mul b (evl b t (List.map g (List.range n))) t = v
    generalize f n = c
    generalize g n = d
    ac_rfl
theorem evl_scale {b t x : Nat} (hb : Wd b) (ht : t < span b) (hx : x < span b) (g : Nat → Nat) (hg : ∀ i, g i < span b) : ∀ n, evl b t ((List.range n).map fun k => mul b x (g k)) = mul b x (evl b t ((List.range n).map g))
  | 0 => mul_zero.symm
  | n + 1 => by
    have w2 : Ws b ((List.range n).map g) := fun w hw => by obtain ⟨k, _, rfl⟩ := List.mem_map.mp hw; exact hg k
    rw [List.range_succ, List.map_append, List.map_append]
    show evl b t (_ ++ [_]) = mul b x (evl b t (_ ++ [_]))
    rw [evl_snoc, evl_snoc, evl_scale hb ht hx g hg n, mul_xor_r hb (mul_lt hb (evl_lt hb w2)) (hg n) hx, mul_assoc hb hx (evl_lt hb w2) ht]
/-- the value of a product -/
theorem evl_sum {b t : Nat} (hb : Wd b) (ht : t < span b) (f g : Nat → Nat) (hf : ∀ i, f i < span b) (hg : ∀ i, g i < span b) (m : Nat) (hm : 0 < m) (hout : ∀ i, m ≤ i → g i = 0) :
    ∀ n, evl b t ((List.range (n + m - 1)).map fun k => xsum n (term b f g k)) = mul b (evl b t ((List.range n).map f)) (evl b t ((List.range m).map g))
  | 0 => by
    show evl b t ((List.range (0 + m - 1)).map fun k => 0) = mul b 0 _
    rw [zero_mul hb]
    have e : (List.range (0 + m - 1)).map (fun _ => 0) = List.replicate (0 + m - 1) 0 := by
      rw [List.map_const', List.length_range]
    rw [e, evl_zeros hb]
  | n + 1 => by
    have ih := evl_sum hb ht f g hf hg m hm hout n
    have w1 : Ws b ((List.range n).map f) := fun w hw => by obtain ⟨k, _, rfl⟩ := List.mem_map.mp hw; exact hf k
    have w2 : Ws b ((List.range m).map g) := fun w hw => by obtain ⟨k, _, rfl⟩ := List.mem_map.mp hw; exact hg k
    have e1 : (List.range (n + 1 + m - 1)).map (fun k => xsum (n + 1) (term b f g k)) = (List.range (n + 1 + m - 1)).map fun k => xsum n (term b f g k) ^^^ term b f g k n := by
      refine List.map_congr_left fun k _ => xsum_succ _ _
    have t1 : ∀ k, xsum n (term b f g k) < span b := fun k => xsum_lt hb fun i _ => term_lt hb (hf i)
    rw [e1, evl_fn hb ht _ _ t1 (fun k => term_lt hb (hf n))]
    have e2 : evl b t ((List.range (n + 1 + m - 1)).map fun k => xsum n (term b f g k)) = mul b (mul b (evl b t ((List.range n).map f)) (evl b t ((List.range m).map g))) t := by
      rw [show n + 1 + m - 1 = (n + m - 1) + 1 by omega, List.range_succ, List.map_append]
      show evl b t (_ ++ [_]) = _
      rw [evl_snoc, ih]
      show _ ^^^ xsum n (term b f g (n + m - 1)) = _
      have z : xsum n (term b f g (n + m - 1)) = 0 := by
        have : xsum n (term b f g (n + m - 1)) = xsum n fun _ => 0 := by
          refine xsum_congr fun i hi => ?_
          unfold term
          rw [if_pos (by omega), hout _ (by omega), mul_zero]
        rw [this]
        clear this ih e1 w1 t1
        induction n with
        | zero => rfl
        | succ n ih => rw [xsum_succ, ih]; rfl
      rw [z, Nat.xor_zero]
    have e3 : evl b t ((List.range (n + 1 + m - 1)).map fun k => term b f g k n) = mul b (f n) (evl b t ((List.range m).map g)) := by
      rw [show n + 1 + m - 1 = n + m by omega, List.range_add, List.map_append]
      have z : (List.range n).map (fun k => term b f g k n) = List.replicate n 0 := by
        refine List.ext_getElem? fun i => ?_
        by_cases h : i < n
        · simp [h, term]
          omega
        · rw [List.getElem?_eq_none (by simp; omega), List.getElem?_eq_none (by simp; omega)]
      rw [z, evl_pad hb, List.map_map]
      have z2 : (List.range m).map ((fun k => term b f g k n) ∘ (n + ·)) = (List.range m).map fun k => mul b (f n) (g k) := by
        refine List.map_congr_left fun k _ => ?_
        show term b f g (n + k) n = _
        unfold term
        rw [if_pos (by omega), show n + k - n = k by omega]
      rw [z2, evl_scale hb ht (hf n) g hg]
    rw [e2, e3, List.range_succ, List.map_append]
    show _ = mul b (evl b t (_ ++ [f n])) _
    rw [evl_snoc, mul_xor_l hb (mul_lt hb (evl_lt hb w1)) (hf n)]
    congr 1
    rw [mul_assoc hb (evl_lt hb w1) (evl_lt hb w2) ht, mul_comm hb (evl_lt hb w2) ht, ← mul_assoc hb (evl_lt hb w1) ht (evl_lt hb w2)]
theorem evl_conv {b t : Nat} {xs ys : List Nat} (hb : Wd b) (ht : t < span b) (hx : Ws b xs) (hy : Ws b ys) (h0 : xs ≠ []) (h1 : ys ≠ []) : evl b t (conv b xs ys) = mul b (evl b t xs) (evl b t ys) := by
  have hl : 0 < ys.length := by cases ys with | nil => exact absurd rfl h1 | cons _ _ => simp
  unfold conv
  rw [if_neg (by simp [h0, h1])]
  have h := evl_sum hb ht (gd xs) (gd ys) (gd_lt hb hx) (gd_lt hb hy) ys.length hl (fun i hi => gd_out hi) xs.length
  rw [gd_list, gd_list] at h
  exact h
/-! ### the quotient and the remainder -/
def divStep (b : Nat) (c : Nat → Nat) (m : Nat) (r : Nat → Nat) (s : Nat) : Nat → Nat := fun k => if k = s then quo b (r s) (c 0) else if s < k ∧ k < s + m then r k ^^^ mul b (quo b (r s) (c 0)) (c (k - s)) else r k
def dvN (b : Nat) (c : Nat → Nat) (m : Nat) (w : Nat → Nat) : Nat → Nat → Nat
  | 0 => w
  | s + 1 => divStep b c m (dvN b c m w s) s
theorem quo_lt' {b x y : Nat} (hb : Wd b) (hx : x < span b) : quo b x y < span b := mul_lt hb hx
theorem dvN_lt {b : Nat} {c w : Nat → Nat} {m : Nat} (hb : Wd b) (hw : ∀ k, w k < span b) : ∀ s k, dvN b c m w s k < span b
  | 0, k => hw k
  | s + 1, k => by
    show divStep b c m (dvN b c m w s) s k < span b
    unfold divStep
    have h := dvN_lt (c := c) (m := m) hb hw s
    split
    · exact quo_lt' hb (h s)
    · split
      · exact xor_lt hb (h k) (mul_lt hb (quo_lt' hb (h s)))
      · exact h k
theorem dvN_keep {b : Nat} {c w : Nat → Nat} {m : Nat} {i : Nat} : ∀ s j, i < s → dvN b c m w (s + j) i = dvN b c m w s i
  | s, 0, _ => rfl
  | s, j + 1, h => by
    show divStep b c m (dvN b c m w (s + j)) (s + j) i = _
    unfold divStep
    rw [if_neg (by omega), if_neg (by omega)]
    exact dvN_keep s j h
theorem div_spec {b : Nat} {c w : Nat → Nat} {m : Nat} (hb : Wd b) (hw : ∀ k, w k < span b) (hc : ∀ k, c k < span b) (h0 : c 0 ≠ 0) (hout : ∀ k, m ≤ k → c k = 0) :
    ∀ s k, w k = xsum s (term b (dvN b c m w s) c k) ^^^ (if k < s then 0 else dvN b c m w s k)
  | 0, k => by
    show w k = 0 ^^^ w k
    rw [Nat.zero_xor]
  | s + 1, k => by
    have ih := div_spec hb hw hc h0 hout s k
    have e1 : xsum s (term b (dvN b c m w (s + 1)) c k) = xsum s (term b (dvN b c m w s) c k) := by
      refine xsum_congr fun i hi => ?_
      unfold term
      rw [dvN_keep s 1 hi]
    rw [xsum_succ, e1]
    have hr := dvN_lt (c := c) (m := m) hb hw s
    have eq : dvN b c m w (s + 1) s = quo b (dvN b c m w s s) (c 0) := by
      show divStep b c m (dvN b c m w s) s s = _
      unfold divStep
      rw [if_pos rfl]
    by_cases h1 : k < s
    · rw [if_pos h1, Nat.xor_zero] at ih
      rw [if_pos (by omega), Nat.xor_zero, ← ih]
      unfold term
      rw [if_neg (by omega), Nat.xor_zero]
    · rw [if_neg h1] at ih
      by_cases h2 : k = s
      · subst h2
        rw [if_pos (by omega), Nat.xor_zero, ih]
        unfold term
        rw [if_pos (Nat.le_refl _), eq, Nat.sub_self, mul_quo hb (hr _) (hc 0) h0]
      · rw [if_neg (by omega), ih]
        have et : term b (dvN b c m w (s + 1)) c k s = mul b (quo b (dvN b c m w s s) (c 0)) (c (k - s)) := by
          unfold term
          rw [if_pos (by omega), eq]
        have ed : dvN b c m w (s + 1) k = dvN b c m w s k ^^^ mul b (quo b (dvN b c m w s s) (c 0)) (c (k - s)) := by
          show divStep b c m (dvN b c m w s) s k = _
          unfold divStep
          rw [if_neg h2]
          by_cases h3 : k < s + m
          · rw [if_pos ⟨by omega, h3⟩]
          · rw [if_neg (by omega), hout (k - s) (by omega), mul_zero, Nat.xor_zero]
        rw [et, ed]
        generalize xsum s (term b (dvN b c m w s) c k) = u
        generalize dvN b c m w s k = v
        generalize mul b (quo b (dvN b c m w s s) (c 0)) (c (k - s)) = z
        rw [Nat.xor_assoc, ← Nat.xor_assoc z v z, Nat.xor_comm z v, Nat.xor_assoc v z z, Nat.xor_self, Nat.xor_zero]
/-- quotient and remainder, as lists -/
def steps (ws os : List Nat) : Nat := ws.length + 1 - os.length
def quoL (b : Nat) (ws os : List Nat) : List Nat := (List.range (steps ws os)).map (dvN b (gd os) os.length (gd ws) (steps ws os))
def remL (b : Nat) (ws os : List Nat) : List Nat := (List.range (ws.length - steps ws os)).map fun j => dvN b (gd os) os.length (gd ws) (steps ws os) (steps ws os + j)
/-- what lies behind the law's sum: other * quotient and the remainder, padded -/
def pad (n : Nat) (ws : List Nat) : List Nat := List.replicate n 0 ++ ws
theorem gd_pad {n k : Nat} {ws : List Nat} : gd (pad n ws) k = if k < n then 0 else gd ws (k - n) := by
  unfold gd pad
  rw [List.getD_eq_getElem?_getD, List.getD_eq_getElem?_getD, List.getElem?_append]
  by_cases h : k < n
  · simp [h]
  · simp [h]
theorem gd_map {n k : Nat} {f : Nat → Nat} : gd ((List.range n).map f) k = if k < n then f k else 0 := by
  unfold gd
  rw [List.getD_eq_getElem?_getD]
  by_cases h : k < n
  · simp [h]
  · simp [h]
theorem div_lists {b : Nat} {ws os : List Nat} (hb : Wd b) (hw : Ws b ws) (ho : Ws b os) (h0 : gd os 0 ≠ 0) (hl : os.length ≤ ws.length) (hp : 0 < os.length) :
    (List.range ws.length).map (fun k => gd (conv b (quoL b ws os) os) k ^^^ gd (pad (steps ws os) (remL b ws os)) k) = ws := by
  have hs : 0 < steps ws os := by unfold steps; omega
  have hs2 : steps ws os + os.length - 1 = ws.length := by unfold steps; omega
  have hq : quoL b ws os ≠ [] := by
    intro z
    have := congrArg List.length z
    unfold quoL at this
    simp at this
    omega
  have hon : os ≠ [] := by intro z; rw [z] at hp; simp at hp
  have hql : (quoL b ws os).length = steps ws os := by unfold quoL; simp
  refine Eq.trans (List.map_congr_left fun k hk => ?_) (gd_list ws)
  have hk' : k < ws.length := List.mem_range.mp hk
  have spec := div_spec (c := gd os) (w := gd ws) (m := os.length) hb (gd_lt hb hw) (gd_lt hb ho) h0 (fun i hi => gd_out hi) (steps ws os) k
  refine Eq.trans ?_ spec.symm
  have e1 : gd (conv b (quoL b ws os) os) k = xsum (steps ws os) (term b (dvN b (gd os) os.length (gd ws) (steps ws os)) (gd os) k) := by
    unfold conv
    rw [if_neg (by simp [hq, hon]), gd_map, hql, if_pos (by omega)]
    unfold cf
    rw [hql]
    refine xsum_congr fun i hi => ?_
    unfold term
    have : gd (quoL b ws os) i = dvN b (gd os) os.length (gd ws) (steps ws os) i := by
      unfold quoL
      rw [gd_map, if_pos hi]
    rw [this]
  have e2 : gd (pad (steps ws os) (remL b ws os)) k = if k < steps ws os then 0 else dvN b (gd os) os.length (gd ws) (steps ws os) k := by
    rw [gd_pad]
    by_cases h : k < steps ws os
    · rw [if_pos h, if_pos h]
    · rw [if_neg h, if_neg h]
      unfold remL
      rw [gd_map, if_pos (by omega), show steps ws os + (k - steps ws os) = k by omega]
  rw [e1, e2]
end My

set_option Elab.async false
set_option linter.all false
set_option maxRecDepth 100000
set_option maxHeartbeats 4000000
/-! ### f(k = v, ..) without positional arguments -/
namespace My
open PySem PySem.Spec PyProof.Rows L2
def tCallZ (m : Nat) (sp : Sp) (gV : List V → List V) (E : XK) (tk : TA) : TE := fun σ H Q => tk σ H fun zs H2 => zs.length = m ∧ sp (gV zs) H2 Q E
section
variable {X : Cx} {CX : CXT} {k : Nat} {f : Addr} {fd : FuncData} {ps ks : List Str} {sp : Sp} {E : XK} {x : Str} {p pos : Pos} {kws : List Keyword} {tk : TA} {g : List Value → List Value} {gV : List V → List V}
theorem pe_callZ (F : FnOk X.prog X.w X.K X.mg X.base CX k f fd ps sp) (hr : Room k X.A) (hg : Gl X x) (hm : X.mg x = some (.ref f)) (hk : PySem.W.keepIn X.K (.ref f) = true) (hb : KBn X.K fd ps 0 ks (fun _ ws => g ws) (fun _ zs => gV zs)) (hx : Passes CX X E)
    (hkw : PK X kws tk) (hall : (backToKw pos (keywordEach kws X.env)).all (·.1.isSome) = true := by rfl) (hks : (backToKw pos (keywordEach kws X.env)).filterMap (·.1) = ks := by rfl)
    (hdb : (x == ("__debug__" : Str)) = false := by decide)
    (hpl : ((backTo pos (starEach [] X.env)).any (·.1) || (backToKw pos (keywordEach kws X.env)).any (·.1.isNone)) = false := by rfl) :
    PE X (.Call (.Name x p) [] kws pos) (tCallZ ks.length sp gV E tk) := by
  refine ⟨fun pins s σ H Q I h => ?_⟩
  refine wpAny_Call_Name_kw (ld_glob I hg hm ?_ hdb)
  refine PySem.W.callWith_KW0 (h₀ := X.base) I.ok.mod.kin hk hall (thn (hkw.run pos pins s σ H _ I h) fun ws s2 ⟨zs, H2, I2, rz, l2, q2⟩ => ⟨I2.kIn, ?_⟩) hpl
  rw [hks]
  exact run_fnN (us := []) (vs := []) F hr hb hx I2 .nil rz rfl l2 q2
end
theorem kb0 {K : PySem.W.Frag} {x qual : Str} {st : Stmt} {f : Addr} {fd : FuncData} {ps ks : List Str} (F : Fun K x qual st f fd) (g : {α : Type} → List α → List α)
    (hrel : ∀ {zs : List V} {ws : List Value}, Vals zs ws → Vals (g zs) (g ws))
    (h : ∀ (kV doc pm : Value) (an : Option Addr) (cdv ct : Value) (ws : List Value), ws.length = ks.length → bindArgs (PySem.W.fnOf x qual (defArgs st) (defBody st) (defScope st) .none kV doc pm an cdv ct) ⟨[], ks.zip ws⟩ = pure (ps.zip (g ws))) :
    KBn K fd ps 0 ks (fun _ ws => g ws) (fun _ zs => g zs) := by
  obtain ⟨oc, od, kV, doc, pm, an, cdv, ct, osl, rfl, lk, hcd⟩ := F.ex
  refine ⟨fun s us ws X l1 l2 => ?_, fun _ r2 => hrel r2⟩
  have e : us = [] := List.length_eq_zero_iff.mp l1
  subst e
  exact .of_eq (h kV doc pm an cdv ct ws l2)
/-- three values the other way round -/
def rev3 {α : Type} : List α → List α
  | [a, b, c] => [c, b, a]
  | l => l
theorem rev3_rel {zs : List V} {ws : List Value} (r : Vals zs ws) : Vals (rev3 zs) (rev3 ws) := by
  cases r with
  | nil => exact .nil
  | cons r1 r =>
    cases r with
    | nil => exact .cons r1 .nil
    | cons r2 r =>
      cases r with
      | nil => exact .cons r1 (.cons r2 .nil)
      | cons r3 r =>
        cases r with
        | nil => exact .cons r3 (.cons r2 (.cons r1 .nil))
        | cons r4 r => exact .cons r1 (.cons r2 (.cons r3 (.cons r4 r)))
end My

set_option Elab.async false
set_option linter.all false
set_option maxRecDepth 100000
set_option maxHeartbeats 4000000
/-! ### lists of words, compared -/
namespace My
open PySem PySem.Spec PyProof.Rows L2
theorem same_upd {H : Hp} {p : Addr} {o : HO} (h : H p = none) : Same H (upd H p o) := fun b x e => by
  rw [upd_ne (ne_of_none e h)]
  exact e
/-- a word as a value -/
def vN (n : Nat) : V := .int (n : Int)
def dI (n : Nat) : PyData := .int (n : Int)
def dN (ws : List Nat) : PyData := .list (ws.map dI)
theorem lay_all : ∀ ws : List Nat, PyData.canLayAll0 (ws.map dI) = true
  | [] => rfl
  | w :: r => by
    show (PyData.canLay0 (dI w) && PyData.canLayAll0 (r.map dI)) = true
    rw [lay_all r]
    rfl
theorem depth_all : ∀ ws : List Nat, PyData.depthAll (ws.map dI) = 0
  | [] => rfl
  | w :: r => by
    show max (PyData.depth (dI w)) (PyData.depthAll (r.map dI)) = 0
    rw [depth_all r]
    rfl
theorem dN_lay (ws : List Nat) : (dN ws).canLay0 = true := lay_all ws
theorem dN_depth (ws : List Nat) : (dN ws).depth = 1 := by
  show PyData.depthAll (ws.map dI) + 1 = 1
  rw [depth_all]
theorem dN_shaped (ws : List Nat) : SeqAt.shaped (dN ws) = true := by
  unfold SeqAt.shaped
  rw [dN_lay, dN_depth]
  rfl
theorem eqv_all : ∀ xs ys : List Nat, PyData.eqvAll (xs.map dI) (ys.map dI) = decide (xs = ys)
  | [], [] => rfl
  | [], _ :: _ => by simp [PyData.eqvAll]
  | _ :: _, [] => by simp [PyData.eqvAll]
  | x :: r, y :: t => by
    show (PyData.eqv (dI x) (dI y) && PyData.eqvAll (r.map dI) (t.map dI)) = decide (x :: r = y :: t)
    rw [eqv_all r t]
    have e : PyData.eqv (dI x) (dI y) = decide (x = y) := by
      show ((x : Int) == (y : Int)) = decide (x = y)
      by_cases h : x = y
      · subst h; simp
      · simp [h]
        omega
    rw [e]
    by_cases h : x = y
    · by_cases h2 : r = t
      · simp [h, h2]
      · simp [h, h2]
    · simp [h]
theorem dN_eqv (xs ys : List Nat) : PyData.eqv (dN xs) (dN ys) = decide (xs = ys) := eqv_all xs ys
theorem dp_all {K : PySem.W.Frag} {H : Hp} : ∀ ws : List Nat, DpAll K H (ws.map vN) (ws.map dI)
  | [] => .nil
  | w :: r => .cons (.int _) (dp_all r)
theorem dN_dp {K : PySem.W.Frag} {H : Hp} {a : Addr} {ws : List Nat} (h : SqL K H a (ws.map vN)) : Dp K H (.ref a) (dN ws) := .lst h (dp_all ws)
end My

set_option Elab.async false
set_option linter.all false
set_option maxRecDepth 100000
set_option maxHeartbeats 4000000
/-! ### the program's tables of powers and exponents -/
namespace My
open PySem PySem.Spec PyProof.Rows L2
def E4 : List Int := [0, 0, 1, 12, 2, 9, 13, 7, 3, 4, 10, 5, 14, 11, 8, 6]
def E8 : List Int := [0, 0, 1, 231, 2, 207, 232, 59, 3, 35, 208, 154, 233, 20, 60, 183, 4, 159, 36, 66, 209, 118, 155, 251, 234, 245, 21, 11, 61, 130, 184, 146, 5, 122, 160, 79, 37, 113, 67, 106, 210, 224, 119, 221, 156, 242, 252, 32, 235, 213, 246, 135, 22, 42, 12, 140, 62, 227, 131, 75, 185, 191, 147, 94, 6, 70, 123, 195, 161, 53, 80, 167, 38, 109, 114, 203, 68, 51, 107, 49, 211, 40, 225, 189, 120, 111, 222, 240, 157, 116, 243, 128, 253, 205, 33, 18, 236, 163, 214, 98, 247, 55, 136, 102, 23, 82, 43, 177, 13, 169, 141, 89, 63, 8, 228, 151, 132, 72, 76, 218, 186, 125, 192, 200, 148, 197, 95, 174, 7, 150, 71, 217, 124, 199, 196, 173, 162, 97, 54, 101, 81, 176, 168, 88, 39, 188, 110, 239, 115, 127, 204, 17, 69, 194, 52, 166, 108, 202, 50, 48, 212, 134, 41, 139, 226, 74, 190, 93, 121, 78, 112, 105, 223, 220, 241, 31, 158, 65, 117, 250, 244, 10, 129, 145, 254, 230, 206, 58, 34, 153, 19, 182, 237, 15, 164, 46, 215, 171, 99, 86, 248, 143, 56, 180, 137, 91, 103, 29, 24, 25, 83, 26, 44, 84, 178, 27, 14, 45, 170, 85, 142, 179, 90, 28, 64, 249, 9, 144, 229, 57, 152, 181, 133, 138, 73, 92, 77, 104, 219, 30, 187, 238, 126, 16, 193, 165, 201, 47, 149, 216, 198, 172, 96, 100, 175, 87]
def P4 : List Int := [1, 2, 4, 8, 9, 11, 15, 7, 14, 5, 10, 13, 3, 6, 12]
def P8 : List Int := [1, 2, 4, 8, 16, 32, 64, 128, 113, 226, 181, 27, 54, 108, 216, 193, 243, 151, 95, 190, 13, 26, 52, 104, 208, 209, 211, 215, 223, 207, 239, 175, 47, 94, 188, 9, 18, 36, 72, 144, 81, 162, 53, 106, 212, 217, 195, 247, 159, 79, 158, 77, 154, 69, 138, 101, 202, 229, 187, 7, 14, 28, 56, 112, 224, 177, 19, 38, 76, 152, 65, 130, 117, 234, 165, 59, 118, 236, 169, 35, 70, 140, 105, 210, 213, 219, 199, 255, 143, 111, 222, 205, 235, 167, 63, 126, 252, 137, 99, 198, 253, 139, 103, 206, 237, 171, 39, 78, 156, 73, 146, 85, 170, 37, 74, 148, 89, 178, 21, 42, 84, 168, 33, 66, 132, 121, 242, 149, 91, 182, 29, 58, 116, 232, 161, 51, 102, 204, 233, 163, 55, 110, 220, 201, 227, 183, 31, 62, 124, 248, 129, 115, 230, 189, 11, 22, 44, 88, 176, 17, 34, 68, 136, 97, 194, 245, 155, 71, 142, 109, 218, 197, 251, 135, 127, 254, 141, 107, 214, 221, 203, 231, 191, 15, 30, 60, 120, 240, 145, 83, 166, 61, 122, 244, 153, 67, 134, 125, 250, 133, 123, 246, 157, 75, 150, 93, 186, 5, 10, 20, 40, 80, 160, 49, 98, 196, 249, 131, 119, 238, 173, 43, 86, 172, 41, 82, 164, 57, 114, 228, 185, 3, 6, 12, 24, 48, 96, 192, 241, 147, 87, 174, 45, 90, 180, 25, 50, 100, 200, 225, 179, 23, 46, 92, 184]
def tabE (b : Nat) : List Int := cond (Nat.beq b 4) E4 E8
def tabP (b : Nat) : List Int := cond (Nat.beq b 4) P4 P8
theorem lgpw' {b i : Nat} (hb : Wd b) (h : i < turn b) : lg b (pw b i) = i := by
  have q : ((List.range (turn b)).all fun i => Nat.beq (lg b (pw b i)) i) = true := by rcases hb with rfl | rfl <;> decide +kernel
  exact Nat.eq_of_beq_eq_true (List.all_eq_true.mp q i (List.mem_range.mpr h))
def goodE (b : Nat) (x : Nat) : Bool := match (tabE b)[x]? with
  | some (Int.ofNat e) => Nat.beq x 0 || (Nat.blt e (turn b) && Nat.beq (pw b e) x)
  | _ => false
theorem goodE_all {b : Nat} (hb : Wd b) : ((List.range (span b)).all (goodE b)) = true := by rcases hb with rfl | rfl <;> decide +kernel
theorem tabE_at {b x : Nat} (hb : Wd b) (hx : x < span b) (h0 : x ≠ 0) : (tabE b)[x]? = some (lg b x : Int) := by
  have h := List.all_eq_true.mp (goodE_all hb) x (List.mem_range.mpr hx)
  unfold goodE at h
  split at h
  · next e he =>
    rcases (Bool.or_eq_true _ _).mp h with z | z
    · exact absurd (Nat.eq_of_beq_eq_true z) h0
    · rw [Bool.and_eq_true] at z
      have h1 : e < turn b := by
        have := z.1
        rw [Nat.blt_eq] at this
        exact this
      have h2 := Nat.eq_of_beq_eq_true z.2
      rw [he, ← h2, lgpw' hb h1]
      rfl
  · cases h
theorem tabE_len {b : Nat} (hb : Wd b) : (tabE b).length = span b := by rcases hb with rfl | rfl <;> decide +kernel
theorem tabP_is {b : Nat} (hb : Wd b) : tabP b = (pws b).map (fun n : Nat => (n : Int)) := by rcases hb with rfl | rfl <;> decide +kernel
theorem tabP_len {b : Nat} (hb : Wd b) : (tabP b).length = turn b := by rw [tabP_is hb, List.length_map, pws_len]
theorem tabP_at {b i : Nat} (hb : Wd b) (h : i < turn b) : (tabP b)[i]? = some (pw b i : Int) := by
  rw [tabP_is hb, List.getElem?_map, pws_at h]
  rfl
end My

set_option Elab.async false
set_option linter.all false
set_option maxRecDepth 100000
set_option maxHeartbeats 4000000
/-! ### slices of rows, lists (true) or tuples (false); the powers twice -/
namespace My
open PySem PySem.Spec PyProof.Rows L2
section
variable {X : Cx}
def rSlB (K : PySem.W.Frag) : V → Option Int → Option Int → Hp → VK → Prop := fun x lo hi H Q => ∃ a xs k, x = .ref a ∧ SqB k K H a xs ∧ ∀ p H', Same H H' → SqB k K H' p (cutV xs lo hi) → Q (.ref p) H'
theorem sl_rowB : SlR X (rSlB X.K) := by
  intro pins s σ H x v vl vu lo hi sl Q I rx hs pl pu h
  obtain ⟨a, xs, k, rfl, hx, q⟩ := h
  cases k
  · refine sl_tupA pins s σ H _ v vl vu lo hi sl Q I rx hs pl pu ⟨a, xs, rfl, hx, fun hw => q a H (Same.refl _) ?_, fun _ p hp => q p _ (same_upd hp) (.inl (.inl upd_same))⟩
    have e : cutV xs lo hi = xs := by
      unfold cutV
      rw [hw.1, hw.2]
      simp
    rw [e]
    exact hx
  · exact sl_list pins s σ H _ v vl vu lo hi sl Q I rx hs pl pu ⟨a, xs, rfl, hx, fun p hp => q p _ (same_upd hp) (.inl (.inl upd_same))⟩
end
theorem turn_pos' {b : Nat} (hb : Wd b) : 0 < turn b := by rcases hb with rfl | rfl <;> decide
/-- the powers, twice -/
def PP (b : Nat) : List V := (List.replicate (2 : Int).toNat ((tabP b).map V.int)).flatten
theorem PP_is (b : Nat) : PP b = (tabP b).map V.int ++ (tabP b).map V.int := by
  unfold PP
  show (List.replicate 2 _).flatten = _
  simp [List.replicate]
theorem PP_at {b i : Nat} (hb : Wd b) (h : i < 2 * turn b) : (PP b)[i]? = some (V.int (pw b i : Int)) := by
  have hl : ((tabP b).map V.int).length = turn b := by rw [List.length_map, tabP_len hb]
  rw [PP_is]
  by_cases h1 : i < turn b
  · rw [List.getElem?_append_left (by rw [hl]; exact h1), List.getElem?_map, tabP_at hb h1]
    rfl
  · rw [List.getElem?_append_right (by rw [hl]; omega), hl, List.getElem?_map, tabP_at hb (by omega)]
    have e : pw b i = pw b (i - turn b) := by
      rw [← pw_add_turn hb (i - turn b), show i - turn b + turn b = i by omega]
    rw [e]
    rfl
theorem PP_len {b : Nat} (hb : Wd b) : (PP b).length = 2 * turn b := by
  rw [PP_is, List.length_append, List.length_map, tabP_len hb]
  omega
theorem tabP_small {b : Nat} (hb : Wd b) : ((tabP b).map V.int).length ≤ 1000 ∧ (tabP b).map V.int ≠ [] := by
  have e := tabP_len hb
  have t := turn_pos' hb
  refine ⟨?_, fun z => ?_⟩
  · rw [List.length_map, e]
    rcases hb with rfl | rfl <;> decide
  · have := congrArg List.length z
    rw [List.length_map, e] at this
    simp at this
    omega
theorem sum_at {b x y : Nat} (hb : Wd b) (hx : x < span b) (hy : y < span b) (h0 : x ≠ 0) (h1 : y ≠ 0) : atI (PP b) ((lg b x : Int) + (lg b y : Int)) = some (V.int (mul b x y : Int)) := by
  have l1 := lg_lt hb hx h0
  have l2 := lg_lt hb hy h1
  rw [show (lg b x : Int) + (lg b y : Int) = ((lg b x + lg b y : Nat) : Int) by omega]
  refine atI_nat ?_
  rw [PP_at hb (by omega), ← pw_mul hb, pw_lg hb hx h0, pw_lg hb hy h1]
theorem diff_at {b x y : Nat} (hb : Wd b) (hx : x < span b) (hy : y < span b) (h0 : x ≠ 0) (h1 : y ≠ 0) : atI (PP b) ((lg b x : Int) - (lg b y : Int) + (turn b : Int)) = some (V.int (quo b x y : Int)) := by
  have l1 := lg_lt hb hx h0
  have l2 := lg_lt hb hy h1
  rw [show (lg b x : Int) - (lg b y : Int) + (turn b : Int) = ((lg b x + (turn b - lg b y) : Nat) : Int) by omega]
  refine atI_nat ?_
  rw [PP_at hb (by omega)]
  unfold quo
  have e : pw b (lg b y * (turn b - 1)) = pw b (turn b - lg b y) := by
    have h := pw_add_mul hb (turn b - lg b y) (lg b y)
    have h2 := pw_add_turn hb (lg b y * (turn b - 1))
    have h3 : turn b - lg b y + lg b y * turn b = lg b y * (turn b - 1) + turn b := by
      have h4 : lg b y * turn b = lg b y * (turn b - 1) + lg b y := by
        rw [← Nat.mul_succ]
        rw [show (turn b - 1).succ = turn b by omega]
      omega
    rw [h3] at h
    rw [← h2, h]
  rw [e, ← pw_mul hb, pw_lg hb hx h0]
end My
namespace My
open PySem PySem.Spec PyProof.Rows L2
theorem ix_rowBK {X : Cx} {K : PySem.W.Frag} (h : X.K = K) : IxR X (rIxB K) := by
  subst h
  exact ix_rowB
end My
namespace My
open PySem PySem.Spec PyProof.Rows L2
theorem pe_ifName {X : Cx} {K : PySem.W.Frag} {x : Str} {p : Pos} {a b : Expr} {pos : Pos} {tc ta tb : TE} (h : X.K = K) (hc : PE X (.Name x p) tc) (ha : PE X a ta) (hb : PE X b tb) :
    PE X (.IfExp (.Name x p) a b pos) (tIf (fun σ H Q => tc σ H fun x H' => ∃ k, TruV K x H' k ∧ Q k H') ta tb) := by
  subst h
  exact pe_ifExp (pt_truth hc (fun _ => rfl)) ha hb
end My

set_option Elab.async false
set_option linter.all false
set_option maxRecDepth 100000
set_option maxHeartbeats 4000000
/-! ### rows of plain words; values of polynomials by exponents -/
namespace My
open PySem PySem.Spec PyProof.Rows L2
theorem pt_truthK {X : Cx} {K : PySem.W.Frag} {a : Expr} {ta : TE} (h : X.K = K) (ha : PE X a ta) (he : ∀ whole, isTrue a X.env whole = (do let v ← whole; standAt a.pos; holding [v] (truthy v))) :
    PT X a (fun σ H Q => ta σ H fun x H' => ∃ k, TruV K x H' k ∧ Q k H') := by
  subst h
  exact pt_truth ha he
theorem SqB.truB {b : Bool} {K : PySem.W.Frag} {H : Hp} {a : Addr} {xs : List V} (h : SqB b K H a xs) : TruV K (.ref a) H (!xs.isEmpty) := by
  cases b
  · exact .inr (.inl ⟨xs, h, rfl⟩)
  · exact .inl ⟨xs, h, rfl⟩
theorem word_shr {b x : Nat} (hb : Wd b) (hx : x < span b) : ((x : Int) / 2 ^ ((b : Int)).toNat != 0) = false := by
  have e : ((x : Int) / 2 ^ ((b : Int)).toNat) = ((x / 2 ^ b : Nat) : Int) := by
    rw [Int.toNat_natCast]
    norm_cast
  rw [e, Nat.div_eq_of_lt (by rw [← span_pow hb]; exact hx)]
  rfl
theorem evl_at0 {b : Nat} (ws : List Nat) : evl b 0 ws = ws.getLastD 0 := by
  rcases List.eq_nil_or_concat ws with rfl | ⟨r, w, rfl⟩
  · rfl
  · rw [List.concat_eq_append, evl_snoc, mul_zero, Nat.zero_xor]
    simp
end My

set_option Elab.async false
set_option linter.all false
set_option maxRecDepth 100000
set_option maxHeartbeats 1000000
/-! ### zip of any number of lists -/
namespace My
open PySem
open PySem.Sem (wp)
section
variable {prog : Program} {w : World} {A : Around} {E : Value → Shared → Prop}
/-- a for over a list, with a word for each turn -/
theorem wp_for {α β : Type} {f : α → β → Sem (ForInStep β)} {Q : β → Shared → Prop} (W : Nat → β → Shared → Prop) : ∀ (l : List α) (k : Nat) (b : β) (s : Shared),
    (∀ j x b s, l[j]? = some x → W (k + j) b s → wpAny (model prog w) A (f x b) (fun r s' => ∃ b', r = .yield b' ∧ W (k + j + 1) b' s') E s) → W k b s → (∀ b s, W (k + l.length) b s → Q b s) → wpAny (model prog w) A (forIn l b f) Q E s
  | [], k, b, s, _, h0, hq => by
    rw [List.forIn_nil]
    exact wpAny_pure (hq b s h0)
  | x :: l, k, b, s, hs, h0, hq => by
    rw [List.forIn_cons]
    refine wpAny_bind (wpAny_mono (hs 0 x b s rfl h0) (fun r s' h => ?_) fun _ _ h => h)
    obtain ⟨b', e, h1⟩ := h
    subst e
    refine wp_for W l (k + 1) b' s' (fun j y b2 s2 hy h2 => ?_) h1 (fun b2 s2 h2 => hq b2 s2 ?_)
    · have e : k + 1 + j = k + (j + 1) := by omega
      rw [e] at h2 ⊢
      exact hs (j + 1) y b2 s2 (by simpa using hy) h2
    · have e : k + 1 + l.length = k + (x :: l).length := by rw [List.length_cons]; omega
      rw [← e]
      exact h2
/-- the iterators of a zip, made one behind the other -/
theorem wp_iterAll {L : List Addr} {s : Shared} {Q : List Value → Shared → Prop} (hl : ∀ l ∈ L, ∃ xs, s.heap.IsList l xs)
    (hq : ∀ h', h'.objs.size = s.heap.objs.size + L.length → (∀ j l, L[j]? = some l → h'.IsListIter (s.heap.objs.size + j) l 0) → (∀ c o, s.heap.get? c = some o → h'.get? c = some o) →
      Q ((List.range L.length).map fun j => .ref (s.heap.objs.size + j)) { s with heap := h' }) :
    wpAny (model prog w) A (Builtin.SmallTypes.iterAll (L.map .ref)) Q E s := by
  unfold Builtin.SmallTypes.iterAll
  refine wpAny_bind (wp_for (fun k (b : Array Value) s' => ∃ h', s' = { s with heap := h' } ∧ b.toList = (List.range k).map (fun j => Value.ref (s.heap.objs.size + j)) ∧ h'.objs.size = s.heap.objs.size + k ∧ (∀ j l, j < k → L[j]? = some l → h'.IsListIter (s.heap.objs.size + j) l 0) ∧ (∀ c o, s.heap.get? c = some o → h'.get? c = some o)) _ 0 _ _ ?_ ⟨s.heap, rfl, rfl, rfl, fun j l z _ => absurd z (Nat.not_lt_zero _), fun _ _ e => e⟩ ?_)
  · rintro j x b s' hx ⟨h', rfl, hb, hsz, hi, hk⟩
    rw [Nat.zero_add] at hb hsz hi ⊢
    rw [List.getElem?_map] at hx
    cases hL : L[j]? with
    | none => rw [hL] at hx; cases hx
    | some l =>
      rw [hL] at hx
      cases hx
      obtain ⟨xs, o, ho, hc, hd⟩ := hl l (List.mem_of_getElem? hL)
      have hl' : Heap.IsList h' l xs := ⟨o, hk _ _ ho, hc, hd⟩
      refine wpAny_bind (wpAny_holding (wpAny_pyIter_list (s := { s with heap := h' }) hl' (wpAny_pure ⟨_, rfl, _, rfl, ?_, ?_, ?_, ?_⟩)))
      · show (b.push _).toList = _
        rw [Array.toList_push, hb, List.range_succ, List.map_append, hsz]
        rfl
      · show (Heap.push h' _).objs.size = _
        rw [Heap.size_push, hsz]
        omega
      · intro j2 l2 hj h2
        by_cases e : j2 = j
        · subst e
          rw [hL] at h2
          cases h2
          rw [← hsz]
          exact ⟨_, Heap.get?_push_size _ rfl, rfl, rfl⟩
        · exact (hi j2 l2 (by omega) h2).at fun o q => Heap.get?_push_of_some _ q
      · exact fun c o q => Heap.get?_push_of_some _ (hk c o q)
  · rintro b s' ⟨h', rfl, hb, hsz, hi, hk⟩
    rw [List.length_map, Nat.zero_add] at hb hsz hi
    refine wpAny_pure ?_
    rw [hb]
    exact hq h' hsz (fun j l h => hi j l (List.getElem?_eq_some_iff.mp h).1 h) hk
theorem typeCall_zip (l : List Value) : checkTypeCall "zip" ⟨l, []⟩ = pure () := by kernel_rfl
theorem newCall_zip (a : Value) (l : List Value) : checkBuiltinCall "zip.__new__" ⟨.type "zip" :: a :: l, []⟩ = pure () := by kernel_rfl
theorem args_init_any (a : Value) (l : List Value) : argsOk "object.__init__" ⟨a :: l, []⟩ := by unfold argsOk; kernel_rfl
/-- a zip object, its parts in the two cells behind the iterators -/
abbrev ZRec (h : Heap) (z TI TO : Addr) (f0 : Value) (b : Bool) : Prop :=
  h.get? z = some { cls := .type "zip", dict := none, data := .fields #[f0, .bool b, .bool false, .ref TI, .ref TO], slots := #[] }
abbrev STup (h : Heap) (T : Addr) (a : Array Value) : Prop := h.get? T = some { cls := .type "tuple", data := .seq a }
def refsOf (b n : Nat) : List Value := (List.range n).map fun j => .ref (b + j)
theorem meets_zip_n (L : List Addr) (hn : L.length ≤ sizeLine) :
    Meets (Builtin.«zip.__new__» ⟨.type "zip" :: L.map .ref, []⟩) (fun _ R s => (∀ l ∈ L, ∃ xs, s.heap.IsList l xs) ∧
      ∀ h', ZRec h' (s.heap.objs.size + L.length + 2) (s.heap.objs.size + L.length) (s.heap.objs.size + L.length + 1) .none false → STup h' (s.heap.objs.size + L.length) (refsOf s.heap.objs.size L.length).toArray →
        (∃ a, STup h' (s.heap.objs.size + L.length + 1) a ∧ a.size = L.length) → (∀ j l, L[j]? = some l → h'.IsListIter (s.heap.objs.size + j) l 0) → (∀ c o, s.heap.get? c = some o → h'.get? c = some o) →
        R (.ok (.ret (.ref (s.heap.objs.size + L.length + 2)))) { s with heap := h' }) :=
  .of_wp fun prog w A R s h => by
    obtain ⟨hp, g, d, tk, os⟩ := s
    obtain ⟨hl, h⟩ := h
    have hsub := sub_zip
    wp_walk using wp_iterAll hl
    intro h1 hsz hi hk
    refine wpAny_bind (wpAny_newTuple ?_ (by simpa using hn))
    refine wpAny_bind (wpAny_newTuple ?_ (by simpa using hn))
    have n2 : (h1.push { cls := .type "tuple", data := .seq (refsOf hp.objs.size L.length).toArray }).objs.size = hp.objs.size + L.length + 1 := by rw [Heap.size_push, hsz]
    generalize ea : (List.map (fun _ => Value.none) (List.map (fun j => Value.ref (hp.objs.size + j)) (List.range L.length))).toArray = a0
    have la : a0.size = L.length := by rw [← ea]; simp
    have n3 : ((h1.push { cls := .type "tuple", data := .seq (refsOf hp.objs.size L.length).toArray }).push { cls := .type "tuple", data := .seq a0 }).objs.size = hp.objs.size + L.length + 2 := by rw [Heap.size_push, n2]
    unfold Builtin.SmallTypes.newRecord
    wp_walk
    refine ⟨_, rfl, ?_⟩
    have ev : (Shared.heap ⟨hp, g, d, tk, os⟩) = hp := rfl
    rw [ev] at h
    have key := h (((h1.push { cls := .type "tuple", data := .seq (refsOf hp.objs.size L.length).toArray }).push { cls := .type "tuple", data := .seq a0 }).push { cls := .type "zip", data := .fields #[.none, .bool false, .bool false, .ref (hp.objs.size + L.length), .ref (hp.objs.size + L.length + 1)] })
      (by rw [← n3]; exact Heap.get?_push_size _ rfl) (Heap.get?_push_of_some _ (Heap.get?_push_of_some _ (by rw [← hsz]; exact Heap.get?_push_size _ rfl))) ⟨a0, Heap.get?_push_of_some _ (by rw [← n2]; exact Heap.get?_push_size _ rfl), la⟩
      (fun j l e => (hi j l e).at fun o q => Heap.get?_push_of_some _ (Heap.get?_push_of_some _ (Heap.get?_push_of_some _ q))) (fun c o q => Heap.get?_push_of_some _ (Heap.get?_push_of_some _ (Heap.get?_push_of_some _ (hk c o q))))
    have hsz' : h1.objs.size = hp.objs.size + L.length := hsz
    show R (.ok (.ret (.ref (((h1.push { cls := .type "tuple", data := .seq (refsOf hp.objs.size L.length).toArray }).push { cls := .type "tuple", data := .seq a0 }).objs.size)))) ⟨((h1.push { cls := .type "tuple", data := .seq (refsOf hp.objs.size L.length).toArray }).push { cls := .type "tuple", data := .seq a0 }).push { cls := .type "zip", data := .fields #[.none, .bool false, .bool false, .ref h1.objs.size, .ref (h1.push { cls := .type "tuple", data := .seq (refsOf hp.objs.size L.length).toArray }).objs.size] }, g, d, tk, os⟩
    rw [n3, n2, hsz']
    exact key
end
section
variable {prog : Program} {w : World} {A : Around} {E : Value → Shared → Prop} {s : Shared}
/-- the parts of a zip of the lists L, all iterators at i -/
structure ZAt (L : List Addr) (b i : Nat) (h : Heap) : Prop where
  z : ∃ f0 c, ZRec h (b + L.length + 2) (b + L.length) (b + L.length + 1) f0 c ∧ (f0 = .none ∨ ∃ T : Nat, f0 = rawInt T)
  ti : STup h (b + L.length) (refsOf b L.length).toArray
  to : ∃ a, STup h (b + L.length + 1) a ∧ a.size = L.length
  its : ∀ j l, L[j]? = some l → h.IsListIter (b + j) l i
def Zpart (L : List Addr) (b : Nat) (c : Addr) : Prop := c = b + L.length + 2 ∨ c = b + L.length + 1 ∨ ∃ j, j < L.length ∧ c = b + j
theorem za1 (b n : Nat) : b + n ≠ b + n + 2 := by omega
theorem za2 (b n : Nat) : b + n + 1 ≠ b + n + 2 := by omega
theorem za3 {b n j : Nat} (h : j < n) : b + j ≠ b + n + 2 := by omega
theorem za4 {b n j : Nat} (h : j < n) : b + j ≠ b + n + 1 := by omega
theorem za5 {b n l : Nat} (h : l < b) : l ≠ b + n + 2 := by omega
theorem za6 {b n l : Nat} (h : l < b) : l ≠ b + n + 1 := by omega
theorem za7 {b j l : Nat} (h : l < b) : l ≠ b + j := by omega
theorem za8 (b n : Nat) : b + n ≠ b + n + 1 := by omega
theorem za9 {b n j : Nat} (h : j < n) : b + n ≠ b + j := by omega
theorem zb1 {b n j : Nat} (h : j < n) : b + n + 1 ≠ b + j := by omega
theorem zb2 {b n j : Nat} (h : j < n) : b + n + 2 ≠ b + j := by omega
theorem zb3 {b j k : Nat} (h : j ≠ k) : b + j ≠ b + k := by omega
theorem low_not {L : List Addr} {b c : Nat} (h : c < b) : ¬ Zpart L b c := by
  rintro (e | e | ⟨j, _, e⟩)
  · exact za5 h e
  · exact za6 h e
  · exact za7 h e
theorem ti_not {L : List Addr} {b : Nat} : ¬ Zpart L b (b + L.length) := by
  rintro (e | e | ⟨j, h, e⟩)
  · exact za1 _ _ e
  · exact za8 _ _ e
  · exact za9 h e
theorem alive_any {a : Addr} {Q : Option Obj → Shared → Prop} (h : Q (s.heap.get? a) s) : wpAny (model prog w) A (loadIfAlive a) Q E s := fun _ _ _ => h
theorem owned_ask {z TI TO : Addr} {f0 : Value} {c0 : Bool} {Q : Bool → Shared → Prop} (hz : ZRec s.heap z TI TO f0 c0) (hf : f0 = .none ∨ ∃ T : Nat, f0 = rawInt T)
    (hQ : ∀ r h' c', ZRec h' z TI TO f0 c' → Heap.SameBut z s.heap h' → Q r { s with heap := h' }) : wpAny (model prog w) A (Builtin.SmallTypes.ownedTupleIsFree (.ref z)) Q E s := by
  unfold Builtin.SmallTypes.ownedTupleIsFree
  rcases hf with rfl | ⟨T, rfl⟩
  · exact wpAny_bind (wpAny_field hz rfl (x := .none) rfl (wpAny_pure (hQ true s.heap c0 hz (Heap.SameBut.refl _ _))))
  · refine wpAny_bind (wpAny_field hz rfl (x := rawInt T) rfl ?_)
    show wpAny _ _ (loadIfAlive ((T : Int).toNat) >>= _) _ _ _
    rw [Int.toNat_natCast]
    refine wpAny_bind (alive_any ?_)
    cases s.heap.get? T with
    | none =>
      simp only [Option.isNone_none, if_true]
      exact wpAny_pure (hQ true s.heap c0 hz (Heap.SameBut.refl _ _))
    | some oT =>
      simp only [Option.isNone_some, Bool.false_eq_true, if_false]
      refine wpAny_bind (wpAny_field hz rfl (x := .bool c0) rfl ?_)
      cases c0 with
      | true =>
        rw [if_neg (show ¬ ((Value.bool true != Value.bool true) = true) from Bool.false_ne_true)]
        exact wpAny_pure (hQ false s.heap true hz (Heap.SameBut.refl _ _))
      | false =>
        rw [if_pos (show (Value.bool false != Value.bool true) = true from rfl)]
        exact wpAny_bind (wpAny_setField_rec hz (by simp) fun h₁ hz₁ hs₁ => wpAny_pure (hQ false h₁ true hz₁ hs₁))
theorem refs_at {b n j : Nat} {x : Value} (h : (refsOf b n)[j]? = some x) : j < n ∧ x = .ref (b + j) := by
  unfold refsOf at h
  rw [List.getElem?_map] at h
  by_cases c : j < n
  · rw [List.getElem?_range c] at h
    exact ⟨c, (Option.some.inj h).symm⟩
  · rw [List.getElem?_eq_none (by rw [List.length_range]; omega)] at h
    cases h
theorem zipN_next {L : List Addr} {b i : Nat} {col : Nat → Value} {Q : Value → Shared → Prop} (hn : L.length ≤ sizeLine) (h0 : L ≠ []) (hlow : ∀ l ∈ L, l < b) (Z : ZAt L b i s.heap)
    (hl : ∀ j l, L[j]? = some l → ∃ xs, s.heap.IsList l xs ∧ xs[i]? = some (col j))
    (hQ : ∀ h', ZAt L b (i + 1) h' → STup h' s.heap.objs.size ((List.range L.length).map col).toArray → (∀ c o, ¬ Zpart L b c → s.heap.get? c = some o → h'.get? c = some o) → Q (.ref s.heap.objs.size) { s with heap := h' }) :
    wpAny (model prog w) A (Builtin.«zip.__next__» ⟨[.ref (b + L.length + 2)], []⟩) (fun fin s' => ∃ v, fin = .done (.ret v) ∧ Q v s') E s := by
  obtain ⟨⟨f0, c0, hz, hf⟩, ti, to, its⟩ := Z
  have n0 : 0 < L.length := List.length_pos_iff.mpr h0
  show wpAny _ _ (field (.ref _) 2 >>= _) _ _ _
  refine wpAny_bind (wpAny_field hz rfl (x := .bool false) rfl ?_)
  show wpAny _ _ (field (.ref _) 3 >>= _) _ _ _
  refine wpAny_bind (wpAny_field hz rfl (x := .ref (b + L.length)) rfl (wpAny_bind (wpAny_seqItems ti rfl ?_)))
  have he : (refsOf b L.length).toArray.isEmpty = false := by
    unfold refsOf
    simp
    omega
  show wpAny (model prog w) A (if (refsOf b L.length).toArray.isEmpty = true then _ else _) _ E s
  rw [if_neg (by rw [he]; exact Bool.false_ne_true)]
  refine wpAny_bind (owned_ask hz hf fun r h1 c1 hz1 sb1 => ?_)
  have e1 := sb1.extBut
  have ti1 : STup h1 (b + L.length) (refsOf b L.length).toArray := e1 _ _ (za1 _ _) ti
  obtain ⟨a0, to0, la0⟩ := to
  have to1 : STup h1 (b + L.length + 1) a0 := e1 _ _ (za2 _ _) to0
  have its1 : ∀ j l, L[j]? = some l → h1.IsListIter (b + j) l i := fun j l h => (its j l h).extBut e1 (za3 (List.getElem?_eq_some_iff.mp h).1)
  have k1 : ∀ c o, ¬ Zpart L b c → s.heap.get? c = some o → h1.get? c = some o := fun c o n q => e1 _ _ (fun e => n (.inl e)) q
  cases r with
  | true =>
    rw [if_pos rfl]
    refine wpAny_bind (wpAny_rule (wpAny_bind (wpAny_field (s := { s with heap := h1 }) hz1 rfl (x := .ref (b + L.length + 1)) rfl (wpAny_bind (wpAny_setField_rec (s := { s with heap := h1 }) hz1 (by simp) fun h2 hz2 sb2 => ?_)))))
    replace hz2 : ZRec h2 (b + L.length + 2) (b + L.length) (b + L.length + 1) .ellipsis c1 := hz2
    replace sb2 : Heap.SameBut (b + L.length + 2) h1 h2 := sb2
    have e2 := sb2.extBut
    have nsz : h2.objs.size = s.heap.objs.size := by rw [sb2.1, sb1.1]
    refine wpAny_bind (wp_for (fun k (bb : Option PySem.Fin × Unit) s' => ∃ h' a, s' = { s with heap := h' } ∧ bb = (none, ()) ∧ h'.objs.size = s.heap.objs.size ∧ ZRec h' (b + L.length + 2) (b + L.length) (b + L.length + 1) .ellipsis c1 ∧ STup h' (b + L.length + 1) a ∧ a.size = L.length ∧ (∀ j, j < k → a[j]? = some (col j)) ∧
      (∀ (j : Nat) (l : Addr), L[j]? = some l → h'.IsListIter (b + j) l (if j < k then i + 1 else i)) ∧ (∀ c o, ¬ Zpart L b c → s.heap.get? c = some o → h'.get? c = some o)) _ 0 _ _ ?_ ?_ ?_)
    · rintro j ⟨it, kk⟩ bb s' hx ⟨h', a, rfl, rfl, hsz, hzz, hto, la, hc, hit, hkp⟩
      rw [Nat.zero_add] at hc hit ⊢
      rw [List.getElem?_zipIdx] at hx
      obtain ⟨it2, hx1, hx2⟩ := Option.map_eq_some_iff.mp hx
      cases hx2
      obtain ⟨hj, rfl⟩ := refs_at hx1
      have hL : L[j]? = some (L[j]) := List.getElem?_eq_getElem hj
      obtain ⟨xs, hls, hxs⟩ := hl j _ hL
      have hls' : h'.IsList L[j] xs := by
        obtain ⟨o, ho, r⟩ := hls
        exact ⟨o, hkp _ _ (low_not (hlow _ (List.getElem_mem hj))) ho, r⟩
      have hi' := hit j _ hL
      rw [if_neg (Nat.lt_irrefl j)] at hi'
      refine wpAny_bind (wpAny_onRaise ?_)
      show wpAny _ _ (Builtin.SmallTypes.nextOf (.ref (b + j)) >>= _) _ _ _
      refine wpAny_bind (wpAny_nextOf_list_item (s := { s with heap := h' }) hi' hls' hxs fun g2 p2 s2 => wpAny_pure ?_)
      replace s2 : Heap.SameBut (b + j) h' g2 := s2
      have c2 := s2.extBut
      have t2 : STup g2 (b + L.length + 1) a := c2 _ _ (zb1 hj) hto
      refine wpAny_bind (wpAny_seqItems (s := { s with heap := g2 }) t2 rfl (wpAny_bind (wpAny_updateSeq (s := { s with heap := g2 }) t2 rfl ?_ (by rw [la]; exact hn) (by rw [Array.size_setIfInBounds, la]; omega))))
      have s3 : Heap.SameBut (b + L.length + 1) g2 (g2.update (b + L.length + 1) (Obj.mapSeq fun x => x.setIfInBounds (0 + j) (col j))) := Heap.SameBut.update ..
      have t3 : STup (g2.update (b + L.length + 1) (Obj.mapSeq fun x => x.setIfInBounds (0 + j) (col j))) (b + L.length + 1) (a.setIfInBounds (0 + j) (col j)) := by
        show Heap.get? _ _ = _
        rw [Heap.get?_update_self _ t2 rfl]
        simp [Obj.mapSeq]
      have c3 := s3.extBut
      refine wpAny_bind (wpAny_letGo (wpAny_pure ⟨_, rfl, _, (a.setIfInBounds (0 + j) (col j)), rfl, rfl, ?_, ?_, t3, ?_, ?_, ?_, ?_⟩))
      · show (Heap.objs _).size = _
        rw [s3.1, s2.1, hsz]
      · exact c3 _ _ (za2 _ _).symm (c2 _ _ (zb2 hj) hzz)
      · rw [Array.size_setIfInBounds, la]
      · intro j2 h2
        rw [Nat.zero_add, Array.getElem?_setIfInBounds]
        by_cases e : j = j2
        · subst e
          rw [if_pos rfl, if_pos (by rw [la]; exact hj)]
        · rw [if_neg e]
          exact hc j2 (by omega)
      · intro j2 l2 h2
        by_cases e : j2 = j
        · subst e
          rw [if_pos (Nat.lt_succ_self _)]
          rw [hL] at h2
          cases h2
          exact p2.extBut c3 (za4 hj)
        · have q := ((hit j2 l2 h2).extBut c2 (zb3 e)).extBut c3 (za4 (List.getElem?_eq_some_iff.mp h2).1)
          by_cases e2 : j2 < j
          · rw [if_pos e2] at q
            rw [if_pos (by omega)]
            exact q
          · rw [if_neg e2] at q
            rw [if_neg (by omega)]
            exact q
      · intro c o n q
        exact c3 _ _ (fun e => n (.inr (.inl e))) (c2 _ _ (fun e => n (.inr (.inr ⟨j, hj, e⟩))) (hkp c o n q))
    · refine ⟨h2, a0, rfl, rfl, nsz, hz2, e2 _ _ (za2 _ _) to1, la0, fun j z => absurd z (Nat.not_lt_zero _), fun j l h => ?_, fun c o n q => e2 _ _ (fun e => n (.inl e)) (k1 c o n q)⟩
      rw [if_neg (Nat.not_lt_zero _)]
      exact (its1 j l h).extBut e2 (za3 (List.getElem?_eq_some_iff.mp h).1)
    · rintro bb s' ⟨h', a, rfl, rfl, hsz, hzz, hto, la, hc, hit, hkp⟩
      have ll : (refsOf b L.length).toArray.toList.zipIdx.length = L.length := by
        unfold refsOf
        simp
      rw [ll, Nat.zero_add] at hc hit
      have ea : a = ((List.range L.length).map col).toArray := by
        refine Array.ext_getElem? fun j => ?_
        by_cases c : j < L.length
        · rw [hc j c]
          simp [c]
        · rw [Array.getElem?_eq_none (by rw [la]; omega), Array.getElem?_eq_none (by simp; omega)]
      subst ea
      refine wpAny_bind (wpAny_seqItems (s := { s with heap := h' }) hto rfl (wpAny_bind (wpAny_newTuple ?_ (by simpa using hn))))
      show wpAny _ _ (Builtin.SmallTypes.ownedTupleHandOut (.ref _) (.ref h'.objs.size) >>= _) _ _ ⟨h'.push { cls := .type "tuple", data := .seq ((List.range L.length).map col).toArray }, s.gens, s.drawn, s.toks, s.os⟩
      unfold Builtin.SmallTypes.ownedTupleHandOut
      have y6 : ZRec (h'.push { cls := .type "tuple", data := .seq ((List.range L.length).map col).toArray }) (b + L.length + 2) (b + L.length) (b + L.length + 1) .ellipsis c1 := Heap.get?_push_of_some _ hzz
      refine wpAny_bind (wpAny_bind (wpAny_setField_rec (s := ⟨h'.push { cls := .type "tuple", data := .seq ((List.range L.length).map col).toArray }, s.gens, s.drawn, s.toks, s.os⟩) y6 (by simp) fun g7 y7 s7 => ?_))
      replace y7 : ZRec g7 (b + L.length + 2) (b + L.length) (b + L.length + 1) (rawInt h'.objs.size) c1 := y7
      refine wpAny_setField_rec (s := ⟨g7, s.gens, s.drawn, s.toks, s.os⟩) y7 (by simp) fun g8 y8 s8 => ?_
      replace y8 : ZRec g8 (b + L.length + 2) (b + L.length) (b + L.length + 1) (rawInt h'.objs.size) false := y8
      have up : ∀ c o, c ≠ b + L.length + 2 → h'.get? c = some o → g8.get? c = some o := fun c o n p => s8.extBut _ _ n (s7.extBut _ _ n (Heap.get?_push_of_some _ p))
      have zl : b + L.length + 2 < h'.objs.size := Heap.lt_size hzz
      have new : STup g8 h'.objs.size ((List.range L.length).map col).toArray := s8.extBut _ _ (Nat.ne_of_gt zl) (s7.extBut _ _ (Nat.ne_of_gt zl) (Heap.get?_push_size _ rfl))
      rw [hsz] at new
      refine wpAny_pure ⟨_, rfl, ?_⟩
      show Q (.ref h'.objs.size) _
      rw [hsz]
      refine hQ g8 ⟨⟨_, _, y8, .inr ⟨_, rfl⟩⟩, up _ _ (za1 _ _) (hkp _ _ ti_not ti), ⟨_, up _ _ (za2 _ _) hto, by simp⟩, fun j l h => ?_⟩ new fun c o n q => up _ _ (fun e => n (.inl e)) (hkp c o n q)
      have q := hit j l h
      rw [if_pos (List.getElem?_eq_some_iff.mp h).1] at q
      exact q.at fun o e => up _ o (za3 (List.getElem?_eq_some_iff.mp h).1) e
  | false =>
    rw [if_neg Bool.false_ne_true]
    dsimp only
    rw [← Array.forIn_toList]
    refine wpAny_bind (wp_for (fun k (bb : Option PySem.Fin × Array Value) s' => ∃ h' a, s' = { s with heap := h' } ∧ bb = (none, a) ∧ h'.objs.size = s.heap.objs.size ∧ ZRec h' (b + L.length + 2) (b + L.length) (b + L.length + 1) f0 c1 ∧ a.toList = (List.range k).map col ∧
      (∀ (j : Nat) (l : Addr), L[j]? = some l → h'.IsListIter (b + j) l (if j < k then i + 1 else i)) ∧ (∀ c o, (¬ Zpart L b c ∨ c = b + L.length + 1) → s.heap.get? c = some o → h'.get? c = some o)) _ 0 _ _ ?_ ?_ ?_)
    · rintro j it bb s' hx ⟨h', a, rfl, rfl, hsz, hzz, hto, hit, hkp⟩
      rw [Nat.zero_add] at hto hit ⊢
      have hx1 : (refsOf b L.length)[j]? = some it := by simpa using hx
      obtain ⟨hj, rfl⟩ := refs_at hx1
      have hL : L[j]? = some (L[j]) := List.getElem?_eq_getElem hj
      obtain ⟨xs, hls, hxs⟩ := hl j _ hL
      have hls' : h'.IsList L[j] xs := by
        obtain ⟨o, ho, r⟩ := hls
        exact ⟨o, hkp _ _ (.inl (low_not (hlow _ (List.getElem_mem hj)))) ho, r⟩
      have hi' := hit j _ hL
      rw [if_neg (Nat.lt_irrefl j)] at hi'
      refine wpAny_bind (wpAny_holding ?_)
      show wpAny _ _ (Builtin.SmallTypes.nextOf (.ref (b + j)) >>= _) _ _ _
      refine wpAny_bind (wpAny_nextOf_list_item (s := { s with heap := h' }) hi' hls' hxs fun g2 p2 s2 => wpAny_pure (wpAny_pure ?_))
      replace s2 : Heap.SameBut (b + j) h' g2 := s2
      have c2 := s2.extBut
      refine ⟨_, rfl, _, _, rfl, rfl, ?_, c2 _ _ (zb2 hj) hzz, ?_, ?_, ?_⟩
      · rw [s2.1, hsz]
      · rw [Array.toList_push, hto, List.range_succ, List.map_append]
        rfl
      · intro j2 l2 h2
        by_cases e : j2 = j
        · subst e
          rw [if_pos (Nat.lt_succ_self _)]
          rw [hL] at h2
          cases h2
          exact p2
        · have q := (hit j2 l2 h2).extBut c2 (zb3 e)
          by_cases e2 : j2 < j
          · rw [if_pos e2] at q
            rw [if_pos (by omega)]
            exact q
          · rw [if_neg e2] at q
            rw [if_neg (by omega)]
            exact q
      · intro c o n q
        refine c2 _ _ (fun e => ?_) (hkp c o n q)
        rcases n with n | n
        · exact n (.inr (.inr ⟨j, hj, e⟩))
        · exact zb1 hj (n.symm.trans e)
    · refine ⟨h1, #[], rfl, rfl, sb1.1, hz1, rfl, fun j l h => ?_, fun c o n q => e1 _ _ (fun e => ?_) q⟩
      · rw [if_neg (Nat.not_lt_zero _)]
        exact its1 j l h
      · rcases n with n | n
        · exact n (.inl e)
        · exact za2 _ _ (n.symm.trans e)
    · rintro bb s' ⟨h', a, rfl, rfl, hsz, hzz, hto, hit, hkp⟩
      have ll : (refsOf b L.length).toArray.toList.length = L.length := by
        unfold refsOf
        simp
      rw [ll, Nat.zero_add] at hto hit
      have ea : a = ((List.range L.length).map col).toArray := by rw [← hto]
      subst ea
      refine wpAny_bind (wpAny_newTuple ?_ (by simpa using hn))
      have zl : b + L.length + 2 < h'.objs.size := Heap.lt_size hzz
      have up : ∀ c o, h'.get? c = some o → (h'.push { cls := .type "tuple", data := .seq ((List.range L.length).map col).toArray }).get? c = some o := fun c o p => Heap.get?_push_of_some _ p
      have new : STup (h'.push { cls := .type "tuple", data := .seq ((List.range L.length).map col).toArray }) h'.objs.size ((List.range L.length).map col).toArray := Heap.get?_push_size _ rfl
      refine wpAny_pure ⟨_, rfl, ?_⟩
      show Q (.ref h'.objs.size) _
      rw [hsz] at new ⊢
      refine hQ _ ⟨⟨_, _, up _ _ hzz, hf⟩, up _ _ (hkp _ _ (.inl ti_not) ti), ⟨_, up _ _ (hkp _ _ (.inr rfl) to0), la0⟩, fun j l h => ?_⟩ new fun c o n q => up _ _ (hkp c o (.inl n) q)
      have q := hit j l h
      rw [if_pos (List.getElem?_eq_some_iff.mp h).1] at q
      exact q.at fun o e => up _ o e
theorem zipN_end {L : List Addr} {b i : Nat} {l0 : Addr} {xs0 : Array Value} {Q : Value → Shared → Prop} (hh : A.handled = none) (h0 : L[0]? = some l0) (hlow : ∀ l ∈ L, l < b) (Z : ZAt L b i s.heap)
    (hl : s.heap.IsList l0 xs0) (hx : xs0[i]? = none)
    (hE : ∀ h' e, (∀ c o, ¬ Zpart L b c → s.heap.get? c = some o → h'.get? c = some o) → (∃ o, h'.get? e = some o ∧ o.cls = .type "StopIteration") → E (.ref e) { s with heap := h' }) :
    wpAny (model prog w) A (Builtin.«zip.__next__» ⟨[.ref (b + L.length + 2)], []⟩) (fun fin s' => ∃ v, fin = .done (.ret v) ∧ Q v s') E s := by
  obtain ⟨⟨f0, c0, hz, hf⟩, ti, to, its⟩ := Z
  have n0 : 0 < L.length := (List.getElem?_eq_some_iff.mp h0).1
  show wpAny _ _ (field (.ref _) 2 >>= _) _ _ _
  refine wpAny_bind (wpAny_field hz rfl (x := .bool false) rfl ?_)
  show wpAny _ _ (field (.ref _) 3 >>= _) _ _ _
  refine wpAny_bind (wpAny_field hz rfl (x := .ref (b + L.length)) rfl (wpAny_bind (wpAny_seqItems ti rfl ?_)))
  have he : (refsOf b L.length).toArray.isEmpty = false := by
    unfold refsOf
    simp
    intro e
    subst e
    exact absurd n0 (Nat.lt_irrefl 0)
  have hr : ∃ r, refsOf b L.length = .ref (b + 0) :: r := by
    unfold refsOf
    obtain ⟨m, e⟩ : ∃ m, L.length = m + 1 := ⟨L.length - 1, by omega⟩
    rw [e, List.range_succ_eq_map]
    exact ⟨_, rfl⟩
  obtain ⟨rr, er⟩ := hr
  have l0b : l0 < b := hlow l0 (List.mem_of_getElem? h0)
  show wpAny (model prog w) A (if (refsOf b L.length).toArray.isEmpty = true then _ else _) _ E s
  rw [if_neg (by rw [he]; exact Bool.false_ne_true)]
  refine wpAny_bind (owned_ask hz hf fun r h1 c1 hz1 sb1 => ?_)
  have e1 := sb1.extBut
  have it1 : h1.IsListIter (b + 0) l0 i := (its 0 l0 h0).extBut e1 (za3 n0)
  have hl1 : h1.IsList l0 xs0 := hl.extBut e1 (za5 l0b)
  cases r with
  | true =>
    rw [if_pos rfl]
    refine wpAny_bind (wpAny_rule (wpAny_bind (wpAny_field (s := { s with heap := h1 }) hz1 rfl (x := .ref (b + L.length + 1)) rfl (wpAny_bind (wpAny_setField_rec (s := { s with heap := h1 }) hz1 (by simp) fun h2 hz2 sb2 => ?_)))))
    replace hz2 : ZRec h2 (b + L.length + 2) (b + L.length) (b + L.length + 1) .ellipsis c1 := hz2
    replace sb2 : Heap.SameBut (b + L.length + 2) h1 h2 := sb2
    have e2 := sb2.extBut
    have eL : (refsOf b L.length).toArray.toList.zipIdx = (.ref (b + 0), 0) :: rr.zipIdx 1 := by
      rw [List.toList_toArray, er]
      rfl
    rw [eL, List.forIn_cons]
    refine wpAny_bind (wpAny_bind (wpAny_bind (wpAny_onRaise ?_)))
    show wpAny _ _ (Builtin.SmallTypes.nextOf (.ref (b + 0)) >>= _) _ _ _
    refine wpAny_bind (wpAny_nextOf_list_end (s := { s with heap := h2 }) hh (it1.extBut e2 (za3 n0)) (hl1.extBut e2 (za5 l0b)) hx fun g2 e s2 he => ?_)
    replace s2 : Heap.ExtBut (b + 0) h2 g2 := s2
    have z2 : ZRec g2 (b + L.length + 2) (b + L.length) (b + L.length + 1) .ellipsis c1 := s2 _ _ (zb2 n0) hz2
    obtain ⟨o, ho, hc⟩ := he
    have n : e ≠ b + L.length + 2 := fun x => by subst x; rw [z2] at ho; cases ho; simp at hc
    refine wpAny_setField_rec (s := { s with heap := g2 }) z2 (by simp) fun h' _ sb => ?_
    replace sb : Heap.SameBut (b + L.length + 2) g2 h' := sb
    exact hE h' e (fun c o n q => sb.extBut _ _ (fun e => n (.inl e)) (s2 _ _ (fun e => n (.inr (.inr ⟨0, n0, e⟩))) (e2 _ _ (fun e => n (.inl e)) (e1 _ _ (fun e => n (.inl e)) q)))) ⟨o, sb.extBut _ _ n ho, hc⟩
  | false =>
    rw [if_neg Bool.false_ne_true]
    dsimp only
    rw [← Array.forIn_toList]
    have eL : (refsOf b L.length).toArray.toList = .ref (b + 0) :: rr := by rw [List.toList_toArray, er]
    rw [eL, List.forIn_cons]
    refine wpAny_bind (wpAny_bind (wpAny_bind (wpAny_holding ?_)))
    show wpAny _ _ (Builtin.SmallTypes.nextOf (.ref (b + 0)) >>= _) _ _ _
    refine wpAny_bind (wpAny_nextOf_list_end (s := { s with heap := h1 }) hh it1 hl1 hx fun g2 e s2 he => ?_)
    exact hE g2 e (fun c o n q => s2 _ _ (fun e => n (.inr (.inr ⟨0, n0, e⟩))) (e1 _ _ (fun e => n (.inl e)) q)) he
theorem zipN_ask {L : List Addr} {b i : Nat} {col : Nat → Value} {Q : Option Value → Shared → Prop} (hn : L.length ≤ sizeLine) (h0 : L ≠ []) (hlow : ∀ l ∈ L, l < b) (Z : ZAt L b i s.heap)
    (hl : ∀ j l, L[j]? = some l → ∃ xs, s.heap.IsList l xs ∧ xs[i]? = some (col j))
    (hQ : ∀ h', ZAt L b (i + 1) h' → STup h' s.heap.objs.size ((List.range L.length).map col).toArray → (∀ c o, ¬ Zpart L b c → s.heap.get? c = some o → h'.get? c = some o) → Q (some (.ref s.heap.objs.size)) { s with heap := h' }) :
    wpAny (model prog w) A (pyNext (.ref (b + L.length + 2))) Q E s := by
  obtain ⟨f0, c0, hz, _⟩ := Z.z
  have hT : s.TypeIs (.ref (b + L.length + 2)) "zip" := ⟨_, hz, rfl⟩
  unfold pyNext
  exact wpAny_bind (wpAny_attempt (wpAny_callSpecial?_slot (name := Str.ofString "__next__") hT F.slot_zip_next (wpAny_call_entry F.slot_zip_next hT F.entry_zip_next
    (zipN_next hn h0 hlow Z hl fun h' a1 a2 a3 => wpAny_pure (hQ h' a1 a2 a3)) (F.args_zip_next_1 _))))
theorem zipN_stop {L : List Addr} {b i : Nat} {l0 : Addr} {xs0 : Array Value} {Q : Option Value → Shared → Prop} (hh : A.handled = none) (h0 : L[0]? = some l0) (hlow : ∀ l ∈ L, l < b) (Z : ZAt L b i s.heap)
    (hl : s.heap.IsList l0 xs0) (hx : xs0[i]? = none) (hE : ∀ h', (∀ c o, ¬ Zpart L b c → s.heap.get? c = some o → h'.get? c = some o) → Q none { s with heap := h' }) :
    wpAny (model prog w) A (pyNext (.ref (b + L.length + 2))) Q E s := by
  obtain ⟨f0, c0, hz, _⟩ := Z.z
  have hT : s.TypeIs (.ref (b + L.length + 2)) "zip" := ⟨_, hz, rfl⟩
  unfold pyNext
  refine wpAny_bind (wpAny_attempt (wpAny_callSpecial?_slot (name := Str.ofString "__next__") hT F.slot_zip_next (wpAny_call_entry F.slot_zip_next hT F.entry_zip_next
    (zipN_end hh h0 hlow Z hl hx fun h' e lf he => ?_) (F.args_zip_next_1 _))))
  obtain ⟨o, ho, hc⟩ := he
  exact wpAny_bind (wpAny_isInstance (T := "StopIteration") (b := true) ⟨o, ho, hc⟩ isSubtype_stop (wpAny_pure (hE h' lf)))
theorem call_zipN {L : List Addr} {Q : Value → Shared → Prop} (hn : L.length ≤ sizeLine) (h0 : L ≠ []) (hl : ∀ l ∈ L, ∃ xs, s.heap.IsList l xs)
    (h : ∀ h', ZAt L s.heap.objs.size 0 h' → (∀ c o, s.heap.get? c = some o → h'.get? c = some o) → Q (.ref (s.heap.objs.size + L.length + 2)) { s with heap := h' }) :
    wpAny (model prog w) A (call (.type "zip") (L.map .ref)) Q E s := by
  cases L with
  | nil => exact absurd rfl h0
  | cons l L =>
    refine callType_new F.called_zip (by decide) (typeCall_zip _) (newCall_zip _ _) (fun obj => args_init_any obj _) F.entry_zip_new (meets_zip_n (l :: L) hn) ⟨hl, fun h' hz ti to hi hk => ?_⟩
    exact ⟨⟨_, hz, rfl⟩, h h' ⟨⟨_, _, hz, .inl rfl⟩, ti, to, hi⟩ hk⟩
end
end My

set_option Elab.async false
set_option linter.all false
set_option maxRecDepth 100000
set_option maxHeartbeats 1000000
/-! ### zip(*rows), in a comprehension -/
namespace My
open PySem PySem.Spec PyProof.Rows L2
/-- the lists of rows -/
def RowsL (K : PySem.W.Frag) (H : Hp) (L : List Addr) (rows : List (List V)) : Prop := L.length = rows.length ∧ ∀ (j : Nat) (l : Addr) (r : List V), L[j]? = some l → rows[j]? = some r → SqL K H l r
theorem Same.rows {K : PySem.W.Frag} {H H' : Hp} {L : List Addr} {rows : List (List V)} (s : Same H H') (h : RowsL K H L rows) : RowsL K H' L rows := ⟨h.1, fun j l r e1 e2 => s.seq (h.2 j l r e1 e2)⟩
def colAt (rows : List (List V)) (i : Nat) : List V := rows.map fun r => r.getD i .non
def ItZs (K : PySem.W.Frag) (L : List Addr) : It :=
  ⟨fun i H => ∃ rows, RowsL K H L rows ∧ ∀ r ∈ rows, i < r.length,
    fun i H v H' => ∃ T, ∃ xs : List V, v = .ref T ∧ H T = none ∧ H' = upd H T (.tup xs) ∧ ∀ rows, RowsL K H L rows → xs = colAt rows i,
    fun i H => ∃ (rows : List (List V)) (r : List V), RowsL K H L rows ∧ rows[0]? = some r ∧ r.length ≤ i⟩
/-- a new tuple of the i-th of each row -/
def YCol (rows : List (List V)) : Nat → Hp → V → Hp → Prop := fun i H v H' => ∃ T, v = .ref T ∧ H T = none ∧ H' = upd H T (.tup (colAt rows i))
theorem walk_zipS {K : PySem.W.Frag} {L : List Addr} {rows : List (List V)} {n : Nat} (h0 : rows ≠ []) (hn : ∀ r ∈ rows, r.length = n) : Walk (ItZs K L) n (fun H => RowsL K H L rows) (YCol rows) where
  goes i _ hi q := ⟨rows, q, fun r hr => by rw [hn r hr]; exact hi⟩
  stops _ q := by
    cases rows with
    | nil => exact absurd rfl h0
    | cons r rs => exact ⟨r :: rs, r, q, rfl, Nat.le_of_eq (hn r (by simp))⟩
  yields i H v H' _ q y := by
    obtain ⟨T, xs, h1, h2, h3, h4⟩ := y
    rw [h4 rows q] at h3
    exact ⟨T, h1, h2, h3⟩
section
variable {prog : Program} {w : World} {A : Around} {E : Value → Shared → Prop} {s : Shared}
theorem iter_zs {L : List Addr} {b i : Nat} {Q : Value → Shared → Prop} (Z : ZAt L b i s.heap) (h : Q (.ref (b + L.length + 2)) s) : wpAny (model prog w) A (pyIter (.ref (b + L.length + 2))) Q E s := by
  obtain ⟨f0, c0, hz, _⟩ := Z.z
  have hT : s.TypeIs (.ref (b + L.length + 2)) "zip" := ⟨_, hz, rfl⟩
  refine wpAny_pyIter_slot hT F.slot_zip_iter (wpAny_call_entry F.slot_zip_iter hT F.entry_zip_iter ?_ (F.args_zip_iter_1 _))
  show wpAny _ _ (ret (.ref _)) _ _ s
  exact wpAny_pure ⟨_, rfl, "zip", _, hT, F.slot_zip_next.lookup, h⟩
end
def zfp (L : List Addr) (b : Nat) : List Addr := (List.range (L.length + 3)).map fun j => b + j
theorem zfp_part {L : List Addr} {b c : Nat} (h : c ∉ zfp L b) : ¬ Zpart L b c := by
  unfold zfp at h
  intro z
  refine h (List.mem_map.mpr ?_)
  rcases z with e | e | ⟨j, hj, e⟩
  · exact ⟨L.length + 2, List.mem_range.mpr (by omega), by rw [e]; rfl⟩
  · exact ⟨L.length + 1, List.mem_range.mpr (by omega), by rw [e]; rfl⟩
  · exact ⟨j, List.mem_range.mpr (by omega), by rw [e]⟩
theorem zfp_in {L : List Addr} {b : Nat} (j : Nat) (h : j < L.length + 3) : b + j ∈ zfp L b := List.mem_map.mpr ⟨j, List.mem_range.mpr h, rfl⟩
theorem zfp_2 {L : List Addr} {b : Nat} : b + L.length + 2 ∈ zfp L b := zfp_in (L.length + 2) (by omega)
theorem zfp_1 {L : List Addr} {b : Nat} : b + L.length + 1 ∈ zfp L b := zfp_in (L.length + 1) (by omega)
theorem zfp_0 {L : List Addr} {b : Nat} : b + L.length ∈ zfp L b := zfp_in (L.length) (by omega)
theorem near4 {j n : Nat} (h : j < n + 3) : j < n ∨ j = n ∨ j = n + 1 ∨ j = n + 2 := by omega
theorem lt3 {j n : Nat} (h : j < n) : j < n + 3 := by omega
theorem ZAt.keep {L : List Addr} {b i : Nat} {h h' : Heap} (Z : ZAt L b i h) (k : ∀ c ∈ zfp L b, ∀ o, h.get? c = some o → h'.get? c = some o) : ZAt L b i h' := by
  obtain ⟨⟨f0, c0, hz, hf⟩, ti, ⟨a, to, la⟩, its⟩ := Z
  exact ⟨⟨f0, c0, k _ zfp_2 _ hz, hf⟩, k _ zfp_0 _ ti, ⟨a, k _ zfp_1 _ to, la⟩, fun j l e => (its j l e).at fun o q => k _ (zfp_in j (lt3 (List.getElem?_eq_some_iff.mp e).1)) o q⟩
theorem ZAt.obj {L : List Addr} {b i : Nat} {h : Heap} (Z : ZAt L b i h) : ∀ c ∈ zfp L b, ∃ o, h.get? c = some o ∧ ∀ v, o.data ≠ .cell v := by
  obtain ⟨⟨f0, c0, hz, hf⟩, ti, ⟨a, to, la⟩, its⟩ := Z
  intro c hc
  obtain ⟨j, hj, rfl⟩ := List.mem_map.mp hc
  rcases near4 (List.mem_range.mp hj) with c1 | rfl | rfl | rfl
  · obtain ⟨o, ho, _, hd⟩ := its j _ (List.getElem?_eq_getElem c1)
    exact ⟨o, ho, fun v q => by rw [hd] at q; cases q⟩
  · exact ⟨_, ti, fun v q => nomatch q⟩
  · exact ⟨_, to, fun v q => nomatch q⟩
  · exact ⟨_, hz, fun v q => nomatch q⟩
theorem vals_from {f : Nat → Value} : ∀ (xs : List V) (k : Nat), (∀ (j : Nat) (x : V), xs[j]? = some x → RelV x (f (k + j))) → Vals xs ((List.range' k xs.length).map f)
  | [], k, _ => .nil
  | x :: xs, k, h => by
    rw [List.length_cons, List.range'_succ, List.map_cons]
    exact .cons (h 0 x rfl) (vals_from xs (k + 1) fun j y e => by
      have q := h (j + 1) y (by simpa using e)
      rwa [show k + (j + 1) = k + 1 + j by omega] at q)
theorem rows_inj {X : Cx} {pins : List (Addr × Obj)} {σ : L2.St} {H : Hp} {s : Shared} {L : List Addr} {r1 r2 : List (List V)} (I : Inv X pins σ H s) (h1 : RowsL X.K H L r1) (h2 : RowsL X.K H L r2) : r1 = r2 := by
  refine List.ext_getElem? fun j => ?_
  have l1 := h1.1
  have l2 := h2.1
  by_cases c : j < L.length
  · have e1 : r1[j]? = some (r1[j]'(by omega)) := List.getElem?_eq_getElem _
    have e2 : r2[j]? = some (r2[j]'(by omega)) := List.getElem?_eq_getElem _
    have q := I.list_inj (h1.2 j _ _ (List.getElem?_eq_getElem c) e1) (h2.2 j _ _ (List.getElem?_eq_getElem c) e2)
    rw [e1, e2, q]
  · rw [List.getElem?_eq_none (by omega), List.getElem?_eq_none (by omega)]
theorem turn_zipS {P : Program} {w : World} {K : PySem.W.Frag} {x : Str} {xp : Pos} {L : List Addr} {b : Nat} (hn : L.length ≤ sizeLine) (h0 : L ≠ []) (hlow : ∀ l ∈ L, l < b) :
    Turn P w K (.Name x xp) (ItZs K L) (zfp L b) (b + L.length + 2) (fun i h => ZAt L b i h) where
  mem := zfp_2
  obj := fun i h st => st.obj
  keep := fun i h h' st k => st.keep k
  item := by
    intro X hP hw hK hc i pins s σ H E I hf st hg
    subst hP hw hK
    obtain ⟨rows, hr, hi⟩ := hg
    have each : ∀ j : Nat, ∃ u : Value, ∀ l, L[j]? = some l → (∃ xs, s.heap.IsList l xs ∧ xs[i]? = some u) ∧ (∀ r, rows[j]? = some r → RelV (r.getD i .non) u) := fun j => by
      cases e1 : L[j]? with
      | none => exact ⟨.none, fun l z => by cases z⟩
      | some l =>
        have hj : j < rows.length := by rw [← hr.1]; exact (List.getElem?_eq_some_iff.mp e1).1
        have e2 : rows[j]? = some rows[j] := List.getElem?_eq_getElem hj
        have hq := hr.2 j l _ e1 e2
        obtain ⟨its, rv, p, hz⟩ := I.list hq
        have hij : i < rows[j].length := hi _ (List.getElem_mem hj)
        obtain ⟨u, hu, ru⟩ := rv.get (List.getElem?_eq_getElem hij)
        refine ⟨u, fun l2 z => ?_⟩
        cases z
        refine ⟨⟨_, p.isList, by simpa using hu⟩, fun r z => ?_⟩
        rw [e2] at z
        cases z
        rw [List.getD_eq_getElem?_getD, List.getElem?_eq_getElem hij]
        exact ru
    let col : Nat → Value := fun j => Classical.choose (each j)
    have hcol : ∀ j l, L[j]? = some l → (∃ xs, s.heap.IsList l xs ∧ xs[i]? = some (col j)) ∧ (∀ r, rows[j]? = some r → RelV (r.getD i .non) (col j)) := fun j => Classical.choose_spec (each j)
    refine zipN_ask hn h0 hlow st (fun j l e => (hcol j l e).1) fun h' Z' hT lf => ?_
    refine ⟨_, rfl, wpAny_pure ?_⟩
    have rel : Vals (colAt rows i) ((List.range L.length).map col) := by
      have q := vals_from (f := col) (colAt rows i) 0 fun j x e => by
        unfold colAt at e
        rw [List.getElem?_map] at e
        obtain ⟨r, e1, e2⟩ := Option.map_eq_some_iff.mp e
        subst e2
        have hj : j < L.length := by rw [hr.1]; exact (List.getElem?_eq_some_iff.mp e1).1
        rw [Nat.zero_add]
        exact (hcol j _ (List.getElem?_eq_getElem hj)).2 r e1
      have el : (colAt rows i).length = L.length := by unfold colAt; rw [List.length_map, hr.1]
      rw [el, ← List.range_eq_range'] at q
      exact q
    have new : ObjOk X.prog X.w (upd H s.heap.objs.size (.tup (colAt rows i))) h' s.heap.objs.size (.tup (colAt rows i)) :=
      ⟨by show (colAt rows i).length ≤ sizeLine; unfold colAt; rw [List.length_map, ← hr.1]; exact hn, _, rel, ⟨_, hT, rfl, _, rfl⟩⟩
    have I1 : Inv X pins σ (upd H s.heap.objs.size (.tup (colAt rows i))) { s with heap := h' } := I.turnedNew (t' := s.toks) (ch := zfp L b) (fun c o hb q => lf c o (zfp_part hb) q) hf (Nat.le_refl _) new
    refine ⟨.ref s.heap.objs.size, _, I1, rfl, ⟨_, _, rfl, I.hok.fresh (Nat.le_refl _), rfl, fun rows2 h2 => ?_⟩, Z', fun c hcm => ?_⟩
    · rw [rows_inj I h2 hr]
    · obtain ⟨o, ho, _⟩ := st.obj c hcm
      rw [upd_ne (Nat.ne_of_lt (Heap.lt_size ho))]
      exact (hf c hcm).1
  done := by
    intro X hP hw hK hc i pins s σ H E I hf st hg
    subst hP hw hK
    obtain ⟨rows, r, hr, e0, hend⟩ := hg
    have n0 : 0 < L.length := by rw [hr.1]; exact (List.getElem?_eq_some_iff.mp e0).1
    have e1 : L[0]? = some L[0] := List.getElem?_eq_getElem n0
    obtain ⟨its, rv, p, hz⟩ := I.list (hr.2 0 _ _ e1 e0)
    have hl := rv.length
    exact zipN_stop (I.ok.hd hc) e1 hlow st p.isList (by simp; omega) fun h' lf => ⟨rfl, I.turnedL (t' := s.toks) (ch := zfp L b) (fun c o hb q => lf c o (zfp_part hb) q) hf⟩
  self := fun A i s Q E st h => iter_zs st h
def iZipS (K : PySem.W.Frag) (te : TE) : TI := fun σ H R => te σ H fun v H1 => ∃ (a : Addr) (L : List Addr) (rows : List (List V)), v = .ref a ∧ SqL K H1 a (L.map V.ref) ∧ RowsL K H1 L rows ∧ L ≠ [] ∧ R (ItZs K L) H1
theorem refs_vals : ∀ {L : List Addr} {us : List Value}, Vals (L.map V.ref) us → us = L.map Value.ref
  | [], _, .nil => rfl
  | l :: L, u :: us, .cons r t => by
    rw [refs_vals t, List.map_cons]
    cases r
    rfl
theorem pi_zipS {X : Cx} {e : Expr} {te : TE} {x : Str} {xp p sp pos : Pos} (hg : Gl X "zip") (hm : X.mg "zip" = none) (he : PE X e te)
    (hst : starEach [.Starred e sp] X.env = [(true, eval e X.env)] := by rfl) :
    PI X (.Name x xp) (.Call (.Name "zip" p) [.Starred e sp] [] pos) (iZipS X.K te) := by
  refine ⟨fun pins s σ H R I h => ?_⟩
  refine Call_ (ld_blt I hg hm PyProof.Rows.boot_zip ?_)
  rw [hst]
  refine PySem.W.ks_call (P := fun _ => True) rfl (fun h _ => ⟨.machine, .inr (.inl rfl), PySem.W.Looks.of_pure rfl⟩) (PySem.W.ks_lone (thn (he.run pins s σ H _ I h) fun v s1 ⟨y, H1, I1, ry, a, L, rows, ey, hq, hr, h0, q⟩ => ?_))
  subst ey
  obtain rfl : v = Value.ref a := ry
  refine StX.star_any I1 (.inr hq) fun us s2 I2 rv => ⟨trivial, ?_⟩
  obtain rfl := refs_vals rv
  have hn : L.length ≤ sizeLine := by
    obtain ⟨its, rv2, p2, hz⟩ := I2.list hq
    rw [List.length_map] at hz
    exact hz
  have each : ∀ l ∈ L, ∃ xs, s2.heap.IsList l xs ∧ l < s2.heap.objs.size := fun l hl => by
    obtain ⟨j, hj, rfl⟩ := List.mem_iff_getElem.mp hl
    obtain ⟨its, rv2, p2, hz⟩ := I2.list (hr.2 j _ _ (List.getElem?_eq_getElem hj) (List.getElem?_eq_getElem (by rw [← hr.1]; exact hj)))
    obtain ⟨o, ho, r⟩ := p2.isList
    exact ⟨_, ⟨o, ho, r⟩, Heap.lt_size ho⟩
  show wpAny _ _ (call (.type "zip") (L.map .ref)) _ _ _
  refine call_zipN hn h0 (fun l hl => let ⟨xs, h1, _⟩ := each l hl; ⟨xs, h1⟩) fun h' Z hk => iter_zs (s := { s2 with heap := h' }) Z ?_
  have I3 : Inv X pins σ H1 { s2 with heap := h' } := I2.kept (t' := s2.toks) hk
  refine ⟨s2.heap.objs.size + L.length + 2, zfp L s2.heap.objs.size, _, _, H1, rfl, I3, turn_zipS hn h0 (fun l hl => (each l hl).choose_spec.2), Z, fun c hcm => ?_, q⟩
  obtain ⟨j, hj, rfl⟩ := List.mem_map.mp hcm
  exact I2.fpOk (Nat.le_add_right _ _) (I2.hok.fresh (Nat.le_add_right _ _))
end My

set_option Elab.async false
set_option linter.all false
set_option maxRecDepth 100000
set_option maxHeartbeats 1000000
/-! ### rows, lists or tuples, from the end to the front; the index of a number in a tuple -/
namespace My
open PySem PyProof.Rows HT
open PySem.Sem (wp)
section
variable {prog : Program} {w : World} {A : Around} {E : Value → Shared → Prop} {s : Shared}
theorem adjust_back (n : Nat) : Builtin.Slice.sliceAdjust none none (-1) (n : Int) = ((n : Int) - 1, -1) := by
  unfold Builtin.Slice.sliceAdjust
  simp
theorem places_back (n : Nat) : Builtin.Slice.slicePlaces ((n : Int) - 1) (-1) (-1) = n := by
  unfold Builtin.Slice.slicePlaces
  rw [if_neg (by decide)]
  by_cases h : (n : Int) - 1 > -1
  · rw [if_pos h, show (- -1 : Int) = 1 by decide, Int.ediv_one]
    omega
  · rw [if_neg h]
    omega
theorem fm_congr {α β : Type} {f g : α → Option β} : ∀ {l : List α}, (∀ x ∈ l, f x = g x) → l.filterMap f = l.filterMap g
  | [], _ => rfl
  | x :: l, h => by
    rw [List.filterMap_cons, List.filterMap_cons, h x (by simp), fm_congr fun y hy => h y (List.mem_cons_of_mem _ hy)]
theorem sliceApplied_back {sl : Addr} {vl vu vs : Value} {n : Nat} {Q : Int × Int × Nat → Shared → Prop} (hs : s.heap.IsSliceOf sl vl vu vs) (pl : IsPart vl none) (pu : IsPart vu none) (ps : IsPart vs (some (-1)))
    (h : Q ((n : Int) - 1, -1, n) s) : wpAny (model prog w) A (Builtin.Slice.sliceApplied (.ref sl) (pure (n : Int))) Q E s := by
  obtain ⟨os, hos, hcs, hds⟩ := id hs
  unfold Builtin.Slice.sliceApplied Builtin.Slice.sliceFields
  refine wpAny_bind (wpAny_bind (wpAny_field hos hds (x := vl) rfl (wpAny_bind (wpAny_field hos hds (x := vu) rfl (wpAny_bind (wpAny_field hos hds (x := vs) rfl (wpAny_pure ?_)))))))
  refine wpAny_bind (slicePart_ ps ?_)
  show wpAny _ _ (if ((-1 : Int) == 0) = true then _ else _) _ _ s
  rw [if_neg (by decide)]
  refine wpAny_bind (slicePart_ pl (wpAny_bind (slicePart_ pu (wpAny_bind (wpAny_pure ?_)))))
  show wpAny _ _ (match Builtin.Slice.sliceAdjust none none (-1) (n : Int) with | (lo, hi) => pure (lo, (-1 : Int), Builtin.Slice.slicePlaces lo hi (-1))) _ _ s
  rw [adjust_back n]
  show wpAny _ _ (pure ((n : Int) - 1, (-1 : Int), Builtin.Slice.slicePlaces ((n : Int) - 1) (-1) (-1))) _ _ s
  rw [places_back]
  exact wpAny_pure h
theorem pick_back (xs : Array Value) : ((List.range xs.size).filterMap fun (m : Nat) => xs[(((xs.size : Int) - 1) + (m : Int) * (-1)).toNat]?).toArray = xs.toList.reverse.toArray := by
  have e : (List.range xs.size).filterMap (fun (m : Nat) => xs[(((xs.size : Int) - 1) + (m : Int) * (-1)).toNat]?) = ((List.range xs.size).map fun k => xs.size - 1 - k).filterMap (xs[·]?) := by
    rw [List.filterMap_map]
    refine fm_congr fun m hm => ?_
    have hm := List.mem_range.mp hm
    have : (((xs.size : Int) - 1) + (m : Int) * (-1)).toNat = xs.size - 1 - m := by omega
    simp only [Function.comp, this]
  rw [e, PySem.W.krv_range, List.filterMap_reverse, PySem.W.krv_all]
theorem getItem_tuple_back {t sl : Addr} {items : Array Value} {vl vu vs : Value} {Q : Value → Shared → Prop} (ht : IsTup s.heap t items) (hs : s.heap.IsSliceOf sl vl vu vs) (pl : IsPart vl none) (pu : IsPart vu none) (ps : IsPart vs (some (-1)))
    (h : Q (.ref s.heap.objs.size) { s with heap := s.heap.push { cls := .type "tuple", data := .seq items.toList.reverse.toArray } })
    (hsz : items.size ≤ sizeLine) : wpAny (model prog w) A (getItem (.ref t) (.ref sl)) Q E s := by
  have htake : sizeOk (.seq items.toList.reverse.toArray) := by
    show (items.toList.reverse.toArray).size ≤ sizeLine
    simpa using hsz
  obtain ⟨os, hos, hcs, hds⟩ := id hs
  have hTs : s.TypeIs (.ref sl) "slice" := ⟨os, hos, hcs⟩
  unfold getItem
  try with_reducible refine wpAny_holding ?_
  first | refine wpAny_bind (wpAny_pure ?_) | skip
  refine wpAny_bind (wpAny_sequenceKey ht.typeIs (by decide) ?_)
  refine wpAny_bind (wpAny_callSpecial?_slot (name := Str.ofString "__getitem__") ht.typeIs PyProof.Rows.slot_tuple_getitem
    (wpAny_call_entry PyProof.Rows.slot_tuple_getitem ht.typeIs entry_tuple_getitem ?_ (args_tuple_getitem _ _)))
  show wpAny _ _ (Builtin.Tuple.tupleItemsOf (.ref t) >>= _) _ _ s
  refine wpAny_bind (tupleItemsOf_ ht ?_)
  refine wpAny_bind (wpAny_typeOf hTs ?_)
  rw [if_pos (by decide)]
  refine wpAny_bind (sliceApplied_back hs pl pu ps ?_)
  have hno : ¬ ((((items.size : Int) - 1) == 0 && (-1 : Int) == 1 && items.size == items.size) = true) := by
    simp
  show wpAny _ _ (if (((items.size : Int) - 1) == 0 && (-1 : Int) == 1 && items.size == items.size) = true then _ else _) _ _ s
  rw [if_neg hno, pick_back]
  first
    | exact wpAny_bind (m := Builtin.Tuple.tupleExact _) (wpAny_newObj_type (wpAny_pure ⟨_, rfl, wpAny_pure h⟩) htake)
    | exact wpAny_bind (m := Builtin.Tuple.tupleExact _) (wpAny_newObj_type (wpAny_bind (wpAny_pure (wpAny_pure ⟨_, rfl, wpAny_pure h⟩))) htake)
    | exact wpAny_bind (wpAny_bind (m := Builtin.Tuple.tupleExact _) (wpAny_newObj_type (wpAny_pure (wpAny_pure ⟨_, rfl, wpAny_pure h⟩)) htake))
    | exact wpAny_bind (wpAny_bind (m := Builtin.Tuple.tupleExact _) (wpAny_newObj_type (wpAny_pure ⟨_, rfl, wpAny_pure h⟩) htake))
end
end My
namespace My
open PySem PySem.Spec PyProof.Rows L2
/-- xs[::-1] of a list or a tuple -/
def tRevB (K : PySem.W.Frag) (te : TE) : TE := fun σ H Q => te σ H fun x H1 => ∃ a xs b, x = .ref a ∧ SqB b K H1 a xs ∧ ∀ p H2, Same H1 H2 → H1 p = none → H2 p = some (if b = true then .lst xs.reverse else .tup xs.reverse) → Q (.ref p) H2
theorem pe_revB {X : Cx} {K : PySem.W.Frag} {e : Expr} {te : TE} {k : Nat} {p1 p2 p3 pos : Pos} (hK : X.K = K) (he : PE X e te) : PE X (.Subscript e (.Slice none none (some (.UnaryOp .USub (.Constant (.int 1) k p1) p2)) p3) pos) (tRevB K te) := by
  subst hK
  refine ⟨fun pins s σ H Q I h => ?_⟩
  refine Subscript_ (thn (he.run pins s σ H _ I h) fun v s1 ⟨x, H1, I1, r1, q1⟩ => ?_)
  obtain ⟨a, xs, b, ex, hx, q⟩ := q1
  subst ex
  cases r1
  have hst : PO X (some (.UnaryOp .USub (.Constant (.int 1) k p1) p2)) (tPart (tUn (rU fun i => .int (-i)) (tC (.int 1)))) := po_some (pe_un un_neg pe_int)
  refine wpAny_Slice (thn (po_none.run pins s1 σ H1 (fun o H2 => o = none ∧ H2 = H1) I1 ⟨rfl, rfl⟩) fun vl s2 ⟨l, H2, I2, pl, el, e2⟩ => ?_)
  subst el e2
  refine thn (po_none.run pins s2 σ H2 (fun o H3 => o = none ∧ H3 = H2) I2 ⟨rfl, rfl⟩) fun vu s3 ⟨u, H3, I3, pu, eu, e3⟩ => ?_
  subst eu e3
  refine thn (hst.run pins s3 σ H3 (fun o H4 => o = some (-1) ∧ H4 = H3) I3 ⟨1, rfl, -1, rfl, rfl, rfl⟩) fun vs s4 ⟨o, H4, I4, ps, eo, e4⟩ => ?_
  subst eo e4
  have I5 : Inv X pins σ H4 { s4 with heap := s4.heap.push { cls := .type "slice", data := .fields #[vl, vu, vs] } } := I4.kept (t' := s4.toks) fun b ob q => Heap.get?_push_of_some _ q
  cases b with
  | true =>
    obtain ⟨its, r, ht, hz⟩ := I5.list hx
    have hlen := r.length
    show wpAny (model X.prog X.w) X.A (subscriptTail e (.Slice none none (some (.UnaryOp .USub (.Constant (.int 1) k p1) p2)) p3) (.ref a) (.ref s4.heap.objs.size)) (EP X pins σ Q) X.xe { s4 with heap := s4.heap.push { cls := .type "slice", data := .fields #[vl, vu, vs] } }
    refine tail_any (ops := [.ref a, .ref s4.heap.objs.size]) ht.isList.typeIs (PySem.slot_list_getitem.lookup) ?_ (by with_unfolding_all rfl)
    refine wpAny_getItem_list_slice ht.isList (Heap.IsSliceOf.new _ vl vu vs) pl pu ps (by decide) ?_ (by rw [List.size_toArray]; omega)
    rw [PySem.W.krv_pick]
    refine ⟨.ref _, _, I5.laid (t' := s4.toks) (o := .lst xs.reverse) (fun b ob q => Heap.get?_push_of_some _ q) (Nat.le_refl _) ?_, rfl, q _ _ (same_upd (I5.hok.fresh (Nat.le_refl _))) (I5.hok.fresh (Nat.le_refl _)) upd_same⟩
    exact ⟨by rw [List.length_reverse]; exact hz, _, 0, r.reverse, Heap.get?_push_size _ rfl⟩
  | false =>
    obtain ⟨its, r, ht, hz⟩ := I5.tuple hx
    have hlen := r.length
    show wpAny (model X.prog X.w) X.A (subscriptTail e (.Slice none none (some (.UnaryOp .USub (.Constant (.int 1) k p1) p2)) p3) (.ref a) (.ref s4.heap.objs.size)) (EP X pins σ Q) X.xe { s4 with heap := s4.heap.push { cls := .type "slice", data := .fields #[vl, vu, vs] } }
    refine tail_any (ops := [.ref a, .ref s4.heap.objs.size]) ht.typeIs (PyProof.Rows.slot_tuple_getitem.lookup) ?_ (by with_unfolding_all rfl)
    refine getItem_tuple_back ht (Heap.IsSliceOf.new _ vl vu vs) pl pu ps ?_ (by rw [List.size_toArray]; omega)
    refine ⟨.ref _, _, I5.laid (t' := s4.toks) (o := .tup xs.reverse) (fun b ob q => Heap.get?_push_of_some _ q) (Nat.le_refl _) ?_, rfl, q _ _ (same_upd (I5.hok.fresh (Nat.le_refl _))) (I5.hok.fresh (Nat.le_refl _)) upd_same⟩
    exact ⟨by rw [List.length_reverse]; exact hz, _, r.reverse, IsTup.new _ _⟩
theorem flat_ints (ys : List Int) : (ys.map V.int).all flatV = true := by
  rw [List.all_map]
  exact List.all_eq_true.mpr fun _ _ => rfl
/-- t.index(n), the first place -/
def rTupIx (K : PySem.W.Frag) : V → List V → Hp → VK → Prop := fun x xs H Q => ∃ (p : Addr) (ys : List Int) (z : Int) (j : Nat), x = V.ref p ∧ xs = [.int z] ∧ SqT K H p (ys.map V.int) ∧ ys[j]? = some z ∧ (∀ m, m < j → ys[m]? ≠ some z) ∧ Q (.int (j : Nat)) H
theorem mt_tup_ixI {X : Cx} : MtR X "tuple.index" (rTupIx X.K) := by
  intro pins s σ H x xs v us Q I rx rs h
  obtain ⟨p, ys, z, j, rfl, rfl, hq, hy, hno, q⟩ := h
  cases rx
  obtain ⟨u, rfl, t, rfl⟩ := vals1 rs
  obtain ⟨its, r, pl, hz⟩ := I.tuple hq
  obtain ⟨⟨cls, dd, dt, sl⟩, ho, hc, n, hd⟩ := pl
  simp only at hc hd
  subst hc
  subst hd
  have hl : its.toArray.size = ys.length := by rw [List.size_toArray, ← r.length, List.length_map]
  have hj : j < its.toArray.size := by rw [hl]; exact (List.getElem?_eq_some_iff.mp hy).1
  have at' : ∀ (m : Nat) (hm : m < its.toArray.size), ∃ y t', ys[m]? = some y ∧ its.toArray[m] = Value.int y t' := fun m hm => by
    have hm' : m < ys.length := by rw [← hl]; exact hm
    obtain ⟨w, hw, t', hw'⟩ := r.get (i := m) (x := .int ys[m]) (by simp [hm'])
    refine ⟨ys[m], t', List.getElem?_eq_getElem hm', ?_⟩
    have e := (List.getElem?_eq_some_iff.mp hw).2
    rw [← hw', ← e]
    simp
  refine call_meets PySem.F.slot_tuple_index ⟨_, ho, rfl⟩ PySem.F.entry_tuple_index (PySem.F.args_tuple_index_2 _ _) (TI.tuple_indexAt p its.toArray n dd sl (.int z t) (eqU (.int z)) j hj ?_ ?_)
    ⟨ho, fun w hw => mem_eqAt (x := .int z) ⟨t, rfl⟩ rfl r (flat_ints ys) w (by simpa using hw), ⟨.int (j : Nat), H, I.tok _, ⟨_, rfl⟩, q⟩⟩
  · obtain ⟨y, t', h1, h2⟩ := at' j hj
    rw [hy] at h1
    cases h1
    rw [h2]
    show (z == z) = true
    exact beq_self_eq_true z
  · intro m hm hmj
    obtain ⟨y, t', h1, h2⟩ := at' m hm
    rw [h2]
    show (y == z) = false
    exact beq_eq_false_iff_ne.mpr fun e => hno m hmj (e ▸ h1)
end My

set_option Elab.async false
set_option linter.all false
set_option maxRecDepth 100000
set_option maxHeartbeats 1000000
/-! ### grids of dots: rows of 0, 1, none; turned, mirrored; as they lie on the heap -/
namespace My
open PySem PySem.Spec PyProof.Rows L2
abbrev Grid := List (List (Option Nat))
def vG : Option Nat → V
  | none => .non
  | some n => vN n
def dG : Option Nat → PyData
  | none => .none
  | some n => dI n
def DotOk (o : Option Nat) : Prop := o = none ∨ o = some 0 ∨ o = some 1
structure Sq (n : Nat) (g : Grid) : Prop where
  len : g.length = n
  row : ∀ r ∈ g, r.length = n
  dot : ∀ r ∈ g, ∀ o ∈ r, DotOk o
def SideOk (n : Nat) : Prop := n = 8 ∨ n = 12 ∨ n = 16 ∨ n = 20 ∨ n = 24
def cell (g : Grid) (i j : Nat) : Option Nat := (g.getD i []).getD j none
def rot (g : Grid) : Grid := (List.range g.length).map fun i => g.reverse.map fun r => r.getD i none
def rotK : Nat → Grid → Grid
  | 0, g => g
  | k + 1, g => rot (rotK k g)
def mir (g : Grid) : Grid := g.map List.reverse
theorem getD_in {α : Type} {l : List α} {i : Nat} {d : α} (h : i < l.length) : l.getD i d = l[i] := by
  rw [List.getD_eq_getElem?_getD, List.getElem?_eq_getElem h]
  rfl
theorem getD_mem {α : Type} {l : List α} {i : Nat} {d : α} (h : i < l.length) : l.getD i d ∈ l := by
  rw [getD_in h]
  exact List.getElem_mem h
theorem dot_getD {r : List (Option Nat)} {i : Nat} (h : ∀ o ∈ r, DotOk o) : DotOk (r.getD i none) := by
  by_cases c : i < r.length
  · exact h _ (getD_mem c)
  · rw [List.getD_eq_getElem?_getD, List.getElem?_eq_none (by omega)]
    exact .inl rfl
theorem rot_sq {n : Nat} {g : Grid} (h : Sq n g) : Sq n (rot g) where
  len := by unfold rot; rw [List.length_map, List.length_range, h.len]
  row r hr := by
    obtain ⟨i, _, rfl⟩ := List.mem_map.mp hr
    rw [List.length_map, List.length_reverse, h.len]
  dot r hr o ho := by
    obtain ⟨i, _, rfl⟩ := List.mem_map.mp hr
    obtain ⟨q, hq, rfl⟩ := List.mem_map.mp ho
    exact dot_getD (h.dot q (List.mem_reverse.mp hq))
theorem mir_sq {n : Nat} {g : Grid} (h : Sq n g) : Sq n (mir g) where
  len := by unfold mir; rw [List.length_map, h.len]
  row r hr := by
    obtain ⟨q, hq, rfl⟩ := List.mem_map.mp hr
    rw [List.length_reverse, h.row q hq]
  dot r hr o ho := by
    obtain ⟨q, hq, rfl⟩ := List.mem_map.mp hr
    exact h.dot q hq o (List.mem_reverse.mp ho)
theorem rotK_sq {n : Nat} {g : Grid} (h : Sq n g) : ∀ k, Sq n (rotK k g)
  | 0 => h
  | k + 1 => rot_sq (rotK_sq h k)
theorem mir_mir (g : Grid) : mir (mir g) = g := by
  unfold mir
  rw [List.map_map]
  have e : (List.reverse ∘ List.reverse : List (Option Nat) → List (Option Nat)) = id := funext fun l => List.reverse_reverse l
  rw [e, List.map_id]
theorem grid_ext {n : Nat} {g h : Grid} (a : Sq n g) (b : Sq n h) (e : ∀ i j, i < n → j < n → cell g i j = cell h i j) : g = h := by
  have l1 := a.len
  have l2 := b.len
  refine List.ext_getElem (by rw [l1, l2]) fun i h1 h2 => ?_
  have r1 := a.row _ (List.getElem_mem h1)
  have r2 := b.row _ (List.getElem_mem h2)
  refine List.ext_getElem (by rw [r1, r2]) fun j h3 h4 => ?_
  have q := e i j (by omega) (by omega)
  unfold cell at q
  rw [getD_in h1, getD_in h2, getD_in h3, getD_in h4] at q
  exact q
theorem cell_rot {n : Nat} {g : Grid} (h : Sq n g) {i j : Nat} (hi : i < n) (hj : j < n) : cell (rot g) i j = cell g (n - 1 - j) i := by
  have l := h.len
  have lr : (rot g).length = n := (rot_sq h).len
  unfold cell
  rw [getD_in (l := rot g) (by omega)]
  have e : (rot g)[i]'(by omega) = g.reverse.map fun r => r.getD i none := by
    unfold rot
    rw [List.getElem_map, List.getElem_range]
  rw [e, getD_in (l := g.reverse.map _) (by rw [List.length_map, List.length_reverse]; omega), List.getElem_map, List.getElem_reverse, getD_in (l := g) (by omega)]
  simp only [l]
theorem rotK_add (a b : Nat) (g : Grid) : rotK (a + b) g = rotK a (rotK b g) := by
  induction a with
  | zero => rw [Nat.zero_add]; rfl
  | succ a ih =>
    rw [show a + 1 + b = (a + b) + 1 by omega]
    show rot (rotK (a + b) g) = rot (rotK a (rotK b g))
    rw [ih]
theorem rot4 {n : Nat} {g : Grid} (h : Sq n g) : rotK 4 g = g := by
  refine grid_ext (rotK_sq h 4) h fun i j hi hj => ?_
  show cell (rot (rotK 3 g)) i j = _
  rw [cell_rot (rotK_sq h 3) hi hj]
  show cell (rot (rotK 2 g)) (n - 1 - j) i = _
  rw [cell_rot (rotK_sq h 2) (by omega) hi]
  show cell (rot (rotK 1 g)) (n - 1 - i) (n - 1 - j) = _
  rw [cell_rot (rotK_sq h 1) (by omega) (by omega)]
  show cell (rot g) (n - 1 - (n - 1 - j)) (n - 1 - i) = _
  rw [cell_rot h (by omega) (by omega)]
  congr 1 <;> omega
def posedG (g : Grid) (t : Nat) (f : Bool) : Grid := rotK t (if f then mir g else g)
def unposedG (g : Grid) (t : Nat) (f : Bool) : Grid := if f then mir (rotK ((4 - t) % 4) g) else rotK ((4 - t) % 4) g
theorem rot_back {n t : Nat} {g : Grid} (h : Sq n g) (ht : t < 4) : rotK ((4 - t) % 4) (rotK t g) = g ∧ rotK t (rotK ((4 - t) % 4) g) = g := by
  rw [← rotK_add, ← rotK_add]
  by_cases c : t = 0
  · subst c
    exact ⟨rfl, rfl⟩
  · have e1 : (4 - t) % 4 + t = 4 := by omega
    have e2 : t + (4 - t) % 4 = 4 := by omega
    rw [e1, e2]
    exact ⟨rot4 h, rot4 h⟩
theorem unposed_posed {n t : Nat} {f : Bool} {g : Grid} (h : Sq n g) (ht : t < 4) : unposedG (posedG g t f) t f = g := by
  unfold unposedG posedG
  cases f
  · exact (rot_back h ht).1
  · simp only [if_true]
    rw [(rot_back (mir_sq h) ht).1, mir_mir]
theorem posed_unposed {n t : Nat} {f : Bool} {g : Grid} (h : Sq n g) (ht : t < 4) : posedG (unposedG g t f) t f = g := by
  unfold unposedG posedG
  cases f
  · exact (rot_back h ht).2
  · simp only [if_true]
    rw [mir_mir, (rot_back h ht).2]
theorem posed_sq {n t : Nat} {f : Bool} {g : Grid} (h : Sq n g) : Sq n (posedG g t f) := by
  unfold posedG
  cases f
  · exact rotK_sq h t
  · exact rotK_sq (mir_sq h) t
theorem unposed_sq {n t : Nat} {f : Bool} {g : Grid} (h : Sq n g) : Sq n (unposedG g t f) := by
  unfold unposedG
  cases f
  · exact rotK_sq h _
  · exact mir_sq (rotK_sq h _)
/-! ### on the heap -/
structure GrB (k : Bool) (K : PySem.W.Frag) (H : Hp) (a : Addr) (g : Grid) : Prop where
  ex : ∃ L : List Addr, SqB k K H a (L.map V.ref) ∧ L.length = g.length ∧ ∀ (j : Nat) (l : Addr) (r : List (Option Nat)), L[j]? = some l → g[j]? = some r → SqB k K H l (r.map vG)
theorem GrB.same {k : Bool} {K : PySem.W.Frag} {H H' : Hp} {a : Addr} {g : Grid} (h : GrB k K H a g) (s : Same H H') : GrB k K H' a g := by
  obtain ⟨L, h1, h2, h3⟩ := h.ex
  exact ⟨L, Same.sqb s h1, h2, fun j l r e1 e2 => Same.sqb s (h3 j l r e1 e2)⟩
structure FrI (H H' : Hp) (D : Addr) (L : List Addr) (g : Grid) (i : Nat) : Prop where
  same : Same H H'
  out : H' D = some (.lst (L.map V.ref))
  len : L.length = i
  row : ∀ (j : Nat) (l : Addr) (r : List (Option Nat)), L[j]? = some l → g[j]? = some r → H l = none ∧ l ≠ D ∧ H' l = some (.lst (r.map vG))
theorem FrI.start {H : Hp} {D : Addr} {g : Grid} (h : H D = none) : FrI H (upd H D (.lst [])) D [] g 0 := ⟨same_upd h, upd_same, rfl, fun j l r e => by cases e⟩
theorem FrI.step {H H' H2 : Hp} {D c : Addr} {L : List Addr} {g : Grid} {i : Nat} {r : List (Option Nat)} (F : FrI H H' D L g i) (hD : H D = none) (hr : g[i]? = some r) (s : Same H' H2) (hc : H' c = none) (e : H2 c = some (.lst (r.map vG))) :
    FrI H (upd H2 D (.lst (L.map V.ref ++ [V.ref c]))) D (L ++ [c]) g (i + 1) := by
  obtain ⟨s0, out, len, row⟩ := F
  have ncD : c ≠ D := fun z => by rw [z, out] at hc; cases hc
  refine ⟨fun b o hb => ?_, ?_, by rw [List.length_append, len]; rfl, fun j l q e1 e2 => ?_⟩
  · rw [upd_ne (ne_of_none hb hD)]
    exact s _ _ (s0 _ _ hb)
  · rw [upd_same, List.map_append]
    rfl
  · by_cases cj : j < i
    · rw [List.getElem?_append_left (by rw [len]; exact cj)] at e1
      obtain ⟨q1, q2, q3⟩ := row j l q e1 e2
      exact ⟨q1, q2, by rw [upd_ne q2]; exact s _ _ q3⟩
    · have hl := (List.getElem?_eq_some_iff.mp e1).1
      rw [List.length_append, len] at hl
      have ej : j = i := by simp at hl; omega
      subst ej
      rw [List.getElem?_append_right (by rw [len]; exact Nat.le_refl _), len, Nat.sub_self] at e1
      cases e1
      rw [hr] at e2
      cases e2
      exact ⟨Same.free s0 hc, ncD, by rw [upd_ne ncD]; exact e⟩
/-- a new grid of new rows -/
def Fr (H H' : Hp) (D : Addr) (g : Grid) : Prop := H D = none ∧ ∃ L, FrI H H' D L g g.length
theorem Fr.same0 {H H' : Hp} {D : Addr} {g : Grid} (h : Fr H H' D g) : Same H H' := let ⟨_, _, F⟩ := h; F.same
theorem Fr.ext {H H' H2 : Hp} {D : Addr} {g : Grid} (h : Fr H H' D g) (s : Same H' H2) : Fr H H2 D g := by
  obtain ⟨hD, L, F⟩ := h
  exact ⟨hD, L, F.same.trans s, s _ _ F.out, F.len, fun j l r e1 e2 => let ⟨q1, q2, q3⟩ := F.row j l r e1 e2; ⟨q1, q2, s _ _ q3⟩⟩
theorem Fr.back {H0 H H' : Hp} {D : Addr} {g : Grid} (h : Fr H H' D g) (s : Same H0 H) : Fr H0 H' D g := by
  obtain ⟨hD, L, F⟩ := h
  exact ⟨Same.free s hD, L, s.trans F.same, F.out, F.len, fun j l r e1 e2 => let ⟨q1, q2, q3⟩ := F.row j l r e1 e2; ⟨Same.free s q1, q2, q3⟩⟩
theorem Fr.gr {K : PySem.W.Frag} {H H' : Hp} {D : Addr} {g : Grid} (h : Fr H H' D g) : GrB true K H' D g := by
  obtain ⟨_, L, F⟩ := h
  exact ⟨L, .lst F.out, F.len, fun j l r e1 e2 => .lst (F.row j l r e1 e2).2.2⟩
/-! ### compared -/
def dRow (r : List (Option Nat)) : PyData := .list (r.map dG)
def dGr (g : Grid) : PyData := .list (g.map dRow)
theorem dG_lay : ∀ row : List (Option Nat), PyData.canLayAll0 (row.map dG) = true
  | [] => rfl
  | o :: r => by
    show (PyData.canLay0 (dG o) && PyData.canLayAll0 (r.map dG)) = true
    rw [dG_lay r]
    cases o <;> rfl
theorem dG_depth : ∀ row : List (Option Nat), PyData.depthAll (row.map dG) = 0
  | [] => rfl
  | o :: r => by
    show max (PyData.depth (dG o)) (PyData.depthAll (r.map dG)) = 0
    rw [dG_depth r]
    cases o <;> rfl
theorem dRow_lay : ∀ g : Grid, PyData.canLayAll0 (g.map dRow) = true
  | [] => rfl
  | r :: g => by
    show (PyData.canLay0 (dRow r) && PyData.canLayAll0 (g.map dRow)) = true
    rw [dRow_lay g, Bool.and_true]
    exact dG_lay r
theorem dRow_depth : ∀ g : Grid, PyData.depthAll (g.map dRow) ≤ 1
  | [] => Nat.zero_le _
  | r :: g => by
    show max (PyData.depthAll (r.map dG) + 1) (PyData.depthAll (g.map dRow)) ≤ 1
    have := dRow_depth g
    rw [dG_depth r]
    omega
theorem dGr_shaped (g : Grid) : SeqAt.shaped (dGr g) = true := by
  unfold SeqAt.shaped
  have h1 : (dGr g).canLay0 = true := dRow_lay g
  have h2 : (dGr g).depth ≤ 64 := by
    show PyData.depthAll (g.map dRow) + 1 ≤ 64
    have := dRow_depth g
    omega
  rw [h1, Bool.true_and]
  exact decide_eq_true h2
theorem dGr_eq (g : Grid) : PyData.eqv (dGr g) (dGr g) = true := SeqAt.eqv_refl _ (dRow_lay g)
theorem dG_all {K : PySem.W.Frag} {H : Hp} : ∀ row : List (Option Nat), DpAll K H (row.map vG) (row.map dG)
  | [] => .nil
  | none :: r => .cons .non (dG_all r)
  | some n :: r => .cons (.int _) (dG_all r)
theorem rows_dp {K : PySem.W.Frag} {H : Hp} : ∀ (L : List Addr) (g : Grid), L.length = g.length → (∀ (j : Nat) (l : Addr) (r : List (Option Nat)), L[j]? = some l → g[j]? = some r → SqL K H l (r.map vG)) → DpAll K H (L.map V.ref) (g.map dRow)
  | [], [], _, _ => .nil
  | [], _ :: _, h, _ => by cases h
  | _ :: _, [], h, _ => by cases h
  | l :: L, r :: g, h, f => .cons (.lst (f 0 l r rfl rfl) (dG_all r)) (rows_dp L g (Nat.succ.inj h) fun j l' r' e1 e2 => f (j + 1) l' r' e1 e2)
theorem GrB.dp {K : PySem.W.Frag} {H : Hp} {a : Addr} {g : Grid} (h : GrB true K H a g) : Dp K H (.ref a) (dGr g) := by
  obtain ⟨L, h1, h2, h3⟩ := h.ex
  exact .lst h1 (rows_dp L g h2 h3)
end My

set_option Elab.async false
set_option linter.all false
set_option maxRecDepth 100000
set_option maxHeartbeats 1000000
/-! ### rules that name K, for comprehensions; type() of a dot; a second for of a comprehension -/
namespace My
open PySem PySem.Spec PyProof.Rows L2
theorem call_len_seqG {X : Cx} {K : PySem.W.Frag} (h : X.K = K) : CallR X (.builtin "len") (fun xs H Q => ∃ p ys, xs = [V.ref p] ∧ (SqL K H p ys ∨ SqT K H p ys) ∧ Q (.int (ys.length : Nat)) H) := by
  subst h
  exact call_len_seq
/-- two values the other way round -/
def rev2 {α : Type} : List α → List α
  | [a, b] => [b, a]
  | l => l
theorem rev2_rel {zs : List V} {ws : List Value} (r : Vals zs ws) : Vals (rev2 zs) (rev2 ws) := by
  cases r with
  | nil => exact .nil
  | cons r1 r =>
    cases r with
    | nil => exact .cons r1 .nil
    | cons r2 r =>
      cases r with
      | nil => exact .cons r2 (.cons r1 .nil)
      | cons r3 r => exact .cons r1 (.cons r2 (.cons r3 r))
theorem pe_tupleOfK {X : Cx} {K : PySem.W.Frag} {a : Expr} {ta : TE} {p pos : Pos} (hK : X.K = K) (hg : Gl X "tuple") (hm : X.mg "tuple" = none) (ha : PE X a ta) (na : starEach [a] X.env = (false, eval a X.env) :: starEach [] X.env := by rfl) :
    PE X (.Call (.Name "tuple" p) [a] [] pos) (tThen ta (kTup K)) := by
  subst hK
  exact pe_tupleOf hg hm ha na
theorem call_listOfK {X : Cx} {K : PySem.W.Frag} (h : X.K = K) : CallR X (.type "list") (fun xs H Q => ∃ p ys, xs = [.ref p] ∧ (SqL K H p ys ∨ SqT K H p ys) ∧ ∀ l, H l = none → Q (.ref l) (upd H l (.lst ys))) := by
  subst h
  exact call_list_of
theorem call_isiTK {X : Cx} {K : PySem.W.Frag} (h : X.K = K) : CallR X (.builtin "isinstance") (rIsiT K) := by
  subst h
  exact call_isiT
theorem pi_seqK {X : Cx} {K : PySem.W.Frag} {tg : Expr} {l : Expr} {tl : TE} (h : X.K = K) (hl : PE X l tl) : PI X tg l (iSeq K tl) := by
  subst h
  exact pi_seq hl
theorem pt_never {X : Cx} {e : Expr} : PT X e (fun _ _ _ => False) := ⟨fun _ _ _ _ _ _ h => h.elim⟩
def sidesI : List Int := [8, 12, 16, 20, 24]
theorem side_at {n : Nat} (h : SideOk n) : ∃ i : Nat, i < 5 ∧ sidesI[i]? = some (n : Int) ∧ ∀ m, m < i → sidesI[m]? ≠ some (n : Int) := by
  rcases h with rfl | rfl | rfl | rfl | rfl
  · exact ⟨0, by decide, rfl, by decide⟩
  · exact ⟨1, by decide, rfl, by decide⟩
  · exact ⟨2, by decide, rfl, by decide⟩
  · exact ⟨3, by decide, rfl, by decide⟩
  · exact ⟨4, by decide, rfl, by decide⟩
theorem side_in {n : Nat} (h : SideOk n) : inV (vN n) (sidesI.map V.int) = true := by
  rcases h with rfl | rfl | rfl | rfl | rfl <;> decide
theorem side_le {n : Nat} (h : SideOk n) : 8 ≤ n ∧ n ≤ 24 := by
  rcases h with rfl | rfl | rfl | rfl | rfl <;> decide
def tyG : Option Nat → String
  | none => "NoneType"
  | some _ => "int"
def rTyG : List V → Hp → VK → Prop := fun xs H Q => ∃ o : Option Nat, xs = [vG o] ∧ Q (.ty (tyG o)) H
theorem call_typeG {X : Cx} : CallR X (.type "type") rTyG := by
  intro pins s σ H xs us Q I r h
  obtain ⟨o, rfl, q⟩ := h
  obtain ⟨u, rfl, rx⟩ := vals1 r
  cases o with
  | none =>
    cases (show u = Value.none from rx)
    exact call_type_of (Tx := "NoneType") rfl (by decide +kernel) ⟨.ty "NoneType", H, I, rfl, q⟩
  | some n =>
    obtain ⟨t, rfl⟩ := (show ∃ t, u = Value.int n t from rx)
    exact call_type_of (Tx := "int") rfl (by decide +kernel) ⟨.ty "int", H, I, rfl, q⟩
section
variable {J : It} {n : Nat} {G : Hp → Prop} {Y : Nat → Hp → V → Hp → Prop}
/-- the turns of a first for that holds a second one -/
theorem lc2_it (w : Walk J n G Y) {g g1 : TG} {tt tt1 : TT} {wi1 : TI} {te : TE} {vs vs1 : List Nat} {σ : L2.St} {H1 : Hp} {D : Addr} {Qd : Hp → Prop} (Pv : Nat → Hp → Prop) (h0 : Pv 0 (upd H1 D (.lst []))) (hG : ∀ i H, i ≤ n → Pv i H → G H)
    (hs : ∀ i x H H', i < n → Pv i H → Y i H x H' → g x (wipe σ vs) H' fun σ2 H2 => wipe σ2 vs = wipe σ vs ∧ tt σ2 H2 fun b H3 =>
      if b = true then wi1 σ2 H3 fun J1 H4 => ∃ W1 : Nat → Nat → Hp → Prop, (∃ m, W1 0 m H4) ∧ ∀ j k H, W1 j k H →
        (J1.stop j H ∧ Pv (i + 1) H) ∨ (J1.go j H ∧ ∃ Nx1 : Hp → Prop, (∀ H', Nx1 H' → ∃ k', k' < k ∧ W1 (j + 1) k' H') ∧ ∀ x H', J1.yld j H x H' → g1 x (wipe σ2 vs1) H' fun σ3 H5 => wipe σ3 vs1 = wipe σ2 vs1 ∧ tt1 σ3 H5 fun b H6 =>
          if b = true then te σ3 H6 fun y H7 => ∃ acc, H7 D = some (.lst acc) ∧ acc.length < sizeLine ∧ Nx1 (upd H7 D (.lst (acc ++ [y]))) else Nx1 H6)
      else Pv (i + 1) H3) (hd : ∀ H, Pv n H → Qd H) :
    ∃ W : Nat → Nat → Hp → Prop, (∃ m, W 0 m (upd H1 D (.lst []))) ∧ ∀ i m H, W i m H →
      (J.stop i H ∧ Qd H) ∨ (J.go i H ∧ ∃ Nx : Hp → Prop, (∀ H', Nx H' → ∃ m', m' < m ∧ W (i + 1) m' H') ∧ ∀ x H', J.yld i H x H' → g x (wipe σ vs) H' fun σ2 H2 => wipe σ2 vs = wipe σ vs ∧ tt σ2 H2 fun b H3 =>
        if b = true then wi1 σ2 H3 fun J1 H4 => ∃ W1 : Nat → Nat → Hp → Prop, (∃ m, W1 0 m H4) ∧ ∀ j k H, W1 j k H →
          (J1.stop j H ∧ Nx H) ∨ (J1.go j H ∧ ∃ Nx1 : Hp → Prop, (∀ H', Nx1 H' → ∃ k', k' < k ∧ W1 (j + 1) k' H') ∧ ∀ x H', J1.yld j H x H' → g1 x (wipe σ2 vs1) H' fun σ3 H5 => wipe σ3 vs1 = wipe σ2 vs1 ∧ tt1 σ3 H5 fun b H6 =>
            if b = true then te σ3 H6 fun y H7 => ∃ acc, H7 D = some (.lst acc) ∧ acc.length < sizeLine ∧ Nx1 (upd H7 D (.lst (acc ++ [y]))) else Nx1 H6)
        else Nx H3) := by
  refine ⟨fun i m H => m = n - i ∧ i ≤ n ∧ Pv i H, ⟨n, by simp, Nat.zero_le _, h0⟩, ?_⟩
  rintro i m H ⟨rfl, hi, p⟩
  have q := hG i H hi p
  by_cases hlt : i < n
  · exact .inr ⟨w.goes i H hlt q, Pv (i + 1), fun H' p' => ⟨n - (i + 1), by omega, rfl, hlt, p'⟩, fun x H' y => hs i x H H' hlt p (w.yields i H x H' hlt q y)⟩
  · have e : i = n := by omega
    subst e
    exact .inl ⟨w.stops H q, hd H p⟩
/-- the turns of a second for -/
theorem lc_in (w : Walk J n G Y) {g : TG} {tt : TT} {te : TE} {vs : List Nat} {σ : L2.St} {H1 : Hp} {D : Addr} {Qd : Hp → Prop} (Pv : Nat → Hp → Prop) (h0 : Pv 0 H1) (hG : ∀ i H, i ≤ n → Pv i H → G H)
    (hs : ∀ i x H H', i < n → Pv i H → Y i H x H' → g x (wipe σ vs) H' fun σ2 H2 => wipe σ2 vs = wipe σ vs ∧ tt σ2 H2 fun b H3 =>
      if b = true then te σ2 H3 fun y H4 => ∃ acc, H4 D = some (.lst acc) ∧ acc.length < sizeLine ∧ Pv (i + 1) (upd H4 D (.lst (acc ++ [y]))) else Pv (i + 1) H3) (hd : ∀ H, Pv n H → Qd H) :
    ∃ W : Nat → Nat → Hp → Prop, (∃ m, W 0 m H1) ∧ ∀ i m H, W i m H →
      (J.stop i H ∧ Qd H) ∨ (J.go i H ∧ ∃ Nx : Hp → Prop, (∀ H', Nx H' → ∃ m', m' < m ∧ W (i + 1) m' H') ∧ ∀ x H', J.yld i H x H' → g x (wipe σ vs) H' fun σ2 H2 => wipe σ2 vs = wipe σ vs ∧ tt σ2 H2 fun b H3 =>
        if b = true then te σ2 H3 fun y H4 => ∃ acc, H4 D = some (.lst acc) ∧ acc.length < sizeLine ∧ Nx (upd H4 D (.lst (acc ++ [y]))) else Nx H3) := by
  refine ⟨fun i m H => m = n - i ∧ i ≤ n ∧ Pv i H, ⟨n, by simp, Nat.zero_le _, h0⟩, ?_⟩
  rintro i m H ⟨rfl, hi, p⟩
  have q := hG i H hi p
  by_cases hlt : i < n
  · exact .inr ⟨w.goes i H hlt q, Pv (i + 1), fun H' p' => ⟨n - (i + 1), by omega, rfl, hlt, p'⟩, fun x H' y => hs i x H H' hlt p (w.yields i H x H' hlt q y)⟩
  · have e : i = n := by omega
    subst e
    exact .inl ⟨w.stops H q, hd H p⟩
end
end My

set_option Elab.async false
set_option linter.all false
set_option maxRecDepth 100000
set_option maxHeartbeats 4000000
namespace My
open PySem PySem.Spec PyProof.Rows L2
/-- the scope of the comprehension over the columns -/
abbrev sc_lc_turned : Scope := { kind := .function, names := [(".0", .local), ("_law_at", .cell), ("range", .globalImplicit), ("_law_many", .cell), ("_law_rows", .cell)], isGenerator := false, isCoroutine := false }
/-- the scope of the comprehension over the rows that are drawn -/
abbrev sc_lc_right : Scope := { kind := .function, names := [(".0", .local), ("_law_at", .local), ("range", .globalImplicit), ("_law_many", .cell), ("_law_well", .cell)], isGenerator := false, isCoroutine := false }
def topS (i : Nat) : Stmt := PySem.Challenge.pw_dotquilts_k43_whole_poses_dot_by_dot.main.body.getD i (.Pass ⟨0, 0, 0, 0⟩)
abbrev s_is_number : Stmt := topS 1
theorem sc_is_number : FnScope ["thing"] ["thing"] (defScope s_is_number) := ⟨rfl, rfl, rfl, by decide +kernel, rfl, by decide +kernel, by decide +kernel⟩
abbrev s_is_number_to : Stmt := topS 2
theorem sc_is_number_to : FnScope ["thing", "least", "most"] ["thing", "least", "most"] (defScope s_is_number_to) := ⟨rfl, rfl, rfl, by decide +kernel, rfl, by decide +kernel, by decide +kernel⟩
abbrev s_is_row : Stmt := topS 4
theorem sc_is_row : FnScope ["thing"] ["thing"] (defScope s_is_row) := ⟨rfl, rfl, rfl, by decide +kernel, rfl, by decide +kernel, by decide +kernel⟩
abbrev s_is_plain_grid : Stmt := topS 12
theorem sc_is_plain_grid : FnScope ["many", "grid", "odd", "dots", "dot"] ["many", "grid"] (defScope s_is_plain_grid) := ⟨rfl, rfl, rfl, by decide +kernel, rfl, by decide +kernel, by decide +kernel⟩
abbrev s_need_dot_rows : Stmt := topS 14
theorem sc_need_dot_rows : FnScope ["many", "grid", "gapped", "dots", "row"] ["many", "grid", "gapped"] (defScope s_need_dot_rows) := ⟨rfl, rfl, rfl, by decide +kernel, rfl, by decide +kernel, by decide +kernel⟩
abbrev s_need_grid : Stmt := topS 15
theorem sc_need_grid : FnScope ["size", "grid"] ["size", "grid"] (defScope s_need_grid) := ⟨rfl, rfl, rfl, by decide +kernel, rfl, by decide +kernel, by decide +kernel⟩
abbrev s_need_any_grid : Stmt := topS 16
theorem sc_need_any_grid : FnScope ["grid", "size"] ["grid"] (defScope s_need_any_grid) := ⟨rfl, rfl, rfl, by decide +kernel, rfl, by decide +kernel, by decide +kernel⟩
abbrev s_is_pose : Stmt := topS 19
theorem sc_is_pose : FnScope ["thing"] ["thing"] (defScope s_is_pose) := ⟨rfl, rfl, rfl, by decide +kernel, rfl, by decide +kernel, by decide +kernel⟩
abbrev s_need_pose : Stmt := topS 20
theorem sc_need_pose : FnScope ["pose"] ["pose"] (defScope s_need_pose) := ⟨rfl, rfl, rfl, by decide +kernel, rfl, by decide +kernel, by decide +kernel⟩
abbrev s_grid_mirrored : Stmt := topS 22
theorem sc_grid_mirrored : FnScope ["grid", "dots"] ["grid"] (defScope s_grid_mirrored) := ⟨rfl, rfl, rfl, by decide +kernel, rfl, by decide +kernel, by decide +kernel⟩
abbrev s_grid_turned : Stmt := topS 21
theorem sc_grid_turned : FnScope ["grid", "times", "found", "_", "upward", "dots", "column"] ["grid", "times"] (defScope s_grid_turned) := ⟨rfl, rfl, rfl, by decide +kernel, rfl, by decide +kernel, by decide +kernel⟩
abbrev s_grid_posed : Stmt := topS 23
theorem sc_grid_posed : FnScope ["grid", "pose", "turn", "flip"] ["grid", "pose"] (defScope s_grid_posed) := ⟨rfl, rfl, rfl, by decide +kernel, rfl, by decide +kernel, by decide +kernel⟩
abbrev s_grid_unposed : Stmt := topS 24
theorem sc_grid_unposed : FnScope ["grid", "pose", "turn", "flip", "found"] ["grid", "pose"] (defScope s_grid_unposed) := ⟨rfl, rfl, rfl, by decide +kernel, rfl, by decide +kernel, by decide +kernel⟩
abbrev s_turned : Stmt := topS 25
theorem sc_turned : FnScope ["grid", "times"] ["grid", "times"] (defScope s_turned) := ⟨rfl, rfl, rfl, by decide +kernel, rfl, by decide +kernel, by decide +kernel⟩
abbrev s_mirrored : Stmt := topS 26
theorem sc_mirrored : FnScope ["grid"] ["grid"] (defScope s_mirrored) := ⟨rfl, rfl, rfl, by decide +kernel, rfl, by decide +kernel, by decide +kernel⟩
abbrev s_posed : Stmt := topS 27
theorem sc_posed : FnScope ["grid", "pose"] ["grid", "pose"] (defScope s_posed) := ⟨rfl, rfl, rfl, by decide +kernel, rfl, by decide +kernel, by decide +kernel⟩
abbrev s_unposed : Stmt := topS 28
theorem sc_unposed : FnScope ["grid", "pose"] ["grid", "pose"] (defScope s_unposed) := ⟨rfl, rfl, rfl, by decide +kernel, rfl, by decide +kernel, by decide +kernel⟩
abbrev s__law_mix : Stmt := topS 30
theorem sc__law_mix : FnScope ["_law_cell", "_law_lap", "_law_blend"] ["_law_cell", "_law_lap"] (defScope s__law_mix) := ⟨rfl, rfl, rfl, by decide +kernel, rfl, by decide +kernel, by decide +kernel⟩
abbrev s__law_draw : Stmt := topS 32
theorem sc__law_draw : FnScope ["_law_well", "_law_many", "_law_figure"] ["_law_well", "_law_many"] (defScope s__law_draw) := ⟨rfl, rfl, rfl, by decide +kernel, rfl, by decide +kernel, by decide +kernel⟩
abbrev s__law_pick : Stmt := topS 33
theorem sc__law_pick : FnScope ["_law_well", "_law_some"] ["_law_well", "_law_some"] (defScope s__law_pick) := ⟨rfl, rfl, rfl, by decide +kernel, rfl, by decide +kernel, by decide +kernel⟩
abbrev s__law_source : Stmt := topS 31
theorem sc__law_source : FnScope ["_law_script", "_law_k", "_law_cell"] ["_law_script", "_law_k"] (defScope s__law_source) := ⟨rfl, rfl, rfl, by decide +kernel, rfl, by decide +kernel, by decide +kernel⟩
abbrev s__law_turned : Stmt := topS 34
theorem sc__law_turned : FnScope ["_law_rows", "_law_many", "_law_at", "_law_to"] ["_law_rows"] (defScope s__law_turned) := ⟨rfl, rfl, rfl, by decide +kernel, rfl, by decide +kernel, by decide +kernel⟩
abbrev s__law_posed : Stmt := topS 35
theorem sc__law_posed : FnScope ["_law_rows", "_law_stance", "_law_turn", "_law_row"] ["_law_rows", "_law_stance"] (defScope s__law_posed) := ⟨rfl, rfl, rfl, by decide +kernel, rfl, by decide +kernel, by decide +kernel⟩
abbrev s__law_unposed : Stmt := topS 36
theorem sc__law_unposed : FnScope ["_law_rows", "_law_stance", "_law_turn", "_law_row"] ["_law_rows", "_law_stance"] (defScope s__law_unposed) := ⟨rfl, rfl, rfl, by decide +kernel, rfl, by decide +kernel, by decide +kernel⟩
abbrev s__law_right : Stmt := topS 37
theorem sc__law_right : FnScope ["_law_well", "_law_many", "_law_rows", "_law_sheet", "_law_quarter", "_law_due", "_law_flip", "_law_back", "_law_said_so", "_law_at", "_law_to", "_law_row"] ["_law_well"] (defScope s__law_right) := ⟨rfl, rfl, rfl, by decide +kernel, rfl, by decide +kernel, by decide +kernel⟩
abbrev s_law : Stmt := topS 38
theorem sc_law : FnScope ["_law_script", "_law_k"] ["_law_script"] (defScope s_law) := ⟨rfl, rfl, rfl, by decide +kernel, rfl, by decide +kernel, by decide +kernel⟩
structure Txt (K : PySem.W.Frag) (mg : Str → Option Value) where
  f_is_number : Addr
  d_is_number : FuncData
  F_is_number : Fun K "is_number" "is_number" s_is_number f_is_number d_is_number
  g_is_number : mg "is_number" = some (.ref f_is_number)
  b_is_number : Binds K d_is_number ["thing"] []
  f_is_number_to : Addr
  d_is_number_to : FuncData
  F_is_number_to : Fun K "is_number_to" "is_number_to" s_is_number_to f_is_number_to d_is_number_to
  g_is_number_to : mg "is_number_to" = some (.ref f_is_number_to)
  b_is_number_to : Binds K d_is_number_to ["thing", "least", "most"] []
  f_is_row : Addr
  d_is_row : FuncData
  F_is_row : Fun K "is_row" "is_row" s_is_row f_is_row d_is_row
  g_is_row : mg "is_row" = some (.ref f_is_row)
  b_is_row : Binds K d_is_row ["thing"] []
  f_is_plain_grid : Addr
  d_is_plain_grid : FuncData
  F_is_plain_grid : Fun K "is_plain_grid" "is_plain_grid" s_is_plain_grid f_is_plain_grid d_is_plain_grid
  g_is_plain_grid : mg "is_plain_grid" = some (.ref f_is_plain_grid)
  b_is_plain_grid : Binds K d_is_plain_grid ["many", "grid"] []
  f_need_dot_rows : Addr
  d_need_dot_rows : FuncData
  F_need_dot_rows : Fun K "need_dot_rows" "need_dot_rows" s_need_dot_rows f_need_dot_rows d_need_dot_rows
  g_need_dot_rows : mg "need_dot_rows" = some (.ref f_need_dot_rows)
  b_need_dot_rows : Binds K d_need_dot_rows ["many", "grid", "gapped"] []
  f_need_grid : Addr
  d_need_grid : FuncData
  F_need_grid : Fun K "need_grid" "need_grid" s_need_grid f_need_grid d_need_grid
  g_need_grid : mg "need_grid" = some (.ref f_need_grid)
  b_need_grid : Binds K d_need_grid ["size", "grid"] []
  f_need_any_grid : Addr
  d_need_any_grid : FuncData
  F_need_any_grid : Fun K "need_any_grid" "need_any_grid" s_need_any_grid f_need_any_grid d_need_any_grid
  g_need_any_grid : mg "need_any_grid" = some (.ref f_need_any_grid)
  b_need_any_grid : Binds K d_need_any_grid ["grid"] []
  f_is_pose : Addr
  d_is_pose : FuncData
  F_is_pose : Fun K "is_pose" "is_pose" s_is_pose f_is_pose d_is_pose
  g_is_pose : mg "is_pose" = some (.ref f_is_pose)
  b_is_pose : Binds K d_is_pose ["thing"] []
  f_need_pose : Addr
  d_need_pose : FuncData
  F_need_pose : Fun K "need_pose" "need_pose" s_need_pose f_need_pose d_need_pose
  g_need_pose : mg "need_pose" = some (.ref f_need_pose)
  b_need_pose : Binds K d_need_pose ["pose"] []
  f_grid_mirrored : Addr
  d_grid_mirrored : FuncData
  F_grid_mirrored : Fun K "grid_mirrored" "grid_mirrored" s_grid_mirrored f_grid_mirrored d_grid_mirrored
  g_grid_mirrored : mg "grid_mirrored" = some (.ref f_grid_mirrored)
  b_grid_mirrored : Binds K d_grid_mirrored ["grid"] []
  f_grid_turned : Addr
  d_grid_turned : FuncData
  F_grid_turned : Fun K "grid_turned" "grid_turned" s_grid_turned f_grid_turned d_grid_turned
  g_grid_turned : mg "grid_turned" = some (.ref f_grid_turned)
  b_grid_turned : Binds K d_grid_turned ["grid", "times"] []
  f_grid_posed : Addr
  d_grid_posed : FuncData
  F_grid_posed : Fun K "grid_posed" "grid_posed" s_grid_posed f_grid_posed d_grid_posed
  g_grid_posed : mg "grid_posed" = some (.ref f_grid_posed)
  b_grid_posed : Binds K d_grid_posed ["grid", "pose"] []
  f_grid_unposed : Addr
  d_grid_unposed : FuncData
  F_grid_unposed : Fun K "grid_unposed" "grid_unposed" s_grid_unposed f_grid_unposed d_grid_unposed
  g_grid_unposed : mg "grid_unposed" = some (.ref f_grid_unposed)
  b_grid_unposed : Binds K d_grid_unposed ["grid", "pose"] []
  f_turned : Addr
  d_turned : FuncData
  F_turned : Fun K "turned" "turned" s_turned f_turned d_turned
  g_turned : mg "turned" = some (.ref f_turned)
  b_turned : Binds K d_turned ["grid", "times"] []
  f_mirrored : Addr
  d_mirrored : FuncData
  F_mirrored : Fun K "mirrored" "mirrored" s_mirrored f_mirrored d_mirrored
  g_mirrored : mg "mirrored" = some (.ref f_mirrored)
  b_mirrored : Binds K d_mirrored ["grid"] []
  f_posed : Addr
  d_posed : FuncData
  F_posed : Fun K "posed" "posed" s_posed f_posed d_posed
  g_posed : mg "posed" = some (.ref f_posed)
  b_posed : Binds K d_posed ["grid", "pose"] []
  f_unposed : Addr
  d_unposed : FuncData
  F_unposed : Fun K "unposed" "unposed" s_unposed f_unposed d_unposed
  g_unposed : mg "unposed" = some (.ref f_unposed)
  b_unposed : Binds K d_unposed ["grid", "pose"] []
  f__law_mix : Addr
  d__law_mix : FuncData
  F__law_mix : Fun K "_law_mix" "_law_mix" s__law_mix f__law_mix d__law_mix
  g__law_mix : mg "_law_mix" = some (.ref f__law_mix)
  b__law_mix : Binds K d__law_mix ["_law_cell", "_law_lap"] []
  f__law_draw : Addr
  d__law_draw : FuncData
  F__law_draw : Fun K "_law_draw" "_law_draw" s__law_draw f__law_draw d__law_draw
  g__law_draw : mg "_law_draw" = some (.ref f__law_draw)
  b__law_draw : Binds K d__law_draw ["_law_well", "_law_many"] []
  f__law_pick : Addr
  d__law_pick : FuncData
  F__law_pick : Fun K "_law_pick" "_law_pick" s__law_pick f__law_pick d__law_pick
  g__law_pick : mg "_law_pick" = some (.ref f__law_pick)
  b__law_pick : Binds K d__law_pick ["_law_well", "_law_some"] []
  f__law_source : Addr
  d__law_source : FuncData
  F__law_source : Fun K "_law_source" "_law_source" s__law_source f__law_source d__law_source
  g__law_source : mg "_law_source" = some (.ref f__law_source)
  b__law_source : Binds K d__law_source ["_law_script", "_law_k"] []
  f__law_turned : Addr
  d__law_turned : FuncData
  F__law_turned : Fun K "_law_turned" "_law_turned" s__law_turned f__law_turned d__law_turned
  g__law_turned : mg "_law_turned" = some (.ref f__law_turned)
  b__law_turned : Binds K d__law_turned ["_law_rows"] []
  f__law_posed : Addr
  d__law_posed : FuncData
  F__law_posed : Fun K "_law_posed" "_law_posed" s__law_posed f__law_posed d__law_posed
  g__law_posed : mg "_law_posed" = some (.ref f__law_posed)
  b__law_posed : Binds K d__law_posed ["_law_rows", "_law_stance"] []
  f__law_unposed : Addr
  d__law_unposed : FuncData
  F__law_unposed : Fun K "_law_unposed" "_law_unposed" s__law_unposed f__law_unposed d__law_unposed
  g__law_unposed : mg "_law_unposed" = some (.ref f__law_unposed)
  b__law_unposed : Binds K d__law_unposed ["_law_rows", "_law_stance"] []
  f__law_right : Addr
  d__law_right : FuncData
  F__law_right : Fun K "_law_right" "_law_right" s__law_right f__law_right d__law_right
  g__law_right : mg "_law_right" = some (.ref f__law_right)
  b__law_right : Binds K d__law_right ["_law_well"] []
  f_law : Addr
  d_law : FuncData
  F_law : Fun K "law" "law" s_law f_law d_law
  g_law : mg "law" = some (.ref f_law)
  b_law : Binds K d_law ["_law_script"] []
  n_bool : mg "bool" = none
  n_int : mg "int" = none
  n_isinstance : mg "isinstance" = none
  n_len : mg "len" = none
  n_list : mg "list" = none
  n_max : mg "max" = none
  n_min : mg "min" = none
  n_range : mg "range" = none
  n_tuple : mg "tuple" = none
  n_type : mg "type" = none
  n_zip : mg "zip" = none
  a_SIDES : Addr
  g_SIDES : mg "SIDES" = some (.ref a_SIDES)
  l_SIDES : tupB K a_SIDES [8, 12, 16, 20, 24] = true
  g_TURNS : ∃ t, mg "TURNS" = some (.int 4 t)
section
variable {P : Program} {w : World} {K : PySem.W.Frag} {mg : Str → Option Value} {base : Heap}
/-! ### the program's defs -/
def sp_is_number : Sp := fun vs H Q _ => ∃ i : Int, vs = [.int i] ∧ Q (.bl true) H
theorem ok_is_number (T : Txt K mg) : FnOk P w K mg base CX0 1 T.f_is_number T.d_is_number ["thing"] sp_is_number := by
  refine T.F_is_number.ok sc_is_number (fun vs H Q E h => ?_) (fun cdv A outer s H vs Q E hr h => ?_)
  · obtain ⟨i, rfl, _⟩ := h
    rfl
  · obtain ⟨i, rfl, q⟩ := h
    refine ⟨_, (pss_one (ps_ret (pe_and (pe_callB call_isi (by rfl) T.n_isinstance (by decide +kernel) (pa_cons (pv 0) (pa_cons (pe_bltn (v := .ty "int") (by rfl) T.n_int (by decide +kernel) rfl) pa_nil))) (pe_one (pe_not (pe_callB call_isi (by rfl) T.n_isinstance (by decide +kernel) (pa_cons (pv 0) (pa_cons (pe_bltn (v := .ty "bool") (by rfl) T.n_bool (by decide +kernel) rfl) pa_nil)))))))), ?_⟩
    refine ⟨_, rfl, .int i, .ty "int", .type "int", .type "int", true, rfl, .ty _, .base (.int i), kit_ty (by decide +kernel), true, rfl, ?_⟩
    exact ⟨_, rfl, .int i, .ty "bool", .type "int", .type "bool", false, rfl, .ty _, .base (.int i), kit_ty (by decide +kernel), _, rfl, q⟩
def sp_is_number_to : Sp := fun vs H Q _ => ∃ i l m : Int, vs = [.int i, .int l, .int m] ∧ Q (.bl (decide (l ≤ i) && decide (i ≤ m))) H
theorem ok_is_number_to (T : Txt K mg) : FnOk P w K mg base CX0 1 T.f_is_number_to T.d_is_number_to ["thing", "least", "most"] sp_is_number_to := by
  refine T.F_is_number_to.ok sc_is_number_to (fun vs H Q E h => ?_) (fun cdv A outer s H vs Q E hr h => ?_)
  · obtain ⟨i, l, m, rfl, _⟩ := h
    rfl
  · obtain ⟨i, l, m, rfl, q⟩ := h
    refine ⟨_, (pss_one (ps_ret (pe_and (pe_callB call_isi (by rfl) T.n_isinstance (by decide +kernel) (pa_cons (pv 0) (pa_cons (pe_bltn (v := .ty "int") (by rfl) T.n_int (by decide +kernel) rfl) pa_nil))) (pe_and (pe_not (pe_callB call_isi (by rfl) T.n_isinstance (by decide +kernel) (pa_cons (pv 0) (pa_cons (pe_bltn (v := .ty "bool") (by rfl) T.n_bool (by decide +kernel) rfl) pa_nil)))) (pe_one (pe_chain op_le op_le (pv 1) (pv 0) (pv 2))))))), ?_⟩
    refine ⟨_, rfl, .int i, .ty "int", .type "int", .type "int", true, rfl, .ty _, .base (.int i), kit_ty (by decide +kernel), true, rfl, ?_⟩
    refine ⟨_, rfl, .int i, .ty "bool", .type "int", .type "bool", false, rfl, .ty _, .base (.int i), kit_ty (by decide +kernel), _, rfl, true, rfl, ?_⟩
    refine ⟨_, rfl, _, rfl, _, _, rfl, rfl, _, rfl, ?_⟩
    refine ite2 (fun c => ?_) (fun c => ?_)
    · refine ⟨_, rfl, _, _, rfl, rfl, ?_⟩
      rw [show decide (l ≤ i) = true from c, Bool.true_and] at q
      exact q
    · rw [show decide (l ≤ i) = false by simpa using c, Bool.false_and] at q
      exact q
def sp_is_row (K : PySem.W.Frag) : Sp := fun vs H Q _ => ∃ (a : Addr) (k : Bool) (xs : List V), vs = [.ref a] ∧ SqB k K H a xs ∧ ∀ H', Same H H' → Q (.bl true) H'
theorem ok_is_row (T : Txt K mg) : FnOk P w K mg base CX0 1 T.f_is_row T.d_is_row ["thing"] (sp_is_row K) := by
  refine T.F_is_row.ok sc_is_row (fun vs H Q E h => ?_) (fun cdv A outer s H vs Q E hr h => ?_)
  · obtain ⟨a, k, xs, rfl, _⟩ := h
    rfl
  · obtain ⟨a, k, xs, rfl, hq, q⟩ := h
    refine ⟨_, (pss_one (ps_ret (pe_callB call_isiT (by rfl) T.n_isinstance (by decide +kernel) (pa_cons (pv 0) (pa_cons (pe_tup (pa_cons (pe_bltn (v := .ty "list") (by rfl) T.n_list (by decide +kernel) rfl) (pa_cons (pe_bltn (v := .ty "tuple") (by rfl) T.n_tuple (by decide +kernel) rfl) pa_nil))) pa_nil))))), ?_⟩
    refine ⟨_, rfl, (by show 2 ≤ sizeLine; decide), fun tp htp => ?_⟩
    have hq2 := Same.sqb (same_upd (o := .tup [.ty "list", .ty "tuple"]) htp) hq
    refine ⟨.ref a, tp, [.ty "list", .ty "tuple"], .type (if k = true then "list" else "tuple"), [.type "list", .type "tuple"], true, rfl, upd_same, .cons (.ty _) (.cons (.ty _) .nil), hq2.ty, ?_, q _ (same_upd htp)⟩
    cases k
    · exact kitAny_cons (kit_ty (r := false) (by decide +kernel)) (fun _ => kitAny_cons (kit_ty (r := true) (by decide +kernel)) (fun z => by cases z) (fun _ => rfl)) (fun z => by cases z)
    · exact kitAny_cons (kit_ty (r := true) (by decide +kernel)) (fun z => by cases z) (fun _ => rfl)
def sp_plain (K : PySem.W.Frag) : Sp := fun vs H Q _ => ∃ (n : Nat) (a : Addr) (k : Bool) (g : Grid), vs = [vN n, .ref a] ∧ GrB k K H a g ∧ Sq n g ∧ ∀ H', Same H H' → Q (.bl true) H'
theorem ok_is_plain_grid (T : Txt K mg) : FnOk P w K mg base CX0 1 T.f_is_plain_grid T.d_is_plain_grid ["many", "grid"] (sp_plain K) := by
  refine T.F_is_plain_grid.ok sc_is_plain_grid (fun vs H Q E h => ?_) (fun cdv A outer s H vs Q E hr h => ?_)
  · obtain ⟨n, a, k, g, rfl, _⟩ := h
    rfl
  · obtain ⟨n, a, k, g, rfl, hg, hs, q⟩ := h
    refine ⟨_, (pss_cons (ps_if (pt_truth (pe_lc (own := [("dots", 3)]) rfl sc_is_plain_grid.nd (pi_seq (pv 1)) (blkOk_by (N := ["many", "grid", "odd", "dots", "dot"]) (sc := defScope s_is_plain_grid) (by decide +kernel)) (fun _ _ _ _ _ => by exact (pg_name (i := 3) sc_is_plain_grid.nd rfl (.inl rfl))) (fun _ _ _ _ _ => by exact (pts_one (PW.pt (pw_or (pt_not (pt_val (pe_callB (call_isiTK (K := K) rfl) (by rfl) T.n_isinstance (by decide +kernel) (pa_cons (pv 3) (pa_cons (pe_tup (pa_cons (pe_bltn (v := .ty "list") (by rfl) T.n_list (by decide +kernel) rfl) (pa_cons (pe_bltn (v := .ty "tuple") (by rfl) T.n_tuple (by decide +kernel) rfl) pa_nil))) pa_nil))))) (pw_or1 (pt_cmpR op_ne (pe_callB (call_len_seqG (K := K) rfl) (by rfl) T.n_len (by decide +kernel) (pa_cons (pv 3) pa_nil)) (pv 0) (nomark _))))))) (fun _ _ _ _ _ => by exact (pv 3))) (by intro _; rfl)) (pss_one (ps_ret pe_bl)) pss_nil)
      (pss_cons (ps_setLc2 (i := 2) (own := [("dots", 3), ("dot", 4)]) (vs1 := [4]) rfl sc_is_plain_grid.nd rfl rfl (sw_true rfl rfl rfl (by decide +kernel)) (pi_seq (pv 1)) (blkOk_by (N := ["many", "grid", "odd", "dots", "dot"]) (sc := defScope s_is_plain_grid) (by decide +kernel)) (by decide) (fun _ _ _ _ _ => by exact (pg_name (i := 3) sc_is_plain_grid.nd rfl (.inl rfl))) (fun _ _ _ _ _ => by exact pts_nil) (fun _ _ _ _ _ => by exact (pi_seqK (K := K) rfl (pv 3))) (fun _ _ _ _ _ => by exact (pg_name (i := 4) sc_is_plain_grid.nd rfl (.inl rfl))) (fun _ _ _ _ _ => by exact (pts_one (PW.pt (pw_and (PW.pt (pw_or (pt_cmpR op_isNotTy (pe_callTy call_typeG (by rfl) T.n_type (by decide +kernel) (pa_cons (pv 4) pa_nil)) (pe_bltn (v := .ty "int") (by rfl) T.n_int (by decide +kernel) rfl) (nomark _)) (pw_or (pt_cmpR op_gt (pv 4) pe_int (nomark _)) (pw_or1 (pt_cmpR op_lt (pv 4) pe_int (nomark _)))))) (pw_and1 (pt_cmpR op_notN (pv 4) pe_non (nomark _))))))) (fun _ _ _ _ _ => by exact (pv 4)))
      (pss_one (ps_ret (pe_notT (pv 2)))))), ?_⟩
    obtain ⟨L, h1, h2, h3⟩ := hg.ex
    have hrow : ∀ i (v : V), i < (L.map V.ref).length → (L.map V.ref)[i]? = some v → ∃ (l : Addr) (r : List (Option Nat)), v = .ref l ∧ SqB k K H l (r.map vG) ∧ r ∈ g := fun i v hi e => by
      rw [List.length_map] at hi
      have e1 : L[i]? = some L[i] := List.getElem?_eq_getElem hi
      have e2 : g[i]? = some (g[i]'(by omega)) := List.getElem?_eq_getElem _
      rw [List.getElem?_map, e1] at e
      exact ⟨_, _, (Option.some.inj e).symm, h3 i _ _ e1 e2, List.getElem_mem _⟩
    refine ⟨_, rfl, a, _, k, rfl, h1, fun D hD => ?_⟩
    refine lc_it (walk_seq (b := k) (K := K) (a := a) (xs := L.map V.ref)) (fun i H' => Same H H' ∧ H' D = some (.lst [])) ⟨same_upd hD, upd_same⟩ (fun i H' _ h => Same.sqb h.1 h1) ?_ ?_
    · rintro i v H1 H2 hi ⟨sm, gD⟩ ⟨rfl, e2⟩
      obtain ⟨l, r, rfl, hq, hm⟩ := hrow i v hi e2
      refine ⟨rfl, ?_⟩
      refine ⟨_, rfl, (by show 2 ≤ sizeLine; decide), fun tp htp => ?_⟩
      have st := same_upd (o := .tup [.ty "list", .ty "tuple"]) htp
      have hq2 := Same.sqb (sm.trans st) hq
      refine ⟨.ref l, tp, [.ty "list", .ty "tuple"], .type (if k = true then "list" else "tuple"), [.type "list", .type "tuple"], true, rfl, upd_same, .cons (.ty _) (.cons (.ty _) .nil), hq2.ty, ?_, ?_⟩
      · cases k
        · exact kitAny_cons (kit_ty (r := false) (by decide +kernel)) (fun _ => kitAny_cons (kit_ty (r := true) (by decide +kernel)) (fun z => by cases z) (fun _ => rfl)) (fun z => by cases z)
        · exact kitAny_cons (kit_ty (r := true) (by decide +kernel)) (fun z => by cases z) (fun _ => rfl)
      have hl : (r.map vG).length = n := by rw [List.length_map]; exact hs.row r hm
      refine ⟨true, rfl, iteF ⟨_, rfl, l, _, rfl, hq2.or, ?_⟩⟩
      rw [hl]
      refine ⟨_, rfl, rfl, _, rfl, ?_⟩
      rw [show (!decide (V.int (n : Int) = vN n)) = false from by simp [vN]]
      exact iteF ⟨sm.trans st, st _ _ gD⟩
    · rintro H1 ⟨s1, g1⟩
      refine ⟨_, SqB.truB (b := true) (.inl (.inl g1)), iteF ?_⟩
      refine ⟨_, rfl, a, _, k, rfl, Same.sqb s1 h1, fun D2 hD2 => ?_⟩
      refine lc2_it (walk_seq (b := k) (K := K) (a := a) (xs := L.map V.ref)) (fun i H' => Same H1 H' ∧ H' D2 = some (.lst [])) ⟨same_upd hD2, upd_same⟩ (fun i H' _ h => Same.sqb (s1.trans h.1) h1) ?_ ?_
      · rintro i v H2 H3 hi ⟨sm, gD⟩ ⟨rfl, e2⟩
        obtain ⟨l, r, rfl, hq, hm⟩ := hrow i v hi e2
        have hq2 := Same.sqb (s1.trans sm) hq
        refine ⟨rfl, ?_⟩
        refine iteT (B := Same H1 H3 ∧ H3 D2 = some (HO.lst [])) ⟨_, rfl, l, _, k, rfl, hq2, ?_⟩
        refine lc_in (walk_seq (b := k) (K := K) (a := l) (xs := r.map vG)) (fun j H' => Same H1 H' ∧ H' D2 = some (.lst [])) ⟨sm, gD⟩ (fun i H' _ h => Same.sqb (s1.trans h.1) hq) ?_ (fun H' h => h)
        rintro j v H4 H5 hj ⟨s4, g4⟩ ⟨rfl, e4⟩
        obtain ⟨o, ho, rfl⟩ : ∃ o, o ∈ r ∧ v = vG o := by
          obtain ⟨o, ho, e⟩ := List.mem_map.mp (List.mem_of_getElem? e4)
          exact ⟨o, ho, e.symm⟩
        refine ⟨rfl, ?_⟩
        refine ⟨_, rfl, o, rfl, _, _, rfl, rfl, _, rfl, ?_⟩
        rcases hs.dot r hm o ho with rfl | rfl | rfl
        · rw [show (!decide (tyG none = "int")) = true from by decide]
          exact iteT ⟨_, rfl, rfl, _, rfl, iteF ⟨s4, g4⟩⟩
        · rw [show (!decide (tyG (some 0) = "int")) = false from by decide]
          exact iteF ⟨_, rfl, _, _, rfl, rfl, _, rfl, iteF ⟨_, rfl, _, _, rfl, rfl, _, rfl, iteF (iteF ⟨s4, g4⟩)⟩⟩
        · rw [show (!decide (tyG (some 1) = "int")) = false from by decide]
          exact iteF ⟨_, rfl, _, _, rfl, rfl, _, rfl, iteF ⟨_, rfl, _, _, rfl, rfl, _, rfl, iteF (iteF ⟨s4, g4⟩)⟩⟩
      · rintro H2 ⟨s2, g2⟩
        exact ⟨_, rfl, _, SqB.truB (b := true) (.inl (.inl g2)), q _ (s1.trans s2)⟩
/-! CUT -/
def sp_ndr (K : PySem.W.Frag) : Sp := fun vs H Q _ => ∃ (n : Nat) (a : Addr) (k : Bool) (g : Grid), vs = [vN n, .ref a, .bl true] ∧ GrB k K H a g ∧ Sq n g ∧ ∀ H', Same H H' → Q .non H'
theorem ok_need_dot_rows (T : Txt K mg) : FnOk P w K mg base CX0 2 T.f_need_dot_rows T.d_need_dot_rows ["many", "grid", "gapped"] (sp_ndr K) := by
  refine T.F_need_dot_rows.ok sc_need_dot_rows (fun vs H Q E h => ?_) (fun cdv A outer s H vs Q E hr h => ?_)
  · obtain ⟨n, a, k, g, rfl, _⟩ := h
    rfl
  · obtain ⟨n, a, k, g, rfl, hg, hs, q⟩ := h
    refine ⟨_, (pss_cons (ps_if (PW.pt (pw_or (pt_not (pt_val (pe_call (ok_is_row T) (hr.mono (by decide)) (by rfl) T.g_is_row T.F_is_row.kp T.b_is_row .nil pass0 (pa_cons (pv 1) pa_nil)))) (pw_or1 (pt_cmpR op_ne (pe_callB call_len_seq (by rfl) T.n_len (by decide +kernel) (pa_cons (pv 1) pa_nil)) (pv 0) (nomark _))))) (pss_one ps_never) pss_nil)
      (pss_cons (ps_if (PW.pt (pw_and (pt_val (pe_call (ok_is_plain_grid T) (hr.mono (by decide)) (by rfl) T.g_is_plain_grid T.F_is_plain_grid.kp T.b_is_plain_grid .nil pass0 (pa_cons (pv 0) (pa_cons (pv 1) pa_nil)))) (pw_and1 (PW.pt (pw_or (pt_val (pv 2)) (pw_or1 pt_never)))))) (pss_one ps_retN) pss_nil)
      (pss_one ps_never))), ?_⟩
    obtain ⟨L, h1, h2, h3⟩ := hg.ex
    have hl : (L.map V.ref).length = n := by rw [List.length_map, h2, hs.len]
    refine ⟨_, rfl, a, k, _, rfl, h1, fun H1 s1 => ⟨true, rfl, iteF ⟨_, rfl, a, _, rfl, (Same.sqb s1 h1).or, ?_⟩⟩⟩
    rw [hl]
    refine ⟨_, rfl, rfl, _, rfl, ?_⟩
    rw [show (!decide (V.int (n : Int) = vN n)) = false from by simp [vN]]
    refine iteF ?_
    refine ⟨_, rfl, _, rfl, n, a, k, g, rfl, hg.same s1, hs, fun H2 s2 => ⟨true, rfl, iteT ⟨_, rfl, true, rfl, iteT (iteT (q H2 (s1.trans s2)))⟩⟩⟩
def sp_ng (K : PySem.W.Frag) : Sp := fun vs H Q _ => ∃ (n i : Nat) (a : Addr) (k : Bool) (g : Grid), vs = [.int ((i : Int) + 1), .ref a] ∧ i < 5 ∧ sidesI[i]? = some (n : Int) ∧ GrB k K H a g ∧ Sq n g ∧ ∀ H', Same H H' → Q .non H'
theorem ok_need_grid (T : Txt K mg) : FnOk P w K mg base CX0 3 T.f_need_grid T.d_need_grid ["size", "grid"] (sp_ng K) := by
  refine T.F_need_grid.ok sc_need_grid (fun vs H Q E h => ?_) (fun cdv A outer s H vs Q E hr h => ?_)
  · obtain ⟨n, i, a, k, g, rfl, _⟩ := h
    rfl
  · obtain ⟨n, i, a, k, g, rfl, hi, hn, hg, hs, q⟩ := h
    refine ⟨_, (pss_one (ps_expr (pe_call (ok_need_dot_rows T) (hr.mono (by decide)) (by rfl) T.g_need_dot_rows T.F_need_dot_rows.kp T.b_need_dot_rows .nil pass0 (pa_cons (pe_ix ix_rowB (pe_glob (v := .ref T.a_SIDES) (by rfl) T.g_SIDES rfl) (pe_op op_sub (pv 0) pe_int) (fun _ _ => rfl)) (pa_cons (pv 1) (pa_cons pe_bl pa_nil)))))), ?_⟩
    refine ⟨_, rfl, _, _, rfl, rfl, T.a_SIDES, _, _, vN n, false, rfl, rfl, tupB_ok (xs := sidesI) T.l_SIDES, ?_, ?_⟩
    · rw [show (i : Int) + 1 - 1 = (i : Int) by omega]
      refine atI_nat ?_
      rw [List.getElem?_map, hn]
      rfl
    exact ⟨_, rfl, n, a, k, g, rfl, hg, hs, fun H1 s1 => q H1 s1⟩
def sp_nag (K : PySem.W.Frag) : Sp := fun vs H Q _ => ∃ (n : Nat) (a : Addr) (k : Bool) (g : Grid), vs = [.ref a] ∧ SideOk n ∧ GrB k K H a g ∧ Sq n g ∧ ∀ (z : Int) H', Same H H' → Q (.int z) H'
theorem ok_need_any_grid (T : Txt K mg) : FnOk P w K mg base CX0 4 T.f_need_any_grid T.d_need_any_grid ["grid"] (sp_nag K) := by
  refine T.F_need_any_grid.ok sc_need_any_grid (fun vs H Q E h => ?_) (fun cdv A outer s H vs Q E hr h => ?_)
  · obtain ⟨n, a, k, g, rfl, _⟩ := h
    rfl
  · obtain ⟨n, a, k, g, rfl, hn, hg, hs, q⟩ := h
    refine ⟨_, (pss_cons (ps_if (PW.pt (pw_or (pt_not (pt_val (pe_call (ok_is_row T) (hr.mono (by decide)) (by rfl) T.g_is_row T.F_is_row.kp T.b_is_row .nil pass0 (pa_cons (pv 0) pa_nil)))) (pw_or1 (pt_cmpR op_notIn_seq (pe_callB call_len_seq (by rfl) T.n_len (by decide +kernel) (pa_cons (pv 0) pa_nil)) (pe_glob (v := .ref T.a_SIDES) (by rfl) T.g_SIDES rfl) (by rfl))))) (pss_one ps_never) pss_nil)
      (pss_cons (ps_set (i := 1) sc_need_any_grid.nd rfl (.inl rfl) (pe_op op_add (pe_bm PySem.F.plainAttrs_tuple PySem.F.slot_tuple_index PySem.F.type_tuple_index mt_tup_ixI (pe_glob (v := .ref T.a_SIDES) (by rfl) T.g_SIDES rfl) (pa_cons (pe_callB call_len_seq (by rfl) T.n_len (by decide +kernel) (pa_cons (pv 0) pa_nil)) pa_nil)) pe_int))
      (pss_cons (ps_expr (pe_call (ok_need_grid T) (hr.mono (by decide)) (by rfl) T.g_need_grid T.F_need_grid.kp T.b_need_grid .nil pass0 (pa_cons (pv 1) (pa_cons (pv 0) pa_nil))))
      (pss_one (ps_ret (pv 1)))))), ?_⟩
    obtain ⟨L, h1, h2, h3⟩ := hg.ex
    have hl : (L.map V.ref).length = n := by rw [List.length_map, h2, hs.len]
    obtain ⟨i, hi, ei, ne⟩ := side_at hn
    refine ⟨_, rfl, a, k, _, rfl, h1, fun H1 s1 => ⟨true, rfl, iteF ⟨_, rfl, a, _, rfl, (Same.sqb s1 h1).or, ?_⟩⟩⟩
    rw [hl]
    have hS : ∀ H', SqT K H' T.a_SIDES (sidesI.map V.int) := fun H' => tupB_ok (xs := sidesI) T.l_SIDES
    have eI : V.bl (!inV (V.int (n : Int)) (sidesI.map V.int)) = V.bl false := by
      have := side_in hn
      unfold vN at this
      rw [this]
      rfl
    refine ⟨T.a_SIDES, _, rfl, .inr (hS _), rfl, by decide, false, eI, iteF ?_⟩
    refine ⟨.inr (.inl ⟨rfl, tupB_ty T.l_SIDES⟩), _, rfl, a, _, rfl, (Same.sqb s1 h1).or, ?_⟩
    rw [hl]
    refine ⟨T.a_SIDES, sidesI, (n : Int), i, rfl, rfl, hS _, ei, ne, _, _, rfl, rfl, ?_⟩
    exact ⟨_, rfl, _, rfl, n, i, a, k, g, rfl, hi, ei, hg.same s1, hs, fun H2 s2 => ⟨_, rfl, q _ _ (s1.trans s2)⟩⟩
/-! CUT -/
def sp_is_pose (K : PySem.W.Frag) : Sp := fun vs H Q _ => ∃ (p : Addr) (t : Nat) (f : Bool), vs = [.ref p] ∧ SqT K H p [vN t, .bl f] ∧ t < 4 ∧ Q (.bl true) H
theorem ok_is_pose (T : Txt K mg) : FnOk P w K mg base CX0 2 T.f_is_pose T.d_is_pose ["thing"] (sp_is_pose K) := by
  refine T.F_is_pose.ok sc_is_pose (fun vs H Q E h => ?_) (fun cdv A outer s H vs Q E hr h => ?_)
  · obtain ⟨p, t, f, rfl, _⟩ := h
    rfl
  · obtain ⟨p, t, f, rfl, hp, ht, q⟩ := h
    refine ⟨_, (pss_cons (ps_if (PW.pt (pw_or (pt_not (pt_val (pe_callB call_isi (by rfl) T.n_isinstance (by decide +kernel) (pa_cons (pv 0) (pa_cons (pe_bltn (v := .ty "tuple") (by rfl) T.n_tuple (by decide +kernel) rfl) pa_nil))))) (pw_or1 (pt_cmpR op_ne (pe_callB call_len_seq (by rfl) T.n_len (by decide +kernel) (pa_cons (pv 0) pa_nil)) pe_int (nomark _))))) (pss_one (ps_ret pe_bl)) pss_nil)
      (pss_one (ps_ret (pe_and (pe_call (ok_is_number_to T) (hr.mono (by decide)) (by rfl) T.g_is_number_to T.F_is_number_to.kp T.b_is_number_to .nil pass0 (pa_cons (pe_ix ix_rowB (pv 0) pe_int (fun _ _ => rfl)) (pa_cons pe_int (pa_cons (pe_op op_sub (pe_glob (v := .int 4) (by rfl) T.g_TURNS.choose_spec ⟨_, rfl⟩) pe_int) pa_nil)))) (pe_one (pe_callB call_isi (by rfl) T.n_isinstance (by decide +kernel) (pa_cons (pe_ix ix_rowB (pv 0) pe_int (fun _ _ => rfl)) (pa_cons (pe_bltn (v := .ty "bool") (by rfl) T.n_bool (by decide +kernel) rfl) pa_nil)))))))), ?_⟩
    refine ⟨_, rfl, .ref p, .ty "tuple", .type "tuple", .type "tuple", true, rfl, .ty _, SqB.ty (b := false) hp, kit_ty (by decide +kernel), true, rfl, iteF ?_⟩
    refine ⟨_, rfl, p, _, rfl, .inr hp, rfl, _, rfl, iteF ?_⟩
    refine ⟨_, rfl, p, _, 0, vN t, false, rfl, rfl, hp, rfl, _, _, rfl, rfl, _, _, _, rfl, ?_⟩
    have e : (decide ((0 : Int) ≤ (t : Int)) && decide ((t : Int) ≤ 4 - 1)) = true := by
      simp
      omega
    rw [e]
    refine ⟨_, rfl, iteT ?_⟩
    refine ⟨_, rfl, p, _, 1, .bl f, false, rfl, rfl, hp, rfl, .bl f, .ty "bool", .type "bool", .type "bool", true, rfl, .ty _, .base (.bl f), kit_ty (by decide +kernel), ?_⟩
    exact q
def sp_need_pose (K : PySem.W.Frag) : Sp := fun vs H Q _ => ∃ (p : Addr) (t : Nat) (f : Bool), vs = [.ref p] ∧ SqT K H p [vN t, .bl f] ∧ t < 4 ∧ Q .non H
theorem ok_need_pose (T : Txt K mg) : FnOk P w K mg base CX0 3 T.f_need_pose T.d_need_pose ["pose"] (sp_need_pose K) := by
  refine T.F_need_pose.ok sc_need_pose (fun vs H Q E h => ?_) (fun cdv A outer s H vs Q E hr h => ?_)
  · obtain ⟨p, t, f, rfl, _⟩ := h
    rfl
  · obtain ⟨p, t, f, rfl, hp, ht, q⟩ := h
    refine ⟨_, (pss_one (ps_if (pt_not (pt_val (pe_call (ok_is_pose T) (hr.mono (by decide)) (by rfl) T.g_is_pose T.F_is_pose.kp T.b_is_pose .nil pass0 (pa_cons (pv 0) pa_nil)))) (pss_one ps_never) pss_nil)), ?_⟩
    exact ⟨_, rfl, p, t, f, rfl, hp, ht, _, rfl, iteF q⟩
def sp_mirr (K : PySem.W.Frag) : Sp := fun vs H Q _ => ∃ (n : Nat) (a : Addr) (k : Bool) (g : Grid), vs = [.ref a] ∧ GrB k K H a g ∧ Sq n g ∧ n ≤ 24 ∧ ∀ D H', Fr H H' D (mir g) → Q (.ref D) H'
theorem ok_grid_mirrored (T : Txt K mg) : FnOk P w K mg base CX0 1 T.f_grid_mirrored T.d_grid_mirrored ["grid"] (sp_mirr K) := by
  refine T.F_grid_mirrored.ok sc_grid_mirrored (fun vs H Q E h => ?_) (fun cdv A outer s H vs Q E hr h => ?_)
  · obtain ⟨n, a, k, g, rfl, _⟩ := h
    rfl
  · obtain ⟨n, a, k, g, rfl, hg, hs, hn, q⟩ := h
    refine ⟨_, (pss_one (ps_ret (pe_lc (own := [("dots", 1)]) rfl sc_grid_mirrored.nd (pi_seq (pv 0)) (blkOk_by (N := ["grid", "dots"]) (sc := defScope s_grid_mirrored) (by decide +kernel)) (fun _ _ _ _ _ => by exact (pg_name (i := 1) sc_grid_mirrored.nd rfl (.inl rfl))) (fun _ _ _ _ _ => by exact pts_nil) (fun _ _ _ _ _ => by exact (pe_callTy (call_listOfK (K := K) rfl) (by rfl) T.n_list (by decide +kernel) (pa_cons (pe_revB (K := K) rfl (pv 1)) pa_nil)))))), ?_⟩
    obtain ⟨L, h1, h2, h3⟩ := hg.ex
    refine ⟨_, rfl, a, _, k, rfl, h1, fun D hD => ?_⟩
    refine lc_it (walk_seq (b := k) (K := K) (a := a) (xs := L.map V.ref)) (fun i H' => ∃ M, FrI H H' D M (mir g) i) ⟨[], FrI.start hD⟩ (fun i H' _ ⟨_, F⟩ => Same.sqb F.same h1) ?_ ?_
    · rintro i v H1 H2 hi ⟨M, F⟩ ⟨rfl, e2⟩
      rw [List.length_map] at hi
      have e1 : L[i]? = some L[i] := List.getElem?_eq_getElem hi
      have e3 : g[i]? = some (g[i]'(by omega)) := List.getElem?_eq_getElem _
      rw [List.getElem?_map, e1] at e2
      obtain rfl := (Option.some.inj e2).symm
      have hq := Same.sqb F.same (h3 i _ _ e1 e3)
      refine ⟨rfl, ?_⟩
      refine iteT (B := ∃ M, FrI H H2 D M (mir g) (i + 1)) ⟨_, rfl, L[i], _, k, rfl, hq, fun p H3 s3 n3 e3 => ?_⟩
      have hl : ((g[i]'(by omega)).map vG).length ≤ 24 := by rw [List.length_map, hs.row _ (List.getElem_mem _)]; exact hn
      refine ⟨p, ((g[i]'(by omega)).map vG).reverse, rfl, ?_, fun c hc => ?_⟩
      · cases k
        · exact .inr (.inl (.inl e3))
        · exact .inl (.inl (.inl e3))
      have er : ((g[i]'(by omega)).map vG).reverse = ((g[i]'(by omega)).reverse).map vG := by rw [List.map_reverse]
      rw [er]
      have s4 := s3.trans (same_upd (o := .lst ((g[i]'(by omega)).reverse.map vG)) hc)
      refine ⟨_, s4 _ _ F.out, ?_, M ++ [c], ?_⟩
      · rw [List.length_map, F.len]
        exact small1000 (by have := hs.len; omega)
      · refine F.step hD ?_ s4 (Same.free s3 hc) upd_same
        unfold mir
        rw [List.getElem?_map, List.getElem?_eq_getElem (by omega)]
        rfl
    · rintro H1 ⟨M, F⟩
      refine q D H1 ⟨hD, M, ?_⟩
      have e : (mir g).length = (L.map V.ref).length := by unfold mir; rw [List.length_map, List.length_map, h2]
      rw [e]
      exact F
/-! CUT -/
theorem colAt_rot {n i : Nat} {g : Grid} (hs : Sq n g) (hi : i < n) : ∃ r, (rot g)[i]? = some r ∧ colAt (g.reverse.map fun r => r.map vG) i = r.map vG := by
  refine ⟨g.reverse.map fun r => r.getD i none, ?_, ?_⟩
  · unfold rot
    rw [List.getElem?_map, List.getElem?_range (by rw [hs.len]; exact hi)]
    rfl
  · unfold colAt
    rw [List.map_map, List.map_map]
    refine List.map_congr_left fun r _ => ?_
    show (r.map vG).getD i .non = vG (r.getD i none)
    rw [List.getD_eq_getElem?_getD, List.getD_eq_getElem?_getD, List.getElem?_map]
    cases r[i]? <;> rfl
def sp_turn (K : PySem.W.Frag) : Sp := fun vs H Q _ => ∃ (n : Nat) (a : Addr) (k : Bool) (g : Grid) (t : Int), vs = [.ref a, .int t] ∧ GrB k K H a g ∧ Sq n g ∧ 0 < n ∧ n ≤ 24 ∧ ∀ D H', Fr H H' D (rotK (t % 4).toNat g) → Q (.ref D) H'
theorem ok_grid_turned (T : Txt K mg) : FnOk P w K mg base CX0 1 T.f_grid_turned T.d_grid_turned ["grid", "times"] (sp_turn K) := by
  refine T.F_grid_turned.ok sc_grid_turned (fun vs H Q E h => ?_) (fun cdv A outer s H vs Q E hr h => ?_)
  · obtain ⟨n, a, k, g, t, rfl, _⟩ := h
    rfl
  · obtain ⟨n, a, k, g, t, rfl, hg, hs, n0, hn, q⟩ := h
    refine ⟨_, (pss_cons (ps_setLc (i := 2) (own := [("dots", 5)]) rfl sc_grid_turned.nd rfl rfl (sw_true rfl rfl rfl (by decide +kernel)) (pi_seq (pv 0)) (blkOk_by (N := ["grid", "times", "found", "_", "upward", "dots", "column"]) (sc := defScope s_grid_turned) (by decide +kernel)) (fun _ _ _ _ _ => by exact (pg_name (i := 5) sc_grid_turned.nd rfl (.inl rfl))) (fun _ _ _ _ _ => by exact pts_nil) (fun _ _ _ _ _ => by exact (pe_callTy (call_listOfK (K := K) rfl) (by rfl) T.n_list (by decide +kernel) (pa_cons (pv 5) pa_nil))))
      (pss_cons (ps_for PassesOwn.never rfl (pi_range1 (by rfl) T.n_range (pa_cons (pe_op op_mod (pv 1) (pe_glob (v := .int 4) (by rfl) T.g_TURNS.choose_spec ⟨_, rfl⟩)) pa_nil)) (pg_name (i := 3) sc_grid_turned.nd rfl (.inl rfl)) (pss_cons (ps_set (i := 4) sc_grid_turned.nd rfl (.inl rfl) (pe_revB rfl (pv 2)))
      (pss_one (ps_setLc (i := 2) (own := [("column", 6)]) rfl sc_grid_turned.nd rfl rfl (sw_true rfl rfl rfl (by decide +kernel)) (pi_zipS (by rfl) T.n_zip (pv 4)) (blkOk_by (N := ["grid", "times", "found", "_", "upward", "dots", "column"]) (sc := defScope s_grid_turned) (by decide +kernel)) (fun _ _ _ _ _ => by exact (pg_name (i := 6) sc_grid_turned.nd rfl (.inl rfl))) (fun _ _ _ _ _ => by exact pts_nil) (fun _ _ _ _ _ => by exact (pe_callTy (call_listOfK (K := K) rfl) (by rfl) T.n_list (by decide +kernel) (pa_cons (pv 6) pa_nil)))))))
      (pss_one (ps_ret (pv 2))))), ?_⟩
    obtain ⟨L, h1, h2, h3⟩ := hg.ex
    have lg := hs.len
    refine ⟨_, rfl, a, _, k, rfl, h1, fun D hD => ?_⟩
    refine lc_it (walk_seq (b := k) (K := K) (a := a) (xs := L.map V.ref)) (fun i H' => ∃ M, FrI H H' D M g i) ⟨[], FrI.start hD⟩ (fun i H' _ ⟨_, F⟩ => Same.sqb F.same h1) ?_ ?_
    · rintro i v H1 H2 hi ⟨M, F⟩ ⟨rfl, e2⟩
      rw [List.length_map] at hi
      have e1 : L[i]? = some L[i] := List.getElem?_eq_getElem hi
      have e3 : g[i]? = some (g[i]'(by omega)) := List.getElem?_eq_getElem _
      rw [List.getElem?_map, e1] at e2
      obtain rfl := (Option.some.inj e2).symm
      have hq := Same.sqb F.same (h3 i _ _ e1 e3)
      refine ⟨rfl, ?_⟩
      refine iteT (B := ∃ M, FrI H H2 D M g (i + 1)) ⟨_, rfl, L[i], _, rfl, hq.or, fun c hc => ?_⟩
      have s4 := same_upd (o := .lst ((g[i]'(by omega)).map vG)) hc
      refine ⟨_, s4 _ _ F.out, ?_, M ++ [c], F.step hD e3 s4 hc upd_same⟩
      rw [List.length_map, F.len]
      exact small1000 (by omega)
    · rintro H1 ⟨M, F⟩
      have F0 : Fr H H1 D (rotK 0 g) := ⟨hD, M, by
        have e : (rotK 0 g).length = (L.map V.ref).length := by
          show g.length = _
          rw [List.length_map, h2]
        rw [e]
        exact F⟩
      clear F M
      obtain ⟨r, hr4⟩ : ∃ r : Nat, t % 4 = (r : Int) := ⟨(t % 4).toNat, by omega⟩
      have hr3 : r < 4 := by omega
      rw [hr4, Int.toNat_natCast] at q
      refine ⟨_, rfl, _, _, rfl, rfl, (show (0 : Int) < 4 by decide), (r : Int), congrArg (fun z => [V.int z]) hr4, by omega, by omega, ?_⟩
      refine for_range (lo := 0) (n := r) (fun i σ H' => ∃ (D' : Addr) (z3 z4 : Option V), σ = [some (.ref a), some (.int t), some (.ref D'), z3, z4, none, none] ∧ Fr H H' D' (rotK i g)) ⟨D, _, _, rfl, F0⟩ ?_ ?_
      · rintro i σ H2 hi ⟨D', z3, z4, rfl, F⟩
        obtain ⟨hD', M, FI⟩ := F
        refine ⟨_, rfl, D', _, true, rfl, .lst FI.out, fun p H3 s3 n3 e3 => ?_⟩
        have hsi := rotK_sq hs i
        have li := hsi.len
        have lM : M.length = n := by rw [FI.len, li]
        have e3' : H3 p = some (.lst ((M.reverse).map V.ref)) := by rw [List.map_reverse]; exact e3
        have hR : RowsL K H3 M.reverse ((rotK i g).reverse.map fun r => r.map vG) := by
          refine ⟨by rw [List.length_reverse, List.length_map, List.length_reverse, lM, li], fun j l q e1 e2 => ?_⟩
          rw [List.getElem?_map] at e2
          obtain ⟨r0, e4, rfl⟩ := Option.map_eq_some_iff.mp e2
          have hj := (List.getElem?_eq_some_iff.mp e1).1
          rw [List.length_reverse] at hj
          rw [List.getElem?_reverse (by omega)] at e1
          rw [List.getElem?_reverse (by omega)] at e4
          rw [lM] at e1
          rw [li] at e4
          exact .inl (.inl (s3 _ _ (FI.row _ l r0 e1 e4).2.2))
        refine ⟨_, rfl, p, M.reverse, _, rfl, .inl (.inl e3'), hR, ?_, fun D2 hD2 => ?_⟩
        · intro z
          have := congrArg List.length z
          rw [List.length_reverse, lM] at this
          simp at this
          omega
        have s03 := FI.same.trans s3
        refine lc_it (walk_zipS (n := n) (K := K) (L := M.reverse) (rows := (rotK i g).reverse.map fun r => r.map vG) ?_ ?_) (fun j H' => ∃ M2, FrI H3 H' D2 M2 (rotK (i + 1) g) j) ⟨[], FrI.start hD2⟩ (fun j H' _ ⟨_, F⟩ => Same.rows F.same hR) ?_ ?_
        · intro z
          have := congrArg List.length z
          rw [List.length_map, List.length_reverse, li] at this
          simp at this
          omega
        · intro q hq
          obtain ⟨q0, h0, rfl⟩ := List.mem_map.mp hq
          rw [List.length_map]
          exact hsi.row _ (List.mem_reverse.mp h0)
        · rintro j v H4 H5 hj ⟨M2, F2⟩ ⟨T1, rfl, hT1, rfl⟩
          obtain ⟨rr, er, ec⟩ := colAt_rot hsi hj
          rw [ec] at *
          have sT := same_upd (o := .tup (rr.map vG)) hT1
          have gT := upd_same (H := H4) (a := T1) (o := .tup (rr.map vG))
          generalize upd H4 T1 (.tup (rr.map vG)) = H5 at sT gT ⊢
          refine ⟨rfl, ?_⟩
          refine iteT (B := ∃ M, FrI H3 H5 D2 M (rotK (i + 1) g) (j + 1)) ⟨_, rfl, T1, _, rfl, .inr (.inl (.inl gT)), fun c hc => ?_⟩
          have s4 := sT.trans (same_upd (o := .lst (rr.map vG)) hc)
          refine ⟨_, s4 _ _ F2.out, ?_, M2 ++ [c], F2.step hD2 er s4 (Same.free sT hc) upd_same⟩
          rw [List.length_map, F2.len]
          exact small1000 (by omega)
        · rintro H4 ⟨M2, F2⟩
          refine ⟨D2, _, _, rfl, ?_⟩
          have F3 : Fr H3 H4 D2 (rotK (i + 1) g) := ⟨hD2, M2, by rw [(rotK_sq hs (i + 1)).len]; exact F2⟩
          exact F3.back s03
      · rintro σ H2 ⟨D', z3, z4, rfl, F⟩
        exact ⟨_, rfl, q D' H2 F⟩
def sp_posed (K : PySem.W.Frag) : Sp := fun vs H Q _ => ∃ (n : Nat) (a p : Addr) (k : Bool) (g : Grid) (t : Nat) (f : Bool), vs = [.ref a, .ref p] ∧ GrB k K H a g ∧ Sq n g ∧ 0 < n ∧ n ≤ 24 ∧ SqT K H p [vN t, .bl f] ∧ t < 4 ∧ ∀ D H', Fr H H' D (posedG g t f) → Q (.ref D) H'
theorem t_mod {t : Nat} (h : t < 4) : ((t : Int) % 4).toNat = t := by omega
theorem ok_grid_posed (T : Txt K mg) : FnOk P w K mg base CX0 2 T.f_grid_posed T.d_grid_posed ["grid", "pose"] (sp_posed K) := by
  refine T.F_grid_posed.ok sc_grid_posed (fun vs H Q E h => ?_) (fun cdv A outer s H vs Q E hr h => ?_)
  · obtain ⟨n, a, p, k, g, t, f, rfl, _⟩ := h
    rfl
  · obtain ⟨n, a, p, k, g, t, f, rfl, hg, hs, n0, hn, hp, ht, q⟩ := h
    refine ⟨_, (pss_cons (ps_asg (pv 1) (pg_tup rfl (pgs_cons (pg_name (i := 2) sc_grid_posed.nd rfl (.inl rfl)) (pgs_cons (pg_name (i := 3) sc_grid_posed.nd rfl (.inl rfl)) pgs_nil))))
      (pss_one (ps_ret (pe_call (ok_grid_turned T) (hr.mono (by decide)) (by rfl) T.g_grid_turned T.F_grid_turned.kp T.b_grid_turned .nil pass0 (pa_cons (pe_ifExp (pt_val (pv 3)) (pe_call (ok_grid_mirrored T) (hr.mono (by decide)) (by rfl) T.g_grid_mirrored T.F_grid_mirrored.kp T.b_grid_mirrored .nil pass0 (pa_cons (pv 0) pa_nil)) (pv 0)) (pa_cons (pv 2) pa_nil)))))), ?_⟩
    refine ⟨_, rfl, p, [_, _], rfl, hp, rfl, _, [_], rfl, _, [], rfl, rfl, ?_⟩
    cases f
    · refine ⟨_, rfl, _, rfl, iteF ⟨_, rfl, _, rfl, n, a, k, g, _, rfl, hg, hs, n0, hn, fun D H1 F1 => ?_⟩⟩
      rw [t_mod ht] at F1
      exact q D H1 F1
    · refine ⟨_, rfl, _, rfl, iteT ⟨_, rfl, n, a, k, g, rfl, hg, hs, hn, fun D H1 F1 => ?_⟩⟩
      refine ⟨_, rfl, n, D, true, mir g, _, rfl, F1.gr, mir_sq hs, n0, hn, fun D2 H2 F2 => ?_⟩
      rw [t_mod ht] at F2
      exact q D2 H2 (F2.back F1.same0)
def sp_unposed (K : PySem.W.Frag) : Sp := fun vs H Q _ => ∃ (n : Nat) (a p : Addr) (k : Bool) (g : Grid) (t : Nat) (f : Bool), vs = [.ref a, .ref p] ∧ GrB k K H a g ∧ Sq n g ∧ 0 < n ∧ n ≤ 24 ∧ SqT K H p [vN t, .bl f] ∧ t < 4 ∧ ∀ D H', Fr H H' D (unposedG g t f) → Q (.ref D) H'
theorem t_neg {t : Nat} (h : t < 4) : (-(t : Int) % 4).toNat = (4 - t) % 4 := by omega
theorem ok_grid_unposed (T : Txt K mg) : FnOk P w K mg base CX0 2 T.f_grid_unposed T.d_grid_unposed ["grid", "pose"] (sp_unposed K) := by
  refine T.F_grid_unposed.ok sc_grid_unposed (fun vs H Q E h => ?_) (fun cdv A outer s H vs Q E hr h => ?_)
  · obtain ⟨n, a, p, k, g, t, f, rfl, _⟩ := h
    rfl
  · obtain ⟨n, a, p, k, g, t, f, rfl, hg, hs, n0, hn, hp, ht, q⟩ := h
    refine ⟨_, (pss_cons (ps_asg (pv 1) (pg_tup rfl (pgs_cons (pg_name (i := 2) sc_grid_unposed.nd rfl (.inl rfl)) (pgs_cons (pg_name (i := 3) sc_grid_unposed.nd rfl (.inl rfl)) pgs_nil))))
      (pss_cons (ps_set (i := 4) sc_grid_unposed.nd rfl (.inl rfl) (pe_call (ok_grid_turned T) (hr.mono (by decide)) (by rfl) T.g_grid_turned T.F_grid_turned.kp T.b_grid_turned .nil pass0 (pa_cons (pv 0) (pa_cons (pe_un un_neg (pv 2)) pa_nil))))
      (pss_one (ps_ret (pe_ifExp (pt_val (pv 3)) (pe_call (ok_grid_mirrored T) (hr.mono (by decide)) (by rfl) T.g_grid_mirrored T.F_grid_mirrored.kp T.b_grid_mirrored .nil pass0 (pa_cons (pv 4) pa_nil)) (pv 4)))))), ?_⟩
    refine ⟨_, rfl, p, [_, _], rfl, hp, rfl, _, [_], rfl, _, [], rfl, rfl, ?_⟩
    refine ⟨_, rfl, _, rfl, _, rfl, n, a, k, g, _, rfl, hg, hs, n0, hn, fun D H1 F1 => ?_⟩
    rw [t_neg ht] at F1
    cases f
    · exact ⟨_, rfl, _, rfl, iteF ⟨_, rfl, q D H1 F1⟩⟩
    · refine ⟨_, rfl, _, rfl, iteT ⟨_, rfl, n, D, true, _, rfl, F1.gr, rotK_sq hs _, hn, fun D2 H2 F2 => q D2 H2 (F2.back F1.same0)⟩⟩
def sp_turned (K : PySem.W.Frag) : Sp := fun vs H Q _ => ∃ (n : Nat) (a : Addr) (k : Bool) (g : Grid) (t : Int), vs = [.ref a, .int t] ∧ SideOk n ∧ GrB k K H a g ∧ Sq n g ∧ ∀ D H', Fr H H' D (rotK (t % 4).toNat g) → Q (.ref D) H'
theorem ok_turned (T : Txt K mg) : FnOk P w K mg base CX0 5 T.f_turned T.d_turned ["grid", "times"] (sp_turned K) := by
  refine T.F_turned.ok sc_turned (fun vs H Q E h => ?_) (fun cdv A outer s H vs Q E hr h => ?_)
  · obtain ⟨n, a, k, g, t, rfl, _⟩ := h
    rfl
  · obtain ⟨n, a, k, g, t, rfl, hn, hg, hs, q⟩ := h
    refine ⟨_, (pss_cons (ps_expr (pe_call (ok_need_any_grid T) (hr.mono (by decide)) (by rfl) T.g_need_any_grid T.F_need_any_grid.kp T.b_need_any_grid .nil pass0 (pa_cons (pv 0) pa_nil)))
      (pss_cons (ps_if (pt_not (pt_val (pe_call (ok_is_number T) (hr.mono (by decide)) (by rfl) T.g_is_number T.F_is_number.kp T.b_is_number .nil pass0 (pa_cons (pv 1) pa_nil)))) (pss_one ps_never) pss_nil)
      (pss_one (ps_ret (pe_call (ok_grid_turned T) (hr.mono (by decide)) (by rfl) T.g_grid_turned T.F_grid_turned.kp T.b_grid_turned .nil pass0 (pa_cons (pv 0) (pa_cons (pv 1) pa_nil))))))), ?_⟩
    have nn := side_le hn
    refine ⟨_, rfl, n, a, k, g, rfl, hn, hg, hs, fun z H1 s1 => ⟨_, rfl, t, rfl, _, rfl, iteF ?_⟩⟩
    exact ⟨_, rfl, _, rfl, n, a, k, g, t, rfl, hg.same s1, hs, by omega, by omega, fun D H2 F => q D H2 (F.back s1)⟩
def sp_mirrored (K : PySem.W.Frag) : Sp := fun vs H Q _ => ∃ (n : Nat) (a : Addr) (k : Bool) (g : Grid), vs = [.ref a] ∧ SideOk n ∧ GrB k K H a g ∧ Sq n g ∧ ∀ D H', Fr H H' D (mir g) → Q (.ref D) H'
theorem ok_mirrored (T : Txt K mg) : FnOk P w K mg base CX0 5 T.f_mirrored T.d_mirrored ["grid"] (sp_mirrored K) := by
  refine T.F_mirrored.ok sc_mirrored (fun vs H Q E h => ?_) (fun cdv A outer s H vs Q E hr h => ?_)
  · obtain ⟨n, a, k, g, rfl, _⟩ := h
    rfl
  · obtain ⟨n, a, k, g, rfl, hn, hg, hs, q⟩ := h
    refine ⟨_, (pss_cons (ps_expr (pe_call (ok_need_any_grid T) (hr.mono (by decide)) (by rfl) T.g_need_any_grid T.F_need_any_grid.kp T.b_need_any_grid .nil pass0 (pa_cons (pv 0) pa_nil)))
      (pss_one (ps_ret (pe_call (ok_grid_mirrored T) (hr.mono (by decide)) (by rfl) T.g_grid_mirrored T.F_grid_mirrored.kp T.b_grid_mirrored .nil pass0 (pa_cons (pv 0) pa_nil))))), ?_⟩
    have nn := side_le hn
    exact ⟨_, rfl, n, a, k, g, rfl, hn, hg, hs, fun z H1 s1 => ⟨_, rfl, n, a, k, g, rfl, hg.same s1, hs, by omega, fun D H2 F => q D H2 (F.back s1)⟩⟩
def sp_pos (K : PySem.W.Frag) : Sp := fun vs H Q _ => ∃ (n : Nat) (a p : Addr) (k : Bool) (g : Grid) (t : Nat) (f : Bool), vs = [.ref a, .ref p] ∧ SideOk n ∧ GrB k K H a g ∧ Sq n g ∧ SqT K H p [vN t, .bl f] ∧ t < 4 ∧ ∀ D H', Fr H H' D (posedG g t f) → Q (.ref D) H'
theorem ok_posed (T : Txt K mg) : FnOk P w K mg base CX0 5 T.f_posed T.d_posed ["grid", "pose"] (sp_pos K) := by
  refine T.F_posed.ok sc_posed (fun vs H Q E h => ?_) (fun cdv A outer s H vs Q E hr h => ?_)
  · obtain ⟨n, a, p, k, g, t, f, rfl, _⟩ := h
    rfl
  · obtain ⟨n, a, p, k, g, t, f, rfl, hn, hg, hs, hp, ht, q⟩ := h
    refine ⟨_, (pss_cons (ps_expr (pe_call (ok_need_any_grid T) (hr.mono (by decide)) (by rfl) T.g_need_any_grid T.F_need_any_grid.kp T.b_need_any_grid .nil pass0 (pa_cons (pv 0) pa_nil)))
      (pss_cons (ps_expr (pe_call (ok_need_pose T) (hr.mono (by decide)) (by rfl) T.g_need_pose T.F_need_pose.kp T.b_need_pose .nil pass0 (pa_cons (pv 1) pa_nil)))
      (pss_one (ps_ret (pe_call (ok_grid_posed T) (hr.mono (by decide)) (by rfl) T.g_grid_posed T.F_grid_posed.kp T.b_grid_posed .nil pass0 (pa_cons (pv 0) (pa_cons (pv 1) pa_nil))))))), ?_⟩
    have nn := side_le hn
    refine ⟨_, rfl, n, a, k, g, rfl, hn, hg, hs, fun z H1 s1 => ⟨_, rfl, p, t, f, rfl, Same.sqt s1 hp, ht, ?_⟩⟩
    exact ⟨_, rfl, _, rfl, n, a, p, k, g, t, f, rfl, hg.same s1, hs, by omega, by omega, Same.sqt s1 hp, ht, fun D H2 F => q D H2 (F.back s1)⟩
def sp_unpos (K : PySem.W.Frag) : Sp := fun vs H Q _ => ∃ (n : Nat) (a p : Addr) (k : Bool) (g : Grid) (t : Nat) (f : Bool), vs = [.ref a, .ref p] ∧ SideOk n ∧ GrB k K H a g ∧ Sq n g ∧ SqT K H p [vN t, .bl f] ∧ t < 4 ∧ ∀ D H', Fr H H' D (unposedG g t f) → Q (.ref D) H'
theorem ok_unposed (T : Txt K mg) : FnOk P w K mg base CX0 5 T.f_unposed T.d_unposed ["grid", "pose"] (sp_unpos K) := by
  refine T.F_unposed.ok sc_unposed (fun vs H Q E h => ?_) (fun cdv A outer s H vs Q E hr h => ?_)
  · obtain ⟨n, a, p, k, g, t, f, rfl, _⟩ := h
    rfl
  · obtain ⟨n, a, p, k, g, t, f, rfl, hn, hg, hs, hp, ht, q⟩ := h
    refine ⟨_, (pss_cons (ps_expr (pe_call (ok_need_any_grid T) (hr.mono (by decide)) (by rfl) T.g_need_any_grid T.F_need_any_grid.kp T.b_need_any_grid .nil pass0 (pa_cons (pv 0) pa_nil)))
      (pss_cons (ps_expr (pe_call (ok_need_pose T) (hr.mono (by decide)) (by rfl) T.g_need_pose T.F_need_pose.kp T.b_need_pose .nil pass0 (pa_cons (pv 1) pa_nil)))
      (pss_one (ps_ret (pe_call (ok_grid_unposed T) (hr.mono (by decide)) (by rfl) T.g_grid_unposed T.F_grid_unposed.kp T.b_grid_unposed .nil pass0 (pa_cons (pv 0) (pa_cons (pv 1) pa_nil))))))), ?_⟩
    have nn := side_le hn
    refine ⟨_, rfl, n, a, k, g, rfl, hn, hg, hs, fun z H1 s1 => ⟨_, rfl, p, t, f, rfl, Same.sqt s1 hp, ht, ?_⟩⟩
    exact ⟨_, rfl, _, rfl, n, a, p, k, g, t, f, rfl, hg.same s1, hs, by omega, by omega, Same.sqt s1 hp, ht, fun D H2 F => q D H2 (F.back s1)⟩
/-! CUT -/
/-! ### the law's defs -/
def sp_mix : Sp := fun vs H Q _ => ∃ a l : Int, vs = [.int a, .int l] ∧ ∀ n : Int, Q (.int n) H
theorem ok__law_mix (T : Txt K mg) : FnOk P w K mg base CX0 1 T.f__law_mix T.d__law_mix ["_law_cell", "_law_lap"] sp_mix := by
  refine T.F__law_mix.ok sc__law_mix (fun vs H Q E h => ?_) (fun cdv A outer s H vs Q E hr h => ?_)
  · obtain ⟨a, l, rfl, _⟩ := h
    rfl
  · obtain ⟨a, l, rfl, q⟩ := h
    refine ⟨_, (pss_cons (ps_set (i := 2) sc__law_mix.nd rfl (.inl rfl) (pe_op op_add (pe_op op_add (pe_op op_add (pe_op op_mod (pe_callTy call_int1 (by rfl) T.n_int (by decide +kernel) (pa_cons (pv 0) pa_nil)) pe_int) (pe_op op_mul pe_int (pv 1))) (pe_op op_mod (pe_callTy call_int1 (by rfl) T.n_int (by decide +kernel) (pa_cons (pe_op op_fdivW (pv 0) pe_int) pa_nil)) pe_int)) pe_int))
      (pss_cons (ps_set (i := 2) sc__law_mix.nd rfl (.inl rfl) (pe_op op_mod (pe_callTy call_int1 (by rfl) T.n_int (by decide +kernel) (pa_cons (pe_op op_mul (pv 2) pe_int) pa_nil)) pe_int))
      (pss_cons (ps_set (i := 2) sc__law_mix.nd rfl (.inl rfl) (pe_op op_mod (pe_callTy call_int1 (by rfl) T.n_int (by decide +kernel) (pa_cons (pe_op op_mul (pv 2) (pe_op op_add (pe_op op_add (pe_op op_fdiv (pv 2) pe_int) pe_int) (pv 1))) pa_nil)) pe_int))
      (pss_one (ps_ret (pe_op op_mod (pe_callTy call_int1 (by rfl) T.n_int (by decide +kernel) (pa_cons (pe_op op_mul (pv 2) (pe_op op_add (pe_op op_fdiv (pv 2) pe_int) pe_int)) pa_nil)) pe_int)))))), ?_⟩
    refine ⟨_, rfl, .inl ⟨_, rfl, _, _, rfl, rfl, (show (0 : Int) < 2147483629 by decide), ?_⟩⟩
    refine ⟨_, rfl, _, _, rfl, rfl, .inl ⟨by decide, by decide⟩, _, _, rfl, rfl, ?_⟩
    refine ⟨_, rfl, _, _, rfl, rfl, ⟨by decide, by decide⟩, .inl ⟨_, rfl, _, _, rfl, rfl, (show (0 : Int) < 1000003 by decide), _, _, rfl, rfl, _, _, rfl, rfl, ?_⟩⟩
    generalize a % 2147483629 + 52391 * l + a / 2147483629 % 1000003 + 1 = x
    refine ⟨_, rfl, _, _, rfl, rfl, .inr ⟨by decide, by decide⟩, .inl ⟨_, rfl, _, _, rfl, rfl, (show (0 : Int) < 2147483629 by decide), ?_⟩⟩
    have y0 := Int.emod_nonneg (x * 48271) (show (2147483629 : Int) ≠ 0 by decide)
    have y1 := Int.emod_lt_of_pos (x * 48271) (show (0 : Int) < 2147483629 by decide)
    generalize x * 48271 % 2147483629 = y at y0 y1
    refine ⟨_, rfl, _, rfl, _, _, rfl, rfl, ⟨by decide, by decide⟩, _, _, rfl, rfl, _, rfl, _, _, rfl, rfl, _, _, rfl, rfl, .inl ⟨by omega, by omega⟩, .inl ⟨_, rfl, _, _, rfl, rfl, (show (0 : Int) < 2147483587 by decide), ?_⟩⟩
    have z0 := Int.emod_nonneg (y * (y / 1021 + 65539 + l)) (show (2147483587 : Int) ≠ 0 by decide)
    have z1 := Int.emod_lt_of_pos (y * (y / 1021 + 65539 + l)) (show (0 : Int) < 2147483587 by decide)
    generalize y * (y / 1021 + 65539 + l) % 2147483587 = z at z0 z1
    exact ⟨_, rfl, _, rfl, _, _, rfl, rfl, ⟨by decide, by decide⟩, _, _, rfl, rfl, _, _, rfl, rfl, .inl ⟨by omega, by omega⟩, .inl ⟨_, rfl, _, _, rfl, rfl, (show (0 : Int) < 2147483563 by decide), q _⟩⟩
def WellL (a b c : Int) : HO := .lst [.int a, .int b, .int c]
def sp_draw : Sp := fun vs H Q _ => ∃ (p : Addr) (a b c m : Int), vs = [.ref p, .int m] ∧ H p = some (WellL a b c) ∧ 0 < m ∧ m < 1073741824 ∧ ∀ n a' c' : Int, 0 ≤ n → n < m → Q (.int n) (upd H p (WellL a' b c'))
theorem ok__law_draw (T : Txt K mg) : FnOk P w K mg base CX0 2 T.f__law_draw T.d__law_draw ["_law_well", "_law_many"] sp_draw := by
  refine T.F__law_draw.ok sc__law_draw (fun vs H Q E h => ?_) (fun cdv A outer s H vs Q E hr h => ?_)
  · obtain ⟨p, a, b, c, m, rfl, _⟩ := h
    rfl
  · obtain ⟨p, a, b, c, m, rfl, hp, m0, m1, q⟩ := h
    refine ⟨_, (pss_cons (ps_if (pt_cmpR op_gt (pe_ix ix_list (pv 0) pe_int (fun _ _ => rfl)) pe_int (nomark _)) (pss_cons (ps_set (i := 2) sc__law_draw.nd rfl (.inl rfl) (pe_op op_mod (pe_callTy call_int1 (by rfl) T.n_int (by decide +kernel) (pa_cons (pe_ix ix_list (pv 0) pe_int (fun _ _ => rfl)) pa_nil)) (pv 1)))
      (pss_cons (ps_asg (pe_op op_fdiv (pe_ix ix_list (pv 0) pe_int (fun _ _ => rfl)) (pv 1)) (pg_sub (pv 0) pe_int set_list))
      (pss_one (ps_ret (pv 2))))) pss_nil)
      (pss_cons (ps_asg (pe_op op_add (pe_ix ix_list (pv 0) pe_int (fun _ _ => rfl)) pe_int) (pg_sub (pv 0) pe_int set_list))
      (pss_one (ps_ret (pe_op op_mod (pe_callTy call_int1 (by rfl) T.n_int (by decide +kernel) (pa_cons (pe_call (ok__law_mix T) (hr.mono (by decide)) (by rfl) T.g__law_mix T.F__law_mix.kp T.b__law_mix .nil pass0 (pa_cons (pe_ix ix_list (pv 0) pe_int (fun _ _ => rfl)) (pa_cons (pe_ix ix_list (pv 0) pe_int (fun _ _ => rfl)) pa_nil))) pa_nil)) (pv 1)))))), ?_⟩
    have hw : ∀ {H' : Hp} {xs : List V}, H' p = some (.lst xs) → SqL K H' p xs := fun h => .inl (.inl h)
    refine ⟨_, rfl, p, _, 0, _, rfl, rfl, hw hp, rfl, _, _, rfl, rfl, _, rfl, ?_⟩
    refine ite2 (fun cc => ?_) (fun cc => ?_)
    · refine ⟨_, rfl, p, _, 0, _, rfl, rfl, hw hp, rfl, .inl ⟨_, rfl, _, rfl, _, _, rfl, rfl, m0, ?_⟩⟩
      refine ⟨_, rfl, p, _, 0, _, rfl, rfl, hw hp, rfl, _, rfl, _, _, rfl, rfl, ⟨m0, m1⟩, ?_⟩
      refine ⟨_, rfl, p, _, 0, 0, rfl, rfl, hp, rfl, ?_⟩
      exact ⟨_, rfl, q _ _ _ (Int.emod_nonneg _ (by omega)) (Int.emod_lt_of_pos _ m0)⟩
    · refine ⟨_, rfl, p, _, 2, _, rfl, rfl, hw hp, rfl, _, _, rfl, rfl, _, rfl, p, _, 2, 2, rfl, rfl, hp, rfl, ?_⟩
      have hs : (upd H p (.lst ([V.int a, V.int b, V.int c].set 2 (.int (c + 1))))) p = some (WellL a b (c + 1)) := upd_same
      refine ⟨_, rfl, p, _, 1, _, rfl, rfl, hw hs, rfl, _, rfl, p, _, 2, _, rfl, rfl, hw hs, rfl, _, _, rfl, fun n => ?_⟩
      exact .inl ⟨_, rfl, _, rfl, _, _, rfl, rfl, m0, q _ _ _ (Int.emod_nonneg _ (by omega)) (Int.emod_lt_of_pos _ m0)⟩
def sp_pick : Sp := fun vs H Q _ => ∃ (p l : Addr) (a b c : Int) (xs : List V), vs = [.ref p, .ref l] ∧ p ≠ l ∧ H p = some (WellL a b c) ∧ H l = some (.lst xs) ∧ 0 < xs.length ∧ xs.length ≤ 1000 ∧ ∀ (i : Nat) (v : V) (a' c' : Int), xs[i]? = some v → Q v (upd H p (WellL a' b c'))
theorem ok__law_pick (T : Txt K mg) : FnOk P w K mg base CX0 3 T.f__law_pick T.d__law_pick ["_law_well", "_law_some"] sp_pick := by
  refine T.F__law_pick.ok sc__law_pick (fun vs H Q E h => ?_) (fun cdv A outer s H vs Q E hr h => ?_)
  · obtain ⟨p, l, a, b, c, xs, rfl, _⟩ := h
    rfl
  · obtain ⟨p, l, a, b, c, xs, rfl, hpl, hp, hl, l0, l1, q⟩ := h
    refine ⟨_, (pss_one (ps_ret (pe_ix ix_list (pv 1) (pe_call (ok__law_draw T) (hr.mono (by decide)) (by rfl) T.g__law_draw T.F__law_draw.kp T.b__law_draw .nil pass0 (pa_cons (pv 0) (pa_cons (pe_callB call_len_seq (by rfl) T.n_len (by decide +kernel) (pa_cons (pv 1) pa_nil)) pa_nil))) (fun _ _ => rfl)))), ?_⟩
    refine ⟨_, rfl, _, rfl, _, rfl, l, xs, rfl, .inl (.inl (.inl hl)), p, a, b, c, _, rfl, hp, by omega, by omega, fun n a' c' n0 n1 => ?_⟩
    obtain ⟨k, rfl⟩ := Int.eq_ofNat_of_zero_le n0
    have hk : k < xs.length := by omega
    exact ⟨l, xs, (k : Int), xs[k], rfl, rfl, .inl (.inl (by rw [upd_ne hpl.symm]; exact hl)), atI_nat (List.getElem?_eq_getElem hk), q k _ a' c' (List.getElem?_eq_getElem hk)⟩
def sp_source (K : PySem.W.Frag) : Sp := fun vs H Q _ => ∃ (a : Addr) (ns : List Int) (k : Nat), vs = [.ref a, vN k] ∧ SqL K H a (ns.map V.int) ∧ ns.length ≤ 63 ∧ ∀ (p : Addr) (x y z : Int) (H' : Hp), Same H H' → H p = none → H' p = some (WellL x y z) → Q (.ref p) H'
theorem ok__law_source (T : Txt K mg) : FnOk P w K mg base CX0 1 T.f__law_source T.d__law_source ["_law_script", "_law_k"] (sp_source K) := by
  refine T.F__law_source.ok sc__law_source (fun vs H Q E h => ?_) (fun cdv A outer s H vs Q E hr h => ?_)
  · obtain ⟨a, ns, k, rfl, _⟩ := h
    rfl
  · obtain ⟨a, ns, k, rfl, ha, hn, q⟩ := h
    refine ⟨_, (pss_cons (ps_set (i := 2) sc__law_source.nd rfl (.inl rfl) (pe_op op_add (pe_ix ix_list (pe_op op_catL (pv 0) (pe_lst (pa_cons pe_int pa_nil))) pe_int (fun _ _ => rfl)) (pe_op op_mul pe_int (pv 1))))
      (pss_cons (ps_if (pt_cmpR op_lt (pv 1) (pe_callB call_len_seq (by rfl) T.n_len (by decide +kernel) (pa_cons (pv 0) pa_nil)) (nomark _)) (pss_one (ps_set (i := 2) sc__law_source.nd rfl (.inl rfl) (pe_ix ix_list (pv 0) (pv 1) (fun _ _ => rfl)))) pss_nil)
      (pss_one (ps_ret (pe_lst (pa_cons (pe_op op_mul (pv 2) (pe_callTy call_int1 (by rfl) T.n_int (by decide +kernel) (pa_cons (pe_cmpR op_ge (pv 2) (pe_op op_pow pe_int pe_int) (nomark _)) pa_nil))) (pa_cons (pv 2) (pa_cons pe_int pa_nil)))))))), ?_⟩
    refine ⟨_, rfl, (by show 1 ≤ sizeLine; decide), fun p3 hp3 => ?_⟩
    have s3 := same_upd (o := .lst [.int 0]) hp3
    refine ⟨a, p3, _, _, rfl, rfl, s3.seq ha, .inl (.inl upd_same), ?_, fun p4 hp4 => ?_⟩
    · rw [List.length_map]
      exact Nat.le_of_lt (small1000 (by show ns.length + 1 ≤ 1000; omega))
    have s4 := s3.trans (same_upd (o := .lst (ns.map V.int ++ [.int 0])) hp4)
    obtain ⟨x, hx⟩ : ∃ x : Int, (ns.map V.int ++ [.int 0])[0]? = some (V.int x) := by
      cases ns with
      | nil => exact ⟨0, rfl⟩
      | cons x r => exact ⟨x, rfl⟩
    refine ⟨p4, _, 0, .int x, rfl, rfl, .inl (.inl upd_same), ?_, ?_⟩
    · exact atI_nat (j := 0) hx
    refine ⟨_, rfl, _, _, rfl, rfl, .inl ⟨by decide, by decide⟩, _, _, rfl, rfl, ?_⟩
    refine ⟨_, rfl, _, rfl, a, _, rfl, .inl (s4.seq ha), _, _, rfl, rfl, _, rfl, ?_⟩
    refine ite2 (fun cc => ?_) (fun cc => ?_)
    · have hk : k < ns.length := by
        have := of_decide_eq_true cc
        rw [List.length_map] at this
        omega
      refine ⟨_, rfl, _, rfl, a, _, (k : Int), .int ns[k], rfl, rfl, s4.seq ha, atI_nat (by rw [List.getElem?_map, List.getElem?_eq_getElem hk]; rfl), ?_⟩
      exact ⟨_, rfl, _, rfl, _, _, rfl, rfl, ⟨by decide, by decide, by decide⟩, _, _, rfl, rfl, .inr ⟨_, rfl, _, _, rfl, rfl, .inr (by split <;> decide), _, rfl, (by show 3 ≤ sizeLine; decide), fun p6 hp6 => q p6 _ _ _ _ (s4.trans (same_upd hp6)) (Same.free s4 hp6) upd_same⟩⟩
    · exact ⟨_, rfl, _, rfl, _, _, rfl, rfl, ⟨by decide, by decide, by decide⟩, _, _, rfl, rfl, .inr ⟨_, rfl, _, _, rfl, rfl, .inr (by split <;> decide), _, rfl, (by show 3 ≤ sizeLine; decide), fun p6 hp6 => q p6 _ _ _ _ (s4.trans (same_upd hp6)) (Same.free s4 hp6) upd_same⟩⟩
/-! CUT -/
theorem rot_row {n i : Nat} {g : Grid} (hs : Sq n g) (hi : i < n) : (rot g)[i]? = some ((List.range n).map fun t => cell g (n - 1 - t) i) := by
  have l := hs.len
  unfold rot
  rw [List.getElem?_map, List.getElem?_range (by omega)]
  refine congrArg some (List.ext_getElem ?_ fun j h1 h2 => ?_)
  · rw [List.length_map, List.length_reverse, List.length_map, List.length_range, l]
  · rw [List.length_map, List.length_reverse] at h1
    rw [List.getElem_map, List.getElem_reverse, List.getElem_map, List.getElem_range]
    unfold cell
    rw [getD_in (l := g) (by omega)]
    simp only [l]
def sp_lt (K : PySem.W.Frag) : Sp := fun vs H Q _ => ∃ (n : Nat) (a : Addr) (g : Grid), vs = [.ref a] ∧ GrB true K H a g ∧ Sq n g ∧ n ≤ 24 ∧ ∀ D H', Fr H H' D (rot g) → Q (.ref D) H'
theorem ok__law_turned (T : Txt K mg) : FnOk P w K mg base CX0 1 T.f__law_turned T.d__law_turned ["_law_rows"] (sp_lt K) := by
  refine T.F__law_turned.ok sc__law_turned (fun vs H Q E h => ?_) (fun cdv A outer s H vs Q E hr h => ?_)
  · obtain ⟨n, a, g, rfl, _⟩ := h
    rfl
  · obtain ⟨n, a, g, rfl, hg, hs, hn, q⟩ := h
    refine ⟨_, (pss_cons (ps_set (i := 1) sc__law_turned.nd rfl (.inr rfl) (pe_callB call_len_seq (by rfl) T.n_len (by decide +kernel) (pa_cons (pv 0) pa_nil)))
      (pss_one (ps_ret (pe_lc (own := [("_law_at", 2)]) rfl sc__law_turned.nd (pi_range1 (by rfl) T.n_range (pa_cons (pv 1) pa_nil)) (blkOk_by (N := ["_law_rows", "_law_many", "_law_at", "_law_to"]) (sc := defScope s__law_turned) (by decide +kernel)) (fun _ _ _ _ _ => by exact (pg_name (i := 2) sc__law_turned.nd rfl (.inr rfl))) (fun _ _ _ _ _ => by exact pts_nil) (fun _ _ _ _ _ => by exact (pe_lc (own := [("_law_to", 3)]) rfl sc__law_turned.nd (pi_range1 (by rfl) T.n_range (pa_cons (pv 1) pa_nil)) (blkOk_by (N := ["_law_rows", "_law_many", "_law_at", "_law_to"]) (sc := sc_lc_turned) (by decide +kernel)) (fun _ _ _ _ _ => by exact (pg_name (i := 3) sc__law_turned.nd rfl (.inl rfl))) (fun _ _ _ _ _ => by exact pts_nil) (fun _ _ _ _ _ => by exact (pe_ix (ix_rowBK (K := K) rfl) (pe_ix (ix_rowBK (K := K) rfl) (pv 0) (pe_op op_sub (pe_op op_sub (pv 1) pe_int) (pv 3)) (fun _ _ => rfl)) (pv 2) (fun _ _ => rfl))))))))), ?_⟩
    obtain ⟨L, h1, h2, h3⟩ := hg.ex
    have lg := hs.len
    have hl : (L.map V.ref).length = n := by rw [List.length_map, h2, lg]
    refine ⟨_, rfl, a, _, rfl, .inl h1, ?_⟩
    rw [hl]
    refine ⟨_, rfl, _, rfl, by omega, by omega, fun D hD => ?_⟩
    refine lc_range (lo := 0) (n := n) (fun i H' => ∃ M, FrI H H' D M (rot g) i) ⟨[], FrI.start hD⟩ ?_ ?_
    · rintro i H1 hi ⟨M, F⟩
      refine ⟨rfl, ?_⟩
      refine iteT (B := ∃ M, FrI H H1 D M (rot g) (i + 1)) ⟨_, rfl, _, rfl, by omega, by omega, fun D2 hD2 => ?_⟩
      refine lc_range (lo := 0) (n := n) (fun j H' => Same H1 H' ∧ H' D2 = some (.lst (((List.range j).map fun t => cell g (n - 1 - t) i).map vG))) ⟨same_upd hD2, upd_same⟩ ?_ ?_
      · rintro j H2 hj ⟨s2, g2⟩
        refine ⟨rfl, ?_⟩
        have sm := F.same.trans s2
        have e1 : L[n - 1 - j]? = some (L[n - 1 - j]'(by omega)) := List.getElem?_eq_getElem _
        have e2 : g[n - 1 - j]? = some (g[n - 1 - j]'(by omega)) := List.getElem?_eq_getElem _
        have hq := Same.sqb sm (h3 _ _ _ e1 e2)
        have hr := hs.row _ (List.getElem_mem (l := g) (n := n - 1 - j) (by omega))
        refine ⟨_, rfl, _, rfl, _, _, rfl, rfl, _, rfl, _, _, rfl, rfl, a, _, _, .ref (L[n - 1 - j]'(by omega)), true, rfl, rfl, Same.sqb sm h1, ?_, ?_⟩
        · rw [show (n : Int) - 1 - (0 + (j : Int)) = ((n - 1 - j : Nat) : Int) by omega]
          refine atI_nat ?_
          rw [List.getElem?_map, e1]
          rfl
        have ec : (g[n - 1 - j]'(by omega))[i]'(by omega) = cell g (n - 1 - j) i := by
          unfold cell
          rw [getD_in (l := g) (by omega), getD_in (by omega)]
        refine ⟨_, rfl, L[n - 1 - j]'(by omega), _, _, vG (cell g (n - 1 - j) i), true, rfl, rfl, hq, ?_, _, g2, ?_, fun c o hc => ?_, ?_⟩
        · rw [show (0 : Int) + (i : Int) = (i : Int) by omega]
          refine atI_nat ?_
          rw [List.getElem?_map, List.getElem?_eq_getElem (by omega), ec]
          rfl
        · rw [List.length_map, List.length_map, List.length_range]
          exact small1000 (by omega)
        · rw [upd_ne (ne_of_none hc hD2)]
          exact s2 _ _ hc
        · rw [upd_same, List.range_succ, List.map_append, List.map_append]
          rfl
      · rintro H2 ⟨s2, g2⟩
        refine ⟨_, s2 _ _ F.out, ?_, M ++ [D2], F.step hD (rot_row hs hi) s2 hD2 g2⟩
        rw [List.length_map, F.len]
        exact small1000 (by omega)
    · rintro H1 ⟨M, F⟩
      exact q D H1 ⟨hD, M, by rw [(rot_sq hs).len]; exact F⟩
def sp_lpos (K : PySem.W.Frag) : Sp := fun vs H Q _ => ∃ (n : Nat) (a p : Addr) (g : Grid) (t : Nat) (f : Bool), vs = [.ref a, .ref p] ∧ GrB true K H a g ∧ Sq n g ∧ n ≤ 24 ∧ SqT K H p [vN t, .bl f] ∧ t < 4 ∧ ∀ D H', Fr H H' D (posedG g t f) → Q (.ref D) H'
/-- the rows of a grid copied -/
theorem grow {K : PySem.W.Frag} {H : Hp} {k : Bool} {L : List Addr} {g : Grid} (h2 : L.length = g.length) (h3 : ∀ (j : Nat) (l : Addr) (r : List (Option Nat)), L[j]? = some l → g[j]? = some r → SqB k K H l (r.map vG)) {i : Nat} {v : V} (hi : i < (L.map V.ref).length) (e : (L.map V.ref)[i]? = some v) :
    ∃ (l : Addr) (r : List (Option Nat)), v = .ref l ∧ g[i]? = some r ∧ SqB k K H l (r.map vG) := by
  rw [List.length_map] at hi
  have e1 : L[i]? = some L[i] := List.getElem?_eq_getElem hi
  have e2 : g[i]? = some (g[i]'(by omega)) := List.getElem?_eq_getElem _
  rw [List.getElem?_map, e1] at e
  exact ⟨_, _, (Option.some.inj e).symm, e2, h3 i _ _ e1 e2⟩
theorem mir_row {g : Grid} {i : Nat} {r : List (Option Nat)} (h : g[i]? = some r) : (mir g)[i]? = some r.reverse := by
  unfold mir
  rw [List.getElem?_map, h]
  rfl
theorem ok__law_posed (T : Txt K mg) : FnOk P w K mg base CX0 2 T.f__law_posed T.d__law_posed ["_law_rows", "_law_stance"] (sp_lpos K) := by
  refine T.F__law_posed.ok sc__law_posed (fun vs H Q E h => ?_) (fun cdv A outer s H vs Q E hr h => ?_)
  · obtain ⟨n, a, p, g, t, f, rfl, _⟩ := h
    rfl
  · obtain ⟨n, a, p, g, t, f, rfl, hg, hs, hn, hp, ht, q⟩ := h
    refine ⟨_, (Evl.pss_cut (ps_if (pt_val (pe_ix (ix_rowBK (K := K) rfl) (pv 1) pe_int (fun _ _ => rfl))) (pss_one (ps_setLc (i := 0) (own := [("_law_row", 3)]) rfl sc__law_posed.nd rfl rfl (sw_true rfl rfl rfl (by decide +kernel)) (pi_seq (pv 0)) (blkOk_by (N := ["_law_rows", "_law_stance", "_law_turn", "_law_row"]) (sc := defScope s__law_posed) (by decide +kernel)) (fun _ _ _ _ _ => by exact (pg_name (i := 3) sc__law_posed.nd rfl (.inl rfl))) (fun _ _ _ _ _ => by exact pts_nil) (fun _ _ _ _ _ => by exact (pe_revB (K := K) rfl (pv 3))))) pss_nil)
      (pss_cons (ps_for PassesOwn.never rfl (pi_range1 (by rfl) T.n_range (pa_cons (pe_ix (ix_rowBK (K := K) rfl) (pv 1) pe_int (fun _ _ => rfl)) pa_nil)) (pg_name (i := 2) sc__law_posed.nd rfl (.inl rfl)) (pss_one (ps_set (i := 0) sc__law_posed.nd rfl (.inl rfl) (pe_call (ok__law_turned T) (hr.mono (by decide)) (by rfl) T.g__law_turned T.F__law_turned.kp T.b__law_turned .nil pass0 (pa_cons (pv 0) pa_nil)))))
      (pss_one (ps_ret (pe_lc (own := [("_law_row", 3)]) rfl sc__law_posed.nd (pi_seq (pv 0)) (blkOk_by (N := ["_law_rows", "_law_stance", "_law_turn", "_law_row"]) (sc := defScope s__law_posed) (by decide +kernel)) (fun _ _ _ _ _ => by exact (pg_name (i := 3) sc__law_posed.nd rfl (.inl rfl))) (fun _ _ _ _ _ => by exact pts_nil) (fun _ _ _ _ _ => by exact (pe_callTy (call_listOfK (K := K) rfl) (by rfl) T.n_list (by decide +kernel) (pa_cons (pv 3) pa_nil)))))))), ?_⟩
    obtain ⟨L, h1, h2, h3⟩ := hg.ex
    have lg := hs.len
    refine ⟨fun σ' H' => ∃ b : Addr, σ' = [some (.ref b), some (.ref p), none, none] ∧ Same H H' ∧ GrB true K H' b (if f then mir g else g), ?_, ?_⟩
    · refine ⟨_, rfl, p, _, 1, .bl f, false, rfl, rfl, hp, rfl, f, rfl, ?_⟩
      cases f
      · exact iteF ⟨a, rfl, Same.refl _, hg⟩
      · refine iteT ⟨_, rfl, a, _, true, rfl, h1, fun D hD => ?_⟩
        refine lc_it (walk_seq (b := true) (K := K) (a := a) (xs := L.map V.ref)) (fun i H' => ∃ M, FrI H H' D M (mir g) i) ⟨[], FrI.start hD⟩ (fun i H' _ ⟨_, F⟩ => Same.sqb F.same h1) ?_ ?_
        · rintro i v H1 H2 hi ⟨M, F⟩ ⟨rfl, e2⟩
          obtain ⟨l, r, rfl, er, hq⟩ := grow h2 h3 hi e2
          rw [List.length_map] at hi
          refine ⟨rfl, ?_⟩
          refine ⟨_, rfl, l, _, true, rfl, Same.sqb F.same hq, fun c H3 s3 n3 e3 => ?_⟩
          have e3' : H3 c = some (.lst (r.reverse.map vG)) := by rw [List.map_reverse]; exact e3
          refine ⟨_, s3 _ _ F.out, ?_, M ++ [c], F.step hD (mir_row er) s3 n3 e3'⟩
          rw [List.length_map, F.len]
          exact small1000 (by omega)
        · rintro H1 ⟨M, F⟩
          have F1 : Fr H H1 D (mir g) := ⟨hD, M, by rw [(mir_sq hs).len, ← lg, ← h2, ← List.length_map (f := V.ref)]; exact F⟩
          exact ⟨D, rfl, F.same, F1.gr⟩
    · rintro σ H1 ⟨b, rfl, s1, G1⟩
      have hs1 : Sq n (if f then mir g else g) := by
        cases f
        · exact hs
        · exact mir_sq hs
      have eg : posedG g t f = rotK t (if f then mir g else g) := rfl
      rw [eg] at q
      generalize (if f then mir g else g) = g1 at G1 hs1 q
      refine ⟨_, rfl, p, _, 0, vN t, false, rfl, rfl, Same.sqt s1 hp, rfl, (t : Int), rfl, by omega, by omega, ?_⟩
      refine for_range (lo := 0) (n := t) (fun i σ H' => ∃ (b : Addr) (z2 z3 : Option V), σ = [some (.ref b), some (.ref p), z2, z3] ∧ Same H H' ∧ GrB true K H' b (rotK i g1)) ⟨b, _, _, rfl, s1, G1⟩ ?_ ?_
      · rintro i σ H2 hi ⟨b, z2, z3, rfl, s2, G2⟩
        exact ⟨_, rfl, n, b, rotK i g1, rfl, G2, rotK_sq hs1 i, hn, fun D H3 F => ⟨D, _, _, rfl, s2.trans F.same0, F.gr⟩⟩
      · rintro σ H2 ⟨b, z2, z3, rfl, s2, G2⟩
        obtain ⟨M0, m1, m2, m3⟩ := G2.ex
        refine ⟨_, rfl, b, _, true, rfl, m1, fun D hD => ?_⟩
        refine lc_it (walk_seq (b := true) (K := K) (a := b) (xs := M0.map V.ref)) (fun i H' => ∃ M, FrI H2 H' D M (rotK t g1) i) ⟨[], FrI.start hD⟩ (fun i H' _ ⟨_, F⟩ => Same.sqb F.same m1) ?_ ?_
        · rintro i v H3 H4 hi ⟨M, F⟩ ⟨rfl, e2⟩
          obtain ⟨l, r, rfl, er, hq⟩ := grow m2 m3 hi e2
          have lr := (rotK_sq hs1 t).len
          rw [List.length_map] at hi
          refine ⟨rfl, ?_⟩
          refine ⟨_, rfl, l, _, rfl, (Same.sqb F.same hq).or, fun c hc => ?_⟩
          have s4 := same_upd (o := .lst (r.map vG)) hc
          refine ⟨_, s4 _ _ F.out, ?_, M ++ [c], F.step hD er s4 hc upd_same⟩
          rw [List.length_map, F.len]
          exact small1000 (by omega)
        · rintro H3 ⟨M, F⟩
          have F1 : Fr H2 H3 D (rotK t g1) := ⟨hD, M, by rw [← m2, ← List.length_map (f := V.ref)]; exact F⟩
          exact q D H3 (F1.back s2)
def sp_lunp (K : PySem.W.Frag) : Sp := fun vs H Q _ => ∃ (n : Nat) (a p : Addr) (g : Grid) (t : Nat) (f : Bool), vs = [.ref a, .ref p] ∧ GrB true K H a g ∧ Sq n g ∧ n ≤ 24 ∧ SqT K H p [vN t, .bl f] ∧ t < 4 ∧ ∀ D H', Fr H H' D (unposedG g t f) → Q (.ref D) H'
theorem ok__law_unposed (T : Txt K mg) : FnOk P w K mg base CX0 2 T.f__law_unposed T.d__law_unposed ["_law_rows", "_law_stance"] (sp_lunp K) := by
  refine T.F__law_unposed.ok sc__law_unposed (fun vs H Q E h => ?_) (fun cdv A outer s H vs Q E hr h => ?_)
  · obtain ⟨n, a, p, g, t, f, rfl, _⟩ := h
    rfl
  · obtain ⟨n, a, p, g, t, f, rfl, hg, hs, hn, hp, ht, q⟩ := h
    refine ⟨_, (pss_cons (ps_for PassesOwn.never rfl (pi_range1 (by rfl) T.n_range (pa_cons (pe_op op_mod (pe_callTy call_int1 (by rfl) T.n_int (by decide +kernel) (pa_cons (pe_op op_sub pe_int (pe_ix (ix_rowBK (K := K) rfl) (pv 1) pe_int (fun _ _ => rfl))) pa_nil)) pe_int) pa_nil)) (pg_name (i := 2) sc__law_unposed.nd rfl (.inl rfl)) (pss_one (ps_set (i := 0) sc__law_unposed.nd rfl (.inl rfl) (pe_call (ok__law_turned T) (hr.mono (by decide)) (by rfl) T.g__law_turned T.F__law_turned.kp T.b__law_turned .nil pass0 (pa_cons (pv 0) pa_nil)))))
      (pss_one (ps_ret (pe_lc (own := [("_law_row", 3)]) rfl sc__law_unposed.nd (pi_seq (pv 0)) (blkOk_by (N := ["_law_rows", "_law_stance", "_law_turn", "_law_row"]) (sc := defScope s__law_unposed) (by decide +kernel)) (fun _ _ _ _ _ => by exact (pg_name (i := 3) sc__law_unposed.nd rfl (.inl rfl))) (fun _ _ _ _ _ => by exact pts_nil) (fun _ _ _ _ _ => by exact (pe_ifExp (pt_val (pe_ix (ix_rowBK (K := K) rfl) (pv 1) pe_int (fun _ _ => rfl))) (pe_callTy (call_listOfK (K := K) rfl) (by rfl) T.n_list (by decide +kernel) (pa_cons (pe_revB (K := K) rfl (pv 3)) pa_nil)) (pe_callTy (call_listOfK (K := K) rfl) (by rfl) T.n_list (by decide +kernel) (pa_cons (pv 3) pa_nil)))))))), ?_⟩
    have e4 : ((0 : Int) - (t : Int)) % 4 = (((4 - t) % 4 : Nat) : Int) := by omega
    refine ⟨_, rfl, p, _, 0, vN t, false, rfl, rfl, hp, rfl, _, _, rfl, rfl, .inl ⟨_, rfl, _, _, rfl, rfl, (show (0 : Int) < 4 by decide), (((4 - t) % 4 : Nat) : Int), congrArg (fun z => [V.int z]) e4, by omega, by omega, ?_⟩⟩
    generalize hm : (4 - t) % 4 = m
    refine for_range (lo := 0) (n := m) (fun i σ H' => ∃ (b : Addr) (z2 z3 : Option V), σ = [some (.ref b), some (.ref p), z2, z3] ∧ Same H H' ∧ GrB true K H' b (rotK i g)) ⟨a, _, _, rfl, Same.refl _, hg⟩ ?_ ?_
    · rintro i σ H2 hi ⟨b, z2, z3, rfl, s2, G2⟩
      exact ⟨_, rfl, n, b, rotK i g, rfl, G2, rotK_sq hs i, hn, fun D H3 F => ⟨D, _, _, rfl, s2.trans F.same0, F.gr⟩⟩
    · rintro σ H2 ⟨b, z2, z3, rfl, s2, G2⟩
      obtain ⟨M0, m1, m2, m3⟩ := G2.ex
      have lr := (rotK_sq hs m).len
      have eu : unposedG g t f = if f then mir (rotK m g) else rotK m g := by unfold unposedG; rw [hm]
      rw [eu] at q
      refine ⟨_, rfl, b, _, true, rfl, m1, fun D hD => ?_⟩
      refine lc_it (walk_seq (b := true) (K := K) (a := b) (xs := M0.map V.ref)) (fun i H' => ∃ M, FrI H2 H' D M (if f then mir (rotK m g) else rotK m g) i) ⟨[], FrI.start hD⟩ (fun i H' _ ⟨_, F⟩ => Same.sqb F.same m1) ?_ ?_
      · rintro i v H3 H4 hi ⟨M, F⟩ ⟨rfl, e2⟩
        obtain ⟨l, r, rfl, er, hq⟩ := grow m2 m3 hi e2
        rw [List.length_map] at hi
        refine ⟨rfl, ?_⟩
        refine ⟨_, rfl, p, _, 1, .bl f, false, rfl, rfl, Same.sqt (s2.trans F.same) hp, rfl, f, rfl, ?_⟩
        cases f
        · have F : FrI H2 H4 D M (rotK m g) i := F
          refine iteF ⟨_, rfl, l, _, rfl, (Same.sqb F.same hq).or, fun c hc => ?_⟩
          have s4 := same_upd (o := .lst (r.map vG)) hc
          refine ⟨_, s4 _ _ F.out, ?_, M ++ [c], F.step hD er s4 hc upd_same⟩
          rw [List.length_map, F.len]
          exact small1000 (by omega)
        · have F : FrI H2 H4 D M (mir (rotK m g)) i := F
          refine iteT ⟨_, rfl, l, _, true, rfl, Same.sqb F.same hq, fun c H5 s5 n5 e5 => ?_⟩
          have e5' : H5 c = some (.lst (r.reverse.map vG)) := by rw [List.map_reverse]; exact e5
          refine ⟨c, _, rfl, .inl (.inl (.inl e5')), fun d hd => ?_⟩
          have s6 := s5.trans (same_upd (o := .lst (r.reverse.map vG)) hd)
          refine ⟨_, s6 _ _ F.out, ?_, M ++ [d], F.step hD (mir_row er) s6 (Same.free s5 hd) upd_same⟩
          rw [List.length_map, F.len]
          exact small1000 (by omega)
      · rintro H3 ⟨M, F⟩
        have F1 : Fr H2 H3 D (if f then mir (rotK m g) else rotK m g) := by
          refine ⟨hD, M, ?_⟩
          have e : (if f then mir (rotK m g) else rotK m g).length = (M0.map V.ref).length := by
            rw [List.length_map, m2]
            cases f
            · rfl
            · exact (mir_sq (rotK_sq hs m)).len.trans lr.symm
          rw [e]
          exact F
        exact q D H3 (F1.back s2)
/-! CUT -/
def Kp (p : Addr) (H H' : Hp) : Prop := ∀ b o, H b = some o → b ≠ p → H' b = some o
theorem Kp.upd {p : Addr} {H : Hp} {o : HO} : Kp p H (upd H p o) := fun b u e n => by
  rw [upd_ne n]
  exact e
theorem Kp.trans {p : Addr} {H H1 H2 : Hp} (a : Kp p H H1) (b : Kp p H1 H2) : Kp p H H2 := fun c o e n => b c o (a c o e n) n
theorem Same.kp {p : Addr} {H H1 : Hp} (a : Same H H1) : Kp p H H1 := fun c o e _ => a c o e
theorem Kp.sqb {p a : Addr} {k : Bool} {K : PySem.W.Frag} {H H' : Hp} {xs ys : List V} (kp : Kp p H H') (hp : H p = some (.lst ys)) (hne : xs ≠ ys) (h : SqB k K H a xs) : SqB k K H' a xs := by
  cases k
  · rcases h with (h | ⟨o, h⟩) | h
    · exact .inl (.inl (kp _ _ h (fun e => by rw [e, hp] at h; cases h)))
    · exact .inl (.inr ⟨o, kp _ _ h (fun e => by rw [e, hp] at h; cases h)⟩)
    · exact .inr h
  · rcases h with (h | ⟨o, h⟩) | h
    · exact .inl (.inl (kp _ _ h (fun e => by rw [e, hp] at h; cases h; exact hne rfl)))
    · exact .inl (.inr ⟨o, kp _ _ h (fun e => by rw [e, hp] at h; cases h)⟩)
    · exact .inr h
theorem len_ne {α : Type} {xs ys : List α} (h : xs.length ≠ ys.length) : xs ≠ ys := fun e => h (by rw [e])
theorem GrB.kp {p a : Addr} {k : Bool} {K : PySem.W.Frag} {H H' : Hp} {g : Grid} {n : Nat} {x y z : Int} (h : GrB k K H a g) (kp : Kp p H H') (hp : H p = some (WellL x y z)) (hs : Sq n g) (h8 : 8 ≤ n) : GrB k K H' a g := by
  obtain ⟨L, h1, h2, h3⟩ := h.ex
  refine ⟨L, kp.sqb hp (len_ne ?_) h1, h2, fun j l r e1 e2 => kp.sqb hp (len_ne ?_) (h3 j l r e1 e2)⟩
  · rw [List.length_map, h2, hs.len]
    show n ≠ 3
    omega
  · rw [List.length_map, hs.row r (List.mem_of_getElem? e2)]
    show n ≠ 3
    omega
/-- rows that are being drawn -/
structure RwI (p : Addr) (H H' : Hp) (D : Addr) (M : List Addr) (g : Grid) (n : Nat) : Prop where
  kp : Kp p H H'
  out : H' D = some (.lst (M.map V.ref))
  len : M.length = g.length
  row : ∀ (j : Nat) (l : Addr) (r : List (Option Nat)), M[j]? = some l → g[j]? = some r → H' l = some (.lst (r.map vG)) ∧ l ≠ D
  sq : ∀ r ∈ g, r.length = n ∧ ∀ o ∈ r, DotOk o
/-- all is ready -/
structure Rdy (K : PySem.W.Frag) (p a s : Addr) (g : Grid) (b0 : Int) (H H' : Hp) : Prop where
  kp : Kp p H H'
  well : ∃ x z, H' p = some (WellL x b0 z)
  rows : GrB true K H' a g
  sheet : GrB false K H' s g
theorem Rdy.same {K : PySem.W.Frag} {p a s : Addr} {g : Grid} {b0 : Int} {H H' H2 : Hp} (R : Rdy K p a s g b0 H H') (e : Same H' H2) : Rdy K p a s g b0 H H2 :=
  ⟨R.kp.trans (Same.kp e), let ⟨x, z, w⟩ := R.well; ⟨x, z, e _ _ w⟩, R.rows.same e, R.sheet.same e⟩
theorem Rdy.put {K : PySem.W.Frag} {p a s : Addr} {g : Grid} {b0 : Int} {H H' : Hp} {n : Nat} {x z : Int} (R : Rdy K p a s g b0 H H') (hs : Sq n g) (h8 : 8 ≤ n) : Rdy K p a s g b0 H (upd H' p (WellL x b0 z)) := by
  obtain ⟨x0, z0, w⟩ := R.well
  exact ⟨R.kp.trans Kp.upd, ⟨_, _, upd_same⟩, R.rows.kp Kp.upd w hs h8, R.sheet.kp Kp.upd w hs h8⟩
/-- new grids, each apart from those before -/
structure Sd (H0 Hc : Hp) (As : List (Addr × Addr)) : Prop where
  same : Same H0 Hc
  each : ∀ q ∈ As, H0 q.1 = none ∧ H0 q.2 = none ∧ q.2 ≠ q.1 ∧ ∃ xs ys, Hc q.1 = some (.lst (V.ref q.2 :: xs)) ∧ Hc q.2 = some (.lst ys) ∧ xs.length ≤ 100
  apart : As.Pairwise fun q r => r.1 ≠ q.1 ∧ r.1 ≠ q.2 ∧ r.2 ≠ q.1 ∧ r.2 ≠ q.2
theorem Sd.ext {H0 Hc H2 : Hp} {As : List (Addr × Addr)} (S : Sd H0 Hc As) (s : Same Hc H2) : Sd H0 H2 As :=
  ⟨S.same.trans s, fun q hq => let ⟨a, b, c, xs, ys, d, e, f⟩ := S.each q hq; ⟨a, b, c, xs, ys, s _ _ d, s _ _ e, f⟩, S.apart⟩
theorem Sd.not_new {H0 Hc : Hp} {As : List (Addr × Addr)} (S : Sd H0 Hc As) {c : Addr} (h : Hc c = none) : ∀ q ∈ As, c ≠ q.1 ∧ c ≠ q.2 := fun q hq => by
  obtain ⟨_, _, _, xs, ys, d, e, _⟩ := S.each q hq
  exact ⟨(ne_of_none d h).symm, (ne_of_none e h).symm⟩
theorem Sd.add {H0 Hc H' : Hp} {As : List (Addr × Addr)} {A : Addr} {g : Grid} (S : Sd H0 Hc As) (F : Fr Hc H' A g) (n0 : 0 < g.length) (n1 : g.length ≤ 24) : ∃ B, Sd H0 H' (As ++ [(A, B)]) := by
  obtain ⟨hA, L, I⟩ := F
  have l0 : 0 < L.length := by rw [I.len]; exact n0
  obtain ⟨q1, q2, q3⟩ := I.row 0 _ _ (List.getElem?_eq_getElem l0) (List.getElem?_eq_getElem n0)
  have S2 := S.ext I.same
  refine ⟨L[0], ⟨S2.same, fun q hq => ?_, ?_⟩⟩
  · rcases List.mem_append.mp hq with h | h
    · exact S2.each q h
    · rw [List.mem_singleton.mp h]
      refine ⟨Same.free S.same hA, Same.free S.same q1, q2, (L.drop 1).map V.ref, _, ?_, q3, by rw [List.length_map, List.length_drop, I.len]; omega⟩
      rw [I.out]
      have e : L = L[0] :: L.drop 1 := by
        rw [← List.drop_eq_getElem_cons l0]
        rfl
      conv => lhs; rw [e]
      rfl
  · rw [List.pairwise_append]
    refine ⟨S.apart, List.pairwise_singleton _ _, fun q hq r hr => ?_⟩
    rw [List.mem_singleton.mp hr]
    obtain ⟨a1, a2⟩ := S.not_new hA q hq
    obtain ⟨b1, b2⟩ := S.not_new q1 q hq
    exact ⟨a1, a2, b1, b2⟩
theorem Sd.take_apart {H0 Hc : Hp} {As : List (Addr × Addr)} (S : Sd H0 Hc As) {i : Nat} (hi : i < As.length) : ∀ q ∈ As.take i, As[i].1 ≠ q.1 ∧ As[i].1 ≠ q.2 ∧ As[i].2 ≠ q.1 ∧ As[i].2 ≠ q.2 := fun q hq => by
  obtain ⟨j, hj, rfl⟩ := List.mem_iff_getElem.mp hq
  rw [List.length_take] at hj
  rw [List.getElem_take]
  exact List.pairwise_iff_getElem.mp S.apart j i (by omega) hi (by omega)
theorem rev_comp {K : PySem.W.Frag} {H : Hp} {D : Addr} {g : Grid} {n : Nat} {z0 z1 z3 z4 z5 z6 z7 z8 z9 z10 z11 : Option V} {Q : VK} (G : GrB true K H D g) (hs : Sq n g) (hn : n ≤ 24) (q : ∀ D' H', Fr H H' D' (mir g) → Q (.ref D') H') :
    tLc (iSeq K (tVar 2)) (gName 11) tYes (tRevB K (tVar 11)) [11] [z0, z1, some (.ref D), z3, z4, z5, z6, z7, z8, z9, z10, z11] H Q := by
  obtain ⟨L, h1, h2, h3⟩ := G.ex
  have lg := hs.len
  refine ⟨_, rfl, D, _, true, rfl, h1, fun D2 hD2 => ?_⟩
  refine lc_it (walk_seq (b := true) (K := K) (a := D) (xs := L.map V.ref)) (fun i H' => ∃ M, FrI H H' D2 M (mir g) i) ⟨[], FrI.start hD2⟩ (fun i H' _ ⟨_, F⟩ => Same.sqb F.same h1) ?_ ?_
  · rintro i v H1 H2 hi ⟨M, F⟩ ⟨rfl, e2⟩
    obtain ⟨l, r, rfl, er, hq⟩ := grow h2 h3 hi e2
    rw [List.length_map] at hi
    refine ⟨rfl, ?_⟩
    refine ⟨_, rfl, l, _, true, rfl, Same.sqb F.same hq, fun c H3 s3 n3 e3 => ?_⟩
    have e3' : H3 c = some (.lst (r.reverse.map vG)) := by rw [List.map_reverse]; exact e3
    refine ⟨_, s3 _ _ F.out, ?_, M ++ [c], F.step hD2 (mir_row er) s3 n3 e3'⟩
    rw [List.length_map, F.len]
    exact small1000 (by omega)
  · rintro H1 ⟨M, F⟩
    exact q D2 H1 ⟨hD2, M, by rw [(mir_sq hs).len, ← lg, ← h2, ← List.length_map (f := V.ref)]; exact F⟩
def sp_right : Sp := fun vs H Q _ => ∃ (p : Addr) (a b0 c : Int), vs = [.ref p] ∧ H p = some (WellL a b0 c) ∧ ∀ (a' c' : Int) (H' : Hp), Kp p H H' → H' p = some (WellL a' b0 c') → Q (.bl true) H'
theorem ok__law_right (T : Txt K mg) : FnOk P w K mg base CX0 6 T.f__law_right T.d__law_right ["_law_well"] sp_right := by
  refine T.F__law_right.ok sc__law_right (fun vs H Q E h => ?_) (fun cdv A outer s H vs Q E hr h => ?_)
  · obtain ⟨p, a, b0, c, rfl, _⟩ := h
    rfl
  · obtain ⟨p, a, b0, c, rfl, hp, q⟩ := h
    refine ⟨_, (pss_cons (ps_set (i := 1) sc__law_right.nd rfl (.inr rfl) (pe_call (ok__law_pick T) (hr.mono (by decide)) (by rfl) T.g__law_pick T.F__law_pick.kp T.b__law_pick .nil pass0 (pa_cons (pv 0) (pa_cons (pe_lst (pa_cons pe_int (pa_cons pe_int (pa_cons pe_int (pa_cons pe_int (pa_cons pe_int pa_nil)))))) pa_nil))))
      (Evl.pss_cut (ps_setLc (i := 2) (own := [("_law_at", 9)]) rfl sc__law_right.nd rfl rfl (sw_true rfl rfl rfl (by decide +kernel)) (pi_range1 (by rfl) T.n_range (pa_cons (pv 1) pa_nil)) (blkOk_by (N := ["_law_well", "_law_many", "_law_rows", "_law_sheet", "_law_quarter", "_law_due", "_law_flip", "_law_back", "_law_said_so", "_law_at", "_law_to", "_law_row"]) (sc := defScope s__law_right) (by decide +kernel)) (fun _ _ _ _ _ => by exact (pg_name (i := 9) sc__law_right.nd rfl (.inl rfl))) (fun _ _ _ _ _ => by exact pts_nil) (fun _ _ _ _ _ => by exact (pe_lc (own := [("_law_to", 10)]) rfl sc__law_right.nd (pi_range1 (by rfl) T.n_range (pa_cons (pv 1) pa_nil)) (blkOk_by (N := ["_law_well", "_law_many", "_law_rows", "_law_sheet", "_law_quarter", "_law_due", "_law_flip", "_law_back", "_law_said_so", "_law_at", "_law_to", "_law_row"]) (sc := sc_lc_right) (by decide +kernel)) (fun _ _ _ _ _ => by exact (pg_name (i := 10) sc__law_right.nd rfl (.inl rfl))) (fun _ _ _ _ _ => by exact pts_nil) (fun _ _ _ _ _ => by exact (pe_call (ok__law_pick T) (hr.mono (by decide)) (by rfl) T.g__law_pick T.F__law_pick.kp T.b__law_pick .nil pass0 (pa_cons (pv 0) (pa_cons (pe_lst (pa_cons pe_int (pa_cons pe_int (pa_cons pe_int (pa_cons pe_non pa_nil))))) pa_nil)))))))
      (Evl.pss_cut (ps_set (i := 3) sc__law_right.nd rfl (.inl rfl) (pe_tupleOf (by rfl) T.n_tuple (pe_lc (own := [("_law_row", 11)]) rfl sc__law_right.nd (pi_seq (pv 2)) (blkOk_by (N := ["_law_well", "_law_many", "_law_rows", "_law_sheet", "_law_quarter", "_law_due", "_law_flip", "_law_back", "_law_said_so", "_law_at", "_law_to", "_law_row"]) (sc := defScope s__law_right) (by decide +kernel)) (fun _ _ _ _ _ => by exact (pg_name (i := 11) sc__law_right.nd rfl (.inl rfl))) (fun _ _ _ _ _ => by exact pts_nil) (fun _ _ _ _ _ => by exact (pe_tupleOfK (K := K) rfl (by rfl) T.n_tuple (pv 11))))))
      (Evl.pss_cut (ps_for PassesOwn.never rfl (pi_list (pe_lst (pa_cons pe_int (pa_cons pe_int (pa_cons pe_int (pa_cons pe_int (pa_cons pe_int (pa_cons (pe_un un_neg pe_int) (pa_cons (pe_un un_neg pe_int) (pa_cons (pe_op op_add (pe_op op_pow pe_int pe_int) pe_int) (pa_cons (pe_op op_sub (pe_call (ok__law_draw T) (hr.mono (by decide)) (by rfl) T.g__law_draw T.F__law_draw.kp T.b__law_draw .nil pass0 (pa_cons (pv 0) (pa_cons pe_int pa_nil))) pe_int) pa_nil))))))))))) (pg_name (i := 4) sc__law_right.nd rfl (.inl rfl)) (pss_cons (ps_set (i := 5) sc__law_right.nd rfl (.inl rfl) (pe_call (ok__law_posed T) (hr.mono (by decide)) (by rfl) T.g__law_posed T.F__law_posed.kp T.b__law_posed .nil pass0 (pa_cons (pv 2) (pa_cons (pe_tup (pa_cons (pe_op op_mod (pe_callTy call_int1 (by rfl) T.n_int (by decide +kernel) (pa_cons (pv 4) pa_nil)) pe_int) (pa_cons pe_bl pa_nil))) pa_nil))))
      (pss_one (ps_if (PW.pt (pw_or (pt_cmpR (op_neD hr.units) (pe_call (ok_turned T) (hr.mono (by decide)) (by rfl) T.g_turned T.F_turned.kp T.b_turned .nil pass0 (pa_cons (pv 2) (pa_cons (pv 4) pa_nil))) (pv 5) (nomark _)) (pw_or1 (pt_cmpR (op_neD hr.units) (pe_callZ (ok_turned T) (hr.mono (by decide)) (by rfl) T.g_turned T.F_turned.kp (kb0 (ks := ["times", "grid"]) T.F_turned rev2 rev2_rel (fun _ _ _ _ _ _ ws hl => match ws, hl with | [_, _], _ => rfl)) pass0 (pk_cons (pv 4) (pk_cons (pv 3) pk_nil))) (pv 5) (nomark _))))) (pss_one (ps_ret pe_bl)) pss_nil))))
      (Evl.pss_cut (ps_if (PW.pt (pw_or (pt_cmpR (op_neD hr.units) (pe_call (ok_mirrored T) (hr.mono (by decide)) (by rfl) T.g_mirrored T.F_mirrored.kp T.b_mirrored .nil pass0 (pa_cons (pv 2) pa_nil)) (pe_lc (own := [("_law_row", 11)]) rfl sc__law_right.nd (pi_seq (pv 2)) (blkOk_by (N := ["_law_well", "_law_many", "_law_rows", "_law_sheet", "_law_quarter", "_law_due", "_law_flip", "_law_back", "_law_said_so", "_law_at", "_law_to", "_law_row"]) (sc := defScope s__law_right) (by decide +kernel)) (fun _ _ _ _ _ => by exact (pg_name (i := 11) sc__law_right.nd rfl (.inl rfl))) (fun _ _ _ _ _ => by exact pts_nil) (fun _ _ _ _ _ => by exact (pe_revB (K := K) rfl (pv 11)))) (nomark _)) (pw_or1 (pt_cmpR (op_neD hr.units) (pe_callZ (ok_mirrored T) (hr.mono (by decide)) (by rfl) T.g_mirrored T.F_mirrored.kp (kb0 (ks := ["grid"]) T.F_mirrored (fun l => l) (fun r => r) (fun _ _ _ _ _ _ ws hl => match ws, hl with | [_], _ => rfl)) pass0 (pk_cons (pv 3) pk_nil)) (pe_lc (own := [("_law_row", 11)]) rfl sc__law_right.nd (pi_seq (pv 2)) (blkOk_by (N := ["_law_well", "_law_many", "_law_rows", "_law_sheet", "_law_quarter", "_law_due", "_law_flip", "_law_back", "_law_said_so", "_law_at", "_law_to", "_law_row"]) (sc := defScope s__law_right) (by decide +kernel)) (fun _ _ _ _ _ => by exact (pg_name (i := 11) sc__law_right.nd rfl (.inl rfl))) (fun _ _ _ _ _ => by exact pts_nil) (fun _ _ _ _ _ => by exact (pe_revB (K := K) rfl (pv 11)))) (nomark _))))) (pss_one (ps_ret pe_bl)) pss_nil)
      (Evl.pss_cut (ps_for PassesOwn.never rfl (pi_range1 (by rfl) T.n_range (pa_cons pe_int pa_nil)) (pg_name (i := 4) sc__law_right.nd rfl (.inl rfl)) (pss_one (ps_for PassesOwn.never rfl (pi_seq (pe_tup (pa_cons pe_bl (pa_cons pe_bl pa_nil)))) (pg_name (i := 6) sc__law_right.nd rfl (.inl rfl)) (pss_cons (ps_par (i := 5) (j := 7) (by rfl) sc__law_right.nd rfl rfl (by decide) rfl rfl (pa_cons (pe_call (ok__law_posed T) (hr.mono (by decide)) (by rfl) T.g__law_posed T.F__law_posed.kp T.b__law_posed .nil pass0 (pa_cons (pv 2) (pa_cons (pe_tup (pa_cons (pv 4) (pa_cons (pv 6) pa_nil))) pa_nil))) (pa_cons (pe_call (ok__law_unposed T) (hr.mono (by decide)) (by rfl) T.g__law_unposed T.F__law_unposed.kp T.b__law_unposed .nil pass0 (pa_cons (pv 2) (pa_cons (pe_tup (pa_cons (pv 4) (pa_cons (pv 6) pa_nil))) pa_nil))) pa_nil)) (by rfl))
      (pss_cons (ps_if (PW.pt (pw_or (pt_cmpR (op_neD hr.units) (pe_call (ok_posed T) (hr.mono (by decide)) (by rfl) T.g_posed T.F_posed.kp T.b_posed .nil pass0 (pa_cons (pv 2) (pa_cons (pe_tup (pa_cons (pv 4) (pa_cons (pv 6) pa_nil))) pa_nil))) (pv 5) (nomark _)) (pw_or1 (pt_cmpR (op_neD hr.units) (pe_callZ (ok_posed T) (hr.mono (by decide)) (by rfl) T.g_posed T.F_posed.kp (kb0 (ks := ["pose", "grid"]) T.F_posed rev2 rev2_rel (fun _ _ _ _ _ _ ws hl => match ws, hl with | [_, _], _ => rfl)) pass0 (pk_cons (pe_tup (pa_cons (pv 4) (pa_cons (pv 6) pa_nil))) (pk_cons (pv 3) pk_nil))) (pv 5) (nomark _))))) (pss_one (ps_ret pe_bl)) pss_nil)
      (pss_cons (ps_if (PW.pt (pw_or (pt_cmpR (op_neD hr.units) (pe_call (ok_unposed T) (hr.mono (by decide)) (by rfl) T.g_unposed T.F_unposed.kp T.b_unposed .nil pass0 (pa_cons (pv 2) (pa_cons (pe_tup (pa_cons (pv 4) (pa_cons (pv 6) pa_nil))) pa_nil))) (pv 7) (nomark _)) (pw_or1 (pt_cmpR (op_neD hr.units) (pe_callZ (ok_unposed T) (hr.mono (by decide)) (by rfl) T.g_unposed T.F_unposed.kp (kb0 (ks := ["pose", "grid"]) T.F_unposed rev2 rev2_rel (fun _ _ _ _ _ _ ws hl => match ws, hl with | [_, _], _ => rfl)) pass0 (pk_cons (pe_tup (pa_cons (pv 4) (pa_cons (pv 6) pa_nil))) (pk_cons (pv 3) pk_nil))) (pv 7) (nomark _))))) (pss_one (ps_ret pe_bl)) pss_nil)
      (pss_one (ps_if (PW.pt (pw_or (pt_cmpR (op_neD hr.units) (pe_call (ok_unposed T) (hr.mono (by decide)) (by rfl) T.g_unposed T.F_unposed.kp T.b_unposed .nil pass0 (pa_cons (pv 5) (pa_cons (pe_tup (pa_cons (pv 4) (pa_cons (pv 6) pa_nil))) pa_nil))) (pv 2) (nomark _)) (pw_or1 (pt_cmpR (op_neD hr.units) (pe_call (ok_posed T) (hr.mono (by decide)) (by rfl) T.g_posed T.F_posed.kp T.b_posed .nil pass0 (pa_cons (pv 7) (pa_cons (pe_tup (pa_cons (pv 4) (pa_cons (pv 6) pa_nil))) pa_nil))) (pv 2) (nomark _))))) (pss_one (ps_ret pe_bl)) pss_nil))))))))
      (Evl.pss_cut (ps_for PassesOwn.never rfl (pi_list (pe_lst (pa_cons (pe_call (ok_turned T) (hr.mono (by decide)) (by rfl) T.g_turned T.F_turned.kp T.b_turned .nil pass0 (pa_cons (pv 2) (pa_cons pe_int pa_nil))) (pa_cons (pe_call (ok_mirrored T) (hr.mono (by decide)) (by rfl) T.g_mirrored T.F_mirrored.kp T.b_mirrored .nil pass0 (pa_cons (pv 2) pa_nil)) (pa_cons (pe_call (ok_posed T) (hr.mono (by decide)) (by rfl) T.g_posed T.F_posed.kp T.b_posed .nil pass0 (pa_cons (pv 2) (pa_cons (pe_tup (pa_cons pe_int (pa_cons pe_bl pa_nil))) pa_nil))) (pa_cons (pe_call (ok_unposed T) (hr.mono (by decide)) (by rfl) T.g_unposed T.F_unposed.kp T.b_unposed .nil pass0 (pa_cons (pv 2) (pa_cons (pe_tup (pa_cons pe_int (pa_cons pe_bl pa_nil))) pa_nil))) pa_nil)))))) (pg_name (i := 8) sc__law_right.nd rfl (.inl rfl)) (pss_cons (ps_expr (pe_bm0 PySem.F.plainAttrs_list PySem.F.slot_list_clear PySem.F.type_list_clear mt_clear (pe_ix ix_list (pv 8) pe_int (fun _ _ => rfl))))
      (pss_one (ps_expr (pe_bm PySem.F.plainAttrs_list PySem.F.slot_list_append PySem.F.type_list_append mt_append (pv 8) (pa_cons pe_non pa_nil))))))
      (pss_one (ps_ret (pe_cmpR (op_eqD hr.units) (pe_lc (own := [("_law_row", 11)]) rfl sc__law_right.nd (pi_seq (pv 3)) (blkOk_by (N := ["_law_well", "_law_many", "_law_rows", "_law_sheet", "_law_quarter", "_law_due", "_law_flip", "_law_back", "_law_said_so", "_law_at", "_law_to", "_law_row"]) (sc := defScope s__law_right) (by decide +kernel)) (fun _ _ _ _ _ => by exact (pg_name (i := 11) sc__law_right.nd rfl (.inl rfl))) (fun _ _ _ _ _ => by exact pts_nil) (fun _ _ _ _ _ => by exact (pe_callTy (call_listOfK (K := K) rfl) (by rfl) T.n_list (by decide +kernel) (pa_cons (pv 11) pa_nil)))) (pv 2) (nomark _))))))))))), ?_⟩
    refine ⟨_, rfl, (by show 5 ≤ sizeLine; decide), fun l hl => ?_⟩
    have npl := ne_of_none hp hl
    refine ⟨p, l, a, b0, c, _, rfl, npl, (same_upd hl) _ _ hp, upd_same, (by show 0 < 5; decide), (by show 5 ≤ 1000; decide), fun i v a1 c1 hv => ?_⟩
    obtain ⟨n, hn, rfl⟩ : ∃ n, SideOk n ∧ v = vN n := by
      have hm := List.mem_of_getElem? hv
      simp at hm
      rcases hm with rfl | rfl | rfl | rfl | rfl
      · exact ⟨8, .inl rfl, rfl⟩
      · exact ⟨12, .inr (.inl rfl), rfl⟩
      · exact ⟨16, .inr (.inr (.inl rfl)), rfl⟩
      · exact ⟨20, .inr (.inr (.inr (.inl rfl))), rfl⟩
      · exact ⟨24, .inr (.inr (.inr (.inr rfl))), rfl⟩
    have nn := side_le hn
    have k1 : Kp p H (upd (upd H l (.lst [.int 8, .int 12, .int 16, .int 20, .int 24])) p (WellL a1 b0 c1)) := (Same.kp (same_upd hl)).trans Kp.upd
    have hp1 : (upd (upd H l (.lst [.int 8, .int 12, .int 16, .int 20, .int 24])) p (WellL a1 b0 c1)) p = some (WellL a1 b0 c1) := upd_same
    generalize (upd (upd H l (.lst [.int 8, .int 12, .int 16, .int 20, .int 24])) p (WellL a1 b0 c1)) = H1 at k1 hp1 ⊢
    clear hv npl hl
    refine ⟨fun σ' H' => ∃ (D : Addr) (g : Grid), σ' = [some (.ref p), some (vN n), some (.ref D), none, none, none, none, none, none, none, none, none] ∧ Kp p H H' ∧ (∃ x z, H' p = some (WellL x b0 z)) ∧ GrB true K H' D g ∧ Sq n g, ?_, ?_⟩
    · refine ⟨_, rfl, _, rfl, by omega, by omega, fun D hD => ?_⟩
      have nDp : D ≠ p := fun e => by rw [e, hp1] at hD; cases hD
      refine lc_range (lo := 0) (n := n) (fun i H' => ∃ (M : List Addr) (g : Grid), RwI p H1 H' D M g n ∧ g.length = i ∧ ∃ x z, H' p = some (WellL x b0 z)) ⟨[], [], ⟨Same.kp (same_upd hD), upd_same, rfl, (fun j l r e => by cases e), (fun r hr => by cases hr)⟩, rfl, _, _, (same_upd hD) _ _ hp1⟩ ?_ ?_
      · rintro i H2 hi ⟨M, g, R, lg, x0, z0, w2⟩
        refine ⟨rfl, ?_⟩
        refine ⟨_, rfl, _, rfl, by omega, by omega, fun D2 hD2 => ?_⟩
        have nD2p : D2 ≠ p := fun e => by rw [e, w2] at hD2; cases hD2
        refine lc_range (lo := 0) (n := n) (fun j H' => ∃ r : List (Option Nat), Kp p H2 H' ∧ (∃ x z, H' p = some (WellL x b0 z)) ∧ r.length = j ∧ (∀ o ∈ r, DotOk o) ∧ H' D2 = some (.lst (r.map vG))) ⟨[], Same.kp (same_upd hD2), ⟨_, _, (same_upd hD2) _ _ w2⟩, rfl, (fun o ho => by cases ho), upd_same⟩ ?_ ?_
        · rintro j H3 hj ⟨r, k3, ⟨x3, z3, w3⟩, lr, dr, g3⟩
          refine ⟨rfl, ?_⟩
          refine ⟨_, rfl, (by show 4 ≤ sizeLine; decide), fun l4 hl4 => ?_⟩
          have np4 := ne_of_none w3 hl4
          have nD4 : D2 ≠ l4 := ne_of_none g3 hl4
          refine ⟨p, l4, x3, b0, z3, _, rfl, np4, (same_upd hl4) _ _ w3, upd_same, (by show 0 < 4; decide), (by show 4 ≤ 1000; decide), fun i4 v4 x4 z4 hv4 => ?_⟩
          obtain ⟨o, ho, rfl⟩ : ∃ o, DotOk o ∧ v4 = vG o := by
            have hm := List.mem_of_getElem? hv4
            simp at hm
            rcases hm with rfl | rfl | rfl
            · exact ⟨some 0, .inr (.inl rfl), rfl⟩
            · exact ⟨some 1, .inr (.inr rfl), rfl⟩
            · exact ⟨none, .inl rfl, rfl⟩
          have k4 : Kp p H3 (upd (upd H3 l4 (.lst [.int 0, .int 1, .int 1, .non])) p (WellL x4 b0 z4)) := (Same.kp (same_upd hl4)).trans Kp.upd
          refine ⟨_, k4 _ _ g3 nD2p, ?_, r ++ [o], ?_, ⟨x4, z4, ?_⟩, by rw [List.length_append, lr]; rfl, ?_, ?_⟩
          · rw [List.length_map, lr]
            exact small1000 (by omega)
          · intro c0 o0 hc n0
            rw [upd_ne (ne_of_none hc hD2)]
            exact k4 _ _ (k3 _ _ hc n0) n0
          · rw [upd_ne nD2p.symm]
            exact upd_same
          · intro o' ho'
            rcases List.mem_append.mp ho' with h | h
            · exact dr o' h
            · rw [List.mem_singleton.mp h]
              exact ho
          · rw [upd_same, List.map_append]
            rfl
        · rintro H3 ⟨r, k3, ⟨x3, z3, w3⟩, lr, dr, g3⟩
          have nDD : D2 ≠ D := fun e => by rw [e, R.out] at hD2; cases hD2
          refine ⟨_, k3 _ _ R.out nDp, ?_, M ++ [D2], g ++ [r], ⟨?_, ?_, ?_, ?_, ?_⟩, by rw [List.length_append, lg]; rfl, x3, z3, ?_⟩
          · rw [List.length_map, R.len, lg]
            exact small1000 (by omega)
          · intro c0 o0 hc n0
            rw [upd_ne (ne_of_none hc hD)]
            exact k3 _ _ (R.kp _ _ hc n0) n0
          · rw [upd_same, List.map_append]
            rfl
          · rw [List.length_append, List.length_append, R.len]
            rfl
          · intro j l0 r0 e1 e2
            by_cases cj : j < M.length
            · rw [List.getElem?_append_left cj] at e1
              rw [List.getElem?_append_left (by rw [← R.len]; exact cj)] at e2
              obtain ⟨q1, q2⟩ := R.row j l0 r0 e1 e2
              have nl : l0 ≠ p := fun e => by
                rw [e, w2] at q1
                have h3 := congrArg List.length (HO.lst.inj (Option.some.inj q1))
                rw [List.length_map, (R.sq r0 (List.mem_of_getElem? e2)).1] at h3
                have : 3 = n := h3
                omega
              exact ⟨by rw [upd_ne q2]; exact k3 _ _ q1 nl, q2⟩
            · have hl := (List.getElem?_eq_some_iff.mp e1).1
              rw [List.length_append] at hl
              have ej : j = M.length := by simp at hl; omega
              subst ej
              rw [List.getElem?_append_right (Nat.le_refl _), Nat.sub_self] at e1
              rw [List.getElem?_append_right (by rw [← R.len]; exact Nat.le_refl _), ← R.len, Nat.sub_self] at e2
              cases e1
              cases e2
              exact ⟨by rw [upd_ne nDD]; exact g3, nDD⟩
          · intro r0 hr0
            rcases List.mem_append.mp hr0 with h | h
            · exact R.sq r0 h
            · rw [List.mem_singleton.mp h]
              exact ⟨lr, dr⟩
          · rw [upd_ne nDp.symm]
            exact w3
      · rintro H2 ⟨M, g, R, lg, x0, z0, w2⟩
        exact ⟨D, g, rfl, k1.trans R.kp, ⟨x0, z0, w2⟩, ⟨M, .lst R.out, R.len, fun j l r e1 e2 => .lst (R.row j l r e1 e2).1⟩, lg, fun r hr => (R.sq r hr).1, fun r hr => (R.sq r hr).2⟩
    · rintro σ H2 ⟨D, g, rfl, k2, w2, G, hs⟩
      have lg := hs.len
      obtain ⟨L, h1, h2, h3⟩ := G.ex
      refine ⟨fun σ' H' => ∃ S : Addr, σ' = [some (.ref p), some (vN n), some (.ref D), some (.ref S), none, none, none, none, none, none, none, none] ∧ Rdy K p D S g b0 H H', ?_, ?_⟩
      · refine ⟨_, rfl, D, _, true, rfl, h1, fun D3 hD3 => ?_⟩
        refine lc_it (walk_seq (b := true) (K := K) (a := D) (xs := L.map V.ref)) (fun i H' => ∃ M : List Addr, Same H2 H' ∧ H' D3 = some (.lst (M.map V.ref)) ∧ M.length = i ∧ ∀ (j : Nat) (l : Addr) (r : List (Option Nat)), M[j]? = some l → g[j]? = some r → H' l = some (.tup (r.map vG))) ⟨[], same_upd hD3, upd_same, rfl, fun j l r e => by cases e⟩ (fun i H' _ ⟨_, sm, _⟩ => Same.sqb sm h1) ?_ ?_
        · rintro i v H3 H4 hi ⟨M, sm, out, lM, rw0⟩ ⟨rfl, e2⟩
          obtain ⟨l0, r, rfl, er, hq⟩ := grow h2 h3 hi e2
          rw [List.length_map] at hi
          refine ⟨rfl, ?_⟩
          refine ⟨_, rfl, .inl ⟨l0, _, rfl, Same.sqb (b := true) sm hq, fun c hc => ?_⟩⟩
          have s4 := same_upd (o := .tup (r.map vG)) hc
          have ncD : c ≠ D3 := fun e => by rw [e, out] at hc; cases hc
          refine ⟨_, s4 _ _ out, ?_, M ++ [c], ?_, ?_, by rw [List.length_append, lM]; rfl, ?_⟩
          · rw [List.length_map, lM]
            exact small1000 (by omega)
          · intro c0 o0 h0
            rw [upd_ne (ne_of_none h0 hD3)]
            exact s4 _ _ (sm _ _ h0)
          · rw [upd_same, List.map_append]
            rfl
          · intro j l1 r1 e1 e3
            by_cases cj : j < i
            · rw [List.getElem?_append_left (by rw [lM]; exact cj)] at e1
              have q1 := rw0 j l1 r1 e1 e3
              rw [upd_ne (fun e => by rw [e, out] at q1; cases q1)]
              exact s4 _ _ q1
            · have hl := (List.getElem?_eq_some_iff.mp e1).1
              rw [List.length_append, lM] at hl
              have ej : j = i := by simp at hl; omega
              subst ej
              rw [List.getElem?_append_right (by rw [lM]; exact Nat.le_refl _), lM, Nat.sub_self] at e1
              cases e1
              rw [er] at e3
              cases e3
              rw [upd_ne ncD]
              exact upd_same
        · rintro H3 ⟨M, sm, out, lM, rw0⟩
          refine .inl ⟨D3, _, rfl, .inl (.inl out), fun S hS => ?_⟩
          have s4 := same_upd (o := .tup (M.map V.ref)) hS
          have sA := sm.trans s4
          refine ⟨S, rfl, k2.trans (Same.kp sA), ?_, G.same sA, ⟨M, .tup upd_same, ?_, fun j l r e1 e3 => .tup (s4 _ _ (rw0 j l r e1 e3))⟩⟩
          · obtain ⟨x, z, w⟩ := w2
            exact ⟨x, z, sA _ _ w⟩
          · rw [lM, List.length_map, h2]
      · clear h1 h2 h3 L G k2 w2
        rintro σ H3 ⟨S, rfl, R3⟩
        refine ⟨fun σ' H' => ∃ z4 z5 : Option V, σ' = [some (.ref p), some (vN n), some (.ref D), some (.ref S), z4, z5, none, none, none, none, none, none] ∧ Rdy K p D S g b0 H H', ?_, ?_⟩
        · obtain ⟨x3, z3, w3⟩ := R3.well
          refine ⟨_, rfl, _, rfl, _, _, rfl, rfl, ⟨by decide, by decide, by decide⟩, _, _, rfl, rfl, _, rfl, p, x3, b0, z3, 99, rfl, w3, by decide, by decide, fun m x' z' m0 m1 => ⟨_, _, rfl, rfl, (by show 9 ≤ sizeLine; decide), fun lq hlq => ?_⟩⟩
          have R4 : Rdy K p D S g b0 H (upd H3 p (WellL x' b0 z')) := R3.put hs nn.1
          refine ⟨lq, rfl, ⟨_, .inl (.inl upd_same)⟩, ?_⟩
          refine for_it (walk_list (K := K) (a := lq) (xs := ([0, 1, 2, 3, 4, -1, -6, (10 : Int) ^ (20 : Int).toNat + 1, m - 50] : List Int).map V.int)) (fun i σ H' => (∃ z4 z5 : Option V, σ = [some (.ref p), some (vN n), some (.ref D), some (.ref S), z4, z5, none, none, none, none, none, none]) ∧ Rdy K p D S g b0 H H' ∧ H' lq = some (.lst (([0, 1, 2, 3, 4, -1, -6, (10 : Int) ^ (20 : Int).toNat + 1, m - 50] : List Int).map V.int)))
            ⟨⟨_, _, rfl⟩, R4.same (same_upd hlq), upd_same⟩ (fun i σ H' _ h => .inl (.inl h.2.2)) ?_ ?_
          · rintro i v σ H5 H6 hi ⟨⟨z4, z5, rfl⟩, R5, g5⟩ ⟨rfl, e2⟩
            obtain ⟨t, rfl⟩ : ∃ t, v = V.int t := by
              obtain ⟨t, _, e⟩ := List.mem_map.mp (List.mem_of_getElem? e2)
              exact ⟨t, e.symm⟩
            clear e2 hi
            have t0 := Int.emod_nonneg t (show (4 : Int) ≠ 0 by decide)
            have t1 := Int.emod_lt_of_pos t (show (0 : Int) < 4 by decide)
            obtain ⟨u, hu⟩ : ∃ u : Nat, t % 4 = (u : Int) := ⟨(t % 4).toNat, by omega⟩
            have hu4 : u < 4 := by omega
            refine ⟨_, rfl, _, rfl, .inl ⟨_, rfl, _, _, rfl, rfl, (show (0 : Int) < 4 by decide), (by show 2 ≤ sizeLine; decide), fun tp htp => ?_⟩⟩
            have eV : V.int (t % 4) = vN u := by rw [hu]; rfl
            have R6 := R5.same (same_upd (o := .tup [.int (t % 4), .bl false]) htp)
            have g6 := (same_upd (o := .tup [.int (t % 4), .bl false]) htp) _ _ g5
            refine ⟨n, D, tp, g, u, false, rfl, R6.rows, hs, nn.2, .inl (.inl (upd_same.trans (congrArg (fun z => some (HO.tup [z, V.bl false])) eV))), hu4, fun Du H7 F7 => ?_⟩
            have R7 := R6.same F7.same0
            have g7 := F7.same0 _ _ g6
            refine ⟨_, rfl, _, rfl, n, D, true, g, t, rfl, hn, R7.rows, hs, fun E1 H8 F8 => ?_⟩
            have eT : (t % 4).toNat = u := by omega
            rw [eT] at F8
            refine ⟨_, rfl, dGr (rotK u g), dGr (rotK u g), F8.gr.dp, (F7.ext F8.same0).gr.dp, dGr_shaped _, dGr_shaped _, _, rfl, ?_⟩
            rw [dGr_eq]
            refine iteF ?_
            have R8 := R7.same F8.same0
            have g8 := F8.same0 _ _ g7
            refine ⟨_, rfl, _, rfl, rfl, n, S, false, g, t, rfl, hn, R8.sheet, hs, fun E2 H9 F9 => ?_⟩
            rw [eT] at F9
            refine ⟨_, rfl, dGr (rotK u g), dGr (rotK u g), F9.gr.dp, (F7.ext (F8.same0.trans F9.same0)).gr.dp, dGr_shaped _, dGr_shaped _, _, rfl, ?_⟩
            rw [dGr_eq]
            exact iteF ⟨⟨_, _, rfl⟩, R8.same F9.same0, F9.same0 _ _ g8⟩
          · rintro σ H5 ⟨⟨z4, z5, rfl⟩, R5, g5⟩
            exact ⟨_, _, rfl, R5⟩
        · clear R3 H3
          rintro σ H3 ⟨z4, z5, rfl, R3⟩
          refine ⟨fun σ' H' => σ' = [some (.ref p), some (vN n), some (.ref D), some (.ref S), z4, z5, none, none, none, none, none, none] ∧ Rdy K p D S g b0 H H', ?_, ?_⟩
          · refine ⟨_, rfl, n, D, true, g, rfl, hn, R3.rows, hs, fun E1 H4 F4 => ?_⟩
            have R4 := R3.same F4.same0
            refine rev_comp R4.rows hs nn.2 fun E2 H5 F5 => ?_
            refine ⟨dGr (mir g), dGr (mir g), (F4.ext F5.same0).gr.dp, F5.gr.dp, dGr_shaped _, dGr_shaped _, _, rfl, ?_⟩
            rw [dGr_eq]
            have R5 := R4.same F5.same0
            refine iteF ⟨_, rfl, rfl, n, S, false, g, rfl, hn, R5.sheet, hs, fun E3 H6 F6 => ?_⟩
            have R6 := R5.same F6.same0
            refine rev_comp R6.rows hs nn.2 fun E4 H7 F7 => ?_
            refine ⟨dGr (mir g), dGr (mir g), (F6.ext F7.same0).gr.dp, F7.gr.dp, dGr_shaped _, dGr_shaped _, _, rfl, ?_⟩
            rw [dGr_eq]
            exact iteF ⟨rfl, R6.same F7.same0⟩
          · clear R3 H3
            rintro σ H3 ⟨rfl, R3⟩
            refine ⟨fun σ' H' => ∃ z4 z5 z6 z7 : Option V, σ' = [some (.ref p), some (vN n), some (.ref D), some (.ref S), z4, z5, z6, z7, none, none, none, none] ∧ Rdy K p D S g b0 H H', ?_, ?_⟩
            · refine ⟨4, rfl, by decide, by decide, ?_⟩
              refine for_range (lo := 0) (n := 4) (fun i σ H' => ∃ z4 z5 z6 z7 : Option V, σ = [some (.ref p), some (vN n), some (.ref D), some (.ref S), z4, z5, z6, z7, none, none, none, none] ∧ Rdy K p D S g b0 H H') ⟨_, _, _, _, rfl, R3⟩ ?_ ?_
              · clear R3 H3 z4 z5
                rintro t σ H3 ht ⟨z4, z5, z6, z7, rfl, R3⟩
                refine ⟨(by show 2 ≤ sizeLine; decide), fun tf htf => ?_⟩
                have sf := same_upd (o := .tup [.bl false, .bl true]) htf
                refine ⟨tf, _, false, rfl, .tup upd_same, ?_⟩
                refine for_it (walk_seq (b := false) (K := K) (a := tf) (xs := [.bl false, .bl true])) (fun i σ H' => ∃ z5 z6 z7 : Option V, σ = [some (.ref p), some (vN n), some (.ref D), some (.ref S), some (.int (0 + (t : Int))), z5, z6, z7, none, none, none, none] ∧ Rdy K p D S g b0 H H' ∧ H' tf = some (.tup [.bl false, .bl true]))
                  ⟨_, _, _, rfl, R3.same sf, upd_same⟩ (fun i σ H' _ ⟨_, _, _, _, _, h⟩ => .tup h) ?_ ?_
                · rintro i v σ H4 H5 hi ⟨z5, z6, z7, rfl, R5, g5⟩ ⟨rfl, e2⟩
                  obtain ⟨f, rfl⟩ : ∃ f, v = V.bl f := by
                    have hm := List.mem_of_getElem? e2
                    simp at hm
                    rcases hm with rfl | rfl
                    · exact ⟨_, rfl⟩
                    · exact ⟨_, rfl⟩
                  clear e2 hi
                  have eT : ∀ {H0 : Hp} {tp : Addr}, (upd H0 tp (.tup [.int (0 + (t : Int)), .bl f])) tp = some (HO.tup [vN t, V.bl f]) := fun {H0 tp} => by
                    rw [upd_same]
                    exact congrArg (fun z => some (HO.tup [V.int z, V.bl f])) (Int.zero_add _)
                  refine ⟨_, rfl, _, rfl, _, rfl, (by show 2 ≤ sizeLine; decide), fun t1 ht1 => ?_⟩
                  have s1 := same_upd (o := .tup [.int (0 + (t : Int)), .bl f]) ht1
                  refine ⟨n, D, t1, g, t, f, rfl, R5.rows.same s1, hs, nn.2, .inl (.inl eT), ht, fun Du H7 F7 => ?_⟩
                  refine ⟨_, rfl, _, rfl, _, rfl, (by show 2 ≤ sizeLine; decide), fun t2 ht2 => ?_⟩
                  have s2 := same_upd (o := .tup [.int (0 + (t : Int)), .bl f]) ht2
                  have s17 := s1.trans F7.same0
                  have s12 := s17.trans s2
                  refine ⟨n, D, t2, g, t, f, rfl, R5.rows.same s12, hs, nn.2, .inl (.inl eT), ht, fun Db H9 F9 => ?_⟩
                  have s59 := s12.trans F9.same0
                  have R9 := R5.same s59
                  have g9 := s59 _ _ g5
                  have U9 : Fr _ H9 Du (posedG g t f) := F7.ext (s2.trans F9.same0)
                  have B9 : Fr _ H9 Db (unposedG g t f) := F9
                  clear s1 s2 s17 s12 s59 R5 g5 ht1 ht2
                  refine ⟨_, _, rfl, ?_⟩
                  refine ⟨_, rfl, _, rfl, _, rfl, (by show 2 ≤ sizeLine; decide), fun t3 ht3 => ?_⟩
                  have s3 := same_upd (o := .tup [.int (0 + (t : Int)), .bl f]) ht3
                  refine ⟨n, D, t3, true, g, t, f, rfl, hn, R9.rows.same s3, hs, .inl (.inl eT), ht, fun E1 H10 F10 => ?_⟩
                  have s910 := s3.trans F10.same0
                  refine ⟨_, rfl, dGr (posedG g t f), dGr (posedG g t f), F10.gr.dp, (U9.ext s910).gr.dp, dGr_shaped _, dGr_shaped _, _, rfl, ?_⟩
                  rw [dGr_eq]
                  refine iteF ?_
                  refine ⟨_, rfl, _, rfl, (by show 2 ≤ sizeLine; decide), fun t4 ht4 => ?_⟩
                  have s4 := same_upd (o := .tup [.int (0 + (t : Int)), .bl f]) ht4
                  refine ⟨_, rfl, rfl, n, S, t4, false, g, t, f, rfl, hn, R9.sheet.same (s910.trans s4), hs, .inl (.inl eT), ht, fun E2 H11 F11 => ?_⟩
                  have s911 := (s910.trans s4).trans F11.same0
                  refine ⟨_, rfl, dGr (posedG g t f), dGr (posedG g t f), F11.gr.dp, (U9.ext s911).gr.dp, dGr_shaped _, dGr_shaped _, _, rfl, ?_⟩
                  rw [dGr_eq]
                  refine iteF ?_
                  have R11 := R9.same s911
                  have g11 := s911 _ _ g9
                  have U11 := U9.ext s911
                  have B11 := B9.ext s911
                  clear s3 s4 s910 s911 R9 g9 U9 B9 ht3 ht4
                  refine ⟨_, rfl, _, rfl, _, rfl, (by show 2 ≤ sizeLine; decide), fun t5 ht5 => ?_⟩
                  have s5 := same_upd (o := .tup [.int (0 + (t : Int)), .bl f]) ht5
                  refine ⟨n, D, t5, true, g, t, f, rfl, hn, R11.rows.same s5, hs, .inl (.inl eT), ht, fun E3 H12 F12 => ?_⟩
                  have s1112 := s5.trans F12.same0
                  refine ⟨_, rfl, dGr (unposedG g t f), dGr (unposedG g t f), F12.gr.dp, (B11.ext s1112).gr.dp, dGr_shaped _, dGr_shaped _, _, rfl, ?_⟩
                  rw [dGr_eq]
                  refine iteF ?_
                  refine ⟨_, rfl, _, rfl, (by show 2 ≤ sizeLine; decide), fun t6 ht6 => ?_⟩
                  have s6 := same_upd (o := .tup [.int (0 + (t : Int)), .bl f]) ht6
                  refine ⟨_, rfl, rfl, n, S, t6, false, g, t, f, rfl, hn, R11.sheet.same (s1112.trans s6), hs, .inl (.inl eT), ht, fun E4 H13 F13 => ?_⟩
                  have s1113 := (s1112.trans s6).trans F13.same0
                  refine ⟨_, rfl, dGr (unposedG g t f), dGr (unposedG g t f), F13.gr.dp, (B11.ext s1113).gr.dp, dGr_shaped _, dGr_shaped _, _, rfl, ?_⟩
                  rw [dGr_eq]
                  refine iteF ?_
                  have R13 := R11.same s1113
                  have g13 := s1113 _ _ g11
                  have U13 := U11.ext s1113
                  have B13 := B11.ext s1113
                  clear s5 s6 s1112 s1113 R11 g11 U11 B11 ht5 ht6
                  refine ⟨_, rfl, _, rfl, _, rfl, (by show 2 ≤ sizeLine; decide), fun t7 ht7 => ?_⟩
                  have s7 := same_upd (o := .tup [.int (0 + (t : Int)), .bl f]) ht7
                  refine ⟨n, Du, t7, true, posedG g t f, t, f, rfl, hn, U13.gr.same s7, posed_sq hs, .inl (.inl eT), ht, fun E5 H14 F14 => ?_⟩
                  rw [unposed_posed hs ht] at F14
                  have s1314 := s7.trans F14.same0
                  refine ⟨_, rfl, dGr g, dGr g, F14.gr.dp, (R13.rows.same s1314).dp, dGr_shaped _, dGr_shaped _, _, rfl, ?_⟩
                  rw [dGr_eq]
                  refine iteF ?_
                  refine ⟨_, rfl, _, rfl, _, rfl, (by show 2 ≤ sizeLine; decide), fun t8 ht8 => ?_⟩
                  have s8 := same_upd (o := .tup [.int (0 + (t : Int)), .bl f]) ht8
                  refine ⟨n, Db, t8, true, unposedG g t f, t, f, rfl, hn, B13.gr.same (s1314.trans s8), unposed_sq hs, .inl (.inl eT), ht, fun E6 H15 F15 => ?_⟩
                  rw [posed_unposed hs ht] at F15
                  have s1315 := (s1314.trans s8).trans F15.same0
                  refine ⟨_, rfl, dGr g, dGr g, F15.gr.dp, (R13.rows.same s1315).dp, dGr_shaped _, dGr_shaped _, _, rfl, ?_⟩
                  rw [dGr_eq]
                  exact iteF ⟨_, _, _, rfl, R13.same s1315, s1315 _ _ g13⟩
                · rintro σ H4 ⟨z5, z6, z7, rfl, R5, g5⟩
                  exact ⟨_, _, _, _, rfl, R5⟩
              · rintro σ H4 ⟨z4, z5, z6, z7, rfl, R5⟩
                exact ⟨_, _, _, _, rfl, R5⟩
            · clear R3 H3 z4 z5
              rintro σ H3 ⟨z4, z5, z6, z7, rfl, R3⟩
              refine ⟨fun σ' H' => ∃ z8 : Option V, σ' = [some (.ref p), some (vN n), some (.ref D), some (.ref S), z4, z5, z6, z7, z8, none, none, none] ∧ Rdy K p D S g b0 H H', ?_, ?_⟩
              · have n0 : 0 < g.length := by omega
                have D0 : Sd H3 H3 [] := ⟨Same.refl _, (fun q hq => by cases hq), .nil⟩
                refine ⟨_, rfl, n, D, true, g, 0, rfl, hn, R3.rows, hs, fun A0 H4 F0 => ?_⟩
                obtain ⟨B0, D1⟩ := D0.add (g := g) F0 n0 (by omega)
                refine ⟨_, rfl, n, D, true, g, rfl, hn, R3.rows.same D1.same, hs, fun A1 H5 F1 => ?_⟩
                obtain ⟨B1, D2⟩ := D1.add F1 (by rw [(mir_sq hs).len]; omega) (by rw [(mir_sq hs).len]; omega)
                refine ⟨_, rfl, (by show 2 ≤ sizeLine; decide), fun t1 ht1 => ?_⟩
                have s1 := same_upd (o := .tup [.int 0, .bl false]) ht1
                have D3 := D2.ext s1
                refine ⟨n, D, t1, true, g, 0, false, rfl, hn, R3.rows.same D3.same, hs, .inl (.inl upd_same), by decide, fun A2 H6 F2 => ?_⟩
                obtain ⟨B2, D4⟩ := D3.add (g := g) F2 n0 (by omega)
                refine ⟨_, rfl, (by show 2 ≤ sizeLine; decide), fun t2 ht2 => ?_⟩
                have s2 := same_upd (o := .tup [.int 0, .bl false]) ht2
                have D5 := D4.ext s2
                refine ⟨n, D, t2, true, g, 0, false, rfl, hn, R3.rows.same D5.same, hs, .inl (.inl upd_same), by decide, fun A3 H7 F3 => ?_⟩
                obtain ⟨B3, D6⟩ := D5.add (g := g) F3 n0 (by omega)
                refine ⟨(by show 4 ≤ sizeLine; decide), fun lq hlq => ?_⟩
                have D7 := D6.ext (same_upd (o := .lst [.ref A0, .ref A1, .ref A2, .ref A3]) hlq)
                have gq := upd_same (H := H7) (a := lq) (o := .lst [.ref A0, .ref A1, .ref A2, .ref A3])
                have nq := D6.not_new hlq
                generalize (upd H7 lq (.lst [.ref A0, .ref A1, .ref A2, .ref A3])) = H8 at D7 gq ⊢
                clear D0 D1 D2 D3 D4 D5 D6 F0 F1 F2 F3 s1 s2
                obtain ⟨As, eAs⟩ : ∃ As : List (Addr × Addr), As = ((([] ++ [(A0, B0)]) ++ [(A1, B1)]) ++ [(A2, B2)]) ++ [(A3, B3)] := ⟨_, rfl⟩
                rw [← eAs] at D7 nq
                have eL : ([.ref A0, .ref A1, .ref A2, .ref A3] : List V) = As.map fun q => .ref q.1 := by rw [eAs]; rfl
                refine ⟨lq, rfl, ⟨_, .inl (.inl gq)⟩, ?_⟩
                rw [eL] at gq
                clear eL eAs
                refine for_it (walk_list (K := K) (a := lq) (xs := As.map fun q => V.ref q.1)) (fun i σ H' => (∃ z8 : Option V, σ = [some (.ref p), some (vN n), some (.ref D), some (.ref S), z4, z5, z6, z7, z8, none, none, none]) ∧ ∀ c o, H8 c = some o → (∀ q ∈ As.take i, c ≠ q.1 ∧ c ≠ q.2) → H' c = some o)
                  ⟨⟨_, rfl⟩, fun c o h _ => h⟩ (fun i σ H' _ h => .inl (.inl (h.2 _ _ gq fun q hq => nq q (List.mem_of_mem_take hq)))) ?_ ?_
                · rintro i v σ H9 H10 hi ⟨⟨z8, rfl⟩, k9⟩ ⟨rfl, e2⟩
                  rw [List.length_map] at hi
                  have e1 : As[i]? = some As[i] := List.getElem?_eq_getElem hi
                  rw [List.getElem?_map, e1] at e2
                  obtain rfl := (Option.some.inj e2).symm
                  obtain ⟨_, _, ne, xs, ys, gA, gB, lxs⟩ := D7.each As[i] (List.getElem_mem hi)
                  have fr := D7.take_apart hi
                  have gA' := k9 _ _ gA fun q hq => ⟨(fr q hq).1, (fr q hq).2.1⟩
                  have gB' := k9 _ _ gB fun q hq => ⟨(fr q hq).2.2.1, (fr q hq).2.2.2⟩
                  refine ⟨_, rfl, As[i].1, _, 0, .ref As[i].2, rfl, rfl, .inl (.inl gA'), atI_nat (j := 0) rfl, .inl ⟨rfl, _, .inl (.inl gB')⟩, As[i].2, ys, rfl, rfl, gB', ?_⟩
                  have gA2 : (upd H10 As[i].2 (.lst [])) As[i].1 = some (.lst (V.ref As[i].2 :: xs)) := by
                    rw [upd_ne ne.symm]
                    exact gA'
                  refine ⟨_, rfl, .inl ⟨rfl, _, .inl (.inl gA2)⟩, As[i].1, _, .non, rfl, rfl, gA2, ?_, ⟨_, rfl⟩, fun c o hc hq => ?_⟩
                  · rw [List.length_cons]
                    exact small1000 (by omega)
                  · have mem : As[i] ∈ As.take (i + 1) := by
                      rw [List.take_succ, e1]
                      exact List.mem_append.mpr (.inr (by simp))
                    obtain ⟨c1, c2⟩ := hq _ mem
                    rw [upd_ne c1, upd_ne c2]
                    exact k9 _ _ hc fun q hq2 => hq q (by rw [List.take_succ]; exact List.mem_append.mpr (.inl hq2))
                · rintro σ H9 ⟨⟨z8, rfl⟩, k9⟩
                  refine ⟨_, rfl, R3.same fun c o hc => k9 _ _ (D7.same _ _ hc) fun q hq => ?_⟩
                  obtain ⟨m1, m2, _⟩ := D7.each q (List.mem_of_mem_take hq)
                  exact ⟨ne_of_none hc m1, ne_of_none hc m2⟩
              · clear R3 H3
                rintro σ H3 ⟨z8, rfl, R3⟩
                obtain ⟨L, h1, h2, h3⟩ := R3.sheet.ex
                refine ⟨_, rfl, S, _, false, rfl, h1, fun D2 hD2 => ?_⟩
                refine lc_it (walk_seq (b := false) (K := K) (a := S) (xs := L.map V.ref)) (fun i H' => ∃ M, FrI H3 H' D2 M g i) ⟨[], FrI.start hD2⟩ (fun i H' _ ⟨_, F⟩ => Same.sqb F.same h1) ?_ ?_
                · rintro i v H4 H5 hi ⟨M, F⟩ ⟨rfl, e2⟩
                  obtain ⟨l0, r, rfl, er, hq⟩ := grow h2 h3 hi e2
                  rw [List.length_map] at hi
                  refine ⟨rfl, ?_⟩
                  refine ⟨_, rfl, l0, _, rfl, (Same.sqb F.same hq).or, fun c hc => ?_⟩
                  have s4 := same_upd (o := .lst (r.map vG)) hc
                  refine ⟨_, s4 _ _ F.out, ?_, M ++ [c], F.step hD2 er s4 hc upd_same⟩
                  rw [List.length_map, F.len]
                  exact small1000 (by omega)
                · rintro H4 ⟨M, F⟩
                  have F1 : Fr H3 H4 D2 g := ⟨hD2, M, by rw [← h2, ← List.length_map (f := V.ref)]; exact F⟩
                  have R4 := R3.same F1.same0
                  obtain ⟨x4, z4', w4⟩ := R4.well
                  refine ⟨_, rfl, dGr g, dGr g, F1.gr.dp, R4.rows.dp, dGr_shaped _, dGr_shaped _, ?_⟩
                  rw [dGr_eq]
                  exact q _ _ _ R4.kp w4
/-! CUT -/
def sp_law (K : PySem.W.Frag) : Sp := fun vs H Q _ => ∃ (a : Addr) (ns : List Int), vs = [.ref a] ∧ SqL K H a (ns.map V.int) ∧ ns.length ≤ 63 ∧ ∀ H', Q (.bl true) H'
theorem ok_law (T : Txt K mg) : FnOk P w K mg base CX0 7 T.f_law T.d_law ["_law_script"] (sp_law K) := by
  refine T.F_law.ok sc_law (fun vs H Q E h => ?_) (fun cdv A outer s H vs Q E hr h => ?_)
  · obtain ⟨a, ns, rfl, _⟩ := h
    rfl
  · obtain ⟨a, ns, rfl, hS, hlen, q⟩ := h
    refine ⟨_, (pss_cons (ps_for PassesOwn.never rfl (pi_range1 (by rfl) T.n_range (pa_cons (pe_callB (call_max2 rfl) (by rfl) T.n_max (by decide +kernel) (pa_cons pe_int (pa_cons (pe_callB (call_min2 rfl) (by rfl) T.n_min (by decide +kernel) (pa_cons pe_int (pa_cons (pe_callB call_len_seq (by rfl) T.n_len (by decide +kernel) (pa_cons (pv 0) pa_nil)) pa_nil))) pa_nil))) pa_nil)) (pg_name (i := 1) sc_law.nd rfl (.inl rfl)) (pss_one (ps_if (pt_not (pt_val (pe_call (ok__law_right T) (hr.mono (by decide)) (by rfl) T.g__law_right T.F__law_right.kp T.b__law_right .nil pass0 (pa_cons (pe_call (ok__law_source T) (hr.mono (by decide)) (by rfl) T.g__law_source T.F__law_source.kp T.b__law_source .nil pass0 (pa_cons (pv 0) (pa_cons (pv 1) pa_nil))) pa_nil)))) (pss_one (ps_ret pe_bl)) pss_nil)))
      (pss_one (ps_ret pe_bl))), ?_⟩
    refine ⟨_, rfl, a, _, rfl, .inl hS, ?_⟩
    rw [List.length_map]
    refine ⟨_, _, rfl, _, _, rfl, ?_⟩
    obtain ⟨m, hm⟩ : ∃ m : Nat, (if (if ((ns.length : Nat) : Int) < 4 then ((ns.length : Nat) : Int) else 4) > 1 then (if ((ns.length : Nat) : Int) < 4 then ((ns.length : Nat) : Int) else 4) else 1) = (m : Int) ∧ m ≤ 4 := by
      refine ⟨max 1 (min 4 ns.length), ?_, by omega⟩
      split <;> split at * <;> omega
    obtain ⟨hm1, hm2⟩ := hm
    refine ⟨(m : Int), congrArg (fun z => [V.int z]) hm1, by omega, by omega, ?_⟩
    refine for_range (lo := 0) (n := m) (fun i σ H' => ∃ z1 : Option V, σ = [some (.ref a), z1] ∧ Same H H') ⟨_, rfl, Same.refl _⟩ ?_ ?_
    · rintro i σ H1 hi ⟨z1, rfl, s1⟩
      refine ⟨_, rfl, _, rfl, a, ns, i, congrArg (fun z => [V.ref a, V.int z]) (Int.zero_add _), s1.seq hS, hlen, fun p x y z H2 s2 n2 w2 => ?_⟩
      refine ⟨p, x, y, z, rfl, w2, fun x' z' H3 k3 w3 => ⟨_, rfl, iteF ⟨_, rfl, fun c o hc => ?_⟩⟩⟩
      have hc1 := s1 _ _ hc
      exact k3 _ _ (s2 _ _ hc1) (ne_of_none hc1 n2)
    · rintro σ H1 ⟨z1, rfl, s1⟩
      exact q H1
/-! CUT -/
end
theorem all_mk {P : Program} {w : World} {K : PySem.W.Frag} {h : Heap} {mg : Str → Option Value} {fa : Addr} (X : K.In h) (G : h.Ns mainGlobals mg) (hfa : mg "law" = some (.ref fa))
    {f0 : Addr} {od0 an0 : Option Addr} {sl0 : Array (Option Value)} {oc0 kV0 dc0 pm0 cd0 ct0 : Value}
    (a0 : PySem.W.nsIn K mainGlobals "is_number" = some (some (.ref f0)))
    (l0 : K.lookup f0 = some ⟨oc0, od0, .func (PySem.W.fnOf "is_number" "is_number" (defArgs s_is_number) (defBody s_is_number) (defScope s_is_number) .none kV0 dc0 pm0 an0 cd0 ct0), sl0⟩) (c0 : PySem.W.codeIn K cd0 "is_number" = true) (k0 : PySem.W.keepIn K (.ref f0) = true)
    {f1 : Addr} {od1 an1 : Option Addr} {sl1 : Array (Option Value)} {oc1 kV1 dc1 pm1 cd1 ct1 : Value}
    (a1 : PySem.W.nsIn K mainGlobals "is_number_to" = some (some (.ref f1)))
    (l1 : K.lookup f1 = some ⟨oc1, od1, .func (PySem.W.fnOf "is_number_to" "is_number_to" (defArgs s_is_number_to) (defBody s_is_number_to) (defScope s_is_number_to) .none kV1 dc1 pm1 an1 cd1 ct1), sl1⟩) (c1 : PySem.W.codeIn K cd1 "is_number_to" = true) (k1 : PySem.W.keepIn K (.ref f1) = true)
    {f2 : Addr} {od2 an2 : Option Addr} {sl2 : Array (Option Value)} {oc2 kV2 dc2 pm2 cd2 ct2 : Value}
    (a2 : PySem.W.nsIn K mainGlobals "is_row" = some (some (.ref f2)))
    (l2 : K.lookup f2 = some ⟨oc2, od2, .func (PySem.W.fnOf "is_row" "is_row" (defArgs s_is_row) (defBody s_is_row) (defScope s_is_row) .none kV2 dc2 pm2 an2 cd2 ct2), sl2⟩) (c2 : PySem.W.codeIn K cd2 "is_row" = true) (k2 : PySem.W.keepIn K (.ref f2) = true)
    {f3 : Addr} {od3 an3 : Option Addr} {sl3 : Array (Option Value)} {oc3 kV3 dc3 pm3 cd3 ct3 : Value}
    (a3 : PySem.W.nsIn K mainGlobals "is_plain_grid" = some (some (.ref f3)))
    (l3 : K.lookup f3 = some ⟨oc3, od3, .func (PySem.W.fnOf "is_plain_grid" "is_plain_grid" (defArgs s_is_plain_grid) (defBody s_is_plain_grid) (defScope s_is_plain_grid) .none kV3 dc3 pm3 an3 cd3 ct3), sl3⟩) (c3 : PySem.W.codeIn K cd3 "is_plain_grid" = true) (k3 : PySem.W.keepIn K (.ref f3) = true)
    {f4 : Addr} {od4 an4 : Option Addr} {sl4 : Array (Option Value)} {oc4 kV4 dc4 pm4 cd4 ct4 : Value}
    (a4 : PySem.W.nsIn K mainGlobals "need_dot_rows" = some (some (.ref f4)))
    (l4 : K.lookup f4 = some ⟨oc4, od4, .func (PySem.W.fnOf "need_dot_rows" "need_dot_rows" (defArgs s_need_dot_rows) (defBody s_need_dot_rows) (defScope s_need_dot_rows) .none kV4 dc4 pm4 an4 cd4 ct4), sl4⟩) (c4 : PySem.W.codeIn K cd4 "need_dot_rows" = true) (k4 : PySem.W.keepIn K (.ref f4) = true)
    {f5 : Addr} {od5 an5 : Option Addr} {sl5 : Array (Option Value)} {oc5 kV5 dc5 pm5 cd5 ct5 : Value}
    (a5 : PySem.W.nsIn K mainGlobals "need_grid" = some (some (.ref f5)))
    (l5 : K.lookup f5 = some ⟨oc5, od5, .func (PySem.W.fnOf "need_grid" "need_grid" (defArgs s_need_grid) (defBody s_need_grid) (defScope s_need_grid) .none kV5 dc5 pm5 an5 cd5 ct5), sl5⟩) (c5 : PySem.W.codeIn K cd5 "need_grid" = true) (k5 : PySem.W.keepIn K (.ref f5) = true)
    {f6 : Addr} {od6 an6 : Option Addr} {sl6 : Array (Option Value)} {oc6 kV6 dc6 pm6 cd6 ct6 : Value}
    (a6 : PySem.W.nsIn K mainGlobals "need_any_grid" = some (some (.ref f6)))
    (l6 : K.lookup f6 = some ⟨oc6, od6, .func (PySem.W.fnOf "need_any_grid" "need_any_grid" (defArgs s_need_any_grid) (defBody s_need_any_grid) (defScope s_need_any_grid) .none kV6 dc6 pm6 an6 cd6 ct6), sl6⟩) (c6 : PySem.W.codeIn K cd6 "need_any_grid" = true) (k6 : PySem.W.keepIn K (.ref f6) = true)
    {f7 : Addr} {od7 an7 : Option Addr} {sl7 : Array (Option Value)} {oc7 kV7 dc7 pm7 cd7 ct7 : Value}
    (a7 : PySem.W.nsIn K mainGlobals "is_pose" = some (some (.ref f7)))
    (l7 : K.lookup f7 = some ⟨oc7, od7, .func (PySem.W.fnOf "is_pose" "is_pose" (defArgs s_is_pose) (defBody s_is_pose) (defScope s_is_pose) .none kV7 dc7 pm7 an7 cd7 ct7), sl7⟩) (c7 : PySem.W.codeIn K cd7 "is_pose" = true) (k7 : PySem.W.keepIn K (.ref f7) = true)
    {f8 : Addr} {od8 an8 : Option Addr} {sl8 : Array (Option Value)} {oc8 kV8 dc8 pm8 cd8 ct8 : Value}
    (a8 : PySem.W.nsIn K mainGlobals "need_pose" = some (some (.ref f8)))
    (l8 : K.lookup f8 = some ⟨oc8, od8, .func (PySem.W.fnOf "need_pose" "need_pose" (defArgs s_need_pose) (defBody s_need_pose) (defScope s_need_pose) .none kV8 dc8 pm8 an8 cd8 ct8), sl8⟩) (c8 : PySem.W.codeIn K cd8 "need_pose" = true) (k8 : PySem.W.keepIn K (.ref f8) = true)
    {f9 : Addr} {od9 an9 : Option Addr} {sl9 : Array (Option Value)} {oc9 kV9 dc9 pm9 cd9 ct9 : Value}
    (a9 : PySem.W.nsIn K mainGlobals "grid_mirrored" = some (some (.ref f9)))
    (l9 : K.lookup f9 = some ⟨oc9, od9, .func (PySem.W.fnOf "grid_mirrored" "grid_mirrored" (defArgs s_grid_mirrored) (defBody s_grid_mirrored) (defScope s_grid_mirrored) .none kV9 dc9 pm9 an9 cd9 ct9), sl9⟩) (c9 : PySem.W.codeIn K cd9 "grid_mirrored" = true) (k9 : PySem.W.keepIn K (.ref f9) = true)
    {f10 : Addr} {od10 an10 : Option Addr} {sl10 : Array (Option Value)} {oc10 kV10 dc10 pm10 cd10 ct10 : Value}
    (a10 : PySem.W.nsIn K mainGlobals "grid_turned" = some (some (.ref f10)))
    (l10 : K.lookup f10 = some ⟨oc10, od10, .func (PySem.W.fnOf "grid_turned" "grid_turned" (defArgs s_grid_turned) (defBody s_grid_turned) (defScope s_grid_turned) .none kV10 dc10 pm10 an10 cd10 ct10), sl10⟩) (c10 : PySem.W.codeIn K cd10 "grid_turned" = true) (k10 : PySem.W.keepIn K (.ref f10) = true)
    {f11 : Addr} {od11 an11 : Option Addr} {sl11 : Array (Option Value)} {oc11 kV11 dc11 pm11 cd11 ct11 : Value}
    (a11 : PySem.W.nsIn K mainGlobals "grid_posed" = some (some (.ref f11)))
    (l11 : K.lookup f11 = some ⟨oc11, od11, .func (PySem.W.fnOf "grid_posed" "grid_posed" (defArgs s_grid_posed) (defBody s_grid_posed) (defScope s_grid_posed) .none kV11 dc11 pm11 an11 cd11 ct11), sl11⟩) (c11 : PySem.W.codeIn K cd11 "grid_posed" = true) (k11 : PySem.W.keepIn K (.ref f11) = true)
    {f12 : Addr} {od12 an12 : Option Addr} {sl12 : Array (Option Value)} {oc12 kV12 dc12 pm12 cd12 ct12 : Value}
    (a12 : PySem.W.nsIn K mainGlobals "grid_unposed" = some (some (.ref f12)))
    (l12 : K.lookup f12 = some ⟨oc12, od12, .func (PySem.W.fnOf "grid_unposed" "grid_unposed" (defArgs s_grid_unposed) (defBody s_grid_unposed) (defScope s_grid_unposed) .none kV12 dc12 pm12 an12 cd12 ct12), sl12⟩) (c12 : PySem.W.codeIn K cd12 "grid_unposed" = true) (k12 : PySem.W.keepIn K (.ref f12) = true)
    {f13 : Addr} {od13 an13 : Option Addr} {sl13 : Array (Option Value)} {oc13 kV13 dc13 pm13 cd13 ct13 : Value}
    (a13 : PySem.W.nsIn K mainGlobals "turned" = some (some (.ref f13)))
    (l13 : K.lookup f13 = some ⟨oc13, od13, .func (PySem.W.fnOf "turned" "turned" (defArgs s_turned) (defBody s_turned) (defScope s_turned) .none kV13 dc13 pm13 an13 cd13 ct13), sl13⟩) (c13 : PySem.W.codeIn K cd13 "turned" = true) (k13 : PySem.W.keepIn K (.ref f13) = true)
    {f14 : Addr} {od14 an14 : Option Addr} {sl14 : Array (Option Value)} {oc14 kV14 dc14 pm14 cd14 ct14 : Value}
    (a14 : PySem.W.nsIn K mainGlobals "mirrored" = some (some (.ref f14)))
    (l14 : K.lookup f14 = some ⟨oc14, od14, .func (PySem.W.fnOf "mirrored" "mirrored" (defArgs s_mirrored) (defBody s_mirrored) (defScope s_mirrored) .none kV14 dc14 pm14 an14 cd14 ct14), sl14⟩) (c14 : PySem.W.codeIn K cd14 "mirrored" = true) (k14 : PySem.W.keepIn K (.ref f14) = true)
    {f15 : Addr} {od15 an15 : Option Addr} {sl15 : Array (Option Value)} {oc15 kV15 dc15 pm15 cd15 ct15 : Value}
    (a15 : PySem.W.nsIn K mainGlobals "posed" = some (some (.ref f15)))
    (l15 : K.lookup f15 = some ⟨oc15, od15, .func (PySem.W.fnOf "posed" "posed" (defArgs s_posed) (defBody s_posed) (defScope s_posed) .none kV15 dc15 pm15 an15 cd15 ct15), sl15⟩) (c15 : PySem.W.codeIn K cd15 "posed" = true) (k15 : PySem.W.keepIn K (.ref f15) = true)
    {f16 : Addr} {od16 an16 : Option Addr} {sl16 : Array (Option Value)} {oc16 kV16 dc16 pm16 cd16 ct16 : Value}
    (a16 : PySem.W.nsIn K mainGlobals "unposed" = some (some (.ref f16)))
    (l16 : K.lookup f16 = some ⟨oc16, od16, .func (PySem.W.fnOf "unposed" "unposed" (defArgs s_unposed) (defBody s_unposed) (defScope s_unposed) .none kV16 dc16 pm16 an16 cd16 ct16), sl16⟩) (c16 : PySem.W.codeIn K cd16 "unposed" = true) (k16 : PySem.W.keepIn K (.ref f16) = true)
    {f17 : Addr} {od17 an17 : Option Addr} {sl17 : Array (Option Value)} {oc17 kV17 dc17 pm17 cd17 ct17 : Value}
    (a17 : PySem.W.nsIn K mainGlobals "_law_mix" = some (some (.ref f17)))
    (l17 : K.lookup f17 = some ⟨oc17, od17, .func (PySem.W.fnOf "_law_mix" "_law_mix" (defArgs s__law_mix) (defBody s__law_mix) (defScope s__law_mix) .none kV17 dc17 pm17 an17 cd17 ct17), sl17⟩) (c17 : PySem.W.codeIn K cd17 "_law_mix" = true) (k17 : PySem.W.keepIn K (.ref f17) = true)
    {f18 : Addr} {od18 an18 : Option Addr} {sl18 : Array (Option Value)} {oc18 kV18 dc18 pm18 cd18 ct18 : Value}
    (a18 : PySem.W.nsIn K mainGlobals "_law_draw" = some (some (.ref f18)))
    (l18 : K.lookup f18 = some ⟨oc18, od18, .func (PySem.W.fnOf "_law_draw" "_law_draw" (defArgs s__law_draw) (defBody s__law_draw) (defScope s__law_draw) .none kV18 dc18 pm18 an18 cd18 ct18), sl18⟩) (c18 : PySem.W.codeIn K cd18 "_law_draw" = true) (k18 : PySem.W.keepIn K (.ref f18) = true)
    {f19 : Addr} {od19 an19 : Option Addr} {sl19 : Array (Option Value)} {oc19 kV19 dc19 pm19 cd19 ct19 : Value}
    (a19 : PySem.W.nsIn K mainGlobals "_law_pick" = some (some (.ref f19)))
    (l19 : K.lookup f19 = some ⟨oc19, od19, .func (PySem.W.fnOf "_law_pick" "_law_pick" (defArgs s__law_pick) (defBody s__law_pick) (defScope s__law_pick) .none kV19 dc19 pm19 an19 cd19 ct19), sl19⟩) (c19 : PySem.W.codeIn K cd19 "_law_pick" = true) (k19 : PySem.W.keepIn K (.ref f19) = true)
    {f20 : Addr} {od20 an20 : Option Addr} {sl20 : Array (Option Value)} {oc20 kV20 dc20 pm20 cd20 ct20 : Value}
    (a20 : PySem.W.nsIn K mainGlobals "_law_source" = some (some (.ref f20)))
    (l20 : K.lookup f20 = some ⟨oc20, od20, .func (PySem.W.fnOf "_law_source" "_law_source" (defArgs s__law_source) (defBody s__law_source) (defScope s__law_source) .none kV20 dc20 pm20 an20 cd20 ct20), sl20⟩) (c20 : PySem.W.codeIn K cd20 "_law_source" = true) (k20 : PySem.W.keepIn K (.ref f20) = true)
    {f21 : Addr} {od21 an21 : Option Addr} {sl21 : Array (Option Value)} {oc21 kV21 dc21 pm21 cd21 ct21 : Value}
    (a21 : PySem.W.nsIn K mainGlobals "_law_turned" = some (some (.ref f21)))
    (l21 : K.lookup f21 = some ⟨oc21, od21, .func (PySem.W.fnOf "_law_turned" "_law_turned" (defArgs s__law_turned) (defBody s__law_turned) (defScope s__law_turned) .none kV21 dc21 pm21 an21 cd21 ct21), sl21⟩) (c21 : PySem.W.codeIn K cd21 "_law_turned" = true) (k21 : PySem.W.keepIn K (.ref f21) = true)
    {f22 : Addr} {od22 an22 : Option Addr} {sl22 : Array (Option Value)} {oc22 kV22 dc22 pm22 cd22 ct22 : Value}
    (a22 : PySem.W.nsIn K mainGlobals "_law_posed" = some (some (.ref f22)))
    (l22 : K.lookup f22 = some ⟨oc22, od22, .func (PySem.W.fnOf "_law_posed" "_law_posed" (defArgs s__law_posed) (defBody s__law_posed) (defScope s__law_posed) .none kV22 dc22 pm22 an22 cd22 ct22), sl22⟩) (c22 : PySem.W.codeIn K cd22 "_law_posed" = true) (k22 : PySem.W.keepIn K (.ref f22) = true)
    {f23 : Addr} {od23 an23 : Option Addr} {sl23 : Array (Option Value)} {oc23 kV23 dc23 pm23 cd23 ct23 : Value}
    (a23 : PySem.W.nsIn K mainGlobals "_law_unposed" = some (some (.ref f23)))
    (l23 : K.lookup f23 = some ⟨oc23, od23, .func (PySem.W.fnOf "_law_unposed" "_law_unposed" (defArgs s__law_unposed) (defBody s__law_unposed) (defScope s__law_unposed) .none kV23 dc23 pm23 an23 cd23 ct23), sl23⟩) (c23 : PySem.W.codeIn K cd23 "_law_unposed" = true) (k23 : PySem.W.keepIn K (.ref f23) = true)
    {f24 : Addr} {od24 an24 : Option Addr} {sl24 : Array (Option Value)} {oc24 kV24 dc24 pm24 cd24 ct24 : Value}
    (a24 : PySem.W.nsIn K mainGlobals "_law_right" = some (some (.ref f24)))
    (l24 : K.lookup f24 = some ⟨oc24, od24, .func (PySem.W.fnOf "_law_right" "_law_right" (defArgs s__law_right) (defBody s__law_right) (defScope s__law_right) .none kV24 dc24 pm24 an24 cd24 ct24), sl24⟩) (c24 : PySem.W.codeIn K cd24 "_law_right" = true) (k24 : PySem.W.keepIn K (.ref f24) = true)
    {f25 : Addr} {od25 an25 : Option Addr} {sl25 : Array (Option Value)} {oc25 kV25 dc25 pm25 cd25 ct25 : Value}
    (a25 : PySem.W.nsIn K mainGlobals "law" = some (some (.ref f25)))
    (l25 : K.lookup f25 = some ⟨oc25, od25, .func (PySem.W.fnOf "law" "law" (defArgs s_law) (defBody s_law) (defScope s_law) .none kV25 dc25 pm25 an25 cd25 ct25), sl25⟩) (c25 : PySem.W.codeIn K cd25 "law" = true) (k25 : PySem.W.keepIn K (.ref f25) = true)
    (z_bool : PySem.W.nsIn K mainGlobals "bool" = some none)
    (z_int : PySem.W.nsIn K mainGlobals "int" = some none)
    (z_isinstance : PySem.W.nsIn K mainGlobals "isinstance" = some none)
    (z_len : PySem.W.nsIn K mainGlobals "len" = some none)
    (z_list : PySem.W.nsIn K mainGlobals "list" = some none)
    (z_max : PySem.W.nsIn K mainGlobals "max" = some none)
    (z_min : PySem.W.nsIn K mainGlobals "min" = some none)
    (z_range : PySem.W.nsIn K mainGlobals "range" = some none)
    (z_tuple : PySem.W.nsIn K mainGlobals "tuple" = some none)
    (z_type : PySem.W.nsIn K mainGlobals "type" = some none)
    (z_zip : PySem.W.nsIn K mainGlobals "zip" = some none)
    {d_SIDES : Addr} (a_SIDES : PySem.W.nsIn K mainGlobals "SIDES" = some (some (.ref d_SIDES))) (t_SIDES : tupB K d_SIDES [8, 12, 16, 20, 24] = true)
    {t_TURNS : Tok} (a_TURNS : PySem.W.nsIn K mainGlobals "TURNS" = some (some (.int 4 t_TURNS)))
    : ∃ fd : FuncData, (∀ (s : Shared) (v : Value), BindsTo s fd ⟨[v], []⟩ [("_law_script", v)]) ∧ ∀ base : Heap, K.In base → base.Ns mainGlobals mg → FnOk P w K mg base CX0 7 fa fd ["_law_script"] (sp_law K) := by
  have e := hfa.symm.trans (PySem.W.mg_of X G a25)
  cases e
  let T : Txt K mg := {
    f_is_number := _
    d_is_number := _
    F_is_number := fun_mk (st := s_is_number) l0 c0 k0
    g_is_number := PySem.W.mg_of X G a0
    b_is_number := (fun_mk (st := s_is_number) l0 c0 k0).binds (ps := ["thing"]) (fun _ _ _ _ _ _ us hl => match us, hl with | [_], _ => rfl)
    f_is_number_to := _
    d_is_number_to := _
    F_is_number_to := fun_mk (st := s_is_number_to) l1 c1 k1
    g_is_number_to := PySem.W.mg_of X G a1
    b_is_number_to := (fun_mk (st := s_is_number_to) l1 c1 k1).binds (ps := ["thing", "least", "most"]) (fun _ _ _ _ _ _ us hl => match us, hl with | [_, _, _], _ => rfl)
    f_is_row := _
    d_is_row := _
    F_is_row := fun_mk (st := s_is_row) l2 c2 k2
    g_is_row := PySem.W.mg_of X G a2
    b_is_row := (fun_mk (st := s_is_row) l2 c2 k2).binds (ps := ["thing"]) (fun _ _ _ _ _ _ us hl => match us, hl with | [_], _ => rfl)
    f_is_plain_grid := _
    d_is_plain_grid := _
    F_is_plain_grid := fun_mk (st := s_is_plain_grid) l3 c3 k3
    g_is_plain_grid := PySem.W.mg_of X G a3
    b_is_plain_grid := (fun_mk (st := s_is_plain_grid) l3 c3 k3).binds (ps := ["many", "grid"]) (fun _ _ _ _ _ _ us hl => match us, hl with | [_, _], _ => rfl)
    f_need_dot_rows := _
    d_need_dot_rows := _
    F_need_dot_rows := fun_mk (st := s_need_dot_rows) l4 c4 k4
    g_need_dot_rows := PySem.W.mg_of X G a4
    b_need_dot_rows := (fun_mk (st := s_need_dot_rows) l4 c4 k4).binds (ps := ["many", "grid", "gapped"]) (fun _ _ _ _ _ _ us hl => match us, hl with | [_, _, _], _ => rfl)
    f_need_grid := _
    d_need_grid := _
    F_need_grid := fun_mk (st := s_need_grid) l5 c5 k5
    g_need_grid := PySem.W.mg_of X G a5
    b_need_grid := (fun_mk (st := s_need_grid) l5 c5 k5).binds (ps := ["size", "grid"]) (fun _ _ _ _ _ _ us hl => match us, hl with | [_, _], _ => rfl)
    f_need_any_grid := _
    d_need_any_grid := _
    F_need_any_grid := fun_mk (st := s_need_any_grid) l6 c6 k6
    g_need_any_grid := PySem.W.mg_of X G a6
    b_need_any_grid := (fun_mk (st := s_need_any_grid) l6 c6 k6).binds (ps := ["grid"]) (fun _ _ _ _ _ _ us hl => match us, hl with | [_], _ => rfl)
    f_is_pose := _
    d_is_pose := _
    F_is_pose := fun_mk (st := s_is_pose) l7 c7 k7
    g_is_pose := PySem.W.mg_of X G a7
    b_is_pose := (fun_mk (st := s_is_pose) l7 c7 k7).binds (ps := ["thing"]) (fun _ _ _ _ _ _ us hl => match us, hl with | [_], _ => rfl)
    f_need_pose := _
    d_need_pose := _
    F_need_pose := fun_mk (st := s_need_pose) l8 c8 k8
    g_need_pose := PySem.W.mg_of X G a8
    b_need_pose := (fun_mk (st := s_need_pose) l8 c8 k8).binds (ps := ["pose"]) (fun _ _ _ _ _ _ us hl => match us, hl with | [_], _ => rfl)
    f_grid_mirrored := _
    d_grid_mirrored := _
    F_grid_mirrored := fun_mk (st := s_grid_mirrored) l9 c9 k9
    g_grid_mirrored := PySem.W.mg_of X G a9
    b_grid_mirrored := (fun_mk (st := s_grid_mirrored) l9 c9 k9).binds (ps := ["grid"]) (fun _ _ _ _ _ _ us hl => match us, hl with | [_], _ => rfl)
    f_grid_turned := _
    d_grid_turned := _
    F_grid_turned := fun_mk (st := s_grid_turned) l10 c10 k10
    g_grid_turned := PySem.W.mg_of X G a10
    b_grid_turned := (fun_mk (st := s_grid_turned) l10 c10 k10).binds (ps := ["grid", "times"]) (fun _ _ _ _ _ _ us hl => match us, hl with | [_, _], _ => rfl)
    f_grid_posed := _
    d_grid_posed := _
    F_grid_posed := fun_mk (st := s_grid_posed) l11 c11 k11
    g_grid_posed := PySem.W.mg_of X G a11
    b_grid_posed := (fun_mk (st := s_grid_posed) l11 c11 k11).binds (ps := ["grid", "pose"]) (fun _ _ _ _ _ _ us hl => match us, hl with | [_, _], _ => rfl)
    f_grid_unposed := _
    d_grid_unposed := _
    F_grid_unposed := fun_mk (st := s_grid_unposed) l12 c12 k12
    g_grid_unposed := PySem.W.mg_of X G a12
    b_grid_unposed := (fun_mk (st := s_grid_unposed) l12 c12 k12).binds (ps := ["grid", "pose"]) (fun _ _ _ _ _ _ us hl => match us, hl with | [_, _], _ => rfl)
    f_turned := _
    d_turned := _
    F_turned := fun_mk (st := s_turned) l13 c13 k13
    g_turned := PySem.W.mg_of X G a13
    b_turned := (fun_mk (st := s_turned) l13 c13 k13).binds (ps := ["grid", "times"]) (fun _ _ _ _ _ _ us hl => match us, hl with | [_, _], _ => rfl)
    f_mirrored := _
    d_mirrored := _
    F_mirrored := fun_mk (st := s_mirrored) l14 c14 k14
    g_mirrored := PySem.W.mg_of X G a14
    b_mirrored := (fun_mk (st := s_mirrored) l14 c14 k14).binds (ps := ["grid"]) (fun _ _ _ _ _ _ us hl => match us, hl with | [_], _ => rfl)
    f_posed := _
    d_posed := _
    F_posed := fun_mk (st := s_posed) l15 c15 k15
    g_posed := PySem.W.mg_of X G a15
    b_posed := (fun_mk (st := s_posed) l15 c15 k15).binds (ps := ["grid", "pose"]) (fun _ _ _ _ _ _ us hl => match us, hl with | [_, _], _ => rfl)
    f_unposed := _
    d_unposed := _
    F_unposed := fun_mk (st := s_unposed) l16 c16 k16
    g_unposed := PySem.W.mg_of X G a16
    b_unposed := (fun_mk (st := s_unposed) l16 c16 k16).binds (ps := ["grid", "pose"]) (fun _ _ _ _ _ _ us hl => match us, hl with | [_, _], _ => rfl)
    f__law_mix := _
    d__law_mix := _
    F__law_mix := fun_mk (st := s__law_mix) l17 c17 k17
    g__law_mix := PySem.W.mg_of X G a17
    b__law_mix := (fun_mk (st := s__law_mix) l17 c17 k17).binds (ps := ["_law_cell", "_law_lap"]) (fun _ _ _ _ _ _ us hl => match us, hl with | [_, _], _ => rfl)
    f__law_draw := _
    d__law_draw := _
    F__law_draw := fun_mk (st := s__law_draw) l18 c18 k18
    g__law_draw := PySem.W.mg_of X G a18
    b__law_draw := (fun_mk (st := s__law_draw) l18 c18 k18).binds (ps := ["_law_well", "_law_many"]) (fun _ _ _ _ _ _ us hl => match us, hl with | [_, _], _ => rfl)
    f__law_pick := _
    d__law_pick := _
    F__law_pick := fun_mk (st := s__law_pick) l19 c19 k19
    g__law_pick := PySem.W.mg_of X G a19
    b__law_pick := (fun_mk (st := s__law_pick) l19 c19 k19).binds (ps := ["_law_well", "_law_some"]) (fun _ _ _ _ _ _ us hl => match us, hl with | [_, _], _ => rfl)
    f__law_source := _
    d__law_source := _
    F__law_source := fun_mk (st := s__law_source) l20 c20 k20
    g__law_source := PySem.W.mg_of X G a20
    b__law_source := (fun_mk (st := s__law_source) l20 c20 k20).binds (ps := ["_law_script", "_law_k"]) (fun _ _ _ _ _ _ us hl => match us, hl with | [_, _], _ => rfl)
    f__law_turned := _
    d__law_turned := _
    F__law_turned := fun_mk (st := s__law_turned) l21 c21 k21
    g__law_turned := PySem.W.mg_of X G a21
    b__law_turned := (fun_mk (st := s__law_turned) l21 c21 k21).binds (ps := ["_law_rows"]) (fun _ _ _ _ _ _ us hl => match us, hl with | [_], _ => rfl)
    f__law_posed := _
    d__law_posed := _
    F__law_posed := fun_mk (st := s__law_posed) l22 c22 k22
    g__law_posed := PySem.W.mg_of X G a22
    b__law_posed := (fun_mk (st := s__law_posed) l22 c22 k22).binds (ps := ["_law_rows", "_law_stance"]) (fun _ _ _ _ _ _ us hl => match us, hl with | [_, _], _ => rfl)
    f__law_unposed := _
    d__law_unposed := _
    F__law_unposed := fun_mk (st := s__law_unposed) l23 c23 k23
    g__law_unposed := PySem.W.mg_of X G a23
    b__law_unposed := (fun_mk (st := s__law_unposed) l23 c23 k23).binds (ps := ["_law_rows", "_law_stance"]) (fun _ _ _ _ _ _ us hl => match us, hl with | [_, _], _ => rfl)
    f__law_right := _
    d__law_right := _
    F__law_right := fun_mk (st := s__law_right) l24 c24 k24
    g__law_right := PySem.W.mg_of X G a24
    b__law_right := (fun_mk (st := s__law_right) l24 c24 k24).binds (ps := ["_law_well"]) (fun _ _ _ _ _ _ us hl => match us, hl with | [_], _ => rfl)
    f_law := _
    d_law := _
    F_law := fun_mk (st := s_law) l25 c25 k25
    g_law := PySem.W.mg_of X G a25
    b_law := (fun_mk (st := s_law) l25 c25 k25).binds (ps := ["_law_script"]) (fun _ _ _ _ _ _ us hl => match us, hl with | [_], _ => rfl)
    n_bool := PySem.W.mg_none_of X G z_bool
    n_int := PySem.W.mg_none_of X G z_int
    n_isinstance := PySem.W.mg_none_of X G z_isinstance
    n_len := PySem.W.mg_none_of X G z_len
    n_list := PySem.W.mg_none_of X G z_list
    n_max := PySem.W.mg_none_of X G z_max
    n_min := PySem.W.mg_none_of X G z_min
    n_range := PySem.W.mg_none_of X G z_range
    n_tuple := PySem.W.mg_none_of X G z_tuple
    n_type := PySem.W.mg_none_of X G z_type
    n_zip := PySem.W.mg_none_of X G z_zip
    a_SIDES := d_SIDES
    g_SIDES := PySem.W.mg_of X G a_SIDES
    l_SIDES := t_SIDES
    g_TURNS := ⟨_, PySem.W.mg_of X G a_TURNS⟩ }
  exact ⟨T.d_law, fun s v => .of_eq rfl, fun base _ _ => ok_law T⟩
end My
open PySem PySem.W PyProof.Rows
set_option maxHeartbeats 0 in
theorem PySem.Challenge.cw_dotquilts_k43_whole_poses_dot_by_dot_holds : PySem.Challenge.rw_dotquilts_k43_whole_poses_dot_by_dot.Holds := by
  w_on; o_law; k_head; (case hw => w_witness2)
  k_fill
  refine L2.walk_of (l := PySem.Challenge.rw_dotquilts_k43_whole_poses_dot_by_dot) (n := 63) (k := 7) (x := "_law_script") (CX := fun _ => L2.CX0) (sp := fun w => My.sp_law _) rfl (by decide) rfl ⟨rfl, by decide, by decide⟩ (fun w h Y => PySem.W.kIn_of Y) ?F (fun _ _ a ns hl _ hS => ⟨a, ns, rfl, hS, hl, fun _ => rfl⟩) (fun _ _ _ _ _ h => h)
  case F =>
    intro w mg fa h KX G hmg
    refine' My.all_mk KX G hmg ?a0 ?l0 ?c0 ?k0 ?a1 ?l1 ?c1 ?k1 ?a2 ?l2 ?c2 ?k2 ?a3 ?l3 ?c3 ?k3 ?a4 ?l4 ?c4 ?k4 ?a5 ?l5 ?c5 ?k5 ?a6 ?l6 ?c6 ?k6 ?a7 ?l7 ?c7 ?k7 ?a8 ?l8 ?c8 ?k8 ?a9 ?l9 ?c9 ?k9 ?a10 ?l10 ?c10 ?k10 ?a11 ?l11 ?c11 ?k11 ?a12 ?l12 ?c12 ?k12 ?a13 ?l13 ?c13 ?k13 ?a14 ?l14 ?c14 ?k14 ?a15 ?l15 ?c15 ?k15 ?a16 ?l16 ?c16 ?k16 ?a17 ?l17 ?c17 ?k17 ?a18 ?l18 ?c18 ?k18 ?a19 ?l19 ?c19 ?k19 ?a20 ?l20 ?c20 ?k20 ?a21 ?l21 ?c21 ?k21 ?a22 ?l22 ?c22 ?k22 ?a23 ?l23 ?c23 ?k23 ?a24 ?l24 ?c24 ?k24 ?a25 ?l25 ?c25 ?k25 ?z_bool ?z_int ?z_isinstance ?z_len ?z_list ?z_max ?z_min ?z_range ?z_tuple ?z_type ?z_zip ?a_SIDES ?t_SIDES ?a_TURNS
    (case a0 => k_is)
    (case l0 => k_is)
    (case c0 => k_is)
    (case k0 => k_is)
    (case a1 => k_is)
    (case l1 => k_is)
    (case c1 => k_is)
    (case k1 => k_is)
    (case a2 => k_is)
    (case l2 => k_is)
    (case c2 => k_is)
    (case k2 => k_is)
    (case a3 => k_is)
    (case l3 => k_is)
    (case c3 => k_is)
    (case k3 => k_is)
    (case a4 => k_is)
    (case l4 => k_is)
    (case c4 => k_is)
    (case k4 => k_is)
    (case a5 => k_is)
    (case l5 => k_is)
    (case c5 => k_is)
    (case k5 => k_is)
    (case a6 => k_is)
    (case l6 => k_is)
    (case c6 => k_is)
    (case k6 => k_is)
    (case a7 => k_is)
    (case l7 => k_is)
    (case c7 => k_is)
    (case k7 => k_is)
    (case a8 => k_is)
    (case l8 => k_is)
    (case c8 => k_is)
    (case k8 => k_is)
    (case a9 => k_is)
    (case l9 => k_is)
    (case c9 => k_is)
    (case k9 => k_is)
    (case a10 => k_is)
    (case l10 => k_is)
    (case c10 => k_is)
    (case k10 => k_is)
    (case a11 => k_is)
    (case l11 => k_is)
    (case c11 => k_is)
    (case k11 => k_is)
    (case a12 => k_is)
    (case l12 => k_is)
    (case c12 => k_is)
    (case k12 => k_is)
    (case a13 => k_is)
    (case l13 => k_is)
    (case c13 => k_is)
    (case k13 => k_is)
    (case a14 => k_is)
    (case l14 => k_is)
    (case c14 => k_is)
    (case k14 => k_is)
    (case a15 => k_is)
    (case l15 => k_is)
    (case c15 => k_is)
    (case k15 => k_is)
    (case a16 => k_is)
    (case l16 => k_is)
    (case c16 => k_is)
    (case k16 => k_is)
    (case a17 => k_is)
    (case l17 => k_is)
    (case c17 => k_is)
    (case k17 => k_is)
    (case a18 => k_is)
    (case l18 => k_is)
    (case c18 => k_is)
    (case k18 => k_is)
    (case a19 => k_is)
    (case l19 => k_is)
    (case c19 => k_is)
    (case k19 => k_is)
    (case a20 => k_is)
    (case l20 => k_is)
    (case c20 => k_is)
    (case k20 => k_is)
    (case a21 => k_is)
    (case l21 => k_is)
    (case c21 => k_is)
    (case k21 => k_is)
    (case a22 => k_is)
    (case l22 => k_is)
    (case c22 => k_is)
    (case k22 => k_is)
    (case a23 => k_is)
    (case l23 => k_is)
    (case c23 => k_is)
    (case k23 => k_is)
    (case a24 => k_is)
    (case l24 => k_is)
    (case c24 => k_is)
    (case k24 => k_is)
    (case a25 => k_is)
    (case l25 => k_is)
    (case c25 => k_is)
    (case k25 => k_is)
    (case z_bool => k_is)
    (case z_int => k_is)
    (case z_isinstance => k_is)
    (case z_len => k_is)
    (case z_list => k_is)
    (case z_max => k_is)
    (case z_min => k_is)
    (case z_range => k_is)
    (case z_tuple => k_is)
    (case z_type => k_is)
    (case z_zip => k_is)
    (case a_SIDES => k_is)
    (case t_SIDES => first | rfl | decide +kernel | k_is)
    (case a_TURNS => k_is)

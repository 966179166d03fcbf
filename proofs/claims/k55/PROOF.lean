import PyProof.Rows.All
import Wide.All
import OpenK.AllK
import Wide.FinOn
import HandS.ForMost
import HandS.IsInst
import HandS.SortInts
import HandS.Evl
import HandS.Conv
import HandS.Walk
import KE.GoesEnum
import KE.GoesMore
import HandS.Defaults
import HandS.Rev
import HandS.TupAny
import HandS.TupMul
import HandS.Dict
import HandS.Sort
import HandS.Flow
import HandS.More
import HandS.Zip
import HandS.TupLe
import PyProof.ReprRoads
import HandS.Ends
import KE.DataAny
import PyProof.ZipIter
import PyProof.Draws
import KE.KStar
import HandS.Star
import HandS.Style
import HandS.Strs
import HandS.List
import HandS.Wide
import PyProof.ListRange
import PyProof.WalkInts
import PyProof.SumWalk
import HandS.ExcValue
import HandS.ExcOwn
import HandS.TupSets
import HandS.SortOrd
import HandS.SortRule
import HandS.Deep
import HandS.NoneIn
import HandS.FStr
import PyProof.Rows.StrIntSpec
import HandS.IntHex
import PyProof.StrLawsIn
import KE.KDictZip
import KE.KItemsList
import KE.SortCalls
import HandS.DictTup
import HandS.Small
import HandS.DictComp
import HandS.TupLen
import HandS.Finally
import KE.KDictKeyed
import HandS.Iter
import HandS.DictSubView
import HandS.CallLocal
import PySem.Challenge.RW_dotquilts_k55_whole_symbols_are_one_spac
set_option Elab.async false
set_option linter.all false
set_option maxRecDepth 100000
set_option maxHeartbeats 4000000
namespace My
open PySem PySem.Spec PyProof.Rows L2
/-! ### a dict of the module with int keys -/
inductive EntI : List DictEntry → List (Int × Int) → Prop where
  | nil : EntI [] []
  | cons {k v : Int} {t u : Tok} {es : List DictEntry} {kvs : List (Int × Int)} (h : EntI es kvs) (hk : hashInt k = k := by decide +kernel) : EntI (⟨k, .int k t, .int v u⟩ :: es) ((k, v) :: kvs)
def KInt (K : PySem.W.Frag) (d : Addr) (kvs : List (Int × Int)) : Prop :=
  ∃ (es : Array DictEntry) (n : Nat), K.lookup d = some ⟨.type "dict", none, .dict es n, #[]⟩ ∧ EntI es.toList kvs ∧ (d == sysModules) = false
theorem EntI.all {es : List DictEntry} {kvs : List (Int × Int)} (h : EntI es kvs) : ∀ e ∈ es, ∃ k t, e.key = .int k t ∧ e.hash = hashInt k := by
  induction h with
  | nil => intro e he; cases he
  | cons h hk ih =>
    intro e he
    cases he with
    | head => exact ⟨_, _, rfl, hk.symm⟩
    | tail _ m => exact ih e m
def getI (k : Int) : List (Int × Int) → Option Int
  | [] => none
  | (k', v) :: r => if k' = k then some v else getI k r
theorem EntI.find {es : List DictEntry} {kvs : List (Int × Int)} (h : EntI es kvs) (k : Int) :
    (getI k kvs = none → findBy Value.isInt es.toArray k = none) ∧ (∀ v, getI k kvs = some v → ∃ u, findBy Value.isInt es.toArray k = some (.int v u)) := by
  unfold findBy
  rw [List.find?_toArray]
  induction h with
  | nil => exact ⟨fun _ => rfl, fun v z => by cases z⟩
  | @cons k' v t u es kvs h hk ih =>
    rw [List.find?_cons]
    by_cases e : k' = k
    · have q : Value.isInt k (Value.int k' t) = true := by show (k' == k) = true; simp [e]
      simp only [q]
      refine ⟨fun z => ?_, fun v' z => ?_⟩
      · unfold getI at z; rw [if_pos e] at z; cases z
      · unfold getI at z; rw [if_pos e] at z; cases z; exact ⟨u, rfl⟩
    · have q : Value.isInt k (Value.int k' t) = false := by show (k' == k) = false; simp [e]
      simp only [q]
      unfold getI
      rw [if_neg e]
      exact ih
section
variable {X : Cx} {d : Addr} {kvs : List (Int × Int)}
theorem mapInt_K {prog : Program} {w : World} {K : PySem.W.Frag} {h : Heap} {es : Array DictEntry} {n : Nat} (X : K.In h) (hl : K.lookup d = some ⟨.type "dict", none, .dict es n, #[]⟩) (hk : EntI es.toList kvs) :
    h.MapOf (intKind prog w) d (fun k => findBy Value.isInt es k) :=
  ⟨_, es, n, X _ _ hl, ⟨rfl, rfl, rfl⟩, rfl, fun e he => by
    obtain ⟨x, t, e1, e2⟩ := hk.all e (Array.mem_toList_iff.mpr he)
    exact ⟨x, by rw [e1]; exact intKind_is prog w x t, e2⟩, fun _ => rfl⟩
/-- d[k] -/
def rKI (d : Addr) (kvs : List (Int × Int)) : R2 := fun x y H Q => ∃ k v, x = .ref d ∧ y = .int k ∧ getI k kvs = some v ∧ Q (.int v) H
theorem ix_kint (D : KInt X.K d kvs) : IxR X (rKI d kvs) := by
  intro value slice pins s σ H x y v u Q I rx ry h hs
  obtain ⟨k, r, rfl, rfl, e, q⟩ := h
  obtain ⟨es, n, hl, hk, hd⟩ := D
  obtain rfl : v = Value.ref d := rx
  obtain ⟨t, rfl⟩ := ry
  have hm := mapInt_K (prog := X.prog) (w := X.w) I.kIn hl hk
  obtain ⟨u0, eu⟩ := (hk.find k).2 r e
  exact tail_any hm.typeIs slot_dict_getitem.lookup (wpAny_getItem_of (intKind_is X.prog X.w k t) hm eu ⟨.int r, H, I.tok _, ⟨_, rfl⟩, q⟩) hs
/-- xs + ys, whatever kind of lists stand there (the script, too) -/
def rCatL (K : PySem.W.Frag) : R2 := fun x y H Q => ∃ l b xs zs, x = .ref l ∧ y = .ref b ∧ SqL K H l xs ∧ SqL K H b zs ∧ xs.length + zs.length ≤ sizeLine ∧ ∀ p, H p = none → Q (.ref p) (upd H p (.lst (xs ++ zs)))
theorem op_catL : OpR X (binaryOp .Add) (rCatL X.K) := by
  intro pins s σ H x y v u Q I rx ry h
  obtain ⟨l, b, xs, zs, rfl, rfl, hl, hb, hz, q⟩ := h
  cases rx
  cases ry
  obtain ⟨its, r, ⟨⟨cls, dd, data, sl⟩, n, ho, hc, hd, hs⟩, z1⟩ := I.list hl
  obtain ⟨its2, r2, ⟨⟨cls2, dd2, data2, sl2⟩, n2, ho2, hc2, hd2, hs2⟩, z2⟩ := I.list hb
  have e1 := r.length
  have e2 := r2.length
  simp only at hc hd hs hc2 hd2 hs2
  subst hc hd hs hc2 hd2 hs2
  have e : its.toArray ++ its2.toArray = (its ++ its2).toArray := by simp
  refine concat_meets ⟨_, ho, rfl⟩ ⟨_, ho2, rfl⟩ noFill_list_add seq_list_add PySem.F.slot_list_add PySem.F.entry_list_add (PySem.F.args_list_add_2 _ _) (list_addW l b its.toArray its2.toArray n n2 none none sl sl2 (by simp; omega)) ⟨ho, ho2, ?_⟩
  rw [e]
  exact ⟨.ref _, _, I.lnew (t' := s.toks) (r.append r2) (by rw [List.length_append]; omega), rfl, q _ I.fresh⟩
/-- name op= e, by the in-place operator's rule -/
theorem pip_of {op : Operator} {r : R2} (h : OpR X (inplaceOp op) r) : PIp X op r := h
end
end My
set_option Elab.async false
set_option linter.all false
set_option maxRecDepth 100000
set_option maxHeartbeats 4000000
namespace My
open PySem PySem.Spec PyProof.Rows L2
/-! ### bits of ints that are not negative -/
theorem bx (a b : Nat) : Builtin.bitXor (a : Int) (b : Int) = ((a ^^^ b : Nat) : Int) := by
  have h := Bits.bitXor_pp (x := (a : Int)) (y := (b : Int)) (by omega) (by omega)
  simpa using h
/-! ### the field: words as natural numbers -/
def span (b : Nat) : Nat := cond (Nat.beq b 4) 16 256
def foldw (b : Nat) : Nat := cond (Nat.beq b 4) 9 113
def turn (b : Nat) : Nat := cond (Nat.beq b 4) 15 255
def dbl (b x : Nat) : Nat := cond (Nat.blt (2 * x) (span b)) (2 * x) ((2 * x - span b) ^^^ foldw b)
def mulF (b : Nat) : Nat → Nat → Nat → Nat
  | 0, _, _ => 0
  | n + 1, x, y => (cond (Nat.beq (y % 2) 1) x 0) ^^^ mulF b n (dbl b x) (y / 2)
def mul (b x y : Nat) : Nat := mulF b b x y
def pw (b : Nat) : Nat → Nat
  | 0 => 1
  | n + 1 => dbl b (pw b n)
def pws (b : Nat) : List Nat := (List.range (turn b)).map (pw b)
def Wd (b : Nat) : Prop := b = 4 ∨ b = 8
def allB (p : Nat → Nat → Bool) (n : Nat) : Bool := (List.range n).all fun x => (List.range n).all fun y => p x y
theorem allB_ok {p : Nat → Nat → Bool} {n : Nat} (h : allB p n = true) {x y : Nat} (hx : x < n) (hy : y < n) : p x y = true :=
  List.all_eq_true.mp (List.all_eq_true.mp h x (List.mem_range.mpr hx)) y (List.mem_range.mpr hy)
def linB (b : Nat) (x y : Nat) : Bool := Nat.beq (dbl b (x ^^^ y)) (dbl b x ^^^ dbl b y)
theorem lin4 : allB (linB 4) 16 = true := by decide +kernel
theorem lin8 : allB (linB 8) 256 = true := by decide +kernel
theorem dbl_lin {b x y : Nat} (hb : Wd b) (hx : x < span b) (hy : y < span b) : dbl b (x ^^^ y) = dbl b x ^^^ dbl b y := by
  rcases hb with rfl | rfl
  · exact Nat.eq_of_beq_eq_true (allB_ok lin4 hx hy)
  · exact Nat.eq_of_beq_eq_true (allB_ok lin8 hx hy)
theorem dbl_lt {b x : Nat} (hb : Wd b) (hx : x < span b) : dbl b x < span b := by
  rcases hb with rfl | rfl
  · exact (by decide +kernel : ∀ x, x < 16 → dbl 4 x < 16) x hx
  · exact (by decide +kernel : ∀ x, x < 256 → dbl 8 x < 256) x hx
theorem dbl_zero {b : Nat} (hb : Wd b) : dbl b 0 = 0 := by rcases hb with rfl | rfl <;> rfl
theorem span_pow {b : Nat} (hb : Wd b) : span b = 2 ^ b := by rcases hb with rfl | rfl <;> rfl
theorem xor_lt {b x y : Nat} (hb : Wd b) (hx : x < span b) (hy : y < span b) : x ^^^ y < span b := by
  rw [span_pow hb] at *
  exact Nat.xor_lt_two_pow hx hy
theorem mulF_lt {b : Nat} (hb : Wd b) : ∀ (n x y : Nat), x < span b → mulF b n x y < span b
  | 0, _, _, _ => by
    show 0 < span b
    rcases hb with rfl | rfl <;> decide
  | n + 1, x, y, hx => by
    refine xor_lt hb ?_ (mulF_lt hb n _ _ (dbl_lt hb hx))
    cases Nat.beq (y % 2) 1
    · show 0 < span b; rcases hb with rfl | rfl <;> decide
    · exact hx
theorem mulF_zero {b : Nat} (x : Nat) : ∀ n x, mulF b n x 0 = 0
  | 0, _ => rfl
  | n + 1, x => by
    show (0 : Nat) ^^^ mulF b n (dbl b x) 0 = 0
    rw [mulF_zero x n _]
    rfl
theorem zero_mulF {b : Nat} (hb : Wd b) : ∀ n y, mulF b n 0 y = 0
  | 0, _ => rfl
  | n + 1, y => by
    show (cond (Nat.beq (y % 2) 1) 0 0) ^^^ mulF b n (dbl b 0) (y / 2) = 0
    rw [dbl_zero hb, zero_mulF hb n]
    cases Nat.beq (y % 2) 1 <;> rfl
theorem mulF_lin {b : Nat} (hb : Wd b) : ∀ (n x z y : Nat), x < span b → z < span b → mulF b n (x ^^^ z) y = mulF b n x y ^^^ mulF b n z y
  | 0, _, _, _, _, _ => by
    show (0 : Nat) = 0 ^^^ 0
    rfl
  | n + 1, x, z, y, hx, hz => by
    show (cond (Nat.beq (y % 2) 1) (x ^^^ z) 0) ^^^ mulF b n (dbl b (x ^^^ z)) (y / 2) = ((cond (Nat.beq (y % 2) 1) x 0) ^^^ mulF b n (dbl b x) (y / 2)) ^^^ ((cond (Nat.beq (y % 2) 1) z 0) ^^^ mulF b n (dbl b z) (y / 2))
    rw [dbl_lin hb hx hz, mulF_lin hb n _ _ _ (dbl_lt hb hx) (dbl_lt hb hz)]
    cases Nat.beq (y % 2) 1
    · simp
    · show (x ^^^ z) ^^^ (_ ^^^ _) = (x ^^^ _) ^^^ (z ^^^ _)
      ac_rfl
theorem mulF_dbl {b : Nat} (hb : Wd b) : ∀ (n x y : Nat), x < span b → mulF b n (dbl b x) y = dbl b (mulF b n x y)
  | 0, _, _, _ => (dbl_zero hb).symm
  | n + 1, x, y, hx => by
    show (cond (Nat.beq (y % 2) 1) (dbl b x) 0) ^^^ mulF b n (dbl b (dbl b x)) (y / 2) = dbl b ((cond (Nat.beq (y % 2) 1) x 0) ^^^ mulF b n (dbl b x) (y / 2))
    rw [mulF_dbl hb n _ _ (dbl_lt hb hx)]
    cases Nat.beq (y % 2) 1
    · simp
    · show dbl b x ^^^ _ = dbl b (x ^^^ _)
      rw [dbl_lin hb hx (mulF_lt hb _ _ _ (dbl_lt hb hx))]
theorem one_mul {b y : Nat} (hb : Wd b) (hy : y < span b) : mul b 1 y = y := by
  rcases hb with rfl | rfl
  · exact (by decide +kernel : ∀ x, x < 16 → mul 4 1 x = x) y hy
  · exact (by decide +kernel : ∀ x, x < 256 → mul 8 1 x = x) y hy
theorem pw_lt {b : Nat} (hb : Wd b) : ∀ n, pw b n < span b
  | 0 => by rcases hb with rfl | rfl <;> decide
  | n + 1 => dbl_lt hb (pw_lt hb n)
theorem mul_lt {b x y : Nat} (hb : Wd b) (hx : x < span b) : mul b x y < span b := mulF_lt hb _ _ _ hx
theorem pw_mul {b : Nat} (hb : Wd b) (j : Nat) : ∀ i, mul b (pw b i) (pw b j) = pw b (i + j)
  | 0 => by rw [Nat.zero_add]; exact one_mul hb (pw_lt hb j)
  | i + 1 => by
    show mulF b b (dbl b (pw b i)) (pw b j) = _
    rw [mulF_dbl hb _ _ _ (pw_lt hb i)]
    have h := pw_mul hb j i
    unfold mul at h
    rw [h, show i + 1 + j = (i + j) + 1 by omega]
    rfl
def lg (b x : Nat) : Nat := (pws b).idxOf x
def memB (b : Nat) (x : Nat) : Bool := Nat.beq x 0 || (pws b).any fun y => Nat.beq x y
theorem mem_pws {b x : Nat} (hb : Wd b) (hx : x < span b) (h0 : x ≠ 0) : x ∈ pws b := by
  have q : memB b x = true := by
    rcases hb with rfl | rfl
    · exact List.all_eq_true.mp (by decide +kernel : ((List.range 16).all fun x => memB 4 x) = true) x (List.mem_range.mpr hx)
    · exact List.all_eq_true.mp (by decide +kernel : ((List.range 256).all fun x => memB 8 x) = true) x (List.mem_range.mpr hx)
  rcases (Bool.or_eq_true _ _).mp q with h | h
  · exact absurd (Nat.eq_of_beq_eq_true h) h0
  · obtain ⟨y, hy, e⟩ := List.any_eq_true.mp h
    rw [Nat.eq_of_beq_eq_true e]
    exact hy
theorem pws_len (b : Nat) : (pws b).length = turn b := by simp [pws]
theorem pws_at {b i : Nat} (h : i < turn b) : (pws b)[i]? = some (pw b i) := by
  simp [pws, h]
theorem lg_lt {b x : Nat} (hb : Wd b) (hx : x < span b) (h0 : x ≠ 0) : lg b x < turn b := by
  rw [← pws_len b]
  exact List.idxOf_lt_length_of_mem (mem_pws hb hx h0)
theorem pw_lg {b x : Nat} (hb : Wd b) (hx : x < span b) (h0 : x ≠ 0) : pw b (lg b x) = x := by
  have h := lg_lt hb hx h0
  have e := pws_at h
  have e2 : (pws b)[lg b x]? = some x := by
    unfold lg
    rw [List.getElem?_eq_getElem (List.idxOf_lt_length_of_mem (mem_pws hb hx h0)), List.getElem_idxOf]
  rw [e] at e2
  exact Option.some.inj e2
theorem mul_comm {b x y : Nat} (hb : Wd b) (hx : x < span b) (hy : y < span b) : mul b x y = mul b y x := by
  by_cases h1 : x = 0
  · subst h1
    unfold mul
    rw [zero_mulF hb, mulF_zero 0]
  · by_cases h2 : y = 0
    · subst h2
      unfold mul
      rw [zero_mulF hb, mulF_zero 0]
    · rw [← pw_lg hb hx h1, ← pw_lg hb hy h2, pw_mul hb, pw_mul hb, Nat.add_comm]
end My
set_option Elab.async false
set_option linter.all false
set_option maxRecDepth 100000
set_option maxHeartbeats 4000000
/-! ### enumerate of a tuple -/
namespace EnT
open PySem PySem.Spec PyProof.Rows
theorem meets_enumerate_newT (l : Addr) (items : Array Value) (n : Nat) (dct : Option Addr) (sl : Array (Option Value)) :
    Meets (Builtin.«enumerate.__new__» ⟨[.type "enumerate", .ref l], []⟩) (fun _ R s => s.heap.get? l = some { cls := .type "tuple", dict := dct, data := .seq items n, slots := sl } ∧
      R (.ok (.ret (.ref (s.heap.push { cls := .type "tuple_iterator", data := .fields #[.ref l, .int 0 0] }).objs.size)))
        { s with heap := (s.heap.push { cls := .type "tuple_iterator", data := .fields #[.ref l, .int 0 0] }).push { cls := .type "enumerate", data := .fields #[.none, .bool false, .ref s.heap.objs.size, rawInt 0, .none, .none] } }) :=
  .of_wp fun prog w A R s h => by
    obtain ⟨hp, g, d, tk, os⟩ := s; obtain ⟨hl, h⟩ := h
    have hsub := sub_enumerate
    have hL : Heap.IsTuple (Shared.heap ⟨hp, g, d, tk, os⟩) l items := ⟨_, hl, rfl, n, rfl⟩
    wp_walk using wpAny_loadPart' hl
    refine wpAny_stack_any fun st => wpAny_pure ?_
    split
    · rename_i c _ _ _ _ _
      cases (c == Value.type "enumerate")
      · wp_walk using wpAny_loadPart' hl, wpAny_pyIter_tuple hL
        exact ⟨_, rfl, h⟩
      · wp_walk using wpAny_loadPart' hl, wpAny_pyIter_tuple hL
        exact ⟨_, rfl, h⟩
    · wp_walk using wpAny_loadPart' hl, wpAny_pyIter_tuple hL
      exact ⟨_, rfl, h⟩
theorem call_enumerate_tuple {prog : Program} {w : World} {A : Around} {E : Value → Shared → Prop} {s : Shared} {l : Addr} {items : Array Value} {Q : Value → Shared → Prop} (hL : s.heap.IsTuple l items)
    (h : ∀ h', IsEnum h' (s.heap.objs.size + 1) s.heap.objs.size 0 .none → h'.IsTupleIter s.heap.objs.size l 0 → h'.objs.size = s.heap.objs.size + 2 →
      (∀ b o, s.heap.get? b = some o → h'.get? b = some o) → Q (.ref (s.heap.objs.size + 1)) { s with heap := h' }) :
    wpAny (model prog w) A (call (.type "enumerate") [.ref l]) Q E s := by
  obtain ⟨⟨c, dct, dt, sl⟩, hl, hc, n, hd⟩ := hL
  replace hc : c = .type "tuple" := hc
  replace hd : dt = .seq items n := hd
  subst hc hd
  refine callType_new F.called_enumerate (by decide) (F.typeCall_enumerate_1 _) (F.newCall_enumerate_1 _) (fun obj => F.args_object_init_2 obj _) F.entry_enumerate_new
    (meets_enumerate_newT l items n dct sl) ⟨hl, ?_⟩
  have hz : (s.heap.push { cls := .type "tuple_iterator", data := .fields #[.ref l, .int 0 0] }).objs.size = s.heap.objs.size + 1 := Heap.size_push ..
  show _ ∧ _
  rw [hz]
  have he : IsEnum ((s.heap.push { cls := .type "tuple_iterator", data := .fields #[.ref l, .int 0 0] }).push
      { cls := .type "enumerate", data := .fields #[.none, .bool false, .ref s.heap.objs.size, rawInt 0, .none, .none] }) (s.heap.objs.size + 1) s.heap.objs.size 0 .none := by
    have := Heap.get?_push_size (s.heap.push { cls := .type "tuple_iterator", data := .fields #[.ref l, .int 0 0] })
      (o := { cls := .type "enumerate", data := .fields #[.none, .bool false, .ref s.heap.objs.size, rawInt 0, .none, .none] }) rfl
    rw [hz] at this; exact this
  refine ⟨⟨_, he, rfl⟩, h _ he ⟨_, Heap.get?_push_of_some _ (Heap.get?_push_size _ rfl), rfl, rfl⟩ (by rw [Heap.size_push, hz]) fun b o x => Heap.get?_push_of_some _ (Heap.get?_push_of_some _ x)⟩
open L2
def IteT (K : PySem.W.Frag) (a : Addr) : It :=
  ⟨fun i H => ∃ (xs : List V) (x : V), SqT K H a xs ∧ xs[i]? = some x, fun i H v H' => ∃ T x, v = .ref T ∧ H T = none ∧ H' = upd H T (.tup [.int (i : Nat), x]) ∧ ∀ xs, SqT K H a xs → xs[i]? = some x, fun i H => ∃ xs : List V, SqT K H a xs ∧ xs.length = i⟩
theorem turn_enumT {P : Program} {w : World} {K : PySem.W.Frag} {elts : List Expr} {kk : Nat} {tpos : Pos} (a e it : Addr) :
    Turn P w K (.Tuple elts kk tpos) (IteT K a) [e, it] e (fun i h => (∃ old, IsEnum h e it ((i : Nat) : Int) old) ∧ h.IsTupleIter it a i ∧ e ≠ it ∧ a ≠ it ∧ e ≠ a) where
  mem := by simp
  obj := fun i h st b hb => by
    obtain ⟨⟨old, he⟩, ⟨o, ho, hc, hd⟩, _⟩ := st
    have e' : b = e ∨ b = it := by simpa using hb
    rcases e' with z | z
    · rw [z]; exact ⟨_, he, fun v q => nomatch q⟩
    · rw [z]; exact ⟨o, ho, fun v q => by rw [hd] at q; cases q⟩
  keep := fun i h h' st k => let ⟨⟨old, he⟩, hi, hne⟩ := st; ⟨⟨old, k e (by simp) _ he⟩, hi.at fun o q => k it (by simp) o q, hne⟩
  item := by
    intro X hP hw hK hc i pins s σ H E I hf st hg
    subst hP hw hK
    obtain ⟨⟨old, he⟩, hit, hne, hai, hea⟩ := st
    obtain ⟨xs, x, hq, hx⟩ := hg
    obtain ⟨its, rv, p, hz⟩ := I.tuple hq
    obtain ⟨u, hu, ru⟩ := rv.get hx
    have hel : e < s.heap.objs.size := Heap.lt_size he
    have hil : it < s.heap.objs.size := by obtain ⟨_, q, _⟩ := hit; exact Heap.lt_size q
    have hin : i < its.toArray.size := by
      have := (List.getElem?_eq_some_iff.mp hu).1
      simpa using this
    have hd0 : X.A.in1.handled = none := I.ok.hd hc
    refine wpAny_pyNext_enum_itemC (Draws.tuple hd0 it a hai its.toArray) he ⟨hit, p⟩ hin hne (by simp [hne, hea]) fun y h' tk hy ho hst' hT hsz hk => ?_
    obtain rfl : y = u := by
      have : its.toArray[i]? = some y := hy
      simp at this
      rw [hu] at this
      exact (Option.some.inj this).symm
    have hit' := hst'.1
    refine ⟨_, rfl, wpAny_letOwnedTupleGo_enum (s := { s with heap := h', toks := tk + 1 }) ho fun h'' he' sb => ?_⟩
    have hT2 : h''.get? s.heap.objs.size = some { cls := .type "tuple", data := .seq #[.int i tk, y] } := (sb.2 _ (Nat.ne_of_gt hel)).trans hT
    have new : ObjOk X.prog X.w (upd H s.heap.objs.size (.tup [.int (i : Nat), x])) h'' s.heap.objs.size (.tup [.int (i : Nat), x]) :=
      ⟨by show 2 ≤ sizeLine; decide, [.int i tk, y], .cons ⟨_, rfl⟩ (.cons ru .nil), ⟨_, hT2, rfl, _, rfl⟩⟩
    have I1 : Inv X pins σ (upd H s.heap.objs.size (.tup [.int (i : Nat), x])) { s with heap := h'', toks := tk + 1 } :=
      I.turnedNew (ch := [e, it]) (fun b ob hb q => (sb.2 b (fun z => hb (by simp [z]))).trans (hk b ob (fun z => hb (by simp [z])) (fun z => hb (by simp [z])) q)) hf (Nat.le_refl _) new
    refine ⟨.ref s.heap.objs.size, _, I1, rfl, ⟨_, x, rfl, I.hok.fresh (Nat.le_refl _), rfl, fun ys hy => by rw [I.tuple_inj hy hq]; exact hx⟩, ⟨⟨y, ?_⟩, hit'.at fun o q => (sb.2 it (Ne.symm hne)).trans q, hne, hai, hea⟩, fun b hb => ?_⟩
    · have e1 : ((i + 1 : Nat) : Int) = (i : Int) + 1 := by omega
      rw [e1]; exact he'
    · have hb' : b < s.heap.objs.size := by
        have e' : b = e ∨ b = it := by simpa using hb
        rcases e' with z | z
        · rw [z]; exact hel
        · rw [z]; exact hil
      rw [upd_ne (Nat.ne_of_lt hb')]
      exact (hf b hb).1
  done := by
    intro X hP hw hK hc i pins s σ H E I hf st hg
    subst hP hw hK
    obtain ⟨⟨old, he⟩, hit, hne, hai, hea⟩ := st
    obtain ⟨xs, hq, hx⟩ := hg
    obtain ⟨its, rv, p, hz⟩ := I.tuple hq
    obtain ⟨f0, f1, f2, f3, f4, f5⟩ := hf it (by simp)
    have hl := rv.length
    have hd0 : X.A.in1.handled = none := I.ok.hd hc
    have en : its.toArray.size = i := by simp; omega
    have hst : s.heap.IsTupleIter it a its.toArray.size ∧ s.heap.IsTuple a its.toArray := ⟨by rw [en]; exact hit, p⟩
    exact wpAny_pyNext_enum_endD (Draws.tuple hd0 it a hai its.toArray) he hst fun h' eb => ⟨rfl, I.turned (t' := s.toks) (fun b o hb q => eb b o hb q) f0 f1 f3 f4 f5⟩
  self := fun A i s Q E st h => let ⟨⟨_, he⟩, _⟩ := st; wpAny_pyIter_enum he h
theorem walk_enumT {K : PySem.W.Frag} {a : Addr} {xs : List V} : Walk (IteT K a) xs.length (fun H => SqT K H a xs) (YPair (fun i => some (.int (i : Nat))) (fun i => xs[i]?)) where
  goes := fun i H hi h => ⟨xs, xs[i], h, List.getElem?_eq_getElem hi⟩
  stops := fun H h => ⟨xs, h, rfl⟩
  yields := fun i H x H' hi h y => by
    obtain ⟨T, z, e1, e2, e3, e4⟩ := y
    exact ⟨T, _, z, e1, e2, e3, rfl, e4 xs h⟩
end EnT
set_option Elab.async false
set_option linter.all false
set_option maxRecDepth 100000
set_option maxHeartbeats 4000000
/-! ### rows: lists (true) and tuples (false) in one -/
namespace My
open PySem PySem.Spec PyProof.Rows L2
def SqB (b : Bool) (K : PySem.W.Frag) (H : Hp) (a : Addr) (xs : List V) : Prop := if b = true then SqL K H a xs else SqT K H a xs
def ItB (b : Bool) (K : PySem.W.Frag) (a : Addr) : It := if b = true then Itl K a else Itt K a
def IteB (b : Bool) (K : PySem.W.Frag) (a : Addr) : It := if b = true then Ite K a else EnT.IteT K a
section
variable {b : Bool} {K : PySem.W.Frag} {H H' : Hp} {a : Addr} {xs : List V}
theorem SqB.or (h : SqB b K H a xs) : SqL K H a xs ∨ SqT K H a xs := by
  cases b
  · exact .inr h
  · exact .inl h
theorem Same.sqt (e : Same H H') (h : SqT K H a xs) : SqT K H' a xs := by
  rcases h with (h | ⟨o, h⟩) | h
  · exact .inl (.inl (e _ _ h))
  · exact .inl (.inr ⟨o, e _ _ h⟩)
  · exact .inr h
theorem Same.sqb (e : Same H H') (h : SqB b K H a xs) : SqB b K H' a xs := by
  cases b
  · exact Same.sqt e h
  · exact e.seq h
theorem SqB.lst (h : H a = some (.lst xs)) : SqB true K H a xs := .inl (.inl h)
theorem SqB.tup (h : H a = some (.tup xs)) : SqB false K H a xs := .inl (.inl h)
theorem SqB.ty (h : SqB b K H a xs) : TyX K H (.ref a) (.type (if b = true then "list" else "tuple")) := by
  cases b
  · rcases h with (h | ⟨o, h⟩) | ⟨o, its, n, hk, hc, _⟩
    · exact .base (.tup h)
    · exact .fTuple h
    · exact .kTuple hk hc
  · rcases h with (h | ⟨o, h⟩) | ⟨o, its, n, hk, hc, _⟩
    · exact .base (.lst h)
    · exact .base (.frz h)
    · exact .kList hk hc
theorem walk_seq : Walk (ItB b K a) xs.length (fun H => SqB b K H a xs) (YAt xs) := by
  cases b
  · exact walk_tup
  · exact walk_list
theorem walk_enumS : Walk (IteB b K a) xs.length (fun H => SqB b K H a xs) (YPair (fun i => some (.int (i : Nat))) (fun i => xs[i]?)) := by
  cases b
  · exact EnT.walk_enumT
  · exact walk_enum
end
section
variable {X : Cx} {tg : Expr}
def iSeq (K : PySem.W.Frag) (tl : TE) : TI := fun σ H R => tl σ H fun x H1 => ∃ a xs b, x = .ref a ∧ SqB b K H1 a xs ∧ R (ItB b K a) H1
theorem pi_seq {l : Expr} {tl : TE} (hl : PE X l tl) : PI X tg l (iSeq X.K tl) := by
  refine ⟨fun pins s σ H R I h => ?_⟩
  refine thn (hl.run pins s σ H _ I h) fun v s1 ⟨x, H1, I1, r1, q1⟩ => ?_
  obtain ⟨a, xs, b, e, hq, q⟩ := q1
  subst e
  cases r1
  cases b
  · obtain ⟨its, rv, p, hz⟩ := I1.tuple hq
    refine wpAny_pyIter_tuple (show s1.heap.IsTuple a its.toArray from p) ?_
    refine ⟨s1.heap.objs.size, [s1.heap.objs.size], _, _, H1, rfl, I1.kept (t' := s1.toks) fun b o e => Heap.get?_push_of_some _ e, turn_tuple a _, ⟨_, Heap.get?_push_size _ rfl, rfl, rfl⟩, fun b hb => ?_, q⟩
    have e : b = s1.heap.objs.size := by simpa using hb
    subst e
    exact I1.fpOk (Nat.le_refl _) (I1.hok.fresh (Nat.le_refl _))
  · obtain ⟨its, rv, p, hz⟩ := I1.list hq
    refine wpAny_pyIter_list p.isList ?_
    refine ⟨s1.heap.objs.size, [s1.heap.objs.size], _, _, H1, rfl, I1.kept (t' := s1.toks) fun b o e => Heap.get?_push_of_some _ e, turn_list a _, ⟨_, Heap.get?_push_size _ rfl, rfl, rfl⟩, fun b hb => ?_, q⟩
    have e : b = s1.heap.objs.size := by simpa using hb
    subst e
    exact I1.fpOk (Nat.le_refl _) (I1.hok.fresh (Nat.le_refl _))
def iEnumS (K : PySem.W.Frag) (ta : TA) : TI := fun σ H R => ta σ H fun vs H1 => ∃ a xs b, vs = [.ref a] ∧ SqB b K H1 a xs ∧ R (IteB b K a) H1
theorem pi_enumS {e : Expr} {ta : TA} {p pos tpos : Pos} {elts : List Expr} {kk : Nat} (hg : Gl X "enumerate") (hm : X.mg "enumerate" = none) (ha : PA X [e] ta) (hs : starEach [e] X.env = [(false, eval e X.env)] := by rfl) :
    PI X (.Tuple elts kk tpos) (.Call (.Name "enumerate" p) [e] [] pos) (iEnumS X.K ta) := by
  refine ⟨fun pins s σ H R I h => ?_⟩
  refine Call_ (ld_blt I hg hm boot_enumerate (PyProof.Rows.callWith_type1 (thn (ha.run pos pins s σ H _ I h) fun us s1 ⟨vs, H1, I1, r1, q1⟩ => ?_) hs rfl))
  obtain ⟨a, xs, b, ex, hq, q⟩ := q1
  subst ex
  cases r1 with
  | cons r rr =>
    cases rr
    cases r
    cases b
    · obtain ⟨its, rv, p', hz⟩ := I1.tuple hq
      have hal : a < s1.heap.objs.size := by obtain ⟨_, q, _⟩ := p'; exact Heap.lt_size q
      refine EnT.call_enumerate_tuple p' fun h' he hit hsz hk => wpAny_pyIter_enum he ?_
      have I2 : Inv X pins σ H1 { s1 with heap := h' } := I1.kept (t' := s1.toks) hk
      refine ⟨s1.heap.objs.size + 1, [s1.heap.objs.size + 1, s1.heap.objs.size], _, _, H1, rfl, I2, EnT.turn_enumT a (s1.heap.objs.size + 1) s1.heap.objs.size, ⟨⟨.none, he⟩, hit, Nat.succ_ne_self _, Nat.ne_of_lt hal, Nat.ne_of_gt (Nat.lt_succ_of_lt hal)⟩, fun b hb => ?_, q⟩
      have e' : b = s1.heap.objs.size + 1 ∨ b = s1.heap.objs.size := by simpa using hb
      have hle : s1.heap.objs.size ≤ b := by
        rcases e' with z | z
        · rw [z]; exact Nat.le_add_right _ _
        · rw [z]; exact Nat.le_refl _
      exact I1.fpOk hle (I1.hok.fresh hle)
    · obtain ⟨its, rv, p', hz⟩ := I1.list hq
      refine call_enumerate_list p'.isList fun h' he hit hsz hk => wpAny_pyIter_enum he ?_
      have I2 : Inv X pins σ H1 { s1 with heap := h' } := I1.kept (t' := s1.toks) hk
      refine ⟨s1.heap.objs.size + 1, [s1.heap.objs.size + 1, s1.heap.objs.size], _, _, H1, rfl, I2, turn_enum a (s1.heap.objs.size + 1) s1.heap.objs.size, ⟨⟨.none, he⟩, hit, Nat.succ_ne_self _⟩, fun b hb => ?_, q⟩
      have e' : b = s1.heap.objs.size + 1 ∨ b = s1.heap.objs.size := by simpa using hb
      have hle : s1.heap.objs.size ≤ b := by
        rcases e' with z | z
        · rw [z]; exact Nat.le_add_right _ _
        · rw [z]; exact Nat.le_refl _
      exact I1.fpOk hle (I1.hok.fresh hle)
/-- xs[i] of a list or a tuple -/
def rIxB (K : PySem.W.Frag) : R2 := fun x y H Q => ∃ p xs i v b, x = .ref p ∧ y = .int i ∧ SqB b K H p xs ∧ atI xs i = some v ∧ Q v H
theorem ix_rowB : IxR X (rIxB X.K) := by
  intro value slice pins s σ H x y v u Q I rx ry h hs
  obtain ⟨p, xs, i, z, b, rfl, rfl, hq, ha, q⟩ := h
  refine ix_seq value slice pins s σ H _ _ v u Q I rx ry ?_ hs
  cases b
  · exact .inr (.inl ⟨p, xs, i, z, rfl, rfl, hq, ha, q⟩)
  · exact .inl ⟨p, xs, i, z, rfl, rfl, hq, ha, q⟩
end
end My
set_option Elab.async false
set_option linter.all false
set_option maxRecDepth 100000
set_option maxHeartbeats 4000000
set_option Elab.async false
set_option linter.all false
set_option maxRecDepth 100000
set_option maxHeartbeats 1000000
/-! ### two values the other way round -/
set_option Elab.async false
set_option linter.all false
set_option maxRecDepth 100000
set_option maxHeartbeats 4000000
/-! ### written tuples of ints, dicts of the module from ints to objects -/
namespace My
open PySem PySem.Spec PyProof.Rows L2
def intsB : List Value → List Int → Bool
  | [], [] => true
  | .int i _ :: vs, j :: xs => (i == j) && intsB vs xs
  | _, _ => false
def tupB (K : PySem.W.Frag) (a : Addr) (xs : List Int) : Bool :=
  match K.lookup a with
  | some ⟨.type s, none, .seq its _, _⟩ => s == "tuple" && Nat.ble its.size 1000 && intsB its.toList xs
  | _ => false
theorem intsB_ok : ∀ {vs : List Value} {xs : List Int}, intsB vs xs = true → Vals (xs.map V.int) vs
  | [], [], _ => .nil
  | .int i t :: vs, j :: xs, h => by
    have h' : ((i == j) && intsB vs xs) = true := h
    rw [Bool.and_eq_true] at h'
    have e : i = j := by simpa using h'.1
    subst e
    exact .cons ⟨t, rfl⟩ (intsB_ok h'.2)
theorem tupB_ok {K : PySem.W.Frag} {a : Addr} {xs : List Int} {H : Hp} (h : tupB K a xs = true) : SqT K H a (xs.map V.int) := by
  unfold tupB at h
  split at h
  · next s its n _ e =>
    rw [Bool.and_eq_true, Bool.and_eq_true] at h
    have es : s = "tuple" := by simpa using h.1.1
    subst es
    exact .inr ⟨_, its, n, e, rfl, rfl, Nat.le_trans (Nat.le_of_ble_eq_true h.1.2) (by decide), intsB_ok h.2⟩
  · cases h
inductive EntR : List DictEntry → List (Int × Addr) → Prop where
  | nil : EntR [] []
  | cons {k : Int} {v : Addr} {t : Tok} {es : List DictEntry} {kvs : List (Int × Addr)} (h : EntR es kvs) (hk : hashInt k = k := by decide +kernel) : EntR (⟨k, .int k t, .ref v⟩ :: es) ((k, v) :: kvs)
theorem EntR.all {es : List DictEntry} {kvs : List (Int × Addr)} (h : EntR es kvs) : ∀ e ∈ es, ∃ k t, e.key = .int k t ∧ e.hash = hashInt k := by
  induction h with
  | nil => intro e he; cases he
  | cons h hk ih =>
    intro e he
    cases he with
    | head => exact ⟨_, _, rfl, hk.symm⟩
    | tail _ m => exact ih e m
def getA (k : Int) : List (Int × Addr) → Option Addr
  | [] => none
  | (k', v) :: r => if k' = k then some v else getA k r
theorem EntR.find {es : List DictEntry} {kvs : List (Int × Addr)} (h : EntR es kvs) (k : Int) :
    (getA k kvs = none → findBy Value.isInt es.toArray k = none) ∧ (∀ v, getA k kvs = some v → findBy Value.isInt es.toArray k = some (.ref v)) := by
  unfold findBy
  rw [List.find?_toArray]
  induction h with
  | nil => exact ⟨fun _ => rfl, fun v z => by cases z⟩
  | @cons k' v t es kvs h hk ih =>
    rw [List.find?_cons]
    by_cases e : k' = k
    · have q : Value.isInt k (Value.int k' t) = true := by show (k' == k) = true; simp [e]
      simp only [q]
      refine ⟨fun z => ?_, fun v' z => ?_⟩
      · unfold getA at z; rw [if_pos e] at z; cases z
      · unfold getA at z; rw [if_pos e] at z; cases z; rfl
    · have q : Value.isInt k (Value.int k' t) = false := by show (k' == k) = false; simp [e]
      simp only [q]
      unfold getA
      rw [if_neg e]
      exact ih
end My
set_option Elab.async false
set_option linter.all false
set_option maxRecDepth 100000
set_option maxHeartbeats 4000000
/-! ### the program's tables of powers and exponents -/
namespace My
open PySem PySem.Spec PyProof.Rows L2
def E4 : List Int := [0, 0, 1, 12, 2, 9, 13, 7, 3, 4, 10, 5, 14, 11, 8, 6]
def E8 : List Int := [0, 0, 1, 231, 2, 207, 232, 59, 3, 35, 208, 154, 233, 20, 60, 183, 4, 159, 36, 66, 209, 118, 155, 251, 234, 245, 21, 11, 61, 130, 184, 146, 5, 122, 160, 79, 37, 113, 67, 106, 210, 224, 119, 221, 156, 242, 252, 32, 235, 213, 246, 135, 22, 42, 12, 140, 62, 227, 131, 75, 185, 191, 147, 94, 6, 70, 123, 195, 161, 53, 80, 167, 38, 109, 114, 203, 68, 51, 107, 49, 211, 40, 225, 189, 120, 111, 222, 240, 157, 116, 243, 128, 253, 205, 33, 18, 236, 163, 214, 98, 247, 55, 136, 102, 23, 82, 43, 177, 13, 169, 141, 89, 63, 8, 228, 151, 132, 72, 76, 218, 186, 125, 192, 200, 148, 197, 95, 174, 7, 150, 71, 217, 124, 199, 196, 173, 162, 97, 54, 101, 81, 176, 168, 88, 39, 188, 110, 239, 115, 127, 204, 17, 69, 194, 52, 166, 108, 202, 50, 48, 212, 134, 41, 139, 226, 74, 190, 93, 121, 78, 112, 105, 223, 220, 241, 31, 158, 65, 117, 250, 244, 10, 129, 145, 254, 230, 206, 58, 34, 153, 19, 182, 237, 15, 164, 46, 215, 171, 99, 86, 248, 143, 56, 180, 137, 91, 103, 29, 24, 25, 83, 26, 44, 84, 178, 27, 14, 45, 170, 85, 142, 179, 90, 28, 64, 249, 9, 144, 229, 57, 152, 181, 133, 138, 73, 92, 77, 104, 219, 30, 187, 238, 126, 16, 193, 165, 201, 47, 149, 216, 198, 172, 96, 100, 175, 87]
def P4 : List Int := [1, 2, 4, 8, 9, 11, 15, 7, 14, 5, 10, 13, 3, 6, 12]
def P8 : List Int := [1, 2, 4, 8, 16, 32, 64, 128, 113, 226, 181, 27, 54, 108, 216, 193, 243, 151, 95, 190, 13, 26, 52, 104, 208, 209, 211, 215, 223, 207, 239, 175, 47, 94, 188, 9, 18, 36, 72, 144, 81, 162, 53, 106, 212, 217, 195, 247, 159, 79, 158, 77, 154, 69, 138, 101, 202, 229, 187, 7, 14, 28, 56, 112, 224, 177, 19, 38, 76, 152, 65, 130, 117, 234, 165, 59, 118, 236, 169, 35, 70, 140, 105, 210, 213, 219, 199, 255, 143, 111, 222, 205, 235, 167, 63, 126, 252, 137, 99, 198, 253, 139, 103, 206, 237, 171, 39, 78, 156, 73, 146, 85, 170, 37, 74, 148, 89, 178, 21, 42, 84, 168, 33, 66, 132, 121, 242, 149, 91, 182, 29, 58, 116, 232, 161, 51, 102, 204, 233, 163, 55, 110, 220, 201, 227, 183, 31, 62, 124, 248, 129, 115, 230, 189, 11, 22, 44, 88, 176, 17, 34, 68, 136, 97, 194, 245, 155, 71, 142, 109, 218, 197, 251, 135, 127, 254, 141, 107, 214, 221, 203, 231, 191, 15, 30, 60, 120, 240, 145, 83, 166, 61, 122, 244, 153, 67, 134, 125, 250, 133, 123, 246, 157, 75, 150, 93, 186, 5, 10, 20, 40, 80, 160, 49, 98, 196, 249, 131, 119, 238, 173, 43, 86, 172, 41, 82, 164, 57, 114, 228, 185, 3, 6, 12, 24, 48, 96, 192, 241, 147, 87, 174, 45, 90, 180, 25, 50, 100, 200, 225, 179, 23, 46, 92, 184]
def tabE (b : Nat) : List Int := cond (Nat.beq b 4) E4 E8
def tabP (b : Nat) : List Int := cond (Nat.beq b 4) P4 P8
end My
set_option Elab.async false
set_option linter.all false
set_option maxRecDepth 100000
set_option maxHeartbeats 4000000
/-! ### polynomials over the field -/
namespace My
theorem mul_zero {b x : Nat} : mul b x 0 = 0 := mulF_zero 0 _ _
theorem zero_mul {b y : Nat} (hb : Wd b) : mul b 0 y = 0 := zero_mulF hb _ _
theorem span_pos {b : Nat} (hb : Wd b) : 1 < span b := by rcases hb with rfl | rfl <;> decide
theorem mul_one {b x : Nat} (hb : Wd b) (hx : x < span b) : mul b x 1 = x := by
  rw [mul_comm hb hx (span_pos hb)]
  exact one_mul hb hx
theorem mul_xor_l {b x z y : Nat} (hb : Wd b) (hx : x < span b) (hz : z < span b) : mul b (x ^^^ z) y = mul b x y ^^^ mul b z y := mulF_lin hb _ _ _ _ hx hz
theorem mul_xor_r {b x z y : Nat} (hb : Wd b) (hx : x < span b) (hz : z < span b) (hy : y < span b) : mul b y (x ^^^ z) = mul b y x ^^^ mul b y z := by
  rw [mul_comm hb hy (xor_lt hb hx hz), mul_xor_l hb hx hz, mul_comm hb hx hy, mul_comm hb hz hy]
/-- a row of words of so many bits -/
def Ws (b : Nat) (ws : List Nat) : Prop := ∀ w ∈ ws, w < span b
/-- sums, word by word, by the places below n -/
def xsum (n : Nat) (f : Nat → Nat) : Nat := (List.range n).foldl (fun acc i => acc ^^^ f i) 0
/-- the i-th word times the (k - i)-th word of the other -/
def term (b : Nat) (f g : Nat → Nat) (k i : Nat) : Nat := if i ≤ k then mul b (f i) (g (k - i)) else 0
def gd (ws : List Nat) (i : Nat) : Nat := ws.getD i 0
theorem gd_lt {b : Nat} {ws : List Nat} (hb : Wd b) (h : Ws b ws) (i : Nat) : gd ws i < span b := by
  unfold gd
  by_cases hi : i < ws.length
  · rw [List.getD_eq_getElem?_getD, List.getElem?_eq_getElem hi]
    exact h _ (List.getElem_mem hi)
  · rw [List.getD_eq_getElem?_getD, List.getElem?_eq_none (by omega)]
    have := span_pos hb
    show 0 < span b
    omega
theorem gd_out {ws : List Nat} {i : Nat} (h : ws.length ≤ i) : gd ws i = 0 := by
  unfold gd
  rw [List.getD_eq_getElem?_getD, List.getElem?_eq_none h]
  rfl
theorem gd_in {ws : List Nat} {i : Nat} (h : i < ws.length) : ws[i]? = some (gd ws i) := by
  unfold gd
  rw [List.getD_eq_getElem?_getD, List.getElem?_eq_getElem h]
  rfl
def cf (b : Nat) (xs ys : List Nat) (k : Nat) : Nat := xsum xs.length (term b (gd xs) (gd ys) k)
/-- the product -/
def conv (b : Nat) (xs ys : List Nat) : List Nat := if xs = [] ∨ ys = [] then [] else (List.range (xs.length + ys.length - 1)).map (cf b xs ys)
/-- sums of two rows of one length -/
def zx (xs ys : List Nat) : List Nat := (List.range xs.length).map fun k => gd xs k ^^^ gd ys k
/-! ### the quotient and the remainder -/
theorem gd_map {n k : Nat} {f : Nat → Nat} : gd ((List.range n).map f) k = if k < n then f k else 0 := by
  unfold gd
  rw [List.getD_eq_getElem?_getD]
  by_cases h : k < n
  · simp [h]
  · simp [h]
end My
set_option Elab.async false
set_option linter.all false
set_option maxRecDepth 100000
set_option maxHeartbeats 4000000
/-! ### f(k = v, ..) without positional arguments -/
set_option Elab.async false
set_option linter.all false
set_option maxRecDepth 100000
set_option maxHeartbeats 4000000
/-! ### lists of words, compared -/
namespace My
open PySem PySem.Spec PyProof.Rows L2
theorem same_upd {H : Hp} {p : Addr} {o : HO} (h : H p = none) : Same H (upd H p o) := fun b x e => by
  rw [upd_ne (ne_of_none e h)]
  exact e
/-- a word as a value -/
def vN (n : Nat) : V := .int (n : Int)
def dI (n : Nat) : PyData := .int (n : Int)
def dN (ws : List Nat) : PyData := .list (ws.map dI)
theorem lay_all : ∀ ws : List Nat, PyData.canLayAll0 (ws.map dI) = true
  | [] => rfl
  | w :: r => by
    show (PyData.canLay0 (dI w) && PyData.canLayAll0 (r.map dI)) = true
    rw [lay_all r]
    rfl
theorem depth_all : ∀ ws : List Nat, PyData.depthAll (ws.map dI) = 0
  | [] => rfl
  | w :: r => by
    show max (PyData.depth (dI w)) (PyData.depthAll (r.map dI)) = 0
    rw [depth_all r]
    rfl
theorem dN_lay (ws : List Nat) : (dN ws).canLay0 = true := lay_all ws
theorem dN_depth (ws : List Nat) : (dN ws).depth = 1 := by
  show PyData.depthAll (ws.map dI) + 1 = 1
  rw [depth_all]
theorem dN_shaped (ws : List Nat) : SeqAt.shaped (dN ws) = true := by
  unfold SeqAt.shaped
  rw [dN_lay, dN_depth]
  rfl
theorem eqv_all : ∀ xs ys : List Nat, PyData.eqvAll (xs.map dI) (ys.map dI) = decide (xs = ys)
  | [], [] => rfl
  | [], _ :: _ => by simp [PyData.eqvAll]
  | _ :: _, [] => by simp [PyData.eqvAll]
  | x :: r, y :: t => by
    show (PyData.eqv (dI x) (dI y) && PyData.eqvAll (r.map dI) (t.map dI)) = decide (x :: r = y :: t)
    rw [eqv_all r t]
    have e : PyData.eqv (dI x) (dI y) = decide (x = y) := by
      show ((x : Int) == (y : Int)) = decide (x = y)
      by_cases h : x = y
      · subst h; simp
      · simp [h]
        omega
    rw [e]
    by_cases h : x = y
    · by_cases h2 : r = t
      · simp [h, h2]
      · simp [h, h2]
    · simp [h]
theorem dN_eqv (xs ys : List Nat) : PyData.eqv (dN xs) (dN ys) = decide (xs = ys) := eqv_all xs ys
theorem dp_all {K : PySem.W.Frag} {H : Hp} : ∀ ws : List Nat, DpAll K H (ws.map vN) (ws.map dI)
  | [] => .nil
  | w :: r => .cons (.int _) (dp_all r)
theorem dN_dp {K : PySem.W.Frag} {H : Hp} {a : Addr} {ws : List Nat} (h : SqL K H a (ws.map vN)) : Dp K H (.ref a) (dN ws) := .lst h (dp_all ws)
end My
set_option Elab.async false
set_option linter.all false
set_option maxRecDepth 100000
set_option maxHeartbeats 4000000
/-! ### slices of rows, lists (true) or tuples (false); the powers twice -/
namespace My
open PySem PySem.Spec PyProof.Rows L2
section
variable {X : Cx}
def rSlB (K : PySem.W.Frag) : V → Option Int → Option Int → Hp → VK → Prop := fun x lo hi H Q => ∃ a xs k, x = .ref a ∧ SqB k K H a xs ∧ ∀ p H', Same H H' → SqB k K H' p (cutV xs lo hi) → Q (.ref p) H'
theorem sl_rowB : SlR X (rSlB X.K) := by
  intro pins s σ H x v vl vu lo hi sl Q I rx hs pl pu h
  obtain ⟨a, xs, k, rfl, hx, q⟩ := h
  cases k
  · refine sl_tupA pins s σ H _ v vl vu lo hi sl Q I rx hs pl pu ⟨a, xs, rfl, hx, fun hw => q a H (Same.refl _) ?_, fun _ p hp => q p _ (same_upd hp) (.inl (.inl upd_same))⟩
    have e : cutV xs lo hi = xs := by
      unfold cutV
      rw [hw.1, hw.2]
      simp
    rw [e]
    exact hx
  · exact sl_list pins s σ H _ v vl vu lo hi sl Q I rx hs pl pu ⟨a, xs, rfl, hx, fun p hp => q p _ (same_upd hp) (.inl (.inl upd_same))⟩
end
/-- the powers, twice -/
def PP (b : Nat) : List V := (List.replicate (2 : Int).toNat ((tabP b).map V.int)).flatten
end My
namespace My
open PySem PySem.Spec PyProof.Rows L2
theorem ix_rowBK {X : Cx} {K : PySem.W.Frag} (h : X.K = K) : IxR X (rIxB K) := by
  subst h
  exact ix_rowB
end My
set_option Elab.async false
set_option linter.all false
set_option maxRecDepth 100000
set_option maxHeartbeats 4000000
/-! ### check words made one data word after the other -/
namespace My
open PySem PySem.Spec PyProof.Rows L2
def tE (b x : Nat) : Int := ((tabE b)[x]?).getD 0
def pwI (b : Nat) (e : Int) : Nat := pw b (e % (turn b : Int)).toNat
theorem pwI_lt {b : Nat} (hb : Wd b) (e : Int) : pwI b e < span b := pw_lt hb _
/-- the exponents of the factor's words -/
def cfE (b s m : Nat) : Nat → Int
  | 0 => 0
  | j + 1 => cfE b s m j + ((s : Int) + (j : Int) + tE b (pw b (m - j) ^^^ 1) - tE b (pw b (j + 1) ^^^ 1))
def cfL (b s m : Nat) : List Nat := (List.range m).map fun j => pwI b (cfE b s m (j + 1))
theorem cfL_ws {b s m : Nat} (hb : Wd b) : Ws b (cfL b s m) := fun x hx => by
  unfold cfL at hx
  obtain ⟨k, _, rfl⟩ := List.mem_map.mp hx
  exact pwI_lt hb _
def stG (b n : Nat) (g : List Nat) : List Nat := List.zipWith (fun x y => x ^^^ y) (g ++ [0]) (0 :: g.map fun x => mul b x (pw b n))
def gq (b : Nat) : Nat → List Nat
  | 0 => [1]
  | n + 1 => stG b n (gq b n)
/-! values -/
/-! another start -/
def sc (b s : Nat) : Nat → List Nat → List Nat
  | _, [] => []
  | j, x :: xs => mul b x (pw b (s * j)) :: sc b s (j + 1) xs
/-! the rest after one more word -/
def nxt (b m : Nat) (g r : List Nat) (w : Nat) : List Nat := (List.range m).map fun i => gd r (i + 1) ^^^ mul b (gd g i) (gd r 0 ^^^ w)
theorem nxt_len (b m : Nat) (g r : List Nat) (w : Nat) : (nxt b m g r w).length = m := by unfold nxt; simp
theorem nxt_ws {b m : Nat} {g r : List Nat} {w : Nat} (hb : Wd b) (hg : Ws b g) (hr : Ws b r) : Ws b (nxt b m g r w) := fun x hx => by
  unfold nxt at hx
  obtain ⟨k, _, rfl⟩ := List.mem_map.mp hx
  exact xor_lt hb (gd_lt hb hr _) (mul_lt hb (gd_lt hb hg _))
def chkF (b m : Nat) (g r ws : List Nat) : List Nat := ws.foldl (nxt b m g) r
theorem chkF_ok {b m : Nat} {g : List Nat} (hb : Wd b) (hg : Ws b g) : ∀ (ws r : List Nat), Ws b r → r.length = m → Ws b (chkF b m g r ws) ∧ (chkF b m g r ws).length = m
  | [], r, hr, hl => ⟨hr, hl⟩
  | w :: ws, r, hr, hl => chkF_ok hb hg ws (nxt b m g r w) (nxt_ws hb hg hr) (nxt_len _ _ _ _ _)
def chk (b s m : Nat) (ws : List Nat) : List Nat := chkF b m (cfL b s m) (List.replicate m 0) ws
theorem rep_ws {b m : Nat} (hb : Wd b) : Ws b (List.replicate m 0) := fun x hx => by
  have := span_pos hb
  rw [List.eq_of_mem_replicate hx]
  omega
theorem chk_len {b s m : Nat} {ws : List Nat} (hb : Wd b) : (chk b s m ws).length = m := (chkF_ok hb (cfL_ws hb) ws _ (rep_ws hb) (by simp)).2
theorem chk_ws {b s m : Nat} {ws : List Nat} (hb : Wd b) (hw : Ws b ws) : Ws b (chk b s m ws) := (chkF_ok hb (cfL_ws hb) ws _ (rep_ws hb) (by simp)).1
theorem gd_rep (m i : Nat) : gd (List.replicate m 0) i = 0 := by
  unfold gd
  by_cases h : i < m
  · simp [List.getD, List.getElem?_replicate, h]
  · simp [List.getD, List.getElem?_replicate, h]
theorem nxt_nought (b m : Nat) (g : List Nat) : nxt b m g (List.replicate m 0) 0 = List.replicate m 0 := by
  unfold nxt
  have e : (fun i => gd (List.replicate m 0) (i + 1) ^^^ mul b (gd g i) (gd (List.replicate m 0) 0 ^^^ 0)) = fun _ => 0 := by
    funext i
    rw [gd_rep, gd_rep, Nat.xor_zero, mul_zero]
    rfl
  rw [e, List.map_const', List.length_range]
theorem chk_noughts {b s m : Nat} {ws : List Nat} (hb : Wd b) : ∀ n, chk b s m (List.replicate n 0 ++ ws) = chk b s m ws
  | 0 => rfl
  | n + 1 => by
    rw [List.replicate_succ]
    refine Eq.trans ?_ (chk_noughts hb n)
    show chkF b m (cfL b s m) (nxt b m (cfL b s m) (List.replicate m 0) 0) _ = _
    rw [nxt_nought]
    rfl
theorem zx_len (xs ys : List Nat) : (zx xs ys).length = xs.length := by unfold zx; simp
theorem gd_zx {xs ys : List Nat} (h : xs.length = ys.length) (k : Nat) : gd (zx xs ys) k = gd xs k ^^^ gd ys k := by
  unfold zx
  rw [gd_map]
  by_cases hk : k < xs.length
  · rw [if_pos hk]
  · rw [if_neg hk, gd_out (by omega), gd_out (by omega)]
    rfl
theorem nxt_sum {b m : Nat} {g r q : List Nat} {w v : Nat} (hb : Wd b) (hg : Ws b g) (hr : Ws b r) (hq : Ws b q) (hl : r.length = q.length) (hw : w < span b) (hv : v < span b) : nxt b m g (zx r q) (w ^^^ v) = zx (nxt b m g r w) (nxt b m g q v) := by
  have e : zx (nxt b m g r w) (nxt b m g q v) = (List.range m).map fun k => gd (nxt b m g r w) k ^^^ gd (nxt b m g q v) k := by
    show (List.range (nxt b m g r w).length).map _ = _
    rw [nxt_len]
  rw [e]
  refine List.map_congr_left fun k hk => ?_
  have hk := List.mem_range.mp hk
  unfold nxt
  rw [gd_map, gd_map, if_pos hk, if_pos hk, gd_zx hl, gd_zx hl]
  have e2 : gd r 0 ^^^ gd q 0 ^^^ (w ^^^ v) = (gd r 0 ^^^ w) ^^^ (gd q 0 ^^^ v) := by ac_rfl
  rw [e2, mul_xor_r hb (xor_lt hb (gd_lt hb hr 0) hw) (xor_lt hb (gd_lt hb hq 0) hv) (gd_lt hb hg k)]
  ac_rfl
theorem chkF_sum {b m : Nat} {g : List Nat} (hb : Wd b) (hg : Ws b g) : ∀ (xs ys r q : List Nat), xs.length = ys.length → Ws b xs → Ws b ys → Ws b r → Ws b q → r.length = m → q.length = m →
    chkF b m g (zx r q) (List.zipWith (fun x y => x ^^^ y) xs ys) = zx (chkF b m g r xs) (chkF b m g q ys)
  | [], [], r, q, _, _, _, _, _, _, _ => rfl
  | [], _ :: _, _, _, h, _, _, _, _, _, _ => by cases h
  | _ :: _, [], _, _, h, _, _, _, _, _, _ => by cases h
  | x :: xs, y :: ys, r, q, h, hx, hy, hr, hq, l1, l2 => by
    have x1 := hx x (by simp)
    have y1 := hy y (by simp)
    show chkF b m g (nxt b m g (zx r q) (x ^^^ y)) (List.zipWith (fun x y => x ^^^ y) xs ys) = zx (chkF b m g (nxt b m g r x) xs) (chkF b m g (nxt b m g q y) ys)
    rw [nxt_sum hb hg hr hq (by omega) x1 y1]
    exact chkF_sum hb hg xs ys _ _ (Nat.succ.inj h) (fun z hz => hx z (by simp [hz])) (fun z hz => hy z (by simp [hz])) (nxt_ws hb hg hr) (nxt_ws hb hg hq) (nxt_len _ _ _ _ _) (nxt_len _ _ _ _ _)
theorem zx_zip {xs ys : List Nat} (h : xs.length = ys.length) : zx xs ys = List.zipWith (fun x y => x ^^^ y) xs ys := by
  refine List.ext_getElem? fun i => ?_
  unfold zx
  rw [List.getElem?_zipWith, List.getElem?_map]
  by_cases hi : i < xs.length
  · rw [List.getElem?_range hi, gd_in hi, gd_in (by omega : i < ys.length)]
    rfl
  · rw [List.getElem?_eq_none (by simp; omega), List.getElem?_eq_none (show xs.length ≤ i by omega)]
    rfl
theorem chk_sum {b s m : Nat} {xs ys : List Nat} (hb : Wd b) (hx : Ws b xs) (hy : Ws b ys) (hl : ys.length = xs.length) : chk b s m (zx xs ys) = zx (chk b s m xs) (chk b s m ys) := by
  have e : zx (List.replicate m 0) (List.replicate m 0) = List.replicate m 0 := by
    unfold zx
    have e2 : (fun k => gd (List.replicate m 0) k ^^^ gd (List.replicate m 0) k) = fun _ => 0 := by
      funext k
      exact Nat.xor_self _
    rw [e2, List.map_const', List.length_range, List.length_replicate]
  have h := chkF_sum (m := m) hb (cfL_ws (s := s) (m := m) hb) xs ys (List.replicate m 0) (List.replicate m 0) hl.symm hx hy (rep_ws hb) (rep_ws hb) (by simp) (by simp)
  rw [e, ← zx_zip hl.symm] at h
  exact h
end My
set_option Elab.async false
set_option linter.all false
set_option maxRecDepth 100000
set_option maxHeartbeats 4000000
set_option Elab.async false
set_option linter.all false
set_option maxRecDepth 100000
set_option maxHeartbeats 4000000
/-! ### range(n) as a value; not in a range -/
namespace My
open PySem PySem.Spec PyProof.Rows L2
def rRange1 : List V → Hp → VK → Prop := fun vs H Q => ∃ n, vs = [V.int n] ∧ ∀ p, H p = none → Q (.ref p) (upd H p (.rng 0 n))
theorem cr_range1 {X : Cx} : CallR X (.type "range") rRange1 := by
  intro pins s σ H vs us Q I r h
  obtain ⟨n, rfl, q⟩ := h
  cases r with
  | cons r1 r =>
    cases r
    obtain ⟨t, rfl⟩ := r1
    exact call_range_1 ⟨.ref s.heap.objs.size, upd H s.heap.objs.size (.rng 0 n), I.laid (fun b o e => Heap.get?_push_of_some _ e) (Nat.le_refl _) ⟨_, _, _, Heap.get?_push_size s.heap rfl⟩, rfl, q _ (I.hok.fresh (Nat.le_refl _))⟩
end My
set_option Elab.async false
set_option linter.all false
set_option maxRecDepth 100000
set_option maxHeartbeats 4000000
/-! ### rows of plain words; values of polynomials by exponents -/
namespace My
open PySem PySem.Spec PyProof.Rows L2
theorem pt_truthK {X : Cx} {K : PySem.W.Frag} {a : Expr} {ta : TE} (h : X.K = K) (ha : PE X a ta) (he : ∀ whole, isTrue a X.env whole = (do let v ← whole; standAt a.pos; holding [v] (truthy v))) :
    PT X a (fun σ H Q => ta σ H fun x H' => ∃ k, TruV K x H' k ∧ Q k H') := by
  subst h
  exact pt_truth ha he
theorem SqB.truB {b : Bool} {K : PySem.W.Frag} {H : Hp} {a : Addr} {xs : List V} (h : SqB b K H a xs) : TruV K (.ref a) H (!xs.isEmpty) := by
  cases b
  · exact .inr (.inl ⟨xs, h, rfl⟩)
  · exact .inl ⟨xs, h, rfl⟩
theorem word_shr {b x : Nat} (hb : Wd b) (hx : x < span b) : ((x : Int) / 2 ^ ((b : Int)).toNat != 0) = false := by
  have e : ((x : Int) / 2 ^ ((b : Int)).toNat) = ((x / 2 ^ b : Nat) : Int) := by
    rw [Int.toNat_natCast]
    norm_cast
  rw [e, Nat.div_eq_of_lt (by rw [← span_pow hb]; exact hx)]
  rfl
end My
set_option Elab.async false
set_option linter.all false
set_option maxRecDepth 100000
set_option maxHeartbeats 4000000
/-! ### right rows: sums, multiples, moved rows, one changed word -/
namespace My
theorem zx_ws {b : Nat} {ws os : List Nat} (hb : Wd b) (hw : Ws b ws) (ho : Ws b os) : Ws b (zx ws os) := fun x hx => by
  obtain ⟨k, _, rfl⟩ := List.mem_map.mp hx
  exact xor_lt hb (gd_lt hb hw k) (gd_lt hb ho k)
end My
set_option Elab.async false
set_option linter.all false
set_option maxRecDepth 100000
set_option maxHeartbeats 4000000
/-! ### defs that show lists: they do their work where nothing is being shown -/
namespace My
open PySem PySem.Spec PyProof.Rows L2
/-- nothing is being shown around -/
def Still (A : Around) : Prop := A.guards = some []
theorem Still.in1 {A : Around} (g : Still A) : Still A.in1 := g
end My
set_option Elab.async false
set_option linter.all false
set_option maxRecDepth 100000
set_option maxHeartbeats 4000000
/-! ### the way in from the claim's caller, around whom nothing is being shown -/
set_option Elab.async false
set_option linter.all false
set_option maxRecDepth 100000
set_option maxHeartbeats 4000000
/-! ### any() over words -/
set_option Elab.async false
set_option linter.all false
set_option maxRecDepth 100000
set_option maxHeartbeats 1000000
/-! ### zip of any number of lists -/
namespace My
open PySem
open PySem.Sem (wp)
section
variable {prog : Program} {w : World} {A : Around} {E : Value → Shared → Prop}
/-- a zip object, its parts in the two cells behind the iterators -/
abbrev ZRec (h : Heap) (z TI TO : Addr) (f0 : Value) (b : Bool) : Prop :=
  h.get? z = some { cls := .type "zip", dict := none, data := .fields #[f0, .bool b, .bool false, .ref TI, .ref TO], slots := #[] }
abbrev STup (h : Heap) (T : Addr) (a : Array Value) : Prop := h.get? T = some { cls := .type "tuple", data := .seq a }
def refsOf (b n : Nat) : List Value := (List.range n).map fun j => .ref (b + j)
end
section
variable {prog : Program} {w : World} {A : Around} {E : Value → Shared → Prop} {s : Shared}
/-- the parts of a zip of the lists L, all iterators at i -/
structure ZAt (L : List Addr) (b i : Nat) (h : Heap) : Prop where
  z : ∃ f0 c, ZRec h (b + L.length + 2) (b + L.length) (b + L.length + 1) f0 c ∧ (f0 = .none ∨ ∃ T : Nat, f0 = rawInt T)
  ti : STup h (b + L.length) (refsOf b L.length).toArray
  to : ∃ a, STup h (b + L.length + 1) a ∧ a.size = L.length
  its : ∀ j l, L[j]? = some l → h.IsListIter (b + j) l i
end
end My
set_option Elab.async false
set_option linter.all false
set_option maxRecDepth 100000
set_option maxHeartbeats 1000000
/-! ### zip(*rows), in a comprehension -/
namespace My
open PySem PySem.Spec PyProof.Rows L2
def zfp (L : List Addr) (b : Nat) : List Addr := (List.range (L.length + 3)).map fun j => b + j
theorem zfp_in {L : List Addr} {b : Nat} (j : Nat) (h : j < L.length + 3) : b + j ∈ zfp L b := List.mem_map.mpr ⟨j, List.mem_range.mpr h, rfl⟩
theorem zfp_2 {L : List Addr} {b : Nat} : b + L.length + 2 ∈ zfp L b := zfp_in (L.length + 2) (by omega)
theorem zfp_1 {L : List Addr} {b : Nat} : b + L.length + 1 ∈ zfp L b := zfp_in (L.length + 1) (by omega)
theorem zfp_0 {L : List Addr} {b : Nat} : b + L.length ∈ zfp L b := zfp_in (L.length) (by omega)
theorem near4 {j n : Nat} (h : j < n + 3) : j < n ∨ j = n ∨ j = n + 1 ∨ j = n + 2 := by omega
theorem lt3 {j n : Nat} (h : j < n) : j < n + 3 := by omega
theorem ZAt.keep {L : List Addr} {b i : Nat} {h h' : Heap} (Z : ZAt L b i h) (k : ∀ c ∈ zfp L b, ∀ o, h.get? c = some o → h'.get? c = some o) : ZAt L b i h' := by
  obtain ⟨⟨f0, c0, hz, hf⟩, ti, ⟨a, to, la⟩, its⟩ := Z
  exact ⟨⟨f0, c0, k _ zfp_2 _ hz, hf⟩, k _ zfp_0 _ ti, ⟨a, k _ zfp_1 _ to, la⟩, fun j l e => (its j l e).at fun o q => k _ (zfp_in j (lt3 (List.getElem?_eq_some_iff.mp e).1)) o q⟩
theorem ZAt.obj {L : List Addr} {b i : Nat} {h : Heap} (Z : ZAt L b i h) : ∀ c ∈ zfp L b, ∃ o, h.get? c = some o ∧ ∀ v, o.data ≠ .cell v := by
  obtain ⟨⟨f0, c0, hz, hf⟩, ti, ⟨a, to, la⟩, its⟩ := Z
  intro c hc
  obtain ⟨j, hj, rfl⟩ := List.mem_map.mp hc
  rcases near4 (List.mem_range.mp hj) with c1 | rfl | rfl | rfl
  · obtain ⟨o, ho, _, hd⟩ := its j _ (List.getElem?_eq_getElem c1)
    exact ⟨o, ho, fun v q => by rw [hd] at q; cases q⟩
  · exact ⟨_, ti, fun v q => nomatch q⟩
  · exact ⟨_, to, fun v q => nomatch q⟩
  · exact ⟨_, hz, fun v q => nomatch q⟩
end My
set_option Elab.async false
set_option linter.all false
set_option maxRecDepth 100000
set_option maxHeartbeats 1000000
/-! ### rows, lists or tuples, from the end to the front; the index of a number in a tuple -/
set_option Elab.async false
set_option linter.all false
set_option maxRecDepth 100000
set_option maxHeartbeats 1000000
/-! ### grids of dots: rows of 0, 1, none; turned, mirrored; as they lie on the heap -/
namespace My
open PySem PySem.Spec PyProof.Rows L2
abbrev Grid := List (List (Option Nat))
def vG : Option Nat → V
  | none => .non
  | some n => vN n
def DotOk (o : Option Nat) : Prop := o = none ∨ o = some 0 ∨ o = some 1
structure Sq (n : Nat) (g : Grid) : Prop where
  len : g.length = n
  row : ∀ r ∈ g, r.length = n
  dot : ∀ r ∈ g, ∀ o ∈ r, DotOk o
def SideOk (n : Nat) : Prop := n = 8 ∨ n = 12 ∨ n = 16 ∨ n = 20 ∨ n = 24
def cell (g : Grid) (i j : Nat) : Option Nat := (g.getD i []).getD j none
theorem getD_in {α : Type} {l : List α} {i : Nat} {d : α} (h : i < l.length) : l.getD i d = l[i] := by
  rw [List.getD_eq_getElem?_getD, List.getElem?_eq_getElem h]
  rfl
theorem getD_mem {α : Type} {l : List α} {i : Nat} {d : α} (h : i < l.length) : l.getD i d ∈ l := by
  rw [getD_in h]
  exact List.getElem_mem h
theorem grid_ext {n : Nat} {g h : Grid} (a : Sq n g) (b : Sq n h) (e : ∀ i j, i < n → j < n → cell g i j = cell h i j) : g = h := by
  have l1 := a.len
  have l2 := b.len
  refine List.ext_getElem (by rw [l1, l2]) fun i h1 h2 => ?_
  have r1 := a.row _ (List.getElem_mem h1)
  have r2 := b.row _ (List.getElem_mem h2)
  refine List.ext_getElem (by rw [r1, r2]) fun j h3 h4 => ?_
  have q := e i j (by omega) (by omega)
  unfold cell at q
  rw [getD_in h1, getD_in h2, getD_in h3, getD_in h4] at q
  exact q
/-! ### on the heap -/
structure GrB (k : Bool) (K : PySem.W.Frag) (H : Hp) (a : Addr) (g : Grid) : Prop where
  ex : ∃ L : List Addr, SqB k K H a (L.map V.ref) ∧ L.length = g.length ∧ ∀ (j : Nat) (l : Addr) (r : List (Option Nat)), L[j]? = some l → g[j]? = some r → SqB k K H l (r.map vG)
theorem GrB.same {k : Bool} {K : PySem.W.Frag} {H H' : Hp} {a : Addr} {g : Grid} (h : GrB k K H a g) (s : Same H H') : GrB k K H' a g := by
  obtain ⟨L, h1, h2, h3⟩ := h.ex
  exact ⟨L, Same.sqb s h1, h2, fun j l r e1 e2 => Same.sqb s (h3 j l r e1 e2)⟩
structure FrI (H H' : Hp) (D : Addr) (L : List Addr) (g : Grid) (i : Nat) : Prop where
  same : Same H H'
  out : H' D = some (.lst (L.map V.ref))
  len : L.length = i
  row : ∀ (j : Nat) (l : Addr) (r : List (Option Nat)), L[j]? = some l → g[j]? = some r → H l = none ∧ l ≠ D ∧ H' l = some (.lst (r.map vG))
theorem FrI.start {H : Hp} {D : Addr} {g : Grid} (h : H D = none) : FrI H (upd H D (.lst [])) D [] g 0 := ⟨same_upd h, upd_same, rfl, fun j l r e => by cases e⟩
theorem FrI.step {H H' H2 : Hp} {D c : Addr} {L : List Addr} {g : Grid} {i : Nat} {r : List (Option Nat)} (F : FrI H H' D L g i) (hD : H D = none) (hr : g[i]? = some r) (s : Same H' H2) (hc : H' c = none) (e : H2 c = some (.lst (r.map vG))) :
    FrI H (upd H2 D (.lst (L.map V.ref ++ [V.ref c]))) D (L ++ [c]) g (i + 1) := by
  obtain ⟨s0, out, len, row⟩ := F
  have ncD : c ≠ D := fun z => by rw [z, out] at hc; cases hc
  refine ⟨fun b o hb => ?_, ?_, by rw [List.length_append, len]; rfl, fun j l q e1 e2 => ?_⟩
  · rw [upd_ne (ne_of_none hb hD)]
    exact s _ _ (s0 _ _ hb)
  · rw [upd_same, List.map_append]
    rfl
  · by_cases cj : j < i
    · rw [List.getElem?_append_left (by rw [len]; exact cj)] at e1
      obtain ⟨q1, q2, q3⟩ := row j l q e1 e2
      exact ⟨q1, q2, by rw [upd_ne q2]; exact s _ _ q3⟩
    · have hl := (List.getElem?_eq_some_iff.mp e1).1
      rw [List.length_append, len] at hl
      have ej : j = i := by simp at hl; omega
      subst ej
      rw [List.getElem?_append_right (by rw [len]; exact Nat.le_refl _), len, Nat.sub_self] at e1
      cases e1
      rw [hr] at e2
      cases e2
      exact ⟨Same.free s0 hc, ncD, by rw [upd_ne ncD]; exact e⟩
/-- a new grid of new rows -/
def Fr (H H' : Hp) (D : Addr) (g : Grid) : Prop := H D = none ∧ ∃ L, FrI H H' D L g g.length
theorem Fr.same0 {H H' : Hp} {D : Addr} {g : Grid} (h : Fr H H' D g) : Same H H' := let ⟨_, _, F⟩ := h; F.same
theorem Fr.ext {H H' H2 : Hp} {D : Addr} {g : Grid} (h : Fr H H' D g) (s : Same H' H2) : Fr H H2 D g := by
  obtain ⟨hD, L, F⟩ := h
  exact ⟨hD, L, F.same.trans s, s _ _ F.out, F.len, fun j l r e1 e2 => let ⟨q1, q2, q3⟩ := F.row j l r e1 e2; ⟨q1, q2, s _ _ q3⟩⟩
theorem Fr.back {H0 H H' : Hp} {D : Addr} {g : Grid} (h : Fr H H' D g) (s : Same H0 H) : Fr H0 H' D g := by
  obtain ⟨hD, L, F⟩ := h
  exact ⟨Same.free s hD, L, s.trans F.same, F.out, F.len, fun j l r e1 e2 => let ⟨q1, q2, q3⟩ := F.row j l r e1 e2; ⟨Same.free s q1, q2, q3⟩⟩
theorem Fr.gr {K : PySem.W.Frag} {H H' : Hp} {D : Addr} {g : Grid} (h : Fr H H' D g) : GrB true K H' D g := by
  obtain ⟨_, L, F⟩ := h
  exact ⟨L, .lst F.out, F.len, fun j l r e1 e2 => .lst (F.row j l r e1 e2).2.2⟩
/-! ### compared -/
end My
set_option Elab.async false
set_option linter.all false
set_option maxRecDepth 100000
set_option maxHeartbeats 1000000
/-! ### rules that name K, for comprehensions; type() of a dot; a second for of a comprehension -/
namespace My
open PySem PySem.Spec PyProof.Rows L2
theorem pi_seqK {X : Cx} {K : PySem.W.Frag} {tg : Expr} {l : Expr} {tl : TE} (h : X.K = K) (hl : PE X l tl) : PI X tg l (iSeq K tl) := by
  subst h
  exact pi_seq hl
def sidesI : List Int := [8, 12, 16, 20, 24]
theorem side_le {n : Nat} (h : SideOk n) : 8 ≤ n ∧ n ≤ 24 := by
  rcases h with rfl | rfl | rfl | rfl | rfl <;> decide
section
variable {J : It} {n : Nat} {G : Hp → Prop} {Y : Nat → Hp → V → Hp → Prop}
/-- the turns of a first for that holds a second one -/
theorem lc2_it (w : Walk J n G Y) {g g1 : TG} {tt tt1 : TT} {wi1 : TI} {te : TE} {vs vs1 : List Nat} {σ : L2.St} {H1 : Hp} {D : Addr} {Qd : Hp → Prop} (Pv : Nat → Hp → Prop) (h0 : Pv 0 (upd H1 D (.lst []))) (hG : ∀ i H, i ≤ n → Pv i H → G H)
    (hs : ∀ i x H H', i < n → Pv i H → Y i H x H' → g x (wipe σ vs) H' fun σ2 H2 => wipe σ2 vs = wipe σ vs ∧ tt σ2 H2 fun b H3 =>
      if b = true then wi1 σ2 H3 fun J1 H4 => ∃ W1 : Nat → Nat → Hp → Prop, (∃ m, W1 0 m H4) ∧ ∀ j k H, W1 j k H →
        (J1.stop j H ∧ Pv (i + 1) H) ∨ (J1.go j H ∧ ∃ Nx1 : Hp → Prop, (∀ H', Nx1 H' → ∃ k', k' < k ∧ W1 (j + 1) k' H') ∧ ∀ x H', J1.yld j H x H' → g1 x (wipe σ2 vs1) H' fun σ3 H5 => wipe σ3 vs1 = wipe σ2 vs1 ∧ tt1 σ3 H5 fun b H6 =>
          if b = true then te σ3 H6 fun y H7 => ∃ acc, H7 D = some (.lst acc) ∧ acc.length < sizeLine ∧ Nx1 (upd H7 D (.lst (acc ++ [y]))) else Nx1 H6)
      else Pv (i + 1) H3) (hd : ∀ H, Pv n H → Qd H) :
    ∃ W : Nat → Nat → Hp → Prop, (∃ m, W 0 m (upd H1 D (.lst []))) ∧ ∀ i m H, W i m H →
      (J.stop i H ∧ Qd H) ∨ (J.go i H ∧ ∃ Nx : Hp → Prop, (∀ H', Nx H' → ∃ m', m' < m ∧ W (i + 1) m' H') ∧ ∀ x H', J.yld i H x H' → g x (wipe σ vs) H' fun σ2 H2 => wipe σ2 vs = wipe σ vs ∧ tt σ2 H2 fun b H3 =>
        if b = true then wi1 σ2 H3 fun J1 H4 => ∃ W1 : Nat → Nat → Hp → Prop, (∃ m, W1 0 m H4) ∧ ∀ j k H, W1 j k H →
          (J1.stop j H ∧ Nx H) ∨ (J1.go j H ∧ ∃ Nx1 : Hp → Prop, (∀ H', Nx1 H' → ∃ k', k' < k ∧ W1 (j + 1) k' H') ∧ ∀ x H', J1.yld j H x H' → g1 x (wipe σ2 vs1) H' fun σ3 H5 => wipe σ3 vs1 = wipe σ2 vs1 ∧ tt1 σ3 H5 fun b H6 =>
            if b = true then te σ3 H6 fun y H7 => ∃ acc, H7 D = some (.lst acc) ∧ acc.length < sizeLine ∧ Nx1 (upd H7 D (.lst (acc ++ [y]))) else Nx1 H6)
        else Nx H3) := by
  refine ⟨fun i m H => m = n - i ∧ i ≤ n ∧ Pv i H, ⟨n, by simp, Nat.zero_le _, h0⟩, ?_⟩
  rintro i m H ⟨rfl, hi, p⟩
  have q := hG i H hi p
  by_cases hlt : i < n
  · exact .inr ⟨w.goes i H hlt q, Pv (i + 1), fun H' p' => ⟨n - (i + 1), by omega, rfl, hlt, p'⟩, fun x H' y => hs i x H H' hlt p (w.yields i H x H' hlt q y)⟩
  · have e : i = n := by omega
    subst e
    exact .inl ⟨w.stops H q, hd H p⟩
/-- the turns of a second for -/
theorem lc_in (w : Walk J n G Y) {g : TG} {tt : TT} {te : TE} {vs : List Nat} {σ : L2.St} {H1 : Hp} {D : Addr} {Qd : Hp → Prop} (Pv : Nat → Hp → Prop) (h0 : Pv 0 H1) (hG : ∀ i H, i ≤ n → Pv i H → G H)
    (hs : ∀ i x H H', i < n → Pv i H → Y i H x H' → g x (wipe σ vs) H' fun σ2 H2 => wipe σ2 vs = wipe σ vs ∧ tt σ2 H2 fun b H3 =>
      if b = true then te σ2 H3 fun y H4 => ∃ acc, H4 D = some (.lst acc) ∧ acc.length < sizeLine ∧ Pv (i + 1) (upd H4 D (.lst (acc ++ [y]))) else Pv (i + 1) H3) (hd : ∀ H, Pv n H → Qd H) :
    ∃ W : Nat → Nat → Hp → Prop, (∃ m, W 0 m H1) ∧ ∀ i m H, W i m H →
      (J.stop i H ∧ Qd H) ∨ (J.go i H ∧ ∃ Nx : Hp → Prop, (∀ H', Nx H' → ∃ m', m' < m ∧ W (i + 1) m' H') ∧ ∀ x H', J.yld i H x H' → g x (wipe σ vs) H' fun σ2 H2 => wipe σ2 vs = wipe σ vs ∧ tt σ2 H2 fun b H3 =>
        if b = true then te σ2 H3 fun y H4 => ∃ acc, H4 D = some (.lst acc) ∧ acc.length < sizeLine ∧ Nx (upd H4 D (.lst (acc ++ [y]))) else Nx H3) := by
  refine ⟨fun i m H => m = n - i ∧ i ≤ n ∧ Pv i H, ⟨n, by simp, Nat.zero_le _, h0⟩, ?_⟩
  rintro i m H ⟨rfl, hi, p⟩
  have q := hG i H hi p
  by_cases hlt : i < n
  · exact .inr ⟨w.goes i H hlt q, Pv (i + 1), fun H' p' => ⟨n - (i + 1), by omega, rfl, hlt, p'⟩, fun x H' y => hs i x H H' hlt p (w.yields i H x H' hlt q y)⟩
  · have e : i = n := by omega
    subst e
    exact .inl ⟨w.stops H q, hd H p⟩
end
end My
set_option Elab.async false
set_option linter.all false
set_option maxRecDepth 100000
set_option maxHeartbeats 1000000
/-! ### a module's tuples of tuples; min of a tuple; list(range(a, b, c)); sum of lists -/
namespace My
open PySem PySem.Spec PyProof.Rows L2
def KTupR (K : PySem.W.Frag) (a : Addr) (cs : List Addr) : Prop := ∃ (n : Nat) (sl : Array (Option Value)), K.lookup a = some ⟨.type "tuple", none, .seq (cs.map Value.ref).toArray n, sl⟩
theorem refs_of : ∀ cs : List Addr, Vals (cs.map V.ref) (cs.map Value.ref)
  | [] => .nil
  | c :: cs => .cons rfl (refs_of cs)
theorem KTupR.sq {K : PySem.W.Frag} {a : Addr} {cs : List Addr} {H : Hp} (h : KTupR K a cs) (hz : cs.length ≤ 1000 := by decide) : SqT K H a (cs.map V.ref) := by
  obtain ⟨n, sl, e⟩ := h
  exact .inr ⟨_, (cs.map Value.ref).toArray, n, e, rfl, rfl, by rw [List.size_toArray, List.length_map]; exact Nat.le_trans hz (by decide), by simpa using refs_of cs⟩
section
variable {prog : Program} {w : World} {A : Around} {E : Value → Shared → Prop} {s : Shared} {l : Addr} {xs : Array (Int × Tok)}
theorem min_intTuple {Q : Value → Shared → Prop} (hh : A.handled = none) (hl : s.heap.IsTuple l (intItems xs)) (hne : 0 < xs.size)
    (h : ∀ v h' tk, (intItems xs)[argBest (fun i j => decide (numAt xs i < numAt xs j)) (xs.size - 1)]? = some v → (∀ b o, s.heap.get? b = some o → h'.get? b = some o) → Q v { s with heap := h', toks := tk }) :
    wpAny (model prog w) A (call (.builtin "min") [.ref l]) Q E s := by
  have hlt : l < s.heap.objs.size := by obtain ⟨o, e, _⟩ := hl; exact Heap.lt_size e
  refine call_min_walk (wpAny_pyIter_tuple hl ?_)
  refine ⟨_, [_, l], [_], _, _, _, _, rfl, Walks.tuple (A := A.in1) hh _ l (Nat.ne_of_lt hlt) (intItems xs),
    ⟨⟨_, Heap.get?_push_size _ rfl, rfl, rfl⟩, hl.push _⟩, fun c hc => ?_, by simpa [intItems] using hne, CmpOf.ints_lt (numAt xs) (fun _ _ => intItems_at), fun v h' tk hP hk => ?_⟩
  · show c < (s.heap.push _).objs.size
    rw [Heap.size_push]
    rcases List.mem_cons.mp hc with rfl | hc
    · exact Nat.lt_succ_self _
    · rw [List.mem_singleton.mp hc]
      exact Nat.lt_succ_of_lt hlt
  · refine h v h' tk (by simpa [intItems] using hP) fun b o e => hk b o ?_ (Heap.get?_push_of_some _ e)
    intro hb
    rw [List.mem_singleton.mp hb] at e
    exact absurd (Heap.lt_size e) (Nat.lt_irrefl _)
end
end My
namespace My
open PySem PySem.Spec PyProof.Rows L2
section
variable {X : Cx}
/-- min(t) of a tuple of ints -/
def rMinT (K : PySem.W.Frag) : List V → Hp → VK → Prop := fun vs H Q => ∃ (a : Addr) (ns : List Int), vs = [V.ref a] ∧ SqT K H a (ns.map V.int) ∧ 0 < ns.length ∧ ∀ m, m ∈ ns → (∀ y, y ∈ ns → m ≤ y) → Q (.int m) H
theorem cr_minT (hc : X.calm = true) : CallR X (.builtin "min") (rMinT X.K) := by
  intro pins s σ H vs us Q I r h
  obtain ⟨a, ns, rfl, hs, hne, q⟩ := h
  obtain ⟨its, rv, hl, _⟩ := I.tuple hs
  rw [Vals.ref1 r]
  have hi := rv.ints
  obtain ⟨xs, e⟩ := hi.allInts.items
  have hn : numsOf (intItems xs).toList = ns := by rw [← e]; exact hi.numsOf
  rw [nums_intItems] at hn
  subst hn
  have hl' : s.heap.IsTuple a (intItems xs) := by rw [← e]; exact hl
  have hsz : 0 < xs.size := by simpa using hne
  refine min_intTuple (I.ok.hd hc) hl' hsz fun v h' tk hv hk => ?_
  obtain ⟨t, rfl⟩ := intItems_at hv
  obtain ⟨h1, h2⟩ := argBest_lt (numAt xs) (xs.size - 1)
  refine ⟨.int _, H, I.kept hk, ⟨_, rfl⟩, q _ ?_ fun b hb => ?_⟩
  · rw [numAt_eq]; exact PySem.getD_mem (by rw [List.length_map, Array.length_toList]; omega)
  · obtain ⟨j, hj, rfl⟩ := mem_getD hb
    rw [List.length_map, Array.length_toList] at hj
    rw [← numAt_eq]; exact h2 j (by omega)
/-- a range object with a step -/
def RngO (r : Addr) (i j c : Int) : HO := .ext fun h => ∃ t u v, h.get? r = some { cls := .type "range", dict := none, data := .fields #[.int i t, .int j u, .int c v], slots := #[] }
def rRange3 : List V → Hp → VK → Prop := fun vs H Q => ∃ (i j c : Int) (n : Nat), vs = [.int i, .int j, .int c] ∧ RgC i j c n ∧ ∀ p, H p = none → Q (.ref p) (upd H p (RngO p i j c))
theorem cr_range3 : CallR X (.type "range") rRange3 := by
  intro pins s σ H vs us Q I r h
  obtain ⟨i, j, k, n, rfl, ⟨c0, c1, c2, c3⟩, q⟩ := h
  cases r with
  | cons r rr =>
    cases rr with
    | cons r' rr =>
      cases rr with
      | cons r'' rr =>
        cases rr
        obtain ⟨t, rfl⟩ := r
        obtain ⟨t', rfl⟩ := r'
        obtain ⟨t'', rfl⟩ := r''
        refine call_range_3 c0 ?_ (.inl (PyProof.noPylong_small c1))
        refine ⟨.ref s.heap.objs.size, _, I.laid (t' := s.toks) (o := RngO s.heap.objs.size i j k) (fun b o e => Heap.get?_push_of_some _ e) (Nat.le_refl _) ?_, rfl, q _ (I.hok.fresh (Nat.le_refl _))⟩
        refine ⟨⟨t, t', t'', Heap.get?_push_size _ rfl⟩, ⟨_, Heap.get?_push_size _ rfl⟩, fun h1 h2 ⟨a, b, c, e⟩ k => ⟨a, b, c, k _ e⟩⟩
def rngL (i c : Int) (n : Nat) : List Int := (List.range n).map fun (k : Nat) => i + (k : Int) * c
def rListR : List V → Hp → VK → Prop := fun vs H Q => ∃ (p : Addr) (i j c : Int) (n : Nat), vs = [.ref p] ∧ H p = some (RngO p i j c) ∧ RgC i j c n ∧ n ≤ 1000 ∧ ∀ l, H l = none → Q (.ref l) (upd H l (.lst ((rngL i c n).map V.int)))
theorem cr_listR (hc : X.calm = true) : CallR X (.type "list") rListR := by
  intro pins s σ H vs us Q I r h
  obtain ⟨p, i, j, k, n, rfl, hp, ⟨c0, c1, c2, c3⟩, hn, q⟩ := h
  rw [Vals.ref1 r]
  obtain ⟨⟨t, u, v, e⟩, _, _⟩ := I.hok p _ hp
  refine call_list_range (I.ok.hd hc) e c2 c3 (Nat.le_trans hn (by decide)) fun h' tk acc c' hk hl hi => ?_
  have lr : (rngL i k n).length = n := by unfold rngL; rw [List.length_map, List.length_range]
  refine ⟨.ref s.heap.objs.size, _, I.laid (t' := tk) (o := .lst ((rngL i k n).map V.int)) hk (Nat.le_refl _) ?_, rfl, q _ (I.hok.fresh (Nat.le_refl _))⟩
  refine ⟨by rw [List.length_map, lr]; exact Nat.le_trans hn (by decide), acc.toList, c', ?_, by rw [Array.toArray_toList]; exact hl⟩
  refine vals_of_idx _ _ (by rw [List.length_map, lr, Array.length_toList]; exact hi.1) fun j w hj => ?_
  obtain ⟨tt, rfl⟩ := hi.2 j w (by rw [← Array.getElem?_toList]; exact hj)
  have hjn : j < n := by
    have := (List.getElem?_eq_some_iff.mp hj).1
    rw [Array.length_toList, hi.1] at this
    exact this
  refine ⟨.int (i + (j : Int) * k), ?_, ⟨_, rfl⟩⟩
  unfold rngL
  rw [List.getElem?_map, List.getElem?_map, List.getElem?_range hjn]
  rfl
end
end My
namespace PySem.F
end PySem.F
namespace My
open PySem PySem.Spec PyProof.Rows L2
open PySem.Sem (wp)
section
variable {prog : Program} {w : World} {A : Around} {E : Value → Shared → Prop} {s : Shared}
def LstO (h : Heap) (a : Addr) (vs : List Value) : Prop := ∃ c : Nat, h.get? a = some { cls := .type "list", dict := none, data := .seq vs.toArray c, slots := #[] }
theorem LstO.at {h h' : Heap} {a : Addr} {vs : List Value} (x : LstO h a vs) (k : ∀ o, h.get? a = some o → h'.get? a = some o) : LstO h' a vs := let ⟨c, e⟩ := x; ⟨c, k _ e⟩
end
end My
set_option Elab.async false
set_option linter.all false
set_option maxRecDepth 100000
set_option maxHeartbeats 1000000
/-! ### a module's tuples of tuples of tuples of whole numbers, and its tuples of functions, checked by one question -/
namespace My
open PySem PySem.Spec PyProof.Rows L2
def refsB : List Value → Option (List Addr)
  | [] => some []
  | .ref a :: vs => (refsB vs).map (a :: ·)
  | _ :: _ => none
theorem refsB_ok : ∀ {vs : List Value} {cs : List Addr}, refsB vs = some cs → vs = cs.map Value.ref
  | [], cs, h => by cases h; rfl
  | .ref a :: vs, cs, h => by
    obtain ⟨r, e, rfl⟩ := Option.map_eq_some_iff.mp (show (refsB vs).map (a :: ·) = some cs from h)
    rw [refsB_ok e]
    rfl
/-- the addresses that a tuple of the written part holds -/
def tupRefs (K : PySem.W.Frag) (a : Addr) : Option (List Addr) :=
  match K.lookup a with
  | some ⟨.type s, none, .seq its _, _⟩ => if s == "tuple" && Nat.ble its.size 1000 then refsB its.toList else none
  | _ => none
theorem tupRefs_ok {K : PySem.W.Frag} {a : Addr} {cs : List Addr} (h : tupRefs K a = some cs) : KTupR K a cs ∧ cs.length ≤ 1000 := by
  unfold tupRefs at h
  split at h
  · next s its n sl e =>
    split at h
    · next c =>
      rw [Bool.and_eq_true] at c
      have es : s = "tuple" := by simpa using c.1
      subst es
      have ev := refsB_ok h
      have hl : cs.length = its.size := by rw [← Array.length_toList, ev, List.length_map]
      refine ⟨⟨n, sl, ?_⟩, by rw [hl]; exact Nat.le_of_ble_eq_true c.2⟩
      rw [e, ← ev]
    · cases h
  · cases h
def tup2B (K : PySem.W.Frag) (a : Addr) (d : List (List Int)) : Bool :=
  match tupRefs K a with
  | some cs => Nat.beq cs.length d.length && (cs.zip d).all fun p => tupB K p.1 p.2
  | none => false
def tup3B (K : PySem.W.Frag) (a : Addr) (d : List (List (List Int))) : Bool :=
  match tupRefs K a with
  | some cs => Nat.beq cs.length d.length && (cs.zip d).all fun p => tup2B K p.1 p.2
  | none => false
theorem zip_mem {α β : Type} {xs : List α} {ys : List β} {i : Nat} {x : α} {y : β} (h1 : xs[i]? = some x) (h2 : ys[i]? = some y) : (x, y) ∈ xs.zip ys :=
  List.mem_of_getElem? (i := i) (List.getElem?_zip_eq_some.mpr ⟨h1, h2⟩)
theorem tup2B_ok {K : PySem.W.Frag} {a : Addr} {d : List (List Int)} (h : tup2B K a d = true) : ∃ cs, KTupR K a cs ∧ cs.length ≤ 1000 ∧ cs.length = d.length ∧ ∀ (i : Nat) (c : Addr) (r : List Int), cs[i]? = some c → d[i]? = some r → tupB K c r = true := by
  unfold tup2B at h
  split at h
  · next cs e =>
    rw [Bool.and_eq_true] at h
    obtain ⟨k, l⟩ := tupRefs_ok e
    exact ⟨cs, k, l, Nat.eq_of_beq_eq_true h.1, fun i c r e1 e2 => List.all_eq_true.mp h.2 (c, r) (zip_mem e1 e2)⟩
  · cases h
theorem tup3B_ok {K : PySem.W.Frag} {a : Addr} {d : List (List (List Int))} (h : tup3B K a d = true) : ∃ cs, KTupR K a cs ∧ cs.length ≤ 1000 ∧ cs.length = d.length ∧ ∀ (i : Nat) (c : Addr) (r : List (List Int)), cs[i]? = some c → d[i]? = some r → tup2B K c r = true := by
  unfold tup3B at h
  split at h
  · next cs e =>
    rw [Bool.and_eq_true] at h
    obtain ⟨k, l⟩ := tupRefs_ok e
    exact ⟨cs, k, l, Nat.eq_of_beq_eq_true h.1, fun i c r e1 e2 => List.all_eq_true.mp h.2 (c, r) (zip_mem e1 e2)⟩
  · cases h
/-- a row of a table of three: the tuple of its rows, each a tuple of whole numbers -/
theorem tup3_at {K : PySem.W.Frag} {a : Addr} {d : List (List (List Int))} {i : Nat} {r : List (List Int)} (h : tup3B K a d = true) (e : d[i]? = some r) : ∃ cs : List Addr, (∀ H, SqT K H a (cs.map V.ref)) ∧ ∃ c : Addr, atI (cs.map V.ref) (i : Int) = some (.ref c) ∧
    ∃ bs : List Addr, (∀ H, SqT K H c (bs.map V.ref)) ∧ bs.length = r.length ∧ ∀ (j : Nat) (b : Addr) (q : List Int), bs[j]? = some b → r[j]? = some q → ∀ H, SqT K H b (q.map V.int) := by
  obtain ⟨cs, k, l, n, f⟩ := tup3B_ok h
  have hi : i < cs.length := by rw [n]; exact (List.getElem?_eq_some_iff.mp e).1
  have ec : cs[i]? = some cs[i] := List.getElem?_eq_getElem hi
  obtain ⟨bs, k2, l2, n2, f2⟩ := tup2B_ok (f i _ r ec e)
  exact ⟨cs, fun H => k.sq l, cs[i], atI_nat (by rw [List.getElem?_map, ec]; rfl), bs, fun H => k2.sq l2, n2, fun j b q e1 e2 H => tupB_ok (f2 j b q e1 e2)⟩
theorem op_catTK {X : Cx} {K : PySem.W.Frag} (h : X.K = K) : OpR X (binaryOp .Add) (rCatT K) := by
  subst h
  exact op_catT
/-- the bits of a word, the highest first -/
def bitsW (b w : Nat) : List Nat := (List.range b).map fun i => w / 2 ^ (b - 1 - i) % 2
def wordsB (b : Nat) (ws : List Nat) : List Nat := ws.flatMap (bitsW b)
theorem bits8 {w : Nat} (h : w < 256) : bitsW 8 w = bitsW 4 (w / 16) ++ bitsW 4 (w % 16) := by
  have q : ((List.range 256).all fun w => bitsW 8 w == bitsW 4 (w / 16) ++ bitsW 4 (w % 16)) = true := by decide +kernel
  exact eq_of_beq (List.all_eq_true.mp q w (List.mem_range.mpr h))
theorem bitsW_len (b w : Nat) : (bitsW b w).length = b := by
  unfold bitsW
  rw [List.length_map, List.length_range]
theorem wordsB_snoc (b : Nat) (ws : List Nat) (w : Nat) : wordsB b (ws ++ [w]) = wordsB b ws ++ bitsW b w := by
  unfold wordsB
  rw [List.flatMap_append]
  simp
theorem wordsB_len (b : Nat) : ∀ ws : List Nat, (wordsB b ws).length = b * ws.length
  | [] => rfl
  | w :: ws => by
    show (bitsW b w ++ wordsB b ws).length = b * (ws.length + 1)
    rw [List.length_append, bitsW_len, wordsB_len b ws, Nat.mul_succ, Nat.add_comm]
end My
set_option Elab.async false
set_option linter.all false
set_option maxRecDepth 100000
set_option maxHeartbeats 1000000
/-! ### check words as the sum of one share for each bit -/
namespace My
open PySem PySem.Spec PyProof.Rows L2
/-- words as one number -/
def numF (b : Nat) (ws : List Nat) : Nat := ws.foldl (fun a w => a * 2 ^ b + w) 0
theorem pow_xor {b x y : Nat} (a c : Nat) (hx : x < 2 ^ b) (hy : y < 2 ^ b) : (a ^^^ c) * 2 ^ b + (x ^^^ y) = (a * 2 ^ b + x) ^^^ (c * 2 ^ b + y) := by
  have hz : x ^^^ y < 2 ^ b := Nat.xor_lt_two_pow hx hy
  refine Nat.eq_of_testBit_eq fun i => ?_
  rw [Nat.testBit_xor, Nat.mul_comm, Nat.mul_comm a, Nat.mul_comm c, Nat.testBit_two_pow_mul_add _ hz, Nat.testBit_two_pow_mul_add _ hx, Nat.testBit_two_pow_mul_add _ hy]
  split
  · rw [Nat.testBit_xor]
  · rw [Nat.testBit_xor]
theorem numF_go {b : Nat} : ∀ (xs ys : List Nat) (a c : Nat), xs.length = ys.length → (∀ x ∈ xs, x < 2 ^ b) → (∀ y ∈ ys, y < 2 ^ b) →
    (List.zipWith (fun x y => x ^^^ y) xs ys).foldl (fun a w => a * 2 ^ b + w) (a ^^^ c) = xs.foldl (fun a w => a * 2 ^ b + w) a ^^^ ys.foldl (fun a w => a * 2 ^ b + w) c
  | [], [], _, _, _, _, _ => rfl
  | [], _ :: _, _, _, h, _, _ => by cases h
  | _ :: _, [], _, _, h, _, _ => by cases h
  | x :: xs, y :: ys, a, c, h, hx, hy => by
    rw [List.zipWith_cons_cons, List.foldl_cons, List.foldl_cons, List.foldl_cons, pow_xor a c (hx x (List.mem_cons_self ..)) (hy y (List.mem_cons_self ..))]
    exact numF_go xs ys _ _ (Nat.succ.inj h) (fun z hz => hx z (List.mem_cons_of_mem _ hz)) (fun z hz => hy z (List.mem_cons_of_mem _ hz))
theorem numF_zip {b : Nat} {xs ys : List Nat} (h : xs.length = ys.length) (hx : ∀ x ∈ xs, x < 2 ^ b) (hy : ∀ y ∈ ys, y < 2 ^ b) : numF b (List.zipWith (fun x y => x ^^^ y) xs ys) = numF b xs ^^^ numF b ys := by
  have := numF_go xs ys 0 0 h hx hy
  rw [Nat.xor_self] at this
  exact this
theorem numF_noughts (b : Nat) : ∀ n, numF b (List.replicate n 0) = 0
  | 0 => rfl
  | n + 1 => by
    have ih := numF_noughts b n
    unfold numF at ih ⊢
    rw [List.replicate_succ, List.foldl_cons, Nat.zero_mul, Nat.add_zero]
    exact ih
theorem span_two {b : Nat} (hb : Wd b) : span b = 2 ^ b := by rcases hb with rfl | rfl <;> rfl
/-- the check words of one word and noughts behind it, as a number -/
def oneF (b s m n w : Nat) : Nat := numF b (chk b s m (w :: List.replicate n 0))
theorem ws_one {b n w : Nat} (hb : Wd b) (hw : w < span b) : Ws b (w :: List.replicate n 0) := fun x hx => by
  rcases List.mem_cons.mp hx with rfl | h
  · exact hw
  · rw [List.eq_of_mem_replicate h]
    exact Nat.lt_trans Nat.zero_lt_one (span_pos hb)
theorem chk_zip {b s m : Nat} {xs ys : List Nat} (hb : Wd b) (hx : Ws b xs) (hy : Ws b ys) (hl : ys.length = xs.length) : numF b (chk b s m (List.zipWith (fun x y => x ^^^ y) xs ys)) = numF b (chk b s m xs) ^^^ numF b (chk b s m ys) := by
  rw [← zx_zip hl.symm, chk_sum hb hx hy hl, zx_zip (by rw [chk_len hb, chk_len hb])]
  refine numF_zip (by rw [chk_len hb, chk_len hb]) (fun x h => ?_) fun x h => ?_
  · rw [← span_two hb]
    exact chk_ws hb hx x h
  · rw [← span_two hb]
    exact chk_ws hb hy x h
theorem zip_noughts : ∀ n : Nat, List.zipWith (fun x y : Nat => x ^^^ y) (List.replicate n 0) (List.replicate n 0) = List.replicate n 0
  | 0 => rfl
  | n + 1 => by
    rw [List.replicate_succ, List.zipWith_cons_cons, zip_noughts n]
    rfl
theorem one_xor {b s m n v w : Nat} (hb : Wd b) (hv : v < span b) (hw : w < span b) : oneF b s m n (v ^^^ w) = oneF b s m n v ^^^ oneF b s m n w := by
  have h := chk_zip (s := s) (m := m) hb (ws_one (n := n) hb hv) (ws_one (n := n) hb hw) rfl
  rw [List.zipWith_cons_cons, zip_noughts] at h
  exact h
theorem one_zero {b s m n : Nat} (hb : Wd b) : oneF b s m n 0 = 0 := by
  unfold oneF
  have := chk_noughts (s := s) (m := m) (ws := []) hb (n + 1)
  rw [List.append_nil, List.replicate_succ] at this
  rw [this]
  exact numF_noughts b m
theorem zip_zero : ∀ ws : List Nat, List.zipWith (fun x y : Nat => x ^^^ y) (List.replicate ws.length 0) ws = ws
  | [] => rfl
  | w :: ws => by
    rw [List.length_cons, List.replicate_succ, List.zipWith_cons_cons, zip_zero ws, Nat.zero_xor]
/-- the first word's part is apart -/
theorem chk_first {b s m w : Nat} {ws : List Nat} (hb : Wd b) (hw : w < span b) (hs : Ws b ws) : numF b (chk b s m (w :: ws)) = oneF b s m ws.length w ^^^ numF b (chk b s m ws) := by
  have h := chk_zip (s := s) (m := m) (xs := w :: List.replicate ws.length 0) (ys := 0 :: ws) hb (ws_one hb hw) (fun x hx => by
    rcases List.mem_cons.mp hx with rfl | h
    · exact Nat.lt_trans Nat.zero_lt_one (span_pos hb)
    · exact hs x h) (by rw [List.length_cons, List.length_cons, List.length_replicate])
  rw [List.zipWith_cons_cons, zip_zero, Nat.xor_zero] at h
  rw [h]
  have e := chk_noughts (s := s) (m := m) (ws := ws) hb 1
  rw [show List.replicate 1 0 ++ ws = 0 :: ws from rfl] at e
  rw [e]
  rfl
/-! #### the shares -/
def rowS (b s m n : Nat) : List Nat := (List.range b).map fun j => oneF b s m n (2 ^ (b - 1 - j))
def shL (b s m : Nat) : Nat → List Nat
  | 0 => []
  | n + 1 => rowS b s m n ++ shL b s m n
theorem rowS_len (b s m n : Nat) : (rowS b s m n).length = b := by
  unfold rowS
  rw [List.length_map, List.length_range]
theorem shL_len (b s m : Nat) : ∀ n, (shL b s m n).length = n * b
  | 0 => by simp [shL]
  | n + 1 => by
    unfold shL
    rw [List.length_append, rowS_len, shL_len b s m n, Nat.succ_mul]
    omega
theorem shL_drop (b s m n : Nat) : ∀ k, (shL b s m (n + k)).drop (k * b) = shL b s m n
  | 0 => by simp
  | k + 1 => by
    have ih := shL_drop b s m n k
    show (rowS b s m (n + k) ++ shL b s m (n + k)).drop ((k + 1) * b) = _
    rw [Nat.succ_mul, Nat.add_comm (k * b) b, ← List.drop_drop, List.drop_left' (rowS_len b s m (n + k))]
    exact ih
/-- what the shares of the set bits come to -/
def tellF (t : Nat) (sh bits : List Nat) : Nat := (sh.zip bits).foldl (fun t p => if p.2 = 0 then t else t ^^^ p.1) t
theorem tell_app {t : Nat} {a b c d : List Nat} (h : a.length = c.length) : tellF t (a ++ b) (c ++ d) = tellF (tellF t a c) b d := by
  unfold tellF
  rw [List.zip_append h, List.foldl_append]
theorem tell_xor (sh : List Nat) : ∀ (bits : List Nat) (t u : Nat), tellF (t ^^^ u) sh bits = t ^^^ tellF u sh bits := by
  induction sh with
  | nil => intro bits t u; rfl
  | cons x sh ih =>
    intro bits t u
    cases bits with
    | nil => rfl
    | cons y bits =>
      unfold tellF at ih ⊢
      rw [List.zip_cons_cons, List.foldl_cons, List.foldl_cons]
      by_cases h : y = 0
      · simp only [h, if_true]
        exact ih bits t u
      · simp only [h, if_false]
        rw [Nat.xor_assoc]
        exact ih bits t (u ^^^ x)
/-- a word's bits, from the highest on -/
def highF (b w j : Nat) : Nat := w / 2 ^ (b - j) * 2 ^ (b - j)
theorem high_step {b w j : Nat} (hb : Wd b) (hw : w < span b) (hj : j < b) : highF b w (j + 1) = highF b w j ^^^ (if w / 2 ^ (b - 1 - j) % 2 = 0 then 0 else 2 ^ (b - 1 - j)) ∧ highF b w j < span b ∧ 2 ^ (b - 1 - j) < span b := by
  rcases hb with rfl | rfl
  · have q : ((List.range 16).all fun w => (List.range 4).all fun j => decide (highF 4 w (j + 1) = highF 4 w j ^^^ (if w / 2 ^ (4 - 1 - j) % 2 = 0 then 0 else 2 ^ (4 - 1 - j)) ∧ highF 4 w j < 16 ∧ 2 ^ (4 - 1 - j) < 16)) = true := by decide +kernel
    exact of_decide_eq_true (List.all_eq_true.mp (List.all_eq_true.mp q w (List.mem_range.mpr hw)) j (List.mem_range.mpr hj))
  · have q : ((List.range 256).all fun w => (List.range 8).all fun j => decide (highF 8 w (j + 1) = highF 8 w j ^^^ (if w / 2 ^ (8 - 1 - j) % 2 = 0 then 0 else 2 ^ (8 - 1 - j)) ∧ highF 8 w j < 256 ∧ 2 ^ (8 - 1 - j) < 256)) = true := by decide +kernel
    exact of_decide_eq_true (List.all_eq_true.mp (List.all_eq_true.mp q w (List.mem_range.mpr hw)) j (List.mem_range.mpr hj))
theorem tell_snoc {t : Nat} {a c : List Nat} {x y : Nat} (h : a.length = c.length) : tellF t (a ++ [x]) (c ++ [y]) = if y = 0 then tellF t a c else tellF t a c ^^^ x := by
  rw [tell_app h]
  rfl
theorem tell_word {b s m n w : Nat} (hb : Wd b) (hw : w < span b) : ∀ j, j ≤ b → tellF 0 ((List.range j).map fun j => oneF b s m n (2 ^ (b - 1 - j))) ((List.range j).map fun i => w / 2 ^ (b - 1 - i) % 2) = oneF b s m n (highF b w j)
  | 0, _ => by
    have e : highF b w 0 = 0 := by
      unfold highF
      rw [Nat.sub_zero, ← span_two hb, Nat.div_eq_of_lt hw, Nat.zero_mul]
    rw [e, one_zero hb]
    rfl
  | j + 1, h => by
    have ih := tell_word (s := s) (m := m) (n := n) hb hw j (by omega)
    obtain ⟨h1, h2, h3⟩ := high_step hb hw (show j < b by omega)
    rw [List.range_succ, List.map_append, List.map_append, List.map_cons, List.map_cons, List.map_nil, List.map_nil, tell_snoc (by rw [List.length_map, List.length_map]), ih, h1]
    split
    · rw [Nat.xor_zero]
    · rw [one_xor hb h2 h3]
theorem tell_row {b s m n w : Nat} (hb : Wd b) (hw : w < span b) : tellF 0 (rowS b s m n) (bitsW b w) = oneF b s m n w := by
  have h := tell_word (s := s) (m := m) (n := n) hb hw b (Nat.le_refl _)
  have e : highF b w b = w := by
    unfold highF
    rw [Nat.sub_self, Nat.pow_zero, Nat.div_one, Nat.mul_one]
  rw [e] at h
  exact h
/-- the shares tell the check words -/
theorem tell_chk {b s m : Nat} (hb : Wd b) : ∀ ws : List Nat, Ws b ws → tellF 0 (shL b s m ws.length) (wordsB b ws) = numF b (chk b s m ws)
  | [], _ => (numF_noughts b m).symm
  | w :: ws, h => by
    have hw := h w (List.mem_cons_self ..)
    have hs : Ws b ws := fun x hx => h x (List.mem_cons_of_mem _ hx)
    have ih := tell_chk (s := s) (m := m) hb ws hs
    show tellF 0 (rowS b s m ws.length ++ shL b s m ws.length) (bitsW b w ++ wordsB b ws) = _
    rw [tell_app (by rw [rowS_len, bitsW_len]), tell_row hb hw, chk_first hb hw hs, ← ih]
    have := tell_xor (shL b s m ws.length) (wordsB b ws) (oneF b s m ws.length w) 0
    rw [Nat.xor_zero] at this
    exact this
/-! #### a number's words -/
def numR (b : Nat) : List Nat → Nat
  | [] => 0
  | w :: r => numR b r * 2 ^ b + w
theorem numF_snoc (b : Nat) (ws : List Nat) (w : Nat) : numF b (ws ++ [w]) = numF b ws * 2 ^ b + w := by
  unfold numF
  rw [List.foldl_append]
  rfl
theorem numF_rev (b : Nat) : ∀ r : List Nat, numF b r.reverse = numR b r
  | [] => rfl
  | w :: r => by
    rw [List.reverse_cons, numF_snoc, numF_rev b r]
    rfl
theorem numR_at {b : Nat} : ∀ (r : List Nat) (p : Nat), (∀ x ∈ r, x < 2 ^ b) → p < r.length → r[p]? = some (numR b r / 2 ^ (b * p) % 2 ^ b)
  | [], _, _, h => by simp at h
  | w :: r, 0, hw, _ => by
    have h0 := hw w (List.mem_cons_self ..)
    rw [Nat.mul_zero, Nat.pow_zero, Nat.div_one]
    show some w = some ((numR b r * 2 ^ b + w) % 2 ^ b)
    rw [Nat.mul_comm, Nat.mul_add_mod, Nat.mod_eq_of_lt h0]
  | w :: r, p + 1, hw, h => by
    have h0 := hw w (List.mem_cons_self ..)
    have ih := numR_at r p (fun x hx => hw x (List.mem_cons_of_mem _ hx)) (by simpa using h)
    show r[p]? = some ((numR b r * 2 ^ b + w) / 2 ^ (b * (p + 1)) % 2 ^ b)
    have e : (numR b r * 2 ^ b + w) / 2 ^ (b * (p + 1)) = numR b r / 2 ^ (b * p) := by
      rw [Nat.mul_succ, Nat.add_comm (b * p) b, Nat.pow_add, ← Nat.div_div_eq_div_mul, Nat.mul_comm (numR b r), Nat.mul_add_div (Nat.two_pow_pos b), Nat.div_eq_of_lt h0, Nat.add_zero]
    rw [e]
    exact ih
theorem numF_at {b : Nat} {ws : List Nat} {i : Nat} (hw : ∀ x ∈ ws, x < 2 ^ b) (hi : i < ws.length) : ws[i]? = some (numF b ws / 2 ^ (b * (ws.length - 1 - i)) % 2 ^ b) := by
  have h := numR_at (b := b) ws.reverse (ws.length - 1 - i) (fun x hx => hw x (List.mem_reverse.mp hx)) (by rw [List.length_reverse]; omega)
  rw [← numF_rev, List.reverse_reverse, List.getElem?_reverse (by omega), show ws.length - 1 - (ws.length - 1 - i) = i by omega] at h
  exact h
end My
set_option Elab.async false
set_option linter.all false
set_option maxRecDepth 100000
set_option maxHeartbeats 4000000
/-! ### sorted tuples of ints, any number of them -/
set_option Elab.async false
set_option linter.all false
set_option maxRecDepth 100000
set_option maxHeartbeats 4000000
/-! ### zip of two sequences, each a list or a tuple -/
namespace My
open PySem
section heap
/-- an iterator over a list (true) or a tuple -/
def It1 : Bool → Heap → Addr → Addr → Nat → Prop
  | true => Heap.IsListIter
  | false => Heap.IsTupleIter
def Sq1 : Bool → Heap → Addr → Array Value → Prop
  | true => Heap.IsList
  | false => Heap.IsTuple
theorem It1.but : ∀ {k : Bool} {h h' : Heap} {a b l : Addr} {i : Nat}, It1 k h a l i → Heap.ExtBut b h h' → a ≠ b → It1 k h' a l i
  | true, _, _, _, _, _, _, x, e, n => Heap.IsListIter.extBut x e n
  | false, _, _, _, _, _, _, x, e, n => Heap.IsTupleIter.extBut x e n
theorem It1.at : ∀ {k : Bool} {h h' : Heap} {a l : Addr} {i : Nat}, It1 k h a l i → (∀ o, h.get? a = some o → h'.get? a = some o) → It1 k h' a l i
  | true, _, _, _, _, _, x, e => Heap.IsListIter.at x e
  | false, _, _, _, _, _, x, e => Heap.IsTupleIter.at x e
theorem It1.obj : ∀ {k : Bool} {h : Heap} {a l : Addr} {i : Nat}, It1 k h a l i → ∃ o, h.get? a = some o ∧ ∃ xs, o.data = .fields xs
  | true, _, _, _, _, ⟨o, e, _, d⟩ => ⟨o, e, _, d⟩
  | false, _, _, _, _, ⟨o, e, _, d⟩ => ⟨o, e, _, d⟩
theorem It1.lt {k : Bool} {h : Heap} {a l : Addr} {i : Nat} (x : It1 k h a l i) : a < h.objs.size := by
  obtain ⟨o, e, _⟩ := x.obj
  exact Heap.lt_size e
theorem Sq1.but : ∀ {k : Bool} {h h' : Heap} {l b : Addr} {xs : Array Value}, Sq1 k h l xs → Heap.ExtBut b h h' → l ≠ b → Sq1 k h' l xs
  | true, _, _, _, _, _, x, e, n => Heap.IsList.extBut x e n
  | false, _, _, _, _, _, x, e, n => Heap.IsTuple.extBut x e n
end heap
section
variable {prog : Program} {w : World} {A : Around} {E : Value → Shared → Prop} {s : Shared}
theorem next1 {it l : Addr} {i : Nat} {xs : Array Value} {x : Value} {Q : Value → Shared → Prop} : ∀ {k : Bool}, It1 k s.heap it l i → Sq1 k s.heap l xs → xs[i]? = some x →
    (∀ h', It1 k h' it l (i + 1) → Heap.SameBut it s.heap h' → Q x { s with heap := h' }) → wpAny (model prog w) A (Builtin.SmallTypes.nextOf (.ref it)) Q E s
  | true, h1, h2, hx, q => wpAny_nextOf_list_item h1 h2 hx q
  | false, h1, h2, hx, q => RZ.nextOf_tuple_item h1 h2 hx q
theorem end1 {it l : Addr} {i : Nat} {xs : Array Value} {Q : Value → Shared → Prop} (hh : A.handled = none) : ∀ {k : Bool}, It1 k s.heap it l i → Sq1 k s.heap l xs → xs[i]? = none →
    (∀ h' e, Heap.ExtBut it s.heap h' → (∃ o, h'.get? e = some o ∧ o.cls = .type "StopIteration") → E (.ref e) { s with heap := h' }) → wpAny (model prog w) A (Builtin.SmallTypes.nextOf (.ref it)) Q E s
  | true, h1, h2, hx, q => wpAny_nextOf_list_end hh h1 h2 hx q
  | false, h1, h2, hx, q => RZ.nextOf_tuple_end hh h1 h2 hx q
/-- all but the zip's own parts stay -/
def Lft (z TO i1 i2 : Addr) (h h' : Heap) : Prop := ∀ c o, c ≠ z → c ≠ TO → c ≠ i1 → c ≠ i2 → h.get? c = some o → h'.get? c = some o
/-- one turn of a zip of two: a new pair, or the end -/
theorem zip_turn {ka kb : Bool} {z TI TO i1 i2 l1 l2 : Addr} {k1 k2 : Nat} {xs ys : Array Value} {a b : Value} {Q : Value → Shared → Prop} (hh : A.handled = none) (D : ZipApart z TI TO i1 i2 l1 l2)
    (hz : IsZip s.heap z TI TO .none) (hTI : IsPair s.heap TI (.ref i1) (.ref i2)) (hTO : IsPair s.heap TO a b)
    (h1 : It1 ka s.heap i1 l1 k1) (h2 : It1 kb s.heap i2 l2 k2) (q1 : Sq1 ka s.heap l1 xs) (q2 : Sq1 kb s.heap l2 ys)
    (hI : ∀ x y, xs[k1]? = some x → ys[k2]? = some y → ∀ h', IsZip h' z TI TO (rawInt s.heap.objs.size) → IsPair h' TO x y → It1 ka h' i1 l1 (k1 + 1) → It1 kb h' i2 l2 (k2 + 1) → IsPair h' s.heap.objs.size x y → Lft z TO i1 i2 s.heap h' → Q (.ref s.heap.objs.size) { s with heap := h' })
    (hE : (xs[k1]? = none ∨ ys[k2]? = none) → ∀ h' e, Lft z TO i1 i2 s.heap h' → (∃ o, h'.get? e = some o ∧ o.cls = .type "StopIteration") → E (.ref e) { s with heap := h' }) :
    wpAny (model prog w) A (Builtin.«zip.__next__» ⟨[.ref z], []⟩) (fun fin s' => ∃ v, fin = .done (.ret v) ∧ Q v s') E s := by
  show wpAny _ _ (field (.ref z) 2 >>= _) _ _ _
  refine wpAny_bind (wpAny_field hz rfl (x := .bool false) rfl ?_)
  show wpAny _ _ (field (.ref z) 3 >>= _) _ _ _
  refine wpAny_bind (wpAny_field hz rfl (x := .ref TI) rfl (wpAny_bind (wpAny_seqItems hTI rfl ?_)))
  show wpAny _ _ (Builtin.SmallTypes.ownedTupleIsFree (.ref z) >>= _) _ _ _
  unfold Builtin.SmallTypes.ownedTupleIsFree
  refine wpAny_bind (wpAny_bind (wpAny_field hz rfl (x := .none) rfl (wpAny_pure ?_)))
  simp only [if_true]
  refine wpAny_bind (wpAny_rule (wpAny_bind (wpAny_field hz rfl (x := .ref TO) rfl (wpAny_bind (wpAny_setField_rec hz (by simp) fun g1 y1 s1 => ?_)))))
  have c1 := s1.extBut
  replace y1 : IsZip g1 z TI TO .ellipsis := y1
  simp only [List.zipIdx_cons, List.zipIdx_nil, List.forIn_cons, List.forIn_nil]
  refine wpAny_bind (wpAny_bind (wpAny_bind (wpAny_onRaise ?_)))
  show wpAny _ _ (Builtin.SmallTypes.nextOf (.ref i1) >>= _) _ _ _
  have stop : ∀ (g : Heap) (e : Addr) (st : Shared) {R : PUnit → Shared → Prop}, st = { s with heap := g } → IsZip g z TI TO .ellipsis → (∃ o, g.get? e = some o ∧ o.cls = .type "StopIteration") → (∀ h', Heap.SameBut z g h' → (∃ o, h'.get? e = some o ∧ o.cls = .type "StopIteration") → R () { s with heap := h' }) →
      wpAny (model prog w) A (setField (.ref z) 0 .none) R E st := fun g e st R es yz he r => by
    subst es
    obtain ⟨o, ho, hc⟩ := he
    have n : e ≠ z := fun x => by subst x; rw [yz] at ho; cases ho; simp at hc
    exact wpAny_setField_rec (s := { s with heap := g }) yz (by simp) fun h' _ sb => r h' sb ⟨o, sb.extBut _ _ n ho, hc⟩
  cases hx : xs[k1]? with
  | none =>
    refine wpAny_bind (end1 hh (h1.but c1 D.i1z) (q1.but c1 D.l1z) hx fun g2 e s2 he => ?_)
    refine stop g2 e _ rfl (s2 _ _ D.i1z.symm y1) he fun h' sb he' => hE (.inl hx) h' e (fun c o n1 _ n3 _ p => sb.extBut _ _ n1 (s2 _ _ n3 (c1 _ _ n1 p))) he'
  | some x =>
    refine wpAny_bind (next1 (h1.but c1 D.i1z) (q1.but c1 D.l1z) hx fun g2 p2 s2 => wpAny_pure ?_)
    have c2 := s2.extBut
    have t2 : IsPair g2 TO a b := c2 _ _ D.TOi1 (c1 _ _ D.TOz hTO)
    refine wpAny_bind (wpAny_seqItems t2 rfl (wpAny_bind (wpAny_updateSeq_pair t2 fun g3 t3 s3 => wpAny_bind (wpAny_letGo (wpAny_pure ?_)))))
    have c3 := s3.extBut
    replace t3 : IsPair g3 TO x b := t3
    have h2' := ((h2.but c1 D.i2z).but c2 D.i12.symm).but c3 D.TOi2.symm
    have q2' := ((q2.but c1 D.l2z).but c2 D.l2i1).but c3 D.l2TO
    have y3 : IsZip g3 z TI TO .ellipsis := c3 _ _ D.TOz.symm (c2 _ _ D.i1z.symm y1)
    refine wpAny_bind (wpAny_bind (wpAny_onRaise ?_))
    show wpAny _ _ (Builtin.SmallTypes.nextOf (.ref i2) >>= _) _ _ _
    cases hy : ys[k2]? with
    | none =>
      refine wpAny_bind (end1 hh h2' q2' hy fun g4 e s4 he => ?_)
      refine stop g4 e _ rfl (s4 _ _ D.i2z.symm y3) he fun h' sb he' => hE (.inr hy) h' e (fun c o n1 n2 n3 n4 p => sb.extBut _ _ n1 (s4 _ _ n4 (c3 _ _ n2 (c2 _ _ n3 (c1 _ _ n1 p))))) he'
    | some y =>
      refine wpAny_bind (next1 h2' q2' hy fun g4 p4 s4 => wpAny_pure ?_)
      have c4 := s4.extBut
      have t4 : IsPair g4 TO x b := c4 _ _ D.TOi2 t3
      refine wpAny_bind (wpAny_seqItems t4 rfl (wpAny_bind (wpAny_updateSeq_pair t4 fun g5 t5 s5 => wpAny_bind (wpAny_letGo (wpAny_pure (wpAny_pure ?_))))))
      have c5 := s5.extBut
      replace t5 : IsPair g5 TO x y := t5
      refine wpAny_bind (wpAny_seqItems t5 rfl (wpAny_bind (wpAny_newTuple ?_)))
      have sz : g5.objs.size = s.heap.objs.size := by rw [s5.1, s4.1, s3.1, s2.1, s1.1]
      have y5 : IsZip g5 z TI TO .ellipsis := c5 _ _ D.TOz.symm (c4 _ _ D.i2z.symm y3)
      have old : Lft z TO i1 i2 s.heap g5 := fun c o n1 n2 n3 n4 p => c5 _ _ n2 (c4 _ _ n4 (c3 _ _ n2 (c2 _ _ n3 (c1 _ _ n1 p))))
      have p1 : It1 ka g5 i1 l1 (k1 + 1) := ((p2.but c3 D.TOi1.symm).but c4 D.i12).but c5 D.TOi1.symm
      have p5 : It1 kb g5 i2 l2 (k2 + 1) := p4.but c5 D.TOi2.symm
      have zl : z < g5.objs.size := Heap.lt_size y5
      show wpAny _ _ (Builtin.SmallTypes.ownedTupleHandOut (.ref z) (.ref g5.objs.size) >>= _) _ _ _
      unfold Builtin.SmallTypes.ownedTupleHandOut
      have y6 : IsZip (g5.push { cls := .type "tuple", data := .seq #[x, y] }) z TI TO .ellipsis := Heap.get?_push_of_some _ y5
      refine wpAny_bind (wpAny_bind (wpAny_setField_rec y6 (by simp) fun g7 y7 s7 => ?_))
      replace y7 : IsZip g7 z TI TO (rawInt g5.objs.size) := y7
      refine wpAny_setField_rec y7 (by simp) fun g8 y8 s8 => ?_
      replace y8 : IsZip g8 z TI TO (rawInt g5.objs.size) := y8
      have up : ∀ c o, c ≠ z → g5.get? c = some o → g8.get? c = some o := fun c o n p => s8.extBut _ _ n (s7.extBut _ _ n (Heap.get?_push_of_some _ p))
      have new : IsPair g8 g5.objs.size x y := s8.extBut _ _ (Nat.ne_of_gt zl) (s7.extBut _ _ (Nat.ne_of_gt zl) (Heap.get?_push_size _ rfl))
      rw [sz] at y8 new
      refine wpAny_pure ⟨_, rfl, ?_⟩
      show Q (.ref g5.objs.size) _
      rw [sz]
      exact hI x y hx hy g8 y8 (up _ _ D.TOz t5) (p1.at fun o e => up _ o D.i1z e) (p5.at fun o e => up _ o D.i2z e) new fun c o n1 n2 n3 n4 p => up c o n1 (old c o n1 n2 n3 n4 p)
theorem zip_ask {ka kb : Bool} {z TI TO i1 i2 l1 l2 : Addr} {k1 k2 : Nat} {xs ys : Array Value} {a b : Value} {Q : Option Value → Shared → Prop} (hh : A.handled = none) (D : ZipApart z TI TO i1 i2 l1 l2)
    (hz : IsZip s.heap z TI TO .none) (hTI : IsPair s.heap TI (.ref i1) (.ref i2)) (hTO : IsPair s.heap TO a b)
    (h1 : It1 ka s.heap i1 l1 k1) (h2 : It1 kb s.heap i2 l2 k2) (q1 : Sq1 ka s.heap l1 xs) (q2 : Sq1 kb s.heap l2 ys)
    (hI : ∀ x y, xs[k1]? = some x → ys[k2]? = some y → ∀ h', IsZip h' z TI TO (rawInt s.heap.objs.size) → IsPair h' TO x y → It1 ka h' i1 l1 (k1 + 1) → It1 kb h' i2 l2 (k2 + 1) → IsPair h' s.heap.objs.size x y → Lft z TO i1 i2 s.heap h' → Q (some (.ref s.heap.objs.size)) { s with heap := h' })
    (hE : (xs[k1]? = none ∨ ys[k2]? = none) → ∀ h', Lft z TO i1 i2 s.heap h' → Q none { s with heap := h' }) : wpAny (model prog w) A (pyNext (.ref z)) Q E s := by
  have hT : s.TypeIs (.ref z) "zip" := ⟨_, hz, rfl⟩
  unfold pyNext
  refine wpAny_bind (wpAny_attempt (wpAny_callSpecial?_slot (name := Str.ofString "__next__") hT F.slot_zip_next (wpAny_call_entry F.slot_zip_next hT F.entry_zip_next
    (zip_turn hh D hz hTI hTO h1 h2 q1 q2 (fun x y hx hy h' a1 a2 a3 a4 a5 a6 => wpAny_pure (hI x y hx hy h' a1 a2 a3 a4 a5 a6)) fun hn h' e lf he => ?_) (F.args_zip_next_1 _))))
  obtain ⟨o, ho, hc⟩ := he
  exact wpAny_bind (wpAny_isInstance (T := "StopIteration") (b := true) ⟨o, ho, hc⟩ isSubtype_stop (wpAny_pure (hE hn h' lf)))
end
end My
namespace My
open PySem PySem.Spec PyProof.Rows L2
section
variable {X : Cx} {pins : List (Addr × Obj)} {σ : L2.St} {H : Hp} {s : Shared}
theorem inv_sq (I : Inv X pins σ H s) : ∀ {k : Bool} {a : Addr} {xs : List V}, SqB k X.K H a xs → ∃ its, Vals xs its ∧ Sq1 k s.heap a its.toArray
  | true, a, xs, h => by
    obtain ⟨its, rv, p, _⟩ := I.list h
    exact ⟨its, rv, p.isList⟩
  | false, a, xs, h => by
    obtain ⟨its, rv, p, _⟩ := I.tuple h
    exact ⟨its, rv, p⟩
theorem inv_sq_inj (I : Inv X pins σ H s) : ∀ {k : Bool} {a : Addr} {xs ys : List V}, SqB k X.K H a xs → SqB k X.K H a ys → xs = ys
  | true, a, xs, ys, h1, h2 => I.list_inj h1 h2
  | false, a, xs, ys, h1, h2 => I.tuple_inj h1 h2
theorem Sq1.lt : ∀ {k : Bool} {h : Heap} {l : Addr} {xs : Array Value}, Sq1 k h l xs → l < h.objs.size
  | true, _, _, _, ⟨o, e, _⟩ => Heap.lt_size e
  | false, _, _, _, ⟨o, e, _⟩ => Heap.lt_size e
end
/-- the two sequences as they stand at each turn, the items in new pairs -/
def ItzB (ka kb : Bool) (K : PySem.W.Frag) (a b : Addr) : It :=
  ⟨fun i H => ∃ (xs ys : List V) (x y : V), SqB ka K H a xs ∧ SqB kb K H b ys ∧ xs[i]? = some x ∧ ys[i]? = some y,
    fun i H v H' => ∃ T x y, v = .ref T ∧ H T = none ∧ H' = upd H T (.tup [x, y]) ∧ (∀ xs, SqB ka K H a xs → xs[i]? = some x) ∧ ∀ ys, SqB kb K H b ys → ys[i]? = some y,
    fun i H => ∃ xs ys : List V, SqB ka K H a xs ∧ SqB kb K H b ys ∧ (xs.length ≤ i ∨ ys.length ≤ i)⟩
theorem walk_zipB {ka kb : Bool} {K : PySem.W.Frag} {a b : Addr} {xs ys : List V} {n : Nat} (hn : n = min xs.length ys.length) : Walk (ItzB ka kb K a b) n (fun H => SqB ka K H a xs ∧ SqB kb K H b ys) (YPair (fun i => xs[i]?) (fun i => ys[i]?)) where
  goes i _ hi q := ⟨xs, ys, xs[i]'(by omega), ys[i]'(by omega), q.1, q.2, List.getElem?_eq_getElem _, List.getElem?_eq_getElem _⟩
  stops _ q := ⟨xs, ys, q.1, q.2, by omega⟩
  yields i H v H' _ q y := by
    obtain ⟨T, x, z, h1, h2, h3, h4, h5⟩ := y
    exact ⟨T, x, z, h1, h2, h3, h4 xs q.1, h5 ys q.2⟩
theorem turn_zipB {ka kb : Bool} {P : Program} {w : World} {K : PySem.W.Frag} {elts : List Expr} {kk : Nat} {tpos : Pos} {a b z TI TO i1 i2 : Addr} (D : ZipApart z TI TO i1 i2 a b) :
    Turn P w K (.Tuple elts kk tpos) (ItzB ka kb K a b) [z, TI, TO, i1, i2] z (fun i h => IsZip h z TI TO .none ∧ IsPair h TI (.ref i1) (.ref i2) ∧ (∃ x y, IsPair h TO x y) ∧ It1 ka h i1 a i ∧ It1 kb h i2 b i) where
  mem := by simp
  obj := fun i h st c hc => by
    obtain ⟨hz, hTI, ⟨x, y, hTO⟩, h1, h2⟩ := st
    obtain ⟨o1, e1, f1, d1⟩ := h1.obj
    obtain ⟨o2, e2, f2, d2⟩ := h2.obj
    simp only [List.mem_cons, List.not_mem_nil, or_false] at hc
    rcases hc with q | q | q | q | q
    · exact q ▸ ⟨_, hz, fun v q => nomatch q⟩
    · exact q ▸ ⟨_, hTI, fun v q => nomatch q⟩
    · exact q ▸ ⟨_, hTO, fun v q => nomatch q⟩
    · exact q ▸ ⟨o1, e1, fun v q => by rw [d1] at q; cases q⟩
    · exact q ▸ ⟨o2, e2, fun v q => by rw [d2] at q; cases q⟩
  keep := fun i h h' st k => by
    obtain ⟨hz, hTI, ⟨x, y, hTO⟩, h1, h2⟩ := st
    exact ⟨k z (by simp) _ hz, k TI (by simp) _ hTI, ⟨x, y, k TO (by simp) _ hTO⟩, h1.at fun o q => k i1 (by simp) o q, h2.at fun o q => k i2 (by simp) o q⟩
  item := by
    intro X hP hw hK hc i pins s σ H E I hf st hg
    subst hP hw hK
    obtain ⟨hz, hTI, ⟨x0, y0, hTO⟩, h1, h2⟩ := st
    obtain ⟨xs, ys, x, y, hqx, hqy, hx, hy⟩ := hg
    obtain ⟨its, rv, p⟩ := inv_sq I hqx
    obtain ⟨its2, rv2, p2⟩ := inv_sq I hqy
    obtain ⟨u, hu, ru⟩ := rv.get hx
    obtain ⟨u2, hu2, ru2⟩ := rv2.get hy
    have hzl : z < s.heap.objs.size := Heap.lt_size hz
    have hx' : its.toArray[i]? = some u := by simpa using hu
    have hy' : its2.toArray[i]? = some u2 := by simpa using hu2
    refine zip_ask (I.ok.hd hc) D hz hTI hTO h1 h2 p p2 (fun x1 y1 e1 e2 h' z' TO' h1' h2' hT lf => ?_) (fun hn => ?_)
    · rw [hx'] at e1
      rw [hy'] at e2
      cases e1
      cases e2
      refine ⟨_, rfl, wpAny_letOwnedTupleGo_zip (s := { s with heap := h' }) z' fun h'' z'' sb => ?_⟩
      have hT2 : IsPair h'' s.heap.objs.size u u2 := (sb.2 _ (Nat.ne_of_gt hzl)).trans hT
      have new : ObjOk X.prog X.w (upd H s.heap.objs.size (.tup [x, y])) h'' s.heap.objs.size (.tup [x, y]) :=
        ⟨by show 2 ≤ sizeLine; decide, [u, u2], .cons ru (.cons ru2 .nil), ⟨_, hT2, rfl, _, rfl⟩⟩
      have old : ∀ c o, c ∉ [z, TI, TO, i1, i2] → s.heap.get? c = some o → h''.get? c = some o := fun c o hb q => by
        simp only [List.mem_cons, List.not_mem_nil, or_false, not_or] at hb
        exact (sb.2 c hb.1).trans (lf c o hb.1 hb.2.2.1 hb.2.2.2.1 hb.2.2.2.2 q)
      have I1 : Inv X pins σ (upd H s.heap.objs.size (.tup [x, y])) { s with heap := h'' } := I.turnedNew (t' := s.toks) (ch := [z, TI, TO, i1, i2]) old hf (Nat.le_refl _) new
      refine ⟨.ref s.heap.objs.size, _, I1, rfl, ⟨_, x, y, rfl, I.hok.fresh (Nat.le_refl _), rfl, fun l hl => by rw [inv_sq_inj I hl hqx]; exact hx, fun l hl => by rw [inv_sq_inj I hl hqy]; exact hy⟩, ⟨z'', ?_, ⟨u, u2, ?_⟩, ?_, ?_⟩, fun c hcm => ?_⟩
      · exact (sb.2 _ D.TIz).trans (lf _ _ D.TIz D.TITO D.TIi1 D.TIi2 hTI)
      · exact (sb.2 _ D.TOz).trans TO'
      · exact h1'.at fun o q => (sb.2 _ D.i1z).trans q
      · exact h2'.at fun o q => (sb.2 _ D.i2z).trans q
      · have hlt : c < s.heap.objs.size := by
          simp only [List.mem_cons, List.not_mem_nil, or_false] at hcm
          rcases hcm with q | q | q | q | q
          · exact q ▸ hzl
          · exact q ▸ Heap.lt_size hTI
          · exact q ▸ Heap.lt_size hTO
          · exact q ▸ h1.lt
          · exact q ▸ h2.lt
        rw [upd_ne (Nat.ne_of_lt hlt)]
        exact (hf c hcm).1
    · rw [hx', hy'] at hn
      rcases hn with h | h <;> cases h
  done := by
    intro X hP hw hK hc i pins s σ H E I hf st hg
    subst hP hw hK
    obtain ⟨hz, hTI, ⟨x0, y0, hTO⟩, h1, h2⟩ := st
    obtain ⟨xs, ys, hqx, hqy, hend⟩ := hg
    obtain ⟨its, rv, p⟩ := inv_sq I hqx
    obtain ⟨its2, rv2, p2⟩ := inv_sq I hqy
    have l1 := rv.length
    have l2 := rv2.length
    refine zip_ask (I.ok.hd hc) D hz hTI hTO h1 h2 p p2 (fun x1 y1 e1 e2 => ?_) (fun _ h' lf => ⟨rfl, I.turnedL (t' := s.toks) (ch := [z, TI, TO, i1, i2]) (fun c o hb q => ?_) hf⟩)
    · have g1 : i < its.length := by
        have := (Array.getElem?_eq_some_iff.mp e1).1
        simpa using this
      have g2 : i < its2.length := by
        have := (Array.getElem?_eq_some_iff.mp e2).1
        simpa using this
      omega
    · simp only [List.mem_cons, List.not_mem_nil, or_false, not_or] at hb
      exact lf c o hb.1 hb.2.2.1 hb.2.2.2.1 hb.2.2.2.2 q
  self := fun A i s Q E st h => wpAny_pyIter_zip st.1 h
end My
set_option Elab.async false
set_option linter.all false
set_option maxRecDepth 100000
set_option maxHeartbeats 400000
/-! ### zip of a tuple and a list, called -/
namespace My
open PySem
open PySem.Sem (wp)
abbrev yA (h : Heap) (l1 : Addr) : Heap := h.push { cls := .type "tuple_iterator", data := .fields #[.ref l1, .int 0 0] }
abbrev yB (h : Heap) (l1 l2 : Addr) : Heap := (yA h l1).push { cls := .type "list_iterator", data := .fields #[.ref l2, .int 0 0] }
abbrev yC (h : Heap) (l1 l2 : Addr) : Heap := (yB h l1 l2).push { cls := .type "tuple", data := .seq #[.ref h.objs.size, .ref (yA h l1).objs.size] }
abbrev yD (h : Heap) (l1 l2 : Addr) : Heap := (yC h l1 l2).push { cls := .type "tuple", data := .seq #[.none, .none] }
abbrev yE (h : Heap) (l1 l2 : Addr) : Heap := (yD h l1 l2).push { cls := .type "zip", data := .fields #[.none, .bool false, .bool false, .ref (yB h l1 l2).objs.size, .ref (yC h l1 l2).objs.size] }
theorem meets_zipTL (l1 l2 : Addr) (xs ys : Array Value) :
    Meets (Builtin.«zip.__new__» ⟨[.type "zip", .ref l1, .ref l2], []⟩) (fun _ R s => s.heap.IsTuple l1 xs ∧ s.heap.IsList l2 ys ∧
      R (.ok (.ret (.ref (yD s.heap l1 l2).objs.size))) { s with heap := yE s.heap l1 l2 }) :=
  .of_wp fun prog w A R s h => by
    obtain ⟨hp, g, d, tk, os⟩ := s
    obtain ⟨hl1, hl2, h⟩ := h
    have hsub := sub_zip
    have hL1 : Heap.IsTuple (Shared.heap ⟨hp, g, d, tk, os⟩) l1 xs := hl1
    have hL2 : Heap.IsList (Shared.heap ⟨hp.push { cls := .type "tuple_iterator", data := .fields #[.ref l1, .int 0 0] }, g, d, tk, os⟩) l2 ys := Heap.IsList.push hl2 _
    wp_walk using wpAny_pyIter_tuple hL1, wpAny_pyIter_list hL2
    exact ⟨_, rfl, h⟩
section
variable {prog : Program} {w : World} {A : Around} {E : Value → Shared → Prop} {s : Shared}
theorem call_zipTL {l1 l2 : Addr} {xs ys : Array Value} {Q : Value → Shared → Prop} (hl1 : s.heap.IsTuple l1 xs) (hl2 : s.heap.IsList l2 ys)
    (h : ∀ h', IsZip h' (s.heap.objs.size + 4) (s.heap.objs.size + 2) (s.heap.objs.size + 3) .none → IsPair h' (s.heap.objs.size + 2) (.ref s.heap.objs.size) (.ref (s.heap.objs.size + 1)) →
      IsPair h' (s.heap.objs.size + 3) .none .none → h'.IsTupleIter s.heap.objs.size l1 0 → h'.IsListIter (s.heap.objs.size + 1) l2 0 → (∀ c o, s.heap.get? c = some o → h'.get? c = some o) → Q (.ref (s.heap.objs.size + 4)) { s with heap := h' }) :
    wpAny (model prog w) A (call (.type "zip") [.ref l1, .ref l2]) Q E s := by
  refine callType_new F.called_zip (by decide) (F.typeCall_zip_2 _ _) (F.newCall_zip_2 _ _) (fun obj => F.args_object_init_3 obj _ _) F.entry_zip_new (meets_zipTL l1 l2 xs ys) ⟨hl1, hl2, ?_⟩
  have n1 : (yA s.heap l1).objs.size = s.heap.objs.size + 1 := Heap.size_push ..
  have n2 : (yB s.heap l1 l2).objs.size = s.heap.objs.size + 2 := (Heap.size_push ..).trans (congrArg (· + 1) n1)
  have n3 : (yC s.heap l1 l2).objs.size = s.heap.objs.size + 3 := (Heap.size_push ..).trans (congrArg (· + 1) n2)
  have n4 : (yD s.heap l1 l2).objs.size = s.heap.objs.size + 4 := (Heap.size_push ..).trans (congrArg (· + 1) n3)
  have g5 : (yE s.heap l1 l2).get? (yD s.heap l1 l2).objs.size = some _ := Heap.get?_push_size _ rfl
  have g4 : (yE s.heap l1 l2).get? (yC s.heap l1 l2).objs.size = some _ := Heap.get?_push_of_some _ (Heap.get?_push_size _ rfl)
  have g3 : (yE s.heap l1 l2).get? (yB s.heap l1 l2).objs.size = some _ := Heap.get?_push_of_some _ (Heap.get?_push_of_some _ (Heap.get?_push_size _ rfl))
  have g2 : (yE s.heap l1 l2).get? (yA s.heap l1).objs.size = some _ := Heap.get?_push_of_some _ (Heap.get?_push_of_some _ (Heap.get?_push_of_some _ (Heap.get?_push_size _ rfl)))
  have g1 : (yE s.heap l1 l2).get? s.heap.objs.size = some _ := Heap.get?_push_of_some _ (Heap.get?_push_of_some _ (Heap.get?_push_of_some _ (Heap.get?_push_of_some _ (Heap.get?_push_size _ rfl))))
  show _ ∧ _
  rw [n2, n3, n4] at g5
  rw [n3] at g4
  rw [n1, n2] at g3
  rw [n1] at g2
  rw [n4]
  exact ⟨⟨_, g5, rfl⟩, h _ g5 g3 g4 ⟨_, g1, rfl, rfl⟩ ⟨_, g2, rfl, rfl⟩ fun c o x => Heap.get?_push_of_some _ (Heap.get?_push_of_some _ (Heap.get?_push_of_some _ (Heap.get?_push_of_some _ (Heap.get?_push_of_some _ x))))⟩
end
end My
namespace My
open PySem PySem.Spec PyProof.Rows L2
/-- zip of a list and a tuple -/
def iZipTL (K : PySem.W.Frag) (ta : TA) : TI := fun σ H R => ta σ H fun vs H1 => ∃ a b xs ys, vs = [.ref a, .ref b] ∧ SqB false K H1 a xs ∧ SqB true K H1 b ys ∧ R (ItzB false true K a b) H1
theorem pi_zipTL {X : Cx} {K : PySem.W.Frag} {e e2 : Expr} {ta : TA} {p pos tpos : Pos} {elts : List Expr} {kk : Nat} (hK : X.K = K) (hg : Gl X "zip") (hm : X.mg "zip" = none) (ha : PA X [e, e2] ta)
    (hs : starEach [e, e2] X.env = (false, eval e X.env) :: starEach [e2] X.env := by rfl) (hpl : (backTo pos (starEach [e2] X.env)).any (·.1) = false := by rfl) :
    PI X (.Tuple elts kk tpos) (.Call (.Name "zip" p) [e, e2] [] pos) (iZipTL K ta) := by
  subst hK
  refine ⟨fun pins s σ H R I h => ?_⟩
  refine Call_ (ld_blt I hg hm PyProof.Rows.boot_zip (PyProof.Rows.callWith_type1 (thn (ha.run pos pins s σ H _ I h) fun us s1 ⟨vs, H1, I1, r1, q1⟩ => ?_) hs hpl))
  obtain ⟨a, b, xs, ys, ex, hqx, hqy, q⟩ := q1
  subst ex
  obtain ⟨its, rv, p1⟩ := inv_sq I1 hqx
  obtain ⟨its2, rv2, p2⟩ := inv_sq I1 hqy
  cases r1 with
  | cons r rr =>
    cases rr with
    | cons r' rr =>
      cases rr
      cases r
      cases r'
      have fr : ∀ c, s1.heap.objs.size ≤ c → FpOk X pins H1 c := fun c hle => I1.fpOk hle (I1.hok.fresh hle)
      have fr5 : ∀ c, c ∈ [s1.heap.objs.size + 4, s1.heap.objs.size + 2, s1.heap.objs.size + 3, s1.heap.objs.size, s1.heap.objs.size + 1] → FpOk X pins H1 c := fun c hcm => by
        refine fr c ?_
        have e' : c = s1.heap.objs.size + 4 ∨ c = s1.heap.objs.size + 2 ∨ c = s1.heap.objs.size + 3 ∨ c = s1.heap.objs.size ∨ c = s1.heap.objs.size + 1 := by simpa using hcm
        rcases e' with z | z | z | z | z
        · rw [z]; exact Nat.le_add_right _ _
        · rw [z]; exact Nat.le_add_right _ _
        · rw [z]; exact Nat.le_add_right _ _
        · rw [z]; exact Nat.le_refl _
        · rw [z]; exact Nat.le_add_right _ _
      refine call_zipTL p1 p2 fun h' hz hTI hTO h1 h2 hk => wpAny_pyIter_zip hz ?_
      have I2 : Inv X pins σ H1 { s1 with heap := h' } := I1.kept (t' := s1.toks) hk
      have T : Turn X.prog X.w X.K (.Tuple elts kk tpos) (ItzB false true X.K a b) _ _ _ := turn_zipB (PySem.W.ktu_apart s1.heap.objs.size a b (Sq1.lt p1) (Sq1.lt p2))
      exact ⟨s1.heap.objs.size + 4, [s1.heap.objs.size + 4, s1.heap.objs.size + 2, s1.heap.objs.size + 3, s1.heap.objs.size, s1.heap.objs.size + 1], _, _, H1, rfl, I2, T, ⟨hz, hTI, ⟨_, _, hTO⟩, h1, h2⟩, fr5, q⟩
end My
set_option Elab.async false
set_option linter.all false
set_option maxRecDepth 100000
set_option maxHeartbeats 400000
/-! ### zip of a list and a tuple, called -/
namespace My
open PySem
open PySem.Sem (wp)
abbrev zA (h : Heap) (l1 : Addr) : Heap := h.push { cls := .type "list_iterator", data := .fields #[.ref l1, .int 0 0] }
abbrev zB (h : Heap) (l1 l2 : Addr) : Heap := (zA h l1).push { cls := .type "tuple_iterator", data := .fields #[.ref l2, .int 0 0] }
abbrev zC (h : Heap) (l1 l2 : Addr) : Heap := (zB h l1 l2).push { cls := .type "tuple", data := .seq #[.ref h.objs.size, .ref (zA h l1).objs.size] }
abbrev zD (h : Heap) (l1 l2 : Addr) : Heap := (zC h l1 l2).push { cls := .type "tuple", data := .seq #[.none, .none] }
abbrev zE (h : Heap) (l1 l2 : Addr) : Heap := (zD h l1 l2).push { cls := .type "zip", data := .fields #[.none, .bool false, .bool false, .ref (zB h l1 l2).objs.size, .ref (zC h l1 l2).objs.size] }
theorem meets_zipLT (l1 l2 : Addr) (xs ys : Array Value) :
    Meets (Builtin.«zip.__new__» ⟨[.type "zip", .ref l1, .ref l2], []⟩) (fun _ R s => s.heap.IsList l1 xs ∧ s.heap.IsTuple l2 ys ∧
      R (.ok (.ret (.ref (zD s.heap l1 l2).objs.size))) { s with heap := zE s.heap l1 l2 }) :=
  .of_wp fun prog w A R s h => by
    obtain ⟨hp, g, d, tk, os⟩ := s
    obtain ⟨hl1, hl2, h⟩ := h
    have hsub := sub_zip
    have hL1 : Heap.IsList (Shared.heap ⟨hp, g, d, tk, os⟩) l1 xs := hl1
    have hL2 : Heap.IsTuple (Shared.heap ⟨hp.push { cls := .type "list_iterator", data := .fields #[.ref l1, .int 0 0] }, g, d, tk, os⟩) l2 ys := Heap.IsTuple.push hl2 _
    wp_walk using wpAny_pyIter_list hL1, wpAny_pyIter_tuple hL2
    exact ⟨_, rfl, h⟩
section
variable {prog : Program} {w : World} {A : Around} {E : Value → Shared → Prop} {s : Shared}
theorem call_zipLT {l1 l2 : Addr} {xs ys : Array Value} {Q : Value → Shared → Prop} (hl1 : s.heap.IsList l1 xs) (hl2 : s.heap.IsTuple l2 ys)
    (h : ∀ h', IsZip h' (s.heap.objs.size + 4) (s.heap.objs.size + 2) (s.heap.objs.size + 3) .none → IsPair h' (s.heap.objs.size + 2) (.ref s.heap.objs.size) (.ref (s.heap.objs.size + 1)) →
      IsPair h' (s.heap.objs.size + 3) .none .none → h'.IsListIter s.heap.objs.size l1 0 → h'.IsTupleIter (s.heap.objs.size + 1) l2 0 → (∀ c o, s.heap.get? c = some o → h'.get? c = some o) → Q (.ref (s.heap.objs.size + 4)) { s with heap := h' }) :
    wpAny (model prog w) A (call (.type "zip") [.ref l1, .ref l2]) Q E s := by
  refine callType_new F.called_zip (by decide) (F.typeCall_zip_2 _ _) (F.newCall_zip_2 _ _) (fun obj => F.args_object_init_3 obj _ _) F.entry_zip_new (meets_zipLT l1 l2 xs ys) ⟨hl1, hl2, ?_⟩
  have n1 : (zA s.heap l1).objs.size = s.heap.objs.size + 1 := Heap.size_push ..
  have n2 : (zB s.heap l1 l2).objs.size = s.heap.objs.size + 2 := (Heap.size_push ..).trans (congrArg (· + 1) n1)
  have n3 : (zC s.heap l1 l2).objs.size = s.heap.objs.size + 3 := (Heap.size_push ..).trans (congrArg (· + 1) n2)
  have n4 : (zD s.heap l1 l2).objs.size = s.heap.objs.size + 4 := (Heap.size_push ..).trans (congrArg (· + 1) n3)
  have g5 : (zE s.heap l1 l2).get? (zD s.heap l1 l2).objs.size = some _ := Heap.get?_push_size _ rfl
  have g4 : (zE s.heap l1 l2).get? (zC s.heap l1 l2).objs.size = some _ := Heap.get?_push_of_some _ (Heap.get?_push_size _ rfl)
  have g3 : (zE s.heap l1 l2).get? (zB s.heap l1 l2).objs.size = some _ := Heap.get?_push_of_some _ (Heap.get?_push_of_some _ (Heap.get?_push_size _ rfl))
  have g2 : (zE s.heap l1 l2).get? (zA s.heap l1).objs.size = some _ := Heap.get?_push_of_some _ (Heap.get?_push_of_some _ (Heap.get?_push_of_some _ (Heap.get?_push_size _ rfl)))
  have g1 : (zE s.heap l1 l2).get? s.heap.objs.size = some _ := Heap.get?_push_of_some _ (Heap.get?_push_of_some _ (Heap.get?_push_of_some _ (Heap.get?_push_of_some _ (Heap.get?_push_size _ rfl))))
  show _ ∧ _
  rw [n2, n3, n4] at g5
  rw [n3] at g4
  rw [n1, n2] at g3
  rw [n1] at g2
  rw [n4]
  exact ⟨⟨_, g5, rfl⟩, h _ g5 g3 g4 ⟨_, g1, rfl, rfl⟩ ⟨_, g2, rfl, rfl⟩ fun c o x => Heap.get?_push_of_some _ (Heap.get?_push_of_some _ (Heap.get?_push_of_some _ (Heap.get?_push_of_some _ (Heap.get?_push_of_some _ x))))⟩
end
end My
set_option Elab.async false
set_option linter.all false
set_option maxRecDepth 100000
set_option maxHeartbeats 400000
/-! ### zip of a list and a row, list or tuple -/
namespace My
open PySem PySem.Spec PyProof.Rows L2
def iZipB (K : PySem.W.Frag) (ta : TA) : TI := fun σ H R => ta σ H fun vs H1 => ∃ (a b : Addr) (xs ys : List V) (k : Bool), vs = [.ref a, .ref b] ∧ SqB true K H1 a xs ∧ SqB k K H1 b ys ∧ R (ItzB true k K a b) H1
theorem pi_zipB {X : Cx} {K : PySem.W.Frag} {e e2 : Expr} {ta : TA} {p pos tpos : Pos} {elts : List Expr} {kk : Nat} (hK : X.K = K) (hg : Gl X "zip") (hm : X.mg "zip" = none) (ha : PA X [e, e2] ta)
    (hs : starEach [e, e2] X.env = (false, eval e X.env) :: starEach [e2] X.env := by rfl) (hpl : (backTo pos (starEach [e2] X.env)).any (·.1) = false := by rfl) :
    PI X (.Tuple elts kk tpos) (.Call (.Name "zip" p) [e, e2] [] pos) (iZipB K ta) := by
  subst hK
  refine ⟨fun pins s σ H R I h => ?_⟩
  refine Call_ (ld_blt I hg hm PyProof.Rows.boot_zip (PyProof.Rows.callWith_type1 (thn (ha.run pos pins s σ H _ I h) fun us s1 ⟨vs, H1, I1, r1, q1⟩ => ?_) hs hpl))
  obtain ⟨a, b, xs, ys, k, ex, hqx, hqy, q⟩ := q1
  subst ex
  obtain ⟨its, rv, p1⟩ := inv_sq I1 hqx
  obtain ⟨its2, rv2, p2⟩ := inv_sq I1 hqy
  cases r1 with
  | cons r rr =>
    cases rr with
    | cons r' rr =>
      cases rr
      cases r
      cases r'
      have fr : ∀ c, s1.heap.objs.size ≤ c → FpOk X pins H1 c := fun c hle => I1.fpOk hle (I1.hok.fresh hle)
      have fr5 : ∀ c, c ∈ [s1.heap.objs.size + 4, s1.heap.objs.size + 2, s1.heap.objs.size + 3, s1.heap.objs.size, s1.heap.objs.size + 1] → FpOk X pins H1 c := fun c hcm => by
        refine fr c ?_
        have e' : c = s1.heap.objs.size + 4 ∨ c = s1.heap.objs.size + 2 ∨ c = s1.heap.objs.size + 3 ∨ c = s1.heap.objs.size ∨ c = s1.heap.objs.size + 1 := by simpa using hcm
        rcases e' with z | z | z | z | z
        · rw [z]; exact Nat.le_add_right _ _
        · rw [z]; exact Nat.le_add_right _ _
        · rw [z]; exact Nat.le_add_right _ _
        · rw [z]; exact Nat.le_refl _
        · rw [z]; exact Nat.le_add_right _ _
      cases k with
      | false =>
        refine call_zipLT p1 p2 fun h' hz hTI hTO h1 h2 hk => wpAny_pyIter_zip hz ?_
        have I2 : Inv X pins σ H1 { s1 with heap := h' } := I1.kept (t' := s1.toks) hk
        have T : Turn X.prog X.w X.K (.Tuple elts kk tpos) (ItzB true false X.K a b) _ _ _ := turn_zipB (PySem.W.ktu_apart s1.heap.objs.size a b (Sq1.lt p1) (Sq1.lt p2))
        exact ⟨s1.heap.objs.size + 4, [s1.heap.objs.size + 4, s1.heap.objs.size + 2, s1.heap.objs.size + 3, s1.heap.objs.size, s1.heap.objs.size + 1], _, _, H1, rfl, I2, T, ⟨hz, hTI, ⟨_, _, hTO⟩, h1, h2⟩, fr5, q⟩
      | true =>
        refine call_zip_2 p1 p2 fun h' hz hTI hTO h1 h2 hsz hk => wpAny_pyIter_zip hz ?_
        have I2 : Inv X pins σ H1 { s1 with heap := h' } := I1.kept (t' := s1.toks) hk
        have T : Turn X.prog X.w X.K (.Tuple elts kk tpos) (ItzB true true X.K a b) _ _ _ := turn_zipB (PySem.W.ktu_apart s1.heap.objs.size a b (Sq1.lt p1) (Sq1.lt p2))
        exact ⟨s1.heap.objs.size + 4, [s1.heap.objs.size + 4, s1.heap.objs.size + 2, s1.heap.objs.size + 3, s1.heap.objs.size, s1.heap.objs.size + 1], _, _, H1, rfl, I2, T, ⟨hz, hTI, ⟨_, _, hTO⟩, h1, h2⟩, fr5, q⟩
end My
set_option Elab.async false
set_option linter.all false
set_option maxRecDepth 100000
set_option maxHeartbeats 1000000
/-! ### sizes, levels, blocks; how words are dealt -/
namespace My
open PySem PySem.Spec PyProof.Rows L2
def sideL : List Nat := [8, 12, 16, 20, 24]
def bitsL : List Nat := [4, 4, 8, 8, 8]
def blksL : List (List Nat) := [[4], [10, 10], [22], [19, 19], [20, 19, 19]]
def cksL : List (List Nat) := [[1, 2, 3, 3], [2, 4, 6, 8], [4, 8, 10, 12], [4, 8, 10, 12], [4, 8, 10, 12]]
def bitsF (s : Nat) : Nat := bitsL.getD s 4
def blkF (s : Nat) : List Nat := blksL.getD s []
def ckF (s l : Nat) : Nat := (cksL.getD s []).getD l 0
def totF (s : Nat) : Nat := (blkF s).sum
def minF (s : Nat) : Nat := (blkF s).foldl Nat.min 1000
def ownF (s l : Nat) : Nat := minF s - ckF s l
def longF (s : Nat) : List Nat := (List.range (blkF s).length).filter fun b => decide (minF s < (blkF s).getD b 0)
def stepsF (a n c : Nat) : List Nat := (List.range n).map fun k => a + k * c
/-- the indexes of the words of a block -/
def placeF (s l b : Nat) : List Nat :=
  let many := (blkF s).length
  stepsF b (ownF s l) many ++ (if b ∈ longF s then [many * ownF s l + b] else []) ++ stepsF (many * ownF s l + (longF s).length + b) (ckF s l) many
def placesF (s l : Nat) : List (List Nat) := (List.range (blkF s).length).map (placeF s l)
/-- block and place of a word -/
def spotF (s l i : Nat) : Nat × Nat :=
  let many := (blkF s).length
  if i < many * ownF s l then (i % many, i / many)
  else if i < many * ownF s l + (longF s).length then ((longF s).getD (i - many * ownF s l) 0, ownF s l)
  else ((i - (many * ownF s l + (longF s).length)) % many, (blkF s).getD ((i - (many * ownF s l + (longF s).length)) % many) 0 - ckF s l + (i - (many * ownF s l + (longF s).length)) / many)
/-- block and place of each word, in their order -/
def orderF (s l : Nat) : List (Nat × Nat) := (List.range (totF s)).map (spotF s l)
theorem bits_wd {s : Nat} (h : s < 5) : Wd (bitsF s) := by
  have : s = 0 ∨ s = 1 ∨ s = 2 ∨ s = 3 ∨ s = 4 := by omega
  rcases this with rfl | rfl | rfl | rfl | rfl
  · exact .inl rfl
  · exact .inl rfl
  · exact .inr rfl
  · exact .inr rfl
  · exact .inr rfl
theorem all20 {P : Nat → Nat → Bool} (h : ((List.range 5).all fun s => (List.range 4).all fun l => P s l) = true) {s l : Nat} (hs : s < 5) (hl : l < 4) : P s l = true :=
  List.all_eq_true.mp (List.all_eq_true.mp h s (List.mem_range.mpr hs)) l (List.mem_range.mpr hl)
theorem all5 {P : Nat → Bool} (h : ((List.range 5).all P) = true) {s : Nat} (hs : s < 5) : P s = true := List.all_eq_true.mp h s (List.mem_range.mpr hs)
theorem cr_minTK {X : Cx} {K : PySem.W.Frag} (hK : X.K = K) (hc : X.calm = true) : CallR X (.builtin "min") (rMinT K) := by
  subst hK
  exact cr_minT hc
def ofN (r : List Nat) : List (Option Nat) := r.map some
theorem ofN_v (r : List Nat) : (ofN r).map vG = r.map vN := by
  unfold ofN
  rw [List.map_map]
  rfl
def gridN (g : List (List Nat)) : Grid := g.map ofN
theorem order_at {s l i : Nat} (h : i < totF s) : (orderF s l)[i]? = some (spotF s l i) := by
  unfold orderF
  rw [List.getElem?_map, List.getElem?_range h]
  rfl
theorem order_len (s l : Nat) : (orderF s l).length = totF s := by
  unfold orderF
  rw [List.length_map, List.length_range]
def okPlaces (s l : Nat) : Bool := (List.range (blkF s).length).all fun b => (placeF s l b).length == (blkF s).getD b 0 && (List.range ((blkF s).getD b 0)).all fun c => decide ((placeF s l b).getD c 0 < totF s) && spotF s l ((placeF s l b).getD c 0) == (b, c)
def okSpots (s l : Nat) : Bool := (List.range (totF s)).all fun i => decide ((spotF s l i).1 < (blkF s).length) && decide ((spotF s l i).2 < (blkF s).getD (spotF s l i).1 0) && (placeF s l (spotF s l i).1).getD (spotF s l i).2 0 == i
theorem places_ok {s l : Nat} (hs : s < 5) (hl : l < 4) : okPlaces s l = true := all20 (P := okPlaces) (by decide +kernel) hs hl
theorem spots_ok {s l : Nat} (hs : s < 5) (hl : l < 4) : okSpots s l = true := all20 (P := okSpots) (by decide +kernel) hs hl
theorem place_len {s l b : Nat} (hs : s < 5) (hl : l < 4) (hb : b < (blkF s).length) : (placeF s l b).length = (blkF s).getD b 0 := by
  have h := List.all_eq_true.mp (places_ok hs hl) b (List.mem_range.mpr hb)
  rw [Bool.and_eq_true] at h
  exact eq_of_beq h.1
theorem place_in {s l b c : Nat} (hs : s < 5) (hl : l < 4) (hb : b < (blkF s).length) (hc : c < (blkF s).getD b 0) : (placeF s l b).getD c 0 < totF s ∧ spotF s l ((placeF s l b).getD c 0) = (b, c) := by
  have h := List.all_eq_true.mp (places_ok hs hl) b (List.mem_range.mpr hb)
  rw [Bool.and_eq_true] at h
  have h2 := List.all_eq_true.mp h.2 c (List.mem_range.mpr hc)
  rw [Bool.and_eq_true] at h2
  exact ⟨of_decide_eq_true h2.1, eq_of_beq h2.2⟩
theorem spot_in {s l i : Nat} (hs : s < 5) (hl : l < 4) (hi : i < totF s) : (spotF s l i).1 < (blkF s).length ∧ (spotF s l i).2 < (blkF s).getD (spotF s l i).1 0 ∧ (placeF s l (spotF s l i).1).getD (spotF s l i).2 0 = i := by
  have h := List.all_eq_true.mp (spots_ok hs hl) i (List.mem_range.mpr hi)
  rw [Bool.and_eq_true, Bool.and_eq_true] at h
  exact ⟨of_decide_eq_true h.1.1, of_decide_eq_true h.1.2, eq_of_beq h.2⟩
/-- the words of all blocks, in the order that they are dealt in -/
def dueF (s l : Nat) (rows : List (List Nat)) : List Nat := (orderF s l).map fun q => (rows.getD q.1 []).getD q.2 0
def RowsOk (s : Nat) (rows : List (List Nat)) : Prop := rows.map List.length = blkF s ∧ ∀ r ∈ rows, ∀ x ∈ r, x < span (bitsF s)
theorem RowsOk.len {s : Nat} {rows : List (List Nat)} (h : RowsOk s rows) : rows.length = (blkF s).length := by rw [← h.1, List.length_map]
theorem RowsOk.row {s b : Nat} {rows : List (List Nat)} (h : RowsOk s rows) (hb : b < (blkF s).length) : ∃ r, rows[b]? = some r ∧ r.length = (blkF s).getD b 0 ∧ rows.getD b [] = r ∧ ∀ x ∈ r, x < span (bitsF s) := by
  have hb2 : b < rows.length := by rw [h.len]; exact hb
  refine ⟨rows[b], List.getElem?_eq_getElem hb2, ?_, getD_in hb2, h.2 _ (List.getElem_mem hb2)⟩
  have : (blkF s)[b]? = some rows[b].length := by rw [← h.1, List.getElem?_map, List.getElem?_eq_getElem hb2]; rfl
  rw [List.getD_eq_getElem?_getD, this]
  rfl
/-- the words as far as they are dealt -/
structure DealtW (s l : Nat) (rows : List (List Nat)) (i j : Nat) (W : List (Option Nat)) : Prop where
  len : W.length = totF s
  at' : ∀ b c, (b < i ∨ (b = i ∧ c < j)) → b < (blkF s).length → c < (blkF s).getD b 0 → W[(placeF s l b).getD c 0]? = some (some ((rows.getD b []).getD c 0))
theorem DealtW.start (s l : Nat) (rows : List (List Nat)) : DealtW s l rows 0 0 (List.replicate (totF s) none) where
  len := List.length_replicate
  at' b c h := by omega
theorem DealtW.step {s l i j : Nat} {rows : List (List Nat)} {W : List (Option Nat)} (hs : s < 5) (hl : l < 4) (hi : i < (blkF s).length) (hj : j < (blkF s).getD i 0) (h : DealtW s l rows i j W) :
    DealtW s l rows i (j + 1) (W.set ((placeF s l i).getD j 0) (some ((rows.getD i []).getD j 0))) where
  len := by rw [List.length_set]; exact h.len
  at' b c hh hb hc := by
    have p1 := place_in hs hl hi hj
    have p2 := place_in hs hl hb hc
    by_cases e : (placeF s l i).getD j 0 = (placeF s l b).getD c 0
    · have e2 : (i, j) = (b, c) := by rw [← p1.2, ← p2.2, e]
      cases e2
      rw [List.getElem?_set_self (by rw [h.len]; exact p1.1)]
    · rw [List.getElem?_set_ne e]
      refine h.at' b c ?_ hb hc
      rcases hh with q | ⟨rfl, q⟩
      · exact .inl q
      · by_cases ec : c = j
        · subst ec
          exact absurd rfl e
        · exact .inr ⟨rfl, by omega⟩
theorem DealtW.next {s l i j : Nat} {rows : List (List Nat)} {W : List (Option Nat)} (hj : (blkF s).getD i 0 ≤ j) (h : DealtW s l rows i j W) : DealtW s l rows (i + 1) 0 W where
  len := h.len
  at' b c hh hb hc := by
    refine h.at' b c ?_ hb hc
    rcases hh with q | ⟨rfl, q⟩
    · by_cases e : b = i
      · subst e
        exact .inr ⟨rfl, by omega⟩
      · exact .inl (by omega)
    · omega
theorem DealtW.done {s l : Nat} {rows : List (List Nat)} {W : List (Option Nat)} (hs : s < 5) (hl : l < 4) (h : DealtW s l rows (blkF s).length 0 W) : W = ofN (dueF s l rows) := by
  refine List.ext_getElem? fun i => ?_
  by_cases hi : i < totF s
  · obtain ⟨q1, q2, q3⟩ := spot_in hs hl hi
    have := h.at' _ _ (.inl q1) q1 q2
    rw [q3] at this
    rw [this]
    unfold ofN dueF
    rw [List.getElem?_map, List.getElem?_map, order_at hi]
    rfl
  · rw [List.getElem?_eq_none (by rw [h.len]; omega), List.getElem?_eq_none]
    unfold ofN dueF
    rw [List.length_map, List.length_map, order_len]
    omega
theorem rep1 {α : Type} (v : α) : ∀ n : Nat, (List.replicate n [v]).flatten = List.replicate n v
  | 0 => rfl
  | n + 1 => by
    rw [List.replicate_succ, List.flatten_cons, rep1 v n]
    rfl
theorem refs_ne {L : List Addr} {n : Nat} (h : 0 < n) : L.map V.ref ≠ List.replicate n V.non := by
  intro e
  cases n with
  | zero => omega
  | succ n =>
    cases L with
    | nil => cases e
    | cons a L => exact nomatch (List.cons.inj e).1
theorem words_ne {r : List Nat} {n : Nat} (h : 0 < n) : r.map vN ≠ List.replicate n V.non := by
  intro e
  cases n with
  | zero => omega
  | succ n =>
    cases r with
    | nil => cases e
    | cons a L => exact nomatch (List.cons.inj e).1
theorem tot_pos {s : Nat} (hs : s < 5) : 0 < totF s := of_decide_eq_true (all5 (P := fun s => decide (0 < totF s)) (by decide +kernel) hs)
end My
set_option Elab.async false
set_option linter.all false
set_option maxRecDepth 100000
set_option maxHeartbeats 1000000
/-! ### the law's order of all places, by sorted() -/
namespace My
open PySem PySem.Spec PyProof.Rows L2
def chkI (s l : Nat) (q : Nat × Nat) : Int := if decide (((blkF s).getD q.1 0 : Int) - (ckF s l : Int) ≤ (q.2 : Int)) = true then 1 else 0
def keyI (s l : Nat) (q : Nat × Nat) : List Int := [chkI s l q, (q.2 : Int) - (((blkF s).getD q.1 0 : Int) - (ckF s l : Int)) * chkI s l q, (q.1 : Int), (q.2 : Int)]
structure KeysAt (H : Hp) (ts : List Addr) (s l : Nat) (qs : List (Nat × Nat)) : Prop where
  len : ts.length = qs.length
  at' : ∀ (k : Nat) (t : Addr) (q : Nat × Nat), ts[k]? = some t → qs[k]? = some q → H t = some (.tup ((keyI s l q).map V.int))
theorem KeysAt.push {H H2 : Hp} {ts : List Addr} {s l : Nat} {qs : List (Nat × Nat)} {q : Nat × Nat} {F u : Addr} {xs : List V} {o : HO} (h : KeysAt H ts s l qs) (sm : Same H H2) (gF : H2 F = some (.lst xs)) (gu : H2 u = some (.tup ((keyI s l q).map V.int))) :
    KeysAt (upd H2 F o) (ts ++ [u]) s l (qs ++ [q]) where
  len := by rw [List.length_append, List.length_append, h.len]; rfl
  at' k t r e1 e2 := by
    have tn : ∀ {t : Addr} {ys : List V}, H2 t = some (.tup ys) → t ≠ F := fun e z => by rw [z, gF] at e; cases e
    by_cases c : k < ts.length
    · rw [List.getElem?_append_left c] at e1
      rw [List.getElem?_append_left (by rw [← h.len]; exact c)] at e2
      have g := sm _ _ (h.at' k t r e1 e2)
      rw [upd_ne (tn g)]
      exact g
    · have hk := (List.getElem?_eq_some_iff.mp e1).1
      rw [List.length_append] at hk
      have ek : k = ts.length := by simp at hk; omega
      subst ek
      rw [List.getElem?_append_right (Nat.le_refl _), Nat.sub_self] at e1
      rw [h.len, List.getElem?_append_right (Nat.le_refl _), Nat.sub_self] at e2
      cases e1
      cases e2
      rw [upd_ne (tn gu)]
      exact gu
theorem KeysAt.same {H H2 : Hp} {ts : List Addr} {s l : Nat} {qs : List (Nat × Nat)} (h : KeysAt H ts s l qs) (sm : Same H H2) : KeysAt H2 ts s l qs := ⟨h.len, fun k t q e1 e2 => sm _ _ (h.at' k t q e1 e2)⟩
end My
set_option Elab.async false
set_option linter.all false
set_option maxRecDepth 100000
set_option maxHeartbeats 1000000
/-! ### the way through the word dots; grids with dots turned -/
namespace My
open PySem PySem.Spec PyProof.Rows L2
def spA (m a : Nat) : Nat × Nat := (1 + a / (m - 2), 1 + a % (m - 2))
def spB (m a : Nat) : Nat × Nat := (m - 2 - a % (m - 2), 1 + a / (m - 2))
def ribA (m i : Nat) : List (Nat × Nat) := ((List.range i).map (spA m)).take 10
def ribB (m i : Nat) : List (Nat × Nat) := (((List.range i).map (spB m)).filter fun q => !(ribA m ((m - 2) * (m - 2))).contains q).take 10
/-- the dots of the ribbons -/
def usedF (m : Nat) : List (Nat × Nat) := ribA m ((m - 2) * (m - 2)) ++ ribB m ((m - 2) * (m - 2))
def rowW (m b k : Nat) : Nat := if b % 2 = 0 then m - 2 - k else 1 + k
def cellsW (u : List (Nat × Nat)) (m b k : Nat) : List (Nat × Nat) := [(rowW m b k, m - 2 - 2 * b), (rowW m b k, m - 3 - 2 * b)].filter fun q => !u.contains q
def wayTo (u : List (Nat × Nat)) (m b k : Nat) : List (Nat × Nat) := ((List.range b).flatMap fun b => (List.range (m - 2)).flatMap (cellsW u m b)) ++ (List.range k).flatMap (cellsW u m b)
def wayF (m : Nat) : List (Nat × Nat) := wayTo (usedF m) m ((m - 2) / 2) 0
def sdF (s : Nat) : Nat := sideL.getD s 0
def ptF (s : Nat) : Nat := [16, 80, 176, 304, 464].getD s 0
def usedL : List (List (Nat × Nat)) := [[(1, 1), (1, 2), (1, 3), (1, 4), (1, 5), (1, 6), (2, 1), (2, 2), (2, 3), (2, 4), (6, 1), (5, 1), (4, 1), (3, 1), (6, 2), (5, 2), (4, 2), (3, 2), (6, 3), (5, 3)], [(1, 1), (1, 2), (1, 3), (1, 4), (1, 5), (1, 6), (1, 7), (1, 8), (1, 9), (1, 10), (10, 1), (9, 1), (8, 1), (7, 1), (6, 1), (5, 1), (4, 1), (3, 1), (2, 1), (10, 2)], [(1, 1), (1, 2), (1, 3), (1, 4), (1, 5), (1, 6), (1, 7), (1, 8), (1, 9), (1, 10), (14, 1), (13, 1), (12, 1), (11, 1), (10, 1), (9, 1), (8, 1), (7, 1), (6, 1), (5, 1)], [(1, 1), (1, 2), (1, 3), (1, 4), (1, 5), (1, 6), (1, 7), (1, 8), (1, 9), (1, 10), (18, 1), (17, 1), (16, 1), (15, 1), (14, 1), (13, 1), (12, 1), (11, 1), (10, 1), (9, 1)], [(1, 1), (1, 2), (1, 3), (1, 4), (1, 5), (1, 6), (1, 7), (1, 8), (1, 9), (1, 10), (22, 1), (21, 1), (20, 1), (19, 1), (18, 1), (17, 1), (16, 1), (15, 1), (14, 1), (13, 1)]]
def wayL : List (List (Nat × Nat)) := [[(6, 6), (6, 5), (5, 6), (5, 5), (4, 6), (4, 5), (3, 6), (3, 5), (2, 6), (2, 5), (3, 4), (3, 3), (4, 4), (4, 3), (5, 4), (6, 4)], [(10, 10), (10, 9), (9, 10), (9, 9), (8, 10), (8, 9), (7, 10), (7, 9), (6, 10), (6, 9), (5, 10), (5, 9), (4, 10), (4, 9), (3, 10), (3, 9), (2, 10), (2, 9), (2, 8), (2, 7), (3, 8), (3, 7), (4, 8), (4, 7), (5, 8), (5, 7), (6, 8), (6, 7), (7, 8), (7, 7), (8, 8), (8, 7), (9, 8), (9, 7), (10, 8), (10, 7), (10, 6), (10, 5), (9, 6), (9, 5), (8, 6), (8, 5), (7, 6), (7, 5), (6, 6), (6, 5), (5, 6), (5, 5), (4, 6), (4, 5), (3, 6), (3, 5), (2, 6), (2, 5), (2, 4), (2, 3), (3, 4), (3, 3), (4, 4), (4, 3), (5, 4), (5, 3), (6, 4), (6, 3), (7, 4), (7, 3), (8, 4), (8, 3), (9, 4), (9, 3), (10, 4), (10, 3), (9, 2), (8, 2), (7, 2), (6, 2), (5, 2), (4, 2), (3, 2), (2, 2)], [(14, 14), (14, 13), (13, 14), (13, 13), (12, 14), (12, 13), (11, 14), (11, 13), (10, 14), (10, 13), (9, 14), (9, 13), (8, 14), (8, 13), (7, 14), (7, 13), (6, 14), (6, 13), (5, 14), (5, 13), (4, 14), (4, 13), (3, 14), (3, 13), (2, 14), (2, 13), (1, 14), (1, 13), (1, 12), (1, 11), (2, 12), (2, 11), (3, 12), (3, 11), (4, 12), (4, 11), (5, 12), (5, 11), (6, 12), (6, 11), (7, 12), (7, 11), (8, 12), (8, 11), (9, 12), (9, 11), (10, 12), (10, 11), (11, 12), (11, 11), (12, 12), (12, 11), (13, 12), (13, 11), (14, 12), (14, 11), (14, 10), (14, 9), (13, 10), (13, 9), (12, 10), (12, 9), (11, 10), (11, 9), (10, 10), (10, 9), (9, 10), (9, 9), (8, 10), (8, 9), (7, 10), (7, 9), (6, 10), (6, 9), (5, 10), (5, 9), (4, 10), (4, 9), (3, 10), (3, 9), (2, 10), (2, 9), (2, 8), (2, 7), (3, 8), (3, 7), (4, 8), (4, 7), (5, 8), (5, 7), (6, 8), (6, 7), (7, 8), (7, 7), (8, 8), (8, 7), (9, 8), (9, 7), (10, 8), (10, 7), (11, 8), (11, 7), (12, 8), (12, 7), (13, 8), (13, 7), (14, 8), (14, 7), (14, 6), (14, 5), (13, 6), (13, 5), (12, 6), (12, 5), (11, 6), (11, 5), (10, 6), (10, 5), (9, 6), (9, 5), (8, 6), (8, 5), (7, 6), (7, 5), (6, 6), (6, 5), (5, 6), (5, 5), (4, 6), (4, 5), (3, 6), (3, 5), (2, 6), (2, 5), (2, 4), (2, 3), (3, 4), (3, 3), (4, 4), (4, 3), (5, 4), (5, 3), (6, 4), (6, 3), (7, 4), (7, 3), (8, 4), (8, 3), (9, 4), (9, 3), (10, 4), (10, 3), (11, 4), (11, 3), (12, 4), (12, 3), (13, 4), (13, 3), (14, 4), (14, 3), (14, 2), (13, 2), (12, 2), (11, 2), (10, 2), (9, 2), (8, 2), (7, 2), (6, 2), (5, 2), (4, 2), (4, 1), (3, 2), (3, 1), (2, 2), (2, 1)], [(18, 18), (18, 17), (17, 18), (17, 17), (16, 18), (16, 17), (15, 18), (15, 17), (14, 18), (14, 17), (13, 18), (13, 17), (12, 18), (12, 17), (11, 18), (11, 17), (10, 18), (10, 17), (9, 18), (9, 17), (8, 18), (8, 17), (7, 18), (7, 17), (6, 18), (6, 17), (5, 18), (5, 17), (4, 18), (4, 17), (3, 18), (3, 17), (2, 18), (2, 17), (1, 18), (1, 17), (1, 16), (1, 15), (2, 16), (2, 15), (3, 16), (3, 15), (4, 16), (4, 15), (5, 16), (5, 15), (6, 16), (6, 15), (7, 16), (7, 15), (8, 16), (8, 15), (9, 16), (9, 15), (10, 16), (10, 15), (11, 16), (11, 15), (12, 16), (12, 15), (13, 16), (13, 15), (14, 16), (14, 15), (15, 16), (15, 15), (16, 16), (16, 15), (17, 16), (17, 15), (18, 16), (18, 15), (18, 14), (18, 13), (17, 14), (17, 13), (16, 14), (16, 13), (15, 14), (15, 13), (14, 14), (14, 13), (13, 14), (13, 13), (12, 14), (12, 13), (11, 14), (11, 13), (10, 14), (10, 13), (9, 14), (9, 13), (8, 14), (8, 13), (7, 14), (7, 13), (6, 14), (6, 13), (5, 14), (5, 13), (4, 14), (4, 13), (3, 14), (3, 13), (2, 14), (2, 13), (1, 14), (1, 13), (1, 12), (1, 11), (2, 12), (2, 11), (3, 12), (3, 11), (4, 12), (4, 11), (5, 12), (5, 11), (6, 12), (6, 11), (7, 12), (7, 11), (8, 12), (8, 11), (9, 12), (9, 11), (10, 12), (10, 11), (11, 12), (11, 11), (12, 12), (12, 11), (13, 12), (13, 11), (14, 12), (14, 11), (15, 12), (15, 11), (16, 12), (16, 11), (17, 12), (17, 11), (18, 12), (18, 11), (18, 10), (18, 9), (17, 10), (17, 9), (16, 10), (16, 9), (15, 10), (15, 9), (14, 10), (14, 9), (13, 10), (13, 9), (12, 10), (12, 9), (11, 10), (11, 9), (10, 10), (10, 9), (9, 10), (9, 9), (8, 10), (8, 9), (7, 10), (7, 9), (6, 10), (6, 9), (5, 10), (5, 9), (4, 10), (4, 9), (3, 10), (3, 9), (2, 10), (2, 9), (2, 8), (2, 7), (3, 8), (3, 7), (4, 8), (4, 7), (5, 8), (5, 7), (6, 8), (6, 7), (7, 8), (7, 7), (8, 8), (8, 7), (9, 8), (9, 7), (10, 8), (10, 7), (11, 8), (11, 7), (12, 8), (12, 7), (13, 8), (13, 7), (14, 8), (14, 7), (15, 8), (15, 7), (16, 8), (16, 7), (17, 8), (17, 7), (18, 8), (18, 7), (18, 6), (18, 5), (17, 6), (17, 5), (16, 6), (16, 5), (15, 6), (15, 5), (14, 6), (14, 5), (13, 6), (13, 5), (12, 6), (12, 5), (11, 6), (11, 5), (10, 6), (10, 5), (9, 6), (9, 5), (8, 6), (8, 5), (7, 6), (7, 5), (6, 6), (6, 5), (5, 6), (5, 5), (4, 6), (4, 5), (3, 6), (3, 5), (2, 6), (2, 5), (2, 4), (2, 3), (3, 4), (3, 3), (4, 4), (4, 3), (5, 4), (5, 3), (6, 4), (6, 3), (7, 4), (7, 3), (8, 4), (8, 3), (9, 4), (9, 3), (10, 4), (10, 3), (11, 4), (11, 3), (12, 4), (12, 3), (13, 4), (13, 3), (14, 4), (14, 3), (15, 4), (15, 3), (16, 4), (16, 3), (17, 4), (17, 3), (18, 4), (18, 3), (18, 2), (17, 2), (16, 2), (15, 2), (14, 2), (13, 2), (12, 2), (11, 2), (10, 2), (9, 2), (8, 2), (8, 1), (7, 2), (7, 1), (6, 2), (6, 1), (5, 2), (5, 1), (4, 2), (4, 1), (3, 2), (3, 1), (2, 2), (2, 1)], [(22, 22), (22, 21), (21, 22), (21, 21), (20, 22), (20, 21), (19, 22), (19, 21), (18, 22), (18, 21), (17, 22), (17, 21), (16, 22), (16, 21), (15, 22), (15, 21), (14, 22), (14, 21), (13, 22), (13, 21), (12, 22), (12, 21), (11, 22), (11, 21), (10, 22), (10, 21), (9, 22), (9, 21), (8, 22), (8, 21), (7, 22), (7, 21), (6, 22), (6, 21), (5, 22), (5, 21), (4, 22), (4, 21), (3, 22), (3, 21), (2, 22), (2, 21), (1, 22), (1, 21), (1, 20), (1, 19), (2, 20), (2, 19), (3, 20), (3, 19), (4, 20), (4, 19), (5, 20), (5, 19), (6, 20), (6, 19), (7, 20), (7, 19), (8, 20), (8, 19), (9, 20), (9, 19), (10, 20), (10, 19), (11, 20), (11, 19), (12, 20), (12, 19), (13, 20), (13, 19), (14, 20), (14, 19), (15, 20), (15, 19), (16, 20), (16, 19), (17, 20), (17, 19), (18, 20), (18, 19), (19, 20), (19, 19), (20, 20), (20, 19), (21, 20), (21, 19), (22, 20), (22, 19), (22, 18), (22, 17), (21, 18), (21, 17), (20, 18), (20, 17), (19, 18), (19, 17), (18, 18), (18, 17), (17, 18), (17, 17), (16, 18), (16, 17), (15, 18), (15, 17), (14, 18), (14, 17), (13, 18), (13, 17), (12, 18), (12, 17), (11, 18), (11, 17), (10, 18), (10, 17), (9, 18), (9, 17), (8, 18), (8, 17), (7, 18), (7, 17), (6, 18), (6, 17), (5, 18), (5, 17), (4, 18), (4, 17), (3, 18), (3, 17), (2, 18), (2, 17), (1, 18), (1, 17), (1, 16), (1, 15), (2, 16), (2, 15), (3, 16), (3, 15), (4, 16), (4, 15), (5, 16), (5, 15), (6, 16), (6, 15), (7, 16), (7, 15), (8, 16), (8, 15), (9, 16), (9, 15), (10, 16), (10, 15), (11, 16), (11, 15), (12, 16), (12, 15), (13, 16), (13, 15), (14, 16), (14, 15), (15, 16), (15, 15), (16, 16), (16, 15), (17, 16), (17, 15), (18, 16), (18, 15), (19, 16), (19, 15), (20, 16), (20, 15), (21, 16), (21, 15), (22, 16), (22, 15), (22, 14), (22, 13), (21, 14), (21, 13), (20, 14), (20, 13), (19, 14), (19, 13), (18, 14), (18, 13), (17, 14), (17, 13), (16, 14), (16, 13), (15, 14), (15, 13), (14, 14), (14, 13), (13, 14), (13, 13), (12, 14), (12, 13), (11, 14), (11, 13), (10, 14), (10, 13), (9, 14), (9, 13), (8, 14), (8, 13), (7, 14), (7, 13), (6, 14), (6, 13), (5, 14), (5, 13), (4, 14), (4, 13), (3, 14), (3, 13), (2, 14), (2, 13), (1, 14), (1, 13), (1, 12), (1, 11), (2, 12), (2, 11), (3, 12), (3, 11), (4, 12), (4, 11), (5, 12), (5, 11), (6, 12), (6, 11), (7, 12), (7, 11), (8, 12), (8, 11), (9, 12), (9, 11), (10, 12), (10, 11), (11, 12), (11, 11), (12, 12), (12, 11), (13, 12), (13, 11), (14, 12), (14, 11), (15, 12), (15, 11), (16, 12), (16, 11), (17, 12), (17, 11), (18, 12), (18, 11), (19, 12), (19, 11), (20, 12), (20, 11), (21, 12), (21, 11), (22, 12), (22, 11), (22, 10), (22, 9), (21, 10), (21, 9), (20, 10), (20, 9), (19, 10), (19, 9), (18, 10), (18, 9), (17, 10), (17, 9), (16, 10), (16, 9), (15, 10), (15, 9), (14, 10), (14, 9), (13, 10), (13, 9), (12, 10), (12, 9), (11, 10), (11, 9), (10, 10), (10, 9), (9, 10), (9, 9), (8, 10), (8, 9), (7, 10), (7, 9), (6, 10), (6, 9), (5, 10), (5, 9), (4, 10), (4, 9), (3, 10), (3, 9), (2, 10), (2, 9), (2, 8), (2, 7), (3, 8), (3, 7), (4, 8), (4, 7), (5, 8), (5, 7), (6, 8), (6, 7), (7, 8), (7, 7), (8, 8), (8, 7), (9, 8), (9, 7), (10, 8), (10, 7), (11, 8), (11, 7), (12, 8), (12, 7), (13, 8), (13, 7), (14, 8), (14, 7), (15, 8), (15, 7), (16, 8), (16, 7), (17, 8), (17, 7), (18, 8), (18, 7), (19, 8), (19, 7), (20, 8), (20, 7), (21, 8), (21, 7), (22, 8), (22, 7), (22, 6), (22, 5), (21, 6), (21, 5), (20, 6), (20, 5), (19, 6), (19, 5), (18, 6), (18, 5), (17, 6), (17, 5), (16, 6), (16, 5), (15, 6), (15, 5), (14, 6), (14, 5), (13, 6), (13, 5), (12, 6), (12, 5), (11, 6), (11, 5), (10, 6), (10, 5), (9, 6), (9, 5), (8, 6), (8, 5), (7, 6), (7, 5), (6, 6), (6, 5), (5, 6), (5, 5), (4, 6), (4, 5), (3, 6), (3, 5), (2, 6), (2, 5), (2, 4), (2, 3), (3, 4), (3, 3), (4, 4), (4, 3), (5, 4), (5, 3), (6, 4), (6, 3), (7, 4), (7, 3), (8, 4), (8, 3), (9, 4), (9, 3), (10, 4), (10, 3), (11, 4), (11, 3), (12, 4), (12, 3), (13, 4), (13, 3), (14, 4), (14, 3), (15, 4), (15, 3), (16, 4), (16, 3), (17, 4), (17, 3), (18, 4), (18, 3), (19, 4), (19, 3), (20, 4), (20, 3), (21, 4), (21, 3), (22, 4), (22, 3), (22, 2), (21, 2), (20, 2), (19, 2), (18, 2), (17, 2), (16, 2), (15, 2), (14, 2), (13, 2), (12, 2), (12, 1), (11, 2), (11, 1), (10, 2), (10, 1), (9, 2), (9, 1), (8, 2), (8, 1), (7, 2), (7, 1), (6, 2), (6, 1), (5, 2), (5, 1), (4, 2), (4, 1), (3, 2), (3, 1), (2, 2), (2, 1)]]
theorem used_at {s : Nat} (hs : s < 5) : usedF (sdF s) = usedL.getD s [] := eq_of_beq (all5 (P := fun s => usedF (sdF s) == usedL.getD s []) (by decide +kernel) hs)
theorem way_at {s : Nat} (hs : s < 5) : wayF (sdF s) = wayL.getD s [] := by
  unfold wayF
  rw [used_at hs]
  exact eq_of_beq (all5 (P := fun s => wayTo (usedL.getD s []) (sdF s) ((sdF s - 2) / 2) 0 == wayL.getD s []) (by decide +kernel) hs)
theorem way_len {s : Nat} (hs : s < 5) : (wayF (sdF s)).length = ptF s := by
  rw [way_at hs]
  exact of_decide_eq_true (all5 (P := fun s => decide ((wayL.getD s []).length = ptF s)) (by decide +kernel) hs)
theorem way_in {s : Nat} (hs : s < 5) {q : Nat × Nat} (h : q ∈ wayF (sdF s)) : q.1 < sdF s ∧ q.2 < sdF s := by
  rw [way_at hs] at h
  have z := List.all_eq_true.mp (all5 (P := fun s => (wayL.getD s []).all fun q => decide (q.1 < sdF s) && decide (q.2 < sdF s)) (by decide +kernel) hs) q h
  rw [Bool.and_eq_true] at z
  exact ⟨of_decide_eq_true z.1, of_decide_eq_true z.2⟩
theorem sd_ok {s : Nat} (hs : s < 5) : SideOk (sdF s) := by
  have : s = 0 ∨ s = 1 ∨ s = 2 ∨ s = 3 ∨ s = 4 := by omega
  rcases this with rfl | rfl | rfl | rfl | rfl
  · exact .inl rfl
  · exact .inr (.inl rfl)
  · exact .inr (.inr (.inl rfl))
  · exact .inr (.inr (.inr (.inl rfl)))
  · exact .inr (.inr (.inr (.inr rfl)))
theorem sd_side {s : Nat} (hs : s < 5) : sidesI[s]? = some (sdF s : Int) := by
  have : s = 0 ∨ s = 1 ∨ s = 2 ∨ s = 3 ∨ s = 4 := by omega
  rcases this with rfl | rfl | rfl | rfl | rfl <;> rfl
/-! ### dots turned -/
def flipO : Option Nat → Option Nat
  | none => none
  | some x => some (1 - x)
/-- the grid with the dots turned for which b holds -/
def turnG (b : Nat → Nat → Bool) (g : Grid) : Grid := g.mapIdx fun r row => row.mapIdx fun c o => if b r c = true then flipO o else o
theorem flip_ok {o : Option Nat} (h : DotOk o) : DotOk (flipO o) := by
  rcases h with rfl | rfl | rfl
  · exact .inl rfl
  · exact .inr (.inr rfl)
  · exact .inr (.inl rfl)
theorem turn_row {b : Nat → Nat → Bool} {g : Grid} {i : Nat} {r : List (Option Nat)} (e : g[i]? = some r) : (turnG b g)[i]? = some (r.mapIdx fun c o => if b i c = true then flipO o else o) := by
  unfold turnG
  rw [List.getElem?_mapIdx, e]
  rfl
theorem turnG_sq {n : Nat} {b : Nat → Nat → Bool} {g : Grid} (h : Sq n g) : Sq n (turnG b g) where
  len := by unfold turnG; rw [List.length_mapIdx, h.len]
  row r hr := by
    obtain ⟨i, hi, rfl⟩ := List.mem_mapIdx.mp hr
    rw [List.length_mapIdx]
    exact h.row _ (List.getElem_mem hi)
  dot r hr o ho := by
    obtain ⟨i, hi, rfl⟩ := List.mem_mapIdx.mp hr
    obtain ⟨j, hj, rfl⟩ := List.mem_mapIdx.mp ho
    have z := h.dot _ (List.getElem_mem hi) _ (List.getElem_mem hj)
    split
    · exact flip_ok z
    · exact z
theorem cell_turn {n : Nat} {b : Nat → Nat → Bool} {g : Grid} (h : Sq n g) {i j : Nat} (hi : i < n) (hj : j < n) : cell (turnG b g) i j = if b i j = true then flipO (cell g i j) else cell g i j := by
  have l := h.len
  have l2 := (turnG_sq (b := b) h).len
  unfold cell
  have e : g[i]? = some (g[i]'(by omega)) := List.getElem?_eq_getElem _
  have r1 := h.row _ (List.getElem_mem (show i < g.length by omega))
  rw [List.getD_eq_getElem?_getD (l := turnG b g), turn_row e, List.getD_eq_getElem?_getD (l := g), e]
  simp only [Option.getD_some]
  rw [List.getD_eq_getElem?_getD, List.getElem?_mapIdx, List.getElem?_eq_getElem (by omega), List.getD_eq_getElem?_getD, List.getElem?_eq_getElem (by omega)]
  rfl
end My
set_option Elab.async false
set_option linter.all false
set_option maxRecDepth 100000
set_option maxHeartbeats 400000
/-! ### zip of a row, list or tuple, and a tuple -/
namespace My
open PySem PySem.Spec PyProof.Rows L2
def iZipRT (K : PySem.W.Frag) (ta : TA) : TI := fun σ H R => ta σ H fun vs H1 => ∃ (a b : Addr) (xs ys : List V) (k : Bool), vs = [.ref a, .ref b] ∧ SqB k K H1 a xs ∧ SqB false K H1 b ys ∧ R (ItzB k false K a b) H1
theorem pi_zipRT {X : Cx} {K : PySem.W.Frag} {e e2 : Expr} {ta : TA} {p pos tpos : Pos} {elts : List Expr} {kk : Nat} (hK : X.K = K) (hg : Gl X "zip") (hm : X.mg "zip" = none) (ha : PA X [e, e2] ta)
    (hs : starEach [e, e2] X.env = (false, eval e X.env) :: starEach [e2] X.env := by rfl) (hpl : (backTo pos (starEach [e2] X.env)).any (·.1) = false := by rfl) :
    PI X (.Tuple elts kk tpos) (.Call (.Name "zip" p) [e, e2] [] pos) (iZipRT K ta) := by
  subst hK
  refine ⟨fun pins s σ H R I h => ?_⟩
  refine Call_ (ld_blt I hg hm PyProof.Rows.boot_zip (PyProof.Rows.callWith_type1 (thn (ha.run pos pins s σ H _ I h) fun us s1 ⟨vs, H1, I1, r1, q1⟩ => ?_) hs hpl))
  obtain ⟨a, b, xs, ys, k, ex, hqx, hqy, q⟩ := q1
  subst ex
  obtain ⟨its, rv, p1⟩ := inv_sq I1 hqx
  obtain ⟨its2, rv2, p2⟩ := inv_sq I1 hqy
  cases r1 with
  | cons r rr =>
    cases rr with
    | cons r' rr =>
      cases rr
      cases r
      cases r'
      have fr : ∀ c, s1.heap.objs.size ≤ c → FpOk X pins H1 c := fun c hle => I1.fpOk hle (I1.hok.fresh hle)
      have fr5 : ∀ c, c ∈ [s1.heap.objs.size + 4, s1.heap.objs.size + 2, s1.heap.objs.size + 3, s1.heap.objs.size, s1.heap.objs.size + 1] → FpOk X pins H1 c := fun c hcm => by
        refine fr c ?_
        have e' : c = s1.heap.objs.size + 4 ∨ c = s1.heap.objs.size + 2 ∨ c = s1.heap.objs.size + 3 ∨ c = s1.heap.objs.size ∨ c = s1.heap.objs.size + 1 := by simpa using hcm
        rcases e' with z | z | z | z | z
        · rw [z]; exact Nat.le_add_right _ _
        · rw [z]; exact Nat.le_add_right _ _
        · rw [z]; exact Nat.le_add_right _ _
        · rw [z]; exact Nat.le_refl _
        · rw [z]; exact Nat.le_add_right _ _
      cases k with
      | true =>
        refine call_zipLT p1 p2 fun h' hz hTI hTO h1 h2 hk => wpAny_pyIter_zip hz ?_
        have I2 : Inv X pins σ H1 { s1 with heap := h' } := I1.kept (t' := s1.toks) hk
        have T : Turn X.prog X.w X.K (.Tuple elts kk tpos) (ItzB true false X.K a b) _ _ _ := turn_zipB (PySem.W.ktu_apart s1.heap.objs.size a b (Sq1.lt p1) (Sq1.lt p2))
        exact ⟨s1.heap.objs.size + 4, [s1.heap.objs.size + 4, s1.heap.objs.size + 2, s1.heap.objs.size + 3, s1.heap.objs.size, s1.heap.objs.size + 1], _, _, H1, rfl, I2, T, ⟨hz, hTI, ⟨_, _, hTO⟩, h1, h2⟩, fr5, q⟩
      | false =>
        refine RZ.call_zipT p1 p2 fun h' hz hTI hTO h1 h2 hsz hk => wpAny_pyIter_zip hz ?_
        have I2 : Inv X pins σ H1 { s1 with heap := h' } := I1.kept (t' := s1.toks) hk
        have T : Turn X.prog X.w X.K (.Tuple elts kk tpos) (ItzB false false X.K a b) _ _ _ := turn_zipB (PySem.W.ktu_apart s1.heap.objs.size a b (Sq1.lt p1) (Sq1.lt p2))
        exact ⟨s1.heap.objs.size + 4, [s1.heap.objs.size + 4, s1.heap.objs.size + 2, s1.heap.objs.size + 3, s1.heap.objs.size, s1.heap.objs.size + 1], _, _, H1, rfl, I2, T, ⟨hz, hTI, ⟨_, _, hTO⟩, h1, h2⟩, fr5, q⟩
end My
set_option Elab.async false
set_option linter.all false
set_option maxRecDepth 100000
set_option maxHeartbeats 1000000
/-! ### how long a shown grid of dots is -/
set_option Elab.async false
set_option linter.all false
set_option maxRecDepth 100000
set_option maxHeartbeats 1000000
/-! ### lists of dots: tuples of two, as they lie; whether a dot is among them -/
namespace My
open PySem PySem.Spec PyProof.Rows L2
def dQ (q : Nat × Nat) : PyData := .tuple [dI q.1, dI q.2]
def tQ (q : Nat × Nat) : HO := .tup [vN q.1, vN q.2]
/-- the dots of a way, each a tuple of its own -/
structure Spots (H : Hp) (L : List Addr) (w : List (Nat × Nat)) : Prop where
  len : L.length = w.length
  at' : ∀ (j : Nat) (l : Addr) (q : Nat × Nat), L[j]? = some l → w[j]? = some q → H l = some (tQ q)
theorem Spots.nil {H : Hp} : Spots H [] [] := ⟨rfl, fun j l q e => by cases e⟩
theorem Spots.same {H H2 : Hp} {L : List Addr} {w : List (Nat × Nat)} (h : Spots H L w) (s : Same H H2) : Spots H2 L w := ⟨h.len, fun j l q e1 e2 => s _ _ (h.at' j l q e1 e2)⟩
/-- what is no list stays -/
theorem Spots.keep {H H2 : Hp} {L : List Addr} {w : List (Nat × Nat)} (h : Spots H L w) (s : ∀ b xs, H b = some (.tup xs) → H2 b = some (.tup xs)) : Spots H2 L w := ⟨h.len, fun j l q e1 e2 => s _ _ (h.at' j l q e1 e2)⟩
theorem Spots.append {H : Hp} {L M : List Addr} {w v : List (Nat × Nat)} (h : Spots H L w) (g : Spots H M v) : Spots H (L ++ M) (w ++ v) where
  len := by rw [List.length_append, List.length_append, h.len, g.len]
  at' j l q e1 e2 := by
    by_cases c : j < L.length
    · rw [List.getElem?_append_left c] at e1
      rw [List.getElem?_append_left (by rw [← h.len]; exact c)] at e2
      exact h.at' j l q e1 e2
    · rw [List.getElem?_append_right (by omega)] at e1
      rw [List.getElem?_append_right (by rw [← h.len]; omega), ← h.len] at e2
      exact g.at' _ l q e1 e2
theorem spot_dp {K : PySem.W.Frag} {H : Hp} {t : Addr} {q : Nat × Nat} (h : H t = some (tQ q)) : Dp K H (.ref t) (dQ q) := .tup (.inl (.inl h)) (.cons (.int _) (.cons (.int _) .nil))
theorem Spots.all {K : PySem.W.Frag} {H : Hp} : ∀ {L : List Addr} {w : List (Nat × Nat)}, Spots H L w → DpAll K H (L.map V.ref) (w.map dQ)
  | [], [], _ => .nil
  | [], _ :: _, h => by cases h.len
  | _ :: _, [], h => by cases h.len
  | l :: L, q :: w, h => .cons (spot_dp (h.at' 0 l q rfl rfl)) (Spots.all ⟨Nat.succ.inj h.len, fun j l' q' e1 e2 => h.at' (j + 1) l' q' e1 e2⟩)
end My
set_option Elab.async false
set_option linter.all false
set_option maxRecDepth 100000
set_option maxHeartbeats 1000000
/-! ### xs[a::c] of a list; zip of any number of lists given one by one; .get of a written dict whose keys are tuples, with a tuple that may hold None -/
set_option Elab.async false
set_option linter.all false
set_option maxRecDepth 100000
set_option maxHeartbeats 1000000
/-! ### f'{n:b}' -/
set_option Elab.async false
set_option linter.all false
set_option maxRecDepth 100000
set_option maxHeartbeats 1000000
/-! ### t.count(sign): how often a sign stands in a text -/
namespace My
open PySem PySem.Spec PyProof.Rows L2
open Builtin Builtin.Str StrLaws
/-- how many bits of a number are one -/
def pop (n : Nat) : Nat := ((Nat.toDigits 2 n).map Char.toNat).count 49
end My
set_option Elab.async false
set_option linter.all false
set_option maxRecDepth 100000
set_option maxHeartbeats 1000000
/-! ### formats: their words, and how far a strip is from one -/
namespace My
open PySem PySem.Spec PyProof.Rows L2
def fwL : List Nat := [709, 752, 666, 687, 590, 635, 529, 548, 979, 998, 908, 953, 856, 877, 775, 818, 220, 233, 131, 182, 87, 98, 8, 61, 458, 511, 405, 416, 321, 372, 286, 299]
def fwF (i : Nat) : Nat := fwL.getD i 0
/-- the number of bits written one behind the other, the first the highest -/
def stp (a x : Nat) : Nat := 2 * a + x
def foldB (l : List Nat) : Nat := l.foldl stp 0
/-! ### the nearest format -/
end My
set_option Elab.async false
set_option linter.all false
set_option maxRecDepth 100000
set_option maxHeartbeats 1000000
/-! ### words read from dots, gaps among them -/
namespace My
open PySem PySem.Spec PyProof.Rows L2
/-- the word of some dots, none where one is not told -/
def wordO (l : List (Option Nat)) : Option Nat := if l.all Option.isSome = true then some (foldB (l.map fun o => o.getD 0)) else none
def partO (os : List (Option Nat)) (b i : Nat) : List (Option Nat) := (os.drop (b * i)).take b
def heardF (b : Nat) (os : List (Option Nat)) : List (Option Nat) := (List.range (os.length / b)).map fun i => wordO (partO os b i)
theorem part_len {os : List (Option Nat)} {b n i : Nat} (hl : os.length = b * n) (hi : i < n) : (partO os b i).length = b := by
  unfold partO
  rw [List.length_take, List.length_drop, hl]
  have : b * (i + 1) ≤ b * n := Nat.mul_le_mul_left b hi
  rw [Nat.mul_succ] at this
  omega
theorem part_at {os : List (Option Nat)} {b i j : Nat} (hj : j < b) : (partO os b i)[j]? = os[b * i + j]? := by
  unfold partO
  rw [List.getElem?_take_of_lt hj, List.getElem?_drop]
theorem heard_len {b n : Nat} {os : List (Option Nat)} (hb : 0 < b) (h : os.length = b * n) : (heardF b os).length = n := by
  unfold heardF
  rw [List.length_map, List.length_range, h, Nat.mul_div_cancel_left n hb]
theorem heard_at {b n i : Nat} {os : List (Option Nat)} (hb : 0 < b) (h : os.length = b * n) (hi : i < n) : (heardF b os)[i]? = some (wordO (partO os b i)) := by
  unfold heardF
  rw [List.getElem?_map, h, Nat.mul_div_cancel_left n hb, List.getElem?_range hi]
  rfl
end My
set_option Elab.async false
set_option linter.all false
set_option maxRecDepth 100000
set_option maxHeartbeats 1000000
/-! ### int(t, 2), t a text of noughts and ones -/
set_option Elab.async false
set_option linter.all false
set_option maxRecDepth 100000
set_option maxHeartbeats 1000000
/-! ### a zip over two lists, collected: list(zip(a, b)), sorted(zip(a, b)) -/
namespace ZipL
open PySem PySem.W PySem.Spec PyProof.Rows PyProof.V L2 PySem.Calls
/-- i turns of the zip are behind it, S is being filled -/
def Zs (z TI TO i1 i2 l1 l2 S : Addr) (xs ys : Array Value) (i : Nat) (h : Heap) : Prop :=
  PySem.IsPair h TI (.ref i1) (.ref i2) ∧ h.IsListIter i1 l1 i ∧ h.IsListIter i2 l2 i ∧ h.IsList l1 xs ∧ h.IsList l2 ys ∧
  ((IsZip h z TI TO .none ∧ ∃ a b, PySem.IsPair h TO a b) ∨ ∃ T f oT, IsZipHeld h z TI TO T f ∧ h.get? T = some oT ∧ T ≠ z ∧ T ≠ i1 ∧ T ≠ i2 ∧ T ≠ S)
/-- S is none of them -/
structure Off (z TI TO i1 i2 l1 l2 S : Addr) : Prop where
  z : z ≠ S
  TI : TI ≠ S
  TO : TO ≠ S
  i1 : i1 ≠ S
  i2 : i2 ≠ S
  l1 : l1 ≠ S
  l2 : l2 ≠ S
theorem Zs.keep {z TI TO i1 i2 l1 l2 S : Addr} {xs ys : Array Value} {i : Nat} {h h' : Heap} (st : Zs z TI TO i1 i2 l1 l2 S xs ys i h) (O : Off z TI TO i1 i2 l1 l2 S) (k : ∀ b o, b ≠ S → h.get? b = some o → h'.get? b = some o) : Zs z TI TO i1 i2 l1 l2 S xs ys i h' := by
  obtain ⟨p, a1, a2, b1, b2, q⟩ := st
  refine ⟨k _ _ O.TI p, a1.at fun o e => k _ o O.i1 e, a2.at fun o e => k _ o O.i2 e, b1.at fun o e => k _ o O.l1 e, b2.at fun o e => k _ o O.l2 e, ?_⟩
  rcases q with ⟨hz, a, b, t⟩ | ⟨T, f, oT, hz, t, r1, r2, r3, r4⟩
  · exact .inl ⟨k _ _ O.z hz, a, b, k _ _ O.TO t⟩
  · exact .inr ⟨T, f, oT, k _ _ O.z hz, k _ _ r4 t, r1, r2, r3, r4⟩
/-- the tuples made -/
structure Mz (xs ys : Array Value) (lo : Addr) (h : Heap) (ts : List Addr) : Prop where
  rise : ts.Pairwise (· < ·)
  above : ∀ a ∈ ts, lo ≤ a
  pairs : ∀ (j : Nat) (a : Addr), ts[j]? = some a → ∃ x y, xs[j]? = some x ∧ ys[j]? = some y ∧ PySem.IsPair h a x y
theorem Mz.there {xs ys : Array Value} {lo : Addr} {h : Heap} {ts : List Addr} (g : Mz xs ys lo h ts) {a : Addr} (ha : a ∈ ts) : a < h.objs.size := by
  obtain ⟨j, hj⟩ := List.mem_iff_getElem?.mp ha
  obtain ⟨x, y, _, _, e⟩ := g.pairs j a hj
  exact Heap.lt_size e
section
variable {prog : Program} {w : World} {A : Around} {E : Value → Shared → Prop} {s : Shared} {z TI TO i1 i2 l1 l2 S : Addr} {xs ys : Array Value}
theorem Zs.next {i : Nat} {x y : Value} {Q : Option Value → Shared → Prop} (D : ZipApart z TI TO i1 i2 l1 l2) (st : Zs z TI TO i1 i2 l1 l2 S xs ys i s.heap) (hS : S < s.heap.objs.size) (hx : xs[i]? = some x) (hy : ys[i]? = some y)
    (hQ : ∀ h', Zs z TI TO i1 i2 l1 l2 S xs ys (i + 1) h' → PySem.IsPair h' s.heap.objs.size x y → h'.objs.size = s.heap.objs.size + 1 → (∀ c o, c ≠ z → c ≠ TO → c ≠ i1 → c ≠ i2 → s.heap.get? c = some o → h'.get? c = some o) →
      Q (some (.ref s.heap.objs.size)) { s with heap := h' }) : wpAny (model prog w) A (pyNext (.ref z)) Q E s := by
  obtain ⟨p, a1, a2, b1, b2, q⟩ := st
  have new : ∀ {c o}, s.heap.get? c = some o → s.heap.objs.size ≠ c := fun e => Nat.ne_of_gt (Heap.lt_size e)
  have n1 : s.heap.objs.size ≠ i1 := let ⟨_, e, _⟩ := a1; new e
  have n2 : s.heap.objs.size ≠ i2 := let ⟨_, e, _⟩ := a2; new e
  rcases q with ⟨hz, a, b, t⟩ | ⟨T, f, oT, hz, t, r1, r2, r3, r4⟩
  · refine wpAny_pyNext_zip_item D hz p t a1 a2 b1 b2 hx hy fun h' c1 c2 c3 c4 c5 c6 k => ?_
    exact hQ h' ⟨k _ _ D.TIz D.TITO D.TIi1 D.TIi2 p, c3, c4, b1.at fun o e => k _ o D.l1z D.l1TO D.l1i1 D.l1i2 e, b2.at fun o e => k _ o D.l2z D.l2TO D.l2i1 D.l2i2 e, .inr ⟨_, false, _, c1, c5, new hz, n1, n2, Nat.ne_of_gt hS⟩⟩ c5 c6 k
  · refine wpAny_pyNext_zip_item_held D hz t p a1 a2 b1 b2 hx hy fun h' c1 c3 c4 c5 c6 k => ?_
    exact hQ h' ⟨k _ _ D.TIz D.TIi1 D.TIi2 p, c3, c4, b1.at fun o e => k _ o D.l1z D.l1i1 D.l1i2 e, b2.at fun o e => k _ o D.l2z D.l2i1 D.l2i2 e, .inr ⟨T, true, oT, c1, k _ _ r1 r2 r3 t, r1, r2, r3, r4⟩⟩ c5 c6 fun c o e1 _ e3 e4 e => k c o e1 e3 e4 e
theorem Zs.last {i : Nat} {Q : Option Value → Shared → Prop} (hh : A.handled = none) (D : ZipApart z TI TO i1 i2 l1 l2) (st : Zs z TI TO i1 i2 l1 l2 S xs ys i s.heap) (he : xs[i]? = none ∨ ys[i]? = none)
    (hQ : ∀ h', (∀ c o, c ≠ z → c ≠ TO → c ≠ i1 → c ≠ i2 → s.heap.get? c = some o → h'.get? c = some o) → Q none { s with heap := h' }) : wpAny (model prog w) A (pyNext (.ref z)) Q E s := by
  obtain ⟨p, a1, a2, b1, b2, q⟩ := st
  rcases q with ⟨hz, a, b, t⟩ | ⟨T, f, oT, hz, t, r1, r2, r3, r4⟩
  · exact wpAny_pyNext_zip_end hh D hz p t a1 a2 b1 b2 he hQ
  · exact wpAny_pyNext_zip_end_held hh D hz t p a1 a2 b1 b2 he fun h' k => hQ h' fun c o e1 _ e3 e4 e => k c o e1 e3 e4 e
/-- all but S and what the zip turns stay -/
def Stays (z TO i1 i2 S : Addr) (h h' : Heap) : Prop := ∀ b o, b ≠ S → b ≠ z → b ≠ TO → b ≠ i1 → b ≠ i2 → h.get? b = some o → h'.get? b = some o
theorem loop {R : Result → Shared → Prop} (hh : A.handled = none) (D : ZipApart z TI TO i1 i2 l1 l2) (O : Off z TI TO i1 i2 l1 l2 S) (hz : xs.size = ys.size) (hn : xs.size ≤ sizeLine) (res : Value) {h₁ : Heap} {lo : Addr} (zl : z < lo) (TOl : TO < lo) (i1l : i1 < lo) (i2l : i2 < lo) (Sl : S < lo)
    (hR : ∀ h' tk acc c ts, Stays z TO i1 i2 S h₁ h' → h'.get? S = some { cls := .type "list", dict := none, data := .seq acc c, slots := #[] } → ts.length = xs.size → Mz xs ys lo h' ts → acc.toList = ts.map Value.ref → R (.ok (.ret res)) { s with heap := h', toks := tk }) :
    ∀ (k i : Nat) (h : Heap) (tk c : Nat) (acc : Array Value) (ts : List Addr), xs.size - i = k → i ≤ xs.size → Zs z TI TO i1 i2 l1 l2 S xs ys i h → Stays z TO i1 i2 S h₁ h → h.get? S = some { cls := .type "list", dict := none, data := .seq acc c, slots := #[] } →
      acc.toList = ts.map Value.ref → ts.length = i → Mz xs ys lo h ts → lo ≤ h.objs.size → codeAny (model prog w) A (.builtin "list.extend.loop" ⟨[.ref S, .ref z, res], []⟩) R { s with heap := h, toks := tk } := by
  have ab : ∀ {c a : Addr}, c < lo → lo ≤ a → a ≠ c := fun p q => Nat.ne_of_gt (Nat.lt_of_lt_of_le p q)
  intro k
  induction k with
  | zero =>
    intro i h tk c acc ts hk hi st ks hS ha hl G hlo
    have e : i = xs.size := by omega
    refine codeAny_builtin PySem.F.entry_extend_loop ?_
    rw [Around.under_plainId PySem.F.plain_extend_loop _]
    refine wpAny_bind (m := pyNext (.ref z)) (Zs.last (s := { s with heap := h, toks := tk }) (A := A.in1) hh D st (.inl (Array.getElem?_eq_none (by omega))) fun h' kp => ?_)
    refine wpAny_pure (hR h' tk acc c ts (fun b o n0 n1 n2 n3 n4 q => kp b o n1 n2 n3 n4 (ks b o n0 n1 n2 n3 n4 q)) (kp S _ O.z.symm O.TO.symm O.i1.symm O.i2.symm hS) (by omega) ⟨G.rise, G.above, fun j a hj => ?_⟩ ha)
    obtain ⟨x, y, e1, e2, e3⟩ := G.pairs j a hj
    have la := G.above a (List.mem_of_getElem? hj)
    exact ⟨x, y, e1, e2, kp a _ (ab zl la) (ab TOl la) (ab i1l la) (ab i2l la) e3⟩
  | succ k ih =>
    intro i h tk c acc ts hk hi st ks hS ha hl G hlo
    have lt : i < xs.size := by omega
    have sz : acc.size = i := by rw [← Array.length_toList, ha, List.length_map, hl]
    have hSl : S < h.objs.size := Heap.lt_size hS
    refine codeAny_builtin PySem.F.entry_extend_loop ?_
    rw [Around.under_plainId PySem.F.plain_extend_loop _]
    refine wpAny_bind (m := pyNext (.ref z)) (Zs.next (s := { s with heap := h, toks := tk }) D st hSl (Array.getElem?_eq_getElem lt) (Array.getElem?_eq_getElem (by omega : i < ys.size)) fun h' st' pr hz' kp => ?_)
    dsimp only at pr hz' kp ⊢
    have hS' := kp S _ O.z.symm O.TO.symm O.i1.symm O.i2.symm hS
    have up : ∀ b o, b ≠ S → h'.get? b = some o → (h'.update S (Obj.mapSeq (·.push (Value.ref h.objs.size)))).get? b = some o := fun b o hb e => (Heap.get?_update_other _ _ (Ne.symm hb)).trans e
    refine wpAny_bind (m := updateSeq S (·.push (Value.ref h.objs.size))) ?_
    refine wpAny_updateSeq hS' rfl (wpAny_pure ⟨plainId_quiet PySem.F.plain_extend_loop _, ih (i + 1) _ tk _ (acc.push (Value.ref h.objs.size)) (ts ++ [h.objs.size]) (by omega) lt (st'.keep O up)
      (fun b o n0 n1 n2 n3 n4 q => up b o n0 (kp b o n1 n2 n3 n4 (ks b o n0 n1 n2 n3 n4 q))) (Heap.get?_update_self _ hS' rfl) (by rw [Array.toList_push, ha, List.map_append]; rfl) (by rw [List.length_append, hl]; rfl) ⟨?_, ?_, ?_⟩ ?_⟩) (by rw [sz]; omega) (by show (acc.push (Value.ref h.objs.size)).size ≤ sizeLine + 1; rw [Array.size_push, sz]; omega)
    · refine List.pairwise_append.mpr ⟨G.rise, List.pairwise_singleton _ _, fun a ha' b hb => ?_⟩
      rw [List.mem_singleton.mp hb]
      exact G.there ha'
    · intro a ha'
      rcases List.mem_append.mp ha' with q | q
      · exact G.above a q
      · rw [List.mem_singleton.mp q]; exact hlo
    · intro j b hj
      by_cases q : j < ts.length
      · rw [List.getElem?_append_left q] at hj
        obtain ⟨x, y, e1, e2, e3⟩ := G.pairs j b hj
        have lb := G.above b (List.mem_of_getElem? hj)
        exact ⟨x, y, e1, e2, up b _ (ab Sl lb) (kp b _ (ab zl lb) (ab TOl lb) (ab i1l lb) (ab i2l lb) e3)⟩
      · have hj' := (List.getElem?_eq_some_iff.mp hj).1
        rw [List.length_append, List.length_singleton] at hj'
        have ej : j = ts.length := by omega
        subst ej
        rw [List.getElem?_append_right (Nat.le_refl _), Nat.sub_self] at hj
        obtain rfl : h.objs.size = b := by simpa using hj
        subst hl
        exact ⟨_, _, Array.getElem?_eq_getElem lt, Array.getElem?_eq_getElem (by omega), up _ _ (Nat.ne_of_gt hSl) pr⟩
    · show lo ≤ (h'.update S _).objs.size
      rw [Heap.size_update, hz']
      exact Nat.le_succ_of_le hlo
theorem no_len : typeLookup (.type "zip") "__len__" = pure none := am_miss_of_fast (by decide +kernel)
theorem no_hint : typeLookup (.type "zip") "__length_hint__" = pure none := am_miss_of_fast (by decide +kernel)
theorem hint {r : Addr} {Q : Bool → Shared → Prop} (hT : s.TypeIs (.ref r) "zip") (h : Q true s) : wpAny (model prog w) A (Builtin.List.listLengthHint (.ref r)) Q E s := by
  unfold Builtin.List.listLengthHint
  refine wpAny_bind (wpAny_specialOf hT no_len ?_)
  wp_delta
  refine wpAny_ite_split (fun hab => absurd hab (by decide)) (fun _ => ?_)
  refine wpAny_ite_split (fun hab => absurd hab (by decide)) (fun _ => ?_)
  exact wpAny_bind (wpAny_specialOf hT no_hint (wpAny_pure h))
/-- the zip as it is made: its parts, all of them new -/
def Zn (z TI TO i1 i2 l1 l2 : Addr) (xs ys : Array Value) (h : Heap) : Prop := IsZip h z TI TO .none ∧ PySem.IsPair h TI (.ref i1) (.ref i2) ∧ PySem.IsPair h TO .none .none ∧ h.IsListIter i1 l1 0 ∧ h.IsListIter i2 l2 0 ∧ h.IsList l1 xs ∧ h.IsList l2 ys
theorem Zn.keep {h h' : Heap} (st : Zn z TI TO i1 i2 l1 l2 xs ys h) (k : ∀ b o, h.get? b = some o → h'.get? b = some o) : Zn z TI TO i1 i2 l1 l2 xs ys h' := by
  obtain ⟨a, b, c, d, e, f, g⟩ := st
  exact ⟨k _ _ a, k _ _ b, k _ _ c, d.at fun o q => k _ o q, e.at fun o q => k _ o q, f.at fun o q => k _ o q, g.at fun o q => k _ o q⟩
theorem Zn.lts {h : Heap} (st : Zn z TI TO i1 i2 l1 l2 xs ys h) : z < h.objs.size ∧ TI < h.objs.size ∧ TO < h.objs.size ∧ i1 < h.objs.size ∧ i2 < h.objs.size ∧ l1 < h.objs.size ∧ l2 < h.objs.size := by
  obtain ⟨a, b, c, ⟨_, d, _⟩, ⟨_, e, _⟩, ⟨_, f, _⟩, ⟨_, g, _⟩⟩ := st
  exact ⟨Heap.lt_size a, Heap.lt_size b, Heap.lt_size c, Heap.lt_size d, Heap.lt_size e, Heap.lt_size f, Heap.lt_size g⟩
/-- S, an empty list, gets the zip's tuples -/
theorem ext {R : Result → Shared → Prop} (hh : A.handled = none) (D : ZipApart z TI TO i1 i2 l1 l2) (O : Off z TI TO i1 i2 l1 l2 S) (st : Zn z TI TO i1 i2 l1 l2 xs ys s.heap) (hz : xs.size = ys.size) (hn : xs.size ≤ sizeLine) (res : Value) (c0 : Nat)
    (hS : s.heap.get? S = some { cls := .type "list", data := .seq #[] c0 })
    (hR : ∀ h' tk acc c ts, Stays z TO i1 i2 S s.heap h' → h'.get? S = some { cls := .type "list", dict := none, data := .seq acc c, slots := #[] } → ts.length = xs.size → Mz xs ys s.heap.objs.size h' ts → acc.toList = ts.map Value.ref → R (.ok (.ret res)) { s with heap := h', toks := tk }) :
    wpAny (model prog w) A.in1 (Builtin.List.listExtendWith (.ref S) (.ref z) res) (fun fin s' => match fin with | .done f => R (.ok f) s' | .again c' => c'.quiet = true ∧ codeAny (model prog w) A c' R s') (fun e s' => R (.error e) s') s := by
  obtain ⟨lz, lTI, lTO, li1, li2, _, _⟩ := st.lts
  obtain ⟨a1, a2, a3, a4, a5, a6, a7⟩ := st
  have hT : s.TypeIs (.ref z) "zip" := ⟨_, a1, rfl⟩
  have st0 : Zs z TI TO i1 i2 l1 l2 S xs ys 0 s.heap := ⟨a2, a4, a5, a6, a7, .inl ⟨a1, _, _, a3⟩⟩
  have go : ∀ (h : Heap) (c tk : Nat), (∀ b o, b ≠ S → s.heap.get? b = some o → h.get? b = some o) → h.get? S = some { cls := .type "list", dict := none, data := .seq #[] c, slots := #[] } → h.objs.size = s.heap.objs.size →
      codeAny (model prog w) A (.builtin "list.extend.loop" ⟨[.ref S, .ref z, res], []⟩) R { s with heap := h, toks := tk } := fun h c tk k hS' hs =>
    loop (s := s) (h₁ := s.heap) hh D O hz hn res lz lTO li1 li2 (Heap.lt_size hS) hR xs.size 0 h tk c #[] [] (Nat.sub_zero _) (Nat.zero_le _) (st0.keep O k) (fun b o n0 _ _ _ _ e => k b o n0 e) hS' rfl rfl ⟨List.Pairwise.nil, (fun _ q => nomatch q), fun j a q => by simp at q⟩ (Nat.le_of_eq hs.symm)
  unfold Builtin.List.listExtendWith
  refine wpAny_bind (wpAny_typeOf (T := "zip") hT ?_)
  have h1 : Builtin.List.listSameRef (.ref S) (.ref z) = false := by simp [Builtin.List.listSameRef, O.z.symm]
  have h2 : (Value.type "zip" == Value.type "list") = false := by decide
  have h3 : (Value.type "zip" == Value.type "tuple") = false := by decide
  simp only [h1, h2, h3, Bool.or_false, Bool.false_eq_true, if_false]
  refine wpAny_bind (wpAny_pyIter_zip a1 ?_)
  refine wpAny_bind (wpAny_holding (hint hT ?_))
  refine wpAny_ite_split (fun _ => ?_) (fun _ => wpAny_pure ⟨plainId_quiet PySem.F.plain_extend_loop _, go _ c0 _ (fun b o _ e => e) hS rfl⟩)
  refine wpAny_bind (wpAny_rule (wpAny_bind (m := updateSeq S (·.push .none) >>= fun _ => updateSeq S (·.pop)) (wpAny_bind (wpAny_updateSeq hS rfl ?_))))
  have hS₂ := Heap.get?_update_self (Obj.mapSeq (·.push Value.none)) hS rfl
  refine wpAny_updateSeq (hz := by seq_fits) hS₂ rfl ?_
  refine wpAny_pure ⟨plainId_quiet PySem.F.plain_extend_loop _, go _ _ _ (fun b o hb e => ?_) (Heap.get?_update_self (Obj.mapSeq (·.pop)) hS₂ rfl) ?_⟩
  · exact (Heap.get?_update_other _ _ (Ne.symm hb)).trans ((Heap.get?_update_other _ _ (Ne.symm hb)).trans e)
  · rw [Heap.size_update, Heap.size_update]
/-- what was there stays -/
def Keeps (z TO i1 i2 : Addr) (h h' : Heap) : Prop := ∀ b o, b ≠ z → b ≠ TO → b ≠ i1 → b ≠ i2 → h.get? b = some o → h'.get? b = some o
theorem offNew {h : Heap} (st : Zn z TI TO i1 i2 l1 l2 xs ys h) : Off z TI TO i1 i2 l1 l2 h.objs.size := by
  obtain ⟨a, b, c, d, e, f, g⟩ := st.lts
  exact ⟨Nat.ne_of_lt a, Nat.ne_of_lt b, Nat.ne_of_lt c, Nat.ne_of_lt d, Nat.ne_of_lt e, Nat.ne_of_lt f, Nat.ne_of_lt g⟩
theorem collected {R : List Value → Shared → Prop} (hh : A.handled = none) (D : ZipApart z TI TO i1 i2 l1 l2) (st : Zn z TI TO i1 i2 l1 l2 xs ys s.heap) (hz : xs.size = ys.size) (hn : xs.size ≤ sizeLine)
    (h : ∀ (h' : Heap) (tk : Nat) (ts : List Addr), Keeps z TO i1 i2 s.heap h' → s.heap.objs.size < h'.objs.size → ts.length = xs.size → Mz xs ys (s.heap.objs.size + 1) h' ts → R (ts.map Value.ref) { s with heap := h', toks := tk }) :
    wpAny (model prog w) A (collect (.ref z)) R E s := by
  unfold collect
  refine wpAny_bind (wpAny_runValue (codeAny_builtin entry_proto_collect' ?_))
  rw [Around.under_plainId PySem.F.plain_proto_collect _]
  refine wpAny_bind (m := newList []) (wpAny_newObj_type (wpAny_pure ⟨plainId_quiet PySem.F.plain_list_iadd _, codeAny_builtin entry_list_iadd' ?_⟩))
  rw [Around.under_plainId PySem.F.plain_list_iadd _]
  have O := offNew st
  have hS : (s.heap.push { cls := .type "list", data := .seq ([] : List Value).toArray }).get? s.heap.objs.size = some { cls := .type "list", data := .seq #[] } := Heap.get?_push_size _ rfl
  have key := ext (prog := prog) (w := w) (A := A) (s := { s with heap := s.heap.push { cls := .type "list", data := .seq ([] : List Value).toArray } }) (S := s.heap.objs.size)
    (R := fun (q : Result) (s' : Shared) => ∃ (h' : Heap) (tk : Nat) (acc : Array Value) (c : Nat) (ts : List Addr), q = .ok (.ret (.ref s.heap.objs.size)) ∧ s' = { s with heap := h', toks := tk } ∧ Keeps z TO i1 i2 s.heap h' ∧
      h'.get? s.heap.objs.size = some { cls := .type "list", dict := none, data := .seq acc c, slots := #[] } ∧ ts.length = xs.size ∧ Mz xs ys (s.heap.objs.size + 1) h' ts ∧ acc.toList = ts.map Value.ref)
    hh D O (st.keep fun b o e => Heap.get?_push_of_some _ e) hz hn (.ref s.heap.objs.size) 0 hS
    (fun h' tk acc c ts ks hS' hl G ha => ⟨h', tk, acc, c, ts, rfl, rfl, fun b o n1 n2 n3 n4 e => ks b o (Nat.ne_of_lt (Heap.lt_size e)) n1 n2 n3 n4 (Heap.get?_push_of_some _ e), hS', hl, by rw [← Heap.size_push s.heap { cls := .type "list", data := .seq ([] : List Value).toArray }]; exact G, ha⟩)
  refine wpAny_mono key (fun fin s' x => ?_) fun e s' x => ?_
  · cases fin with
    | done f =>
      obtain ⟨h', tk, acc, c, ts, e, rfl, ks, hS', hl, G, ha⟩ := x
      cases e
      refine wpAny_bind (m := load s.heap.objs.size) (wpAny_load hS' (wpAny_pure ?_))
      show R acc.toList _
      rw [ha]
      exact h h' tk ts ks (Heap.lt_size hS') hl G
    | again c₁ =>
      refine ⟨x.1, codeAny_mono x.2 fun q s₂ y => ?_⟩
      obtain ⟨h', tk, acc, c, ts, rfl, rfl, ks, hS', hl, G, ha⟩ := y
      refine wpAny_bind (m := load s.heap.objs.size) (wpAny_load hS' (wpAny_pure ?_))
      show R acc.toList _
      rw [ha]
      exact h h' tk ts ks (Heap.lt_size hS') hl G
  · obtain ⟨_, _, _, _, _, e', _⟩ := x
    cases e'
/-- sorted(the zip), up to the sort -/
theorem call_sorted {Q : Value → Shared → Prop} (hh : A.handled = none) (D : ZipApart z TI TO i1 i2 l1 l2) (st : Zn z TI TO i1 i2 l1 l2 xs ys s.heap) (hz : xs.size = ys.size) (hn : xs.size ≤ sizeLine)
    (h : ∀ (h' : Heap) (tk : Nat) (ts : List Addr), Keeps z TO i1 i2 s.heap h' → s.heap.objs.size < h'.objs.size → ts.length = xs.size → Mz xs ys (s.heap.objs.size + 1) h' ts →
      wpAny (model prog w) A.in1 (call (.builtin "list.sort") [.ref h'.objs.size]) (fun _ s' => Q (.ref h'.objs.size) s') E { s with heap := h'.push { cls := .type "list", data := .seq (ts.map Value.ref).toArray }, toks := tk }) :
    wpAny (model prog w) A (call (.builtin "sorted") [.ref z]) Q E s := by
  refine call_function_entry kind_sorted plain_sorted entry_sorted (args_sorted1 _) ?_
  unfold Builtin.«sorted»
  refine wpAny_bind (m := checkCount "sorted" 1 1 _) (wpAny_pure (wpAny_bind (collected (A := A.in1) hh D st hz hn fun h' tk ts k lt hl G => ?_)))
  refine wpAny_bind (wpAny_newList ?_ (by rw [List.length_map, hl]; exact hn))
  exact wpAny_bind (wpAny_holding (wpAny_mono (h h' tk ts k lt hl G) (fun _ s' x => wpAny_pure ⟨_, rfl, x⟩) fun _ _ e => e))
end
end ZipL
set_option Elab.async false
set_option linter.all false
set_option maxRecDepth 100000
set_option maxHeartbeats 1000000
/-! ### dicts with tuple keys: compared, cleared, updated, made of pairs, comprehensions -/
namespace My
open PySem PySem.W PySem.Spec PyProof.Rows PyProof.V L2
/-! ### keys that are pairs of ints, values that are ints -/
def kP (p : Int × Int) : List Key := [.inl p.1, .inl p.2]
theorem kP_inj {p q : Int × Int} (e : kP p = kP q) : p = q := by
  obtain ⟨a, b⟩ := p
  obtain ⟨c, d⟩ := q
  unfold kP at e
  injection e with e1 e2
  injection e2 with e2 _
  injection e1 with e1
  injection e2 with e2
  have e1' : a = c := e1
  have e2' : b = d := e2
  rw [e1', e2']
def dP (m : List ((Int × Int) × Int)) : List (List Key × V) := m.map fun e => (kP e.1, V.int e.2)
def lkP (m : List ((Int × Int) × Int)) (k : Int × Int) : Option Int := (m.find? fun e => decide (e.1 = k)).map (·.2)
def putP (m : List ((Int × Int) × Int)) (k : Int × Int) (v : Int) : List ((Int × Int) × Int) :=
  if (m.any fun e => decide (e.1 = k)) = true then m.map (fun e => if e.1 = k then (e.1, v) else e) else m ++ [(k, v)]
def mergeP (m n : List ((Int × Int) × Int)) : List ((Int × Int) × Int) := n.foldl (fun a e => putP a e.1 e.2) m
def mergeT (kvs more : List (List Key × V)) : List (List Key × V) := more.foldl (fun a e => putK a e.1 e.2) kvs
theorem kP_dec (p q : Int × Int) : decide (kP p = kP q) = decide (p = q) := by
  by_cases e : p = q
  · rw [e]; simp
  · rw [decide_eq_false e, decide_eq_false fun z => e (kP_inj z)]
theorem valV_dP (m : List ((Int × Int) × Int)) (k : Int × Int) : valV (dP m) (kP k) = (lkP m k).map V.int := by
  induction m with
  | nil => rfl
  | cons e m ih =>
    by_cases q : e.1 = k
    · rw [show dP (e :: m) = (kP e.1, V.int e.2) :: dP m from rfl, valV_pos (by rw [q]), show lkP (e :: m) k = some e.2 by simp [lkP, List.find?_cons, q]]
      rfl
    · rw [show dP (e :: m) = (kP e.1, V.int e.2) :: dP m from rfl, valV_neg (fun z => q (kP_inj z)), show lkP (e :: m) k = lkP m k by simp [lkP, List.find?_cons, q]]
      exact ih
theorem putK_dP (m : List ((Int × Int) × Int)) (k : Int × Int) (v : Int) : putK (dP m) (kP k) (.int v) = dP (putP m k v) := by
  have a : ((dP m).any fun e => decide (e.1 = kP k)) = m.any fun e => decide (e.1 = k) := by
    unfold dP
    rw [List.any_map]
    exact congrArg (m.any ·) (funext fun e => kP_dec e.1 k)
  unfold putK putP
  rw [a]
  by_cases q : (m.any fun e => decide (e.1 = k)) = true
  · rw [if_pos q, if_pos q]
    unfold dP
    rw [List.map_map, List.map_map]
    refine List.map_congr_left fun e _ => ?_
    show (if kP e.1 = kP k then (kP e.1, V.int v) else (kP e.1, V.int e.2)) = (kP (if e.1 = k then (e.1, v) else e).1, V.int (if e.1 = k then (e.1, v) else e).2)
    by_cases z : e.1 = k
    · rw [if_pos z, if_pos (by rw [z])]
    · rw [if_neg z, if_neg fun y => z (kP_inj y)]
  · rw [if_neg q, if_neg q]
    unfold dP
    rw [List.map_append]
    rfl
theorem mergeT_dP (n : List ((Int × Int) × Int)) : ∀ m : List ((Int × Int) × Int), mergeT (dP m) (dP n) = dP (mergeP m n) := by
  induction n with
  | nil => exact fun m => rfl
  | cons e n ih =>
    intro m
    show mergeT (putK (dP m) (kP e.1) (.int e.2)) (dP n) = dP (mergeP (putP m e.1 e.2) n)
    rw [putK_dP]
    exact ih _
theorem dP_length (m : List ((Int × Int) × Int)) : (dP m).length = m.length := List.length_map ..
theorem putP_new {m : List ((Int × Int) × Int)} {k : Int × Int} (v : Int) (h : k ∉ m.map (·.1)) : putP m k v = m ++ [(k, v)] := by
  unfold putP
  rw [if_neg]
  intro z
  obtain ⟨e, he, q⟩ := List.any_eq_true.mp z
  exact h (List.mem_map.mpr ⟨e, he, of_decide_eq_true q⟩)
theorem mergeP_new : ∀ (n m : List ((Int × Int) × Int)), ((m ++ n).map (·.1)).Nodup → mergeP m n = m ++ n
  | [], m, _ => (List.append_nil m).symm
  | e :: n, m, h => by
    have h' : (((m ++ [e]) ++ n).map (·.1)).Nodup := by rw [List.append_assoc]; exact h
    have ne : e.1 ∉ m.map (·.1) := by
      rw [List.map_append, List.nodup_append] at h
      exact fun z => h.2.2 _ z _ (List.mem_map.mpr ⟨e, List.mem_cons_self, rfl⟩) rfl
    show mergeP (putP m e.1 e.2) n = _
    rw [putP_new _ ne, show (m ++ [(e.1, e.2)]) = m ++ [e] from rfl, mergeP_new n _ h', List.append_assoc]
    rfl
theorem lkP_mem {m : List ((Int × Int) × Int)} {k : Int × Int} {v : Int} (nd : (m.map (·.1)).Nodup) (h : (k, v) ∈ m) : lkP m k = some v := by
  induction m with
  | nil => exact nomatch h
  | cons e m ih =>
    rw [List.map_cons, List.nodup_cons] at nd
    rcases List.mem_cons.mp h with z | z
    · rw [← z]; simp [lkP, List.find?_cons]
    · have q : ¬ e.1 = k := fun y => nd.1 (List.mem_map.mpr ⟨(k, v), z, y.symm⟩)
      rw [show lkP (e :: m) k = lkP m k by simp [lkP, List.find?_cons, q]]
      exact ih nd.2 z
theorem lkP_none {m : List ((Int × Int) × Int)} {k : Int × Int} (h : k ∉ m.map (·.1)) : lkP m k = none := by
  unfold lkP
  rw [List.find?_eq_none.mpr fun e he z => h (List.mem_map.mpr ⟨e, he, of_decide_eq_true z⟩)]
  rfl
theorem KT.all {H : Hp} : ∀ {more : List (List Key × V)} {rs : List (List Key × Addr × Value)} {kvs : List (List Key × V)} {xs : List (List Key × Addr × Value)}, KT H more rs → KT H kvs xs → KT H (mergeT kvs more) (storedAllH xs rs)
  | [], _, _, _, .nil, t => t
  | p :: more, _, kvs, xs, .cons (b := q) (l₂ := rs) h r, t => by
    obtain ⟨k, b, u⟩ := q
    obtain ⟨h1, h2, h3⟩ := h
    have e : p.1 = k := h1
    subst e
    show KT H (mergeT (putK kvs p.1 p.2) more) (storedAllH (storedH xs p.1 b u) rs)
    exact KT.all r (t.put p.1 h2 h3)
theorem mergeT_le : ∀ (more kvs : List (List Key × V)), (mergeT kvs more).length ≤ kvs.length + more.length
  | [], kvs => Nat.le_refl _
  | p :: more, kvs => by
    have a := mergeT_le more (putK kvs p.1 p.2)
    have b := length_putK kvs p.1 p.2
    show (mergeT (putK kvs p.1 p.2) more).length ≤ _
    rw [List.length_cons]
    omega
@[irreducible] def hashOf (l : List Int) : Int := reduceHash (Builtin.Tuple.tupleHashOf l)
def hashK (w : World) (k : List Key) : Int := hashOf (k.map (keyH w))
section
variable {X : Cx}
/-- d.update(d2) -/
def rUpdT (w : World) : V → List V → Hp → VK → Prop := fun x vs H Q => ∃ (a b : Addr) (kvs more : List (List Key × V)), x = .ref a ∧ vs = [.ref b] ∧ a ≠ b ∧ H a = some (.dT kvs) ∧ Rd H b (.dT more) ∧
  (kvs ≠ [] ∨ (more.map fun e => hashK w e.1).Nodup) ∧ kvs.length + more.length ≤ sizeLine ∧ Q .non (upd H a (.dT (mergeT kvs more)))
theorem keysMap : ∀ {α β γ : Type} {F : α → β → Prop} {f : α → γ} {g : β → γ} {l : List α} {m : List β}, Paired F l m → (∀ a b, F a b → f a = g b) → l.map f = m.map g
  | _, _, _, _, _, _, _, _, .nil, _ => rfl
  | _, _, _, _, _, _, _, _, .cons h t, k => by rw [List.map_cons, List.map_cons, k _ _ h, keysMap t k]
theorem mt_updT (hu : X.A.units + 1 < cLine) : MtR X "dict.update" (rUpdT X.w) := by
  intro pins s σ H x vs v us Q I rx rv h
  obtain ⟨a, b, kvs, more, rfl, rfl, ne, ea, eb, hap, hz, q⟩ := h
  obtain rfl : v = Value.ref a := rx
  obtain ⟨u, rfl, ru⟩ := vals1 rv
  obtain rfl : u = Value.ref b := ru
  obtain ⟨_, ya, xs, ra, da⟩ := dt_of I.hok ea
  obtain ⟨_, yb, ys, rb, db⟩ := dt_rd I.hok eb
  have la := Paired.length ra
  have lb := Paired.length rb
  have st : ∀ y ∈ ys, s.TypeIs (.ref y.2.1) "tuple" := fun y hy => by
    obtain ⟨_, _, _, _, _, _, _, hi, _⟩ := db
    obtain ⟨o, its, n, h1, h2, _⟩ := hi y hy
    exact ⟨o, h1, h2⟩
  refine call_update_dictH (tupleKind_room_in1 hu) ne yb da db ?_ (by omega) fun h' d1 d2 hs => ?_
  · rcases hap with z | z
    · exact .inl fun e => z (by rw [e] at la; exact List.length_eq_zero_iff.mp la)
    · refine .inr ⟨st, ?_⟩
      have e : (more.map fun e => hashK X.w e.1) = ys.map fun y => (tupleKind (mixKind X.prog X.w)).hash y.1 := keysMap rb fun p y r => by
        rw [r.1]
        unfold hashK hashOf
        rfl
      rw [← e]
      exact z
  · obtain ⟨o, es, ep, g1, g2, g3, g4, _, g6⟩ := d1
    refine ⟨.non, _, d_write (t' := s.toks) (ob := .dT (mergeT kvs more)) I (by rw [ea]; exact True.intro) hs ⟨o, g1⟩ ⟨Nat.le_trans (mergeT_le more kvs) hz, ya, _, (KT.all rb ra).keeps fun c zs ec => ?_, o, es, ep, g1, g2, g3, g4, g6⟩, rfl, q⟩
    rw [upd_ne (ne_of ec ea (fun z => nomatch z))]
    exact ec
theorem pe_updT {o e : Expr} {to te : TE} {apos cpos : Pos} (hu : X.A.units + 1 < cLine) (ho : PE X o to) (he : PE X e te) (hbase : attributeBase o "update" X.env (eval o X.env) = eval o X.env := by rfl)
    (hfew : ((backTo cpos (starEach [e] X.env)).all (fun x => !x.1) && (backToKw cpos (keywordEach [] X.env)).all (fun x => x.1.isSome) && decide ([e].length + ([] : List Keyword).length + (if ([] : List Keyword).isEmpty then 0 else 1) < 30)) = true := by rfl)
    (hline : (apos.endLine == cpos.line) = true := by rfl) (hs : starEach [e] X.env = (false, eval e X.env) :: starEach [] X.env := by rfl) (hplain : (backTo cpos (starEach [] X.env)).any (·.1) = false := by rfl) :
    PE X (.Call (.Attribute o "update" apos) [e] [] cpos) (tBM X.K "dict" (rUpdT X.w) to (tCons te tNil)) :=
  pe_bm PySem.F.plainAttrs_dict PySem.F.slot_dict_update PySem.F.type_dict_update (mt_updT hu) ho (pa_cons he pa_nil hs) hbase hfew hline hs hplain
end
end My
set_option Elab.async false
set_option linter.all false
set_option maxRecDepth 100000
set_option maxHeartbeats 1000000
/-! ### dict(list of pairs) with tuple keys; dict comprehensions with tuple keys -/
namespace My
open PySem PySem.W PySem.Spec PyProof.Rows PyProof.V L2
section
variable {X : Cx}
/-- D[k] = v by a comprehension, the key a tuple -/
theorem dictSetT {pins : List (Addr × Obj)} {τ : L2.St} {G : Hp} {z : Shared} {Er : Value → Shared → Prop} {D q : Addr} {kvs : List (List Key × V)} {k : List Key} {v : V} {r : Value} {Qf : Unit → Shared → Prop} (hu : X.A.units < cLine) (I : Inv X pins τ G z)
    (eD : G D = some (.dT kvs)) (eq : G q = some (.tup (k.map kV))) (lt : kvs.length < sizeLine) (rv : RelV v r) (fin : ∀ z', Inv X pins τ (upd G D (.dT (putK kvs k v))) z' → Qf () z') : wpAny (model X.prog X.w) X.A (dictSet D (.ref q) r) Qf Er z := by
  obtain ⟨_, yD, xs, rel, dd⟩ := dt_of I.hok eD
  have lx : xs.length ≤ sizeLine := by rw [← Paired.length rel]; omega
  have lp : (putK kvs k v).length ≤ sizeLine := by have a := length_putK kvs k v; omega
  refine wpAny_dictSet_heap (knd := tupleKind (mixKind X.prog X.w)) (show X.A.units < cLine from hu) (key_of I.hok eq) dd (fun h' dd' hs => fin _ ?_) lx
  obtain ⟨o, es, ep, w1, w2, w3, w4, _, w6⟩ := dd'
  refine d_write I (by rw [eD]; exact True.intro) hs ⟨o, w1⟩ ⟨lp, yD, _, (rel.put k eq rv).keeps fun c ys ec => ?_, o, es, ep, w1, w2, w3, w4, w6⟩
  rw [upd_ne (ne_of ec eD (fun z => nomatch z))]
  exact ec
/-- {k: v for target in iter if ..}, keys tuples: D the new dict -/
def tDcT (wi : TI) (g : TG) (tt : TT) (tk tv : TE) (vs : List Nat) : TE := fun σ H Q => wi σ H fun J H1 => ∀ D, H1 D = none → ∃ W : Nat → Nat → Hp → Prop, (∃ m, W 0 m (upd H1 D (.dT []))) ∧ ∀ i m H, W i m H →
  (J.stop i H ∧ Q (.ref D) H) ∨ (J.go i H ∧ ∃ Nx : Hp → Prop, (∀ H', Nx H' → ∃ m', m' < m ∧ W (i + 1) m' H') ∧ ∀ x H', J.yld i H x H' → g x (wipe σ vs) H' fun σ2 H2 => wipe σ2 vs = wipe σ vs ∧ tt σ2 H2 fun b H3 =>
    if b = true then tk σ2 H3 fun y H4 => tv σ2 H4 fun z H5 => ∃ kvs k q, y = .ref q ∧ H5 q = some (.tup (k.map kV)) ∧ H5 D = some (.dT kvs) ∧ kvs.length < sizeLine ∧ Nx (upd H5 D (.dT (putK kvs k z))) else Nx H3)
theorem pe_dcT {ke ve tg src : Expr} {cs : List Expr} {sc : Scope} {own : List (Str × Nat)} {pos : Pos} {wi : TI} {g : TG} {tt : TT} {tk tv : TE} (hu : X.A.units < cLine) (hc : X.calm = true) (nd : X.N.Nodup) (hi : PI X tg src wi) (bk : BlkOk X.N X.env.scope sc own)
    (hg : ∀ (z : Shared) (G : Hp) (C : Addr) (cl : List (Str × Addr)) (fp : List Addr), PG (X.blk z G sc (compEnvC sc cl C X.env) fp) tg g) (ht : ∀ (z : Shared) (G : Hp) (C : Addr) (cl : List (Str × Addr)) (fp : List Addr), PTs (X.blk z G sc (compEnvC sc cl C X.env) fp) cs tt)
    (hk : ∀ (z : Shared) (G : Hp) (C : Addr) (cl : List (Str × Addr)) (fp : List Addr), PE (X.blk z G sc (compEnvC sc cl C X.env) fp) ke tk) (hv : ∀ (z : Shared) (G : Hp) (C : Addr) (cl : List (Str × Addr)) (fp : List Addr), PE (X.blk z G sc (compEnvC sc cl C X.env) fp) ve tv)
    (hs : ∀ x, foldedSetIterable src X.env x = pure x := by intro _; rfl) : PE X (.DictComp ke ve [⟨tg, src, cs, 0⟩] sc pos) (tDcT wi g tt tk tv (own.map (·.2))) := by
  refine ⟨fun pins s σ H Q I h => ?_⟩
  rw [arm_eval_DictComp]
  have caps : ∀ y ∈ sc.names, y.2 = .free → ∃ c, X.env.cells.lookup y.1 = some c := fun y hy e => by
    rcases bk.free y hy e with k | k
    · exact I.ok.has _ (.inl k)
    · exact I.ok.has _ (.inr k)
  refine wpAny_comprehension_free (use := none) rfl hs (closure_ok caps) bk.kind (fun y hy e => by rw [bk.uniq y hy, e]) (thn (hi.run pins s σ H _ I h) fun xv s1 w => thn w fun itv s2 w2 => ?_)
  obtain ⟨it, fp, tn, J, H2, rfl, I2, T, u2, f2, goes⟩ := w2
  refine wpAny_newObj_type (newEnv_comp ?_)
  generalize eD : s2.heap.objs.size = D
  obtain ⟨W, ⟨m0, w0⟩, turn⟩ := goes D (I2.hok.fresh (Nat.le_of_eq eD))
  generalize e3 : ({ s2 with heap := s2.heap.push { cls := .type "dict", data := .dict #[] } } : Shared) = s3
  have I3 : Inv X pins σ (upd H2 D (.dT [])) s3 := by
    rw [← e3, ← eD]
    exact I2.laid (t' := s2.toks) (fun b o e => Heap.get?_push_of_some _ e) (Nat.le_refl _) (dt_empty s2.heap I2.big)
  have p3 : s3.heap = s2.heap.push { cls := .type "dict", data := .dict #[] } := by rw [← e3]
  have below : ∀ b ∈ fp, b < s2.heap.objs.size := fun b hb => let ⟨_, e, _⟩ := T.obj _ _ u2 b hb; Heap.lt_size e
  have f3 : ∀ b ∈ fp, FpOk X pins (upd H2 D (.dT [])) b ∧ b < s3.heap.objs.size := fun b hb =>
    ⟨⟨by rw [upd_ne (by rw [← eD]; exact Nat.ne_of_lt (below b hb))]; exact (f2 b hb).1, (f2 b hb).2⟩, by rw [p3, Heap.size_push]; exact Nat.lt_succ_of_lt (below b hb)⟩
  have u3 : tn 0 s3.heap := T.keep _ _ _ u2 fun b _ o e => by rw [p3]; exact Heap.get?_push_of_some _ e
  have I4 := block_start I3 bk nd f3
  have bg := hg s3 (upd H2 D (.dT [])) s3.heap.objs.size (cellsFrom (s3.heap.objs.size + 1) sc.names (cloFrom X.env.cells sc.names [])) fp
  have bt := ht s3 (upd H2 D (.dT [])) s3.heap.objs.size (cellsFrom (s3.heap.objs.size + 1) sc.names (cloFrom X.env.cells sc.names [])) fp
  have bk' := hk s3 (upd H2 D (.dT [])) s3.heap.objs.size (cellsFrom (s3.heap.objs.size + 1) sc.names (cloFrom X.env.cells sc.names [])) fp
  have bv := hv s3 (upd H2 D (.dT [])) s3.heap.objs.size (cellsFrom (s3.heap.objs.size + 1) sc.names (cloFrom X.env.cells sc.names [])) fp
  have none3 : ∀ b ∈ fp, (upd H2 D (.dT [])) b = none := fun b hb => (f3 b hb).1.1
  show codeAny _ _ (.compStart (.DictComp ke ve [⟨tg, src, cs, 0⟩] sc pos) 0 (.ref it) (.ref D) (compEnvC sc (cellsFrom (s3.heap.objs.size + 1) sc.names (cloFrom X.env.cells sc.names [])) s3.heap.objs.size X.env)) (compPost (model X.prog X.w) X.A X.xe none (EP X pins σ Q) (.ref D) s3.heap.objs.size) { s3 with heap := pushCells (s3.heap.push { cls := .type "dict", data := .dict #[] }) sc.names }
  generalize ee : compEnvC sc (cellsFrom (s3.heap.objs.size + 1) sc.names (cloFrom X.env.cells sc.names [])) s3.heap.objs.size X.env = env at I4 bg bt bk' bv ⊢
  have eL : env.locals = s3.heap.objs.size := by rw [← ee]; rfl
  generalize eH : upd H2 D (.dT []) = G at I3 I4 bg bt bk' bv w0 none3 f3
  have keepH : ∀ b o, s3.heap.get? b = some o → (pushCells (s3.heap.push { cls := .type "dict", data := .dict #[] }) sc.names).get? b = some o := fun b o e => pushCells_keeps _ _ _ _ (Heap.get?_push_of_some _ e)
  generalize e4 : ({ s3 with heap := pushCells (s3.heap.push { cls := .type "dict", data := .dict #[] }) sc.names } : Shared) = s4 at I4 ⊢
  have u4 : tn 0 s4.heap := T.keep _ _ _ u3 fun b _ o e => by rw [← e4]; exact keepH b o e
  have fpk : ∀ {σ' : L2.St} {H' : Hp} {s' : Shared}, Inv (X.blk s3 G sc env fp) [] σ' H' s' → (∀ b ∈ fp, H' b = none) → ∀ b ∈ fp, FpOk (X.blk s3 G sc env fp) [] H' b := fun {σ' H' s'} K n b hb =>
    ⟨n b hb, (K.ok.exf b hb).1, K.ok.exfs b hb, .inl hb, fun x c e => (K.ok.exf b hb).2 x c e, fun p hp => absurd (show p ∈ ([] : List (Addr × Obj)) ++ [] from hp) (by simp)⟩
  have rounds : codeAny (model X.prog X.w) X.A (.compLoop (.DictComp ke ve [⟨tg, src, cs, 0⟩] sc pos) 0 (.ref it) (.ref D) env) (compPost (model X.prog X.w) X.A X.xe none (EP X pins σ Q) (.ref D) s3.heap.objs.size) s4 := by
    refine compLoop_anyD (fun n s' => ∃ i H', W i n H' ∧ Inv (X.blk s3 G sc env fp) [] (wipe σ (own.map (·.2))) H' s' ∧ tn i s'.heap ∧ ∀ b ∈ fp, H' b = none) ?_ m0 ⟨0, G, w0, I4, u4, none3⟩
    rintro n s5 ⟨i, H5, w5, I5, u5, n5⟩
    rcases turn i n H5 w5 with ⟨stop, qq⟩ | ⟨go, Nx, later, step⟩
    · refine thnF (T.done (X.blk s3 G sc env fp) rfl rfl rfl hc i [] s5 _ H5 (fun _ _ => False) I5 (fpk I5 n5) u5 stop) fun r s6 ⟨er, I6⟩ => ?_
      subst er
      have I7 : Inv X pins σ H5 s6 := I3.call' (ch := fp) I6.os I6.base I6.hok I6.bare fun b hb => ⟨(f3 b hb).1.2.2.2.1, (f3 b hb).1.2.1, (f3 b hb).1.2.2.2.2.1, (f3 b hb).1.2.2.2.2.2⟩
      have nC : H5 s3.heap.objs.size = none := by
        have y : H5 env.locals = none := I6.free
        rw [eL] at y
        exact y
      obtain ⟨m, hn, _⟩ := I6.loc
      have hn' : s6.heap.Ns env.locals m := hn
      rw [eL] at hn'
      refine ⟨m, hn', fun h'' sb => ?_⟩
      obtain ⟨y0, y1, y2, y3, y4, y5⟩ := I3.fpOk (Nat.le_refl _) nC
      exact ⟨.ref D, H5, I7.turned (t' := s6.toks) (fun b o hb e => (sb.2 b hb).trans e) y0 y1 y3 y4 y5, rfl, qq⟩
    · refine thnF (T.item (X.blk s3 G sc env fp) rfl rfl rfl hc i [] s5 _ H5 (fun _ _ => False) I5 (fpk I5 n5) u5 go) fun r s6 ⟨u, er, w6⟩ => ?_
      subst er
      refine thnF w6 fun _ s7 ⟨x, H7, I7, r7, y7, u7, n7⟩ => ?_
      refine thnF (bg.run _ s7 _ H7 x u _ (I7.pinned (fpk I7 n7) (T.obj _ _ u7)) r7 (step x H7 y7)) fun _ s8 ⟨σ8, H8, I8, c8, q8⟩ => ?_
      refine thnF (bt.run _ s8 σ8 H8 _ I8 q8) fun b s9 ⟨H9, I9, q9⟩ => ?_
      have fin : ∀ {s' : Shared} {H' : Hp}, Inv (X.blk s3 G sc env fp) ([] ++ pinsAt fp s7.heap) σ8 H' s' → Nx H' → ∃ m, m < n ∧ ∃ i H', W i m H' ∧ Inv (X.blk s3 G sc env fp) [] (wipe σ (own.map (·.2))) H' s' ∧ tn i s'.heap ∧ ∀ b ∈ fp, H' b = none := fun {s' H'} K nx => by
        obtain ⟨m', lm, w'⟩ := later H' nx
        have stay : ∀ b ∈ fp, ∀ o, s7.heap.get? b = some o → s'.heap.get? b = some o ∧ H' b = none := fun b hb o e =>
          let y := K.pin (b, o) (List.mem_append_right _ (List.mem_append_right _ (mem_pinsAt hb e)))
          ⟨y.1, y.2.1⟩
        refine ⟨m', lm, i + 1, H', w', (K.unpinned (pins := [])).weak (by rw [← c8, wipe_length]) (fun j v e => ?_), T.keep _ _ _ u7 fun b hb o e => (stay b hb o e).1, fun b hb => ?_⟩
        · rw [← c8] at e
          exact (wipe_some e).1
        · obtain ⟨o, e, _⟩ := T.obj _ _ u7 b hb
          exact (stay b hb o e).2
      cases b with
      | false => exact fin I9 q9
      | true =>
        refine thnF (bk'.run _ s9 σ8 H9 _ I9 q9) fun y s10 ⟨yk, H10, I10, r10, q10⟩ => ?_
        refine thnF (bv.run _ s10 σ8 H10 _ I10 q10) fun y2 s11 ⟨yv, H11, I11, r11, kvs, k, q, ek, eq, eD', lt, nx⟩ => ?_
        subst ek
        obtain rfl : y = Value.ref q := r10
        exact dictSetT (X := X.blk s3 G sc env fp) hu I11 eD' eq lt r11 fun s12 I12 => fin I12 nx
  exact codeAny_compStart_dict rounds (T.self X.A 0 _ _ _ u4 rounds)
/-- its turns over a walk of n turns -/
theorem dcT_it {J : It} {n : Nat} {Gd : Hp → Prop} {Y : Nat → Hp → V → Hp → Prop} (w : Walk J n Gd Y) {g : TG} {tt : TT} {tk tv : TE} {vs : List Nat} {σ : L2.St} {H1 : Hp} {D : Addr} {Qd : Hp → Prop} (Pv : Nat → Hp → Prop) (h0 : Pv 0 (upd H1 D (.dT []))) (hG : ∀ i H, i ≤ n → Pv i H → Gd H)
    (hs : ∀ i x H H', i < n → Pv i H → Y i H x H' → g x (wipe σ vs) H' fun σ2 H2 => wipe σ2 vs = wipe σ vs ∧ tt σ2 H2 fun b H3 =>
      if b = true then tk σ2 H3 fun y H4 => tv σ2 H4 fun z H5 => ∃ kvs k q, y = .ref q ∧ H5 q = some (.tup (k.map kV)) ∧ H5 D = some (.dT kvs) ∧ kvs.length < sizeLine ∧ Pv (i + 1) (upd H5 D (.dT (putK kvs k z))) else Pv (i + 1) H3) (hd : ∀ H, Pv n H → Qd H) :
    ∃ W : Nat → Nat → Hp → Prop, (∃ m, W 0 m (upd H1 D (.dT []))) ∧ ∀ i m H, W i m H →
      (J.stop i H ∧ Qd H) ∨ (J.go i H ∧ ∃ Nx : Hp → Prop, (∀ H', Nx H' → ∃ m', m' < m ∧ W (i + 1) m' H') ∧ ∀ x H', J.yld i H x H' → g x (wipe σ vs) H' fun σ2 H2 => wipe σ2 vs = wipe σ vs ∧ tt σ2 H2 fun b H3 =>
        if b = true then tk σ2 H3 fun y H4 => tv σ2 H4 fun z H5 => ∃ kvs k q, y = .ref q ∧ H5 q = some (.tup (k.map kV)) ∧ H5 D = some (.dT kvs) ∧ kvs.length < sizeLine ∧ Nx (upd H5 D (.dT (putK kvs k z))) else Nx H3) := by
  refine ⟨fun i m H => m = n - i ∧ i ≤ n ∧ Pv i H, ⟨n, by simp, Nat.zero_le _, h0⟩, ?_⟩
  rintro i m H ⟨rfl, hi, p⟩
  have q := hG i H hi p
  by_cases hlt : i < n
  · exact .inr ⟨w.goes i H hlt q, Pv (i + 1), fun H' p' => ⟨n - (i + 1), by omega, rfl, hlt, p'⟩, fun x H' y => hs i x H H' hlt p (w.yields i H x H' hlt q y)⟩
  · have e : i = n := by omega
    subst e
    exact .inl ⟨w.stops H q, hd H p⟩
end
end My
set_option Elab.async false
set_option linter.all false
set_option maxRecDepth 100000
set_option maxHeartbeats 1000000
/-! ### list(zip(a, b)), sorted(zip(a, b)) of lists, by values -/
namespace My
open PySem PySem.W PySem.Spec PyProof.Rows PyProof.V L2
theorem eachAt {α β : Type} {R : α → β → Prop} : ∀ {as : List α} {bs : List β}, as.length = bs.length → (∀ (j : Nat) (a : α) (b : β), as[j]? = some a → bs[j]? = some b → R a b) → EachIs R as bs
  | [], [], _, _ => .nil
  | [], _ :: _, h, _ => by simp at h
  | _ :: _, [], h, _ => by simp at h
  | a :: as, b :: bs, h, k => .cons (k 0 a b rfl rfl) (eachAt (by simpa using h) fun j x y e1 e2 => k (j + 1) x y (by simpa using e1) (by simpa using e2))
theorem sortVals_perm (κ : PyProof.Rows.KeyKind) (vs : List Value) : (sortVals κ false vs vs).Perm vs := by
  unfold sortVals
  have e : (vs.zip vs).map Prod.snd = vs := List.map_snd_zip (Nat.le_refl _)
  have q := (List.mergeSort_perm (vs.zip vs) (sortLe κ.toKeyOrd false fun p : Keyed => keyD κ p.1)).map Prod.snd
  rw [e] at q
  exact q
section
variable {X : Cx}
/-- zip(a, b) of two lists is made -/
theorem zipMade {pins : List (Addr × Obj)} {σ : L2.St} {H : Hp} {s : Shared} {E : Value → Shared → Prop} {a b : Addr} {xs ys : List V} {Q : Value → Shared → Prop} (I : Inv X pins σ H s) (ha : SqL X.K H a xs) (hb : SqL X.K H b ys)
    (h : ∀ (us vs : List Value) (h' : Heap), Vals xs us → Vals ys vs → us.length ≤ sizeLine → ZipL.Zn (s.heap.objs.size + 4) (s.heap.objs.size + 2) (s.heap.objs.size + 3) s.heap.objs.size (s.heap.objs.size + 1) a b us.toArray vs.toArray h' →
      ZipApart (s.heap.objs.size + 4) (s.heap.objs.size + 2) (s.heap.objs.size + 3) s.heap.objs.size (s.heap.objs.size + 1) a b → h'.objs.size = s.heap.objs.size + 5 → (∀ c o, s.heap.get? c = some o → h'.get? c = some o) → Q (.ref (s.heap.objs.size + 4)) { s with heap := h' }) :
    wpAny (model X.prog X.w) X.A (call (.type "zip") [.ref a, .ref b]) Q E s := by
  obtain ⟨us, r1, p1, z1⟩ := I.list ha
  obtain ⟨vs, r2, p2, _⟩ := I.list hb
  have l1 := p1.isList
  have l2 := p2.isList
  refine call_zip_2 l1 l2 fun h' hz hTI hTO c1 c2 hs hk => ?_
  exact h us vs h' r1 r2 (by rw [← r1.length]; exact z1) ⟨hz, hTI, hTO, c1, c2, l1.at fun o e => hk _ o e, l2.at fun o e => hk _ o e⟩ (PySem.W.ktu_apart s.heap.objs.size a b p1.lt p2.lt) hs hk
/-- sorted(zip(a, b)), a a list of tuples of two ints, b of ints; the order is left open -/
def tSortZ (K : PySem.W.Frag) (ta : TA) : TE := fun σ H Q => ta σ H fun vs H1 => ∃ (a b : Addr) (ds : List (Addr × Int × Int)) (ks : List Int), vs = [V.ref a, V.ref b] ∧ SqL K H1 a (ds.map fun d => V.ref d.1) ∧ SqL K H1 b (ks.map V.int) ∧ ds.length = ks.length ∧
  (∀ d ∈ ds, H1 d.1 = some (.tup [.int d.2.1, .int d.2.2])) ∧
  ∀ (H2 : Hp) (l : Addr) (ps : List (Addr × (Addr × Int × Int) × Int)), (∀ c o, H1 c = some o → H2 c = some o) → (ps.map (·.2)).Perm (ds.zip ks) → H2 l = some (.lst (ps.map fun p => V.ref p.1)) → (∀ p ∈ ps, H2 p.1 = some (.tup [.ref p.2.1.1, .int p.2.2])) → Q (.ref l) H2
/-- the zip's internals are none of what was there -/
theorem keepsOld {s : Shared} {h0 h' : Heap} (hk : ∀ c o, s.heap.get? c = some o → h0.get? c = some o) (k : ZipL.Keeps (s.heap.objs.size + 4) (s.heap.objs.size + 3) s.heap.objs.size (s.heap.objs.size + 1) h0 h') : ∀ c o, s.heap.get? c = some o → h'.get? c = some o := fun c o e => by
  have lt := Heap.lt_size e
  exact k c o (Nat.ne_of_lt (Nat.lt_of_lt_of_le lt (Nat.le_add_right _ _))) (Nat.ne_of_lt (Nat.lt_of_lt_of_le lt (Nat.le_add_right _ _))) (Nat.ne_of_lt lt) (Nat.ne_of_lt (Nat.lt_of_lt_of_le lt (Nat.le_add_right _ _))) (hk c o e)
theorem pairOk {P : Program} {w : World} {h : Heap} {t : Addr} {x y : V} {u v : Value} (ru : RelV x u) (rv : RelV y v) (e : PySem.IsPair h t u v) : ∀ H2, ObjOk P w H2 h t (.tup [x, y]) := fun H2 =>
  ⟨by rw [sizeLine_eq]; show 2 ≤ 16777216; omega, [u, v], .cons ru (.cons rv .nil), ⟨_, e, rfl, 0, rfl⟩⟩
theorem valsAt : ∀ {xs : List V} {us : List Value} {j : Nat} {u : Value}, Vals xs us → us[j]? = some u → ∃ x, xs[j]? = some x ∧ RelV x u
  | _, _, j, u, .nil, e => by simp at e
  | _, _, 0, u, .cons (a := x) r _, e => by
    obtain rfl := Option.some.inj e
    exact ⟨x, rfl, r⟩
  | _, _, j + 1, u, .cons _ t, e => by
    obtain ⟨x, e1, e2⟩ := valsAt t (show _ = some u by simpa using e)
    exact ⟨x, by simpa using e1, e2⟩
theorem pe_sortZ {e e2 : Expr} {ta : TA} {p q pos pos2 : Pos} (hu : X.A.units + 64 < cLine) (hc : X.calm = true) (hg : Gl X "sorted") (hm : X.mg "sorted" = none) (hg2 : Gl X "zip") (hm2 : X.mg "zip" = none) (ha : PA X [e, e2] ta)
    (hs : starEach [e, e2] X.env = (false, eval e X.env) :: starEach [e2] X.env := by rfl) (hpl : (backTo pos (starEach [e2] X.env)).any (·.1) = false := by rfl)
    (hse : starEach [Expr.Call (.Name "zip" q) [e, e2] [] pos] X.env = [(false, eval (Expr.Call (.Name "zip" q) [e, e2] [] pos) X.env)] := by rfl) :
    PE X (.Call (.Name "sorted" p) [.Call (.Name "zip" q) [e, e2] [] pos] [] pos2) (tSortZ X.K ta) := by
  refine ⟨fun pins s σ H Q I h => ?_⟩
  refine wpAny_Call_Name_kw (ld_blt I hg hm (u := .builtin "sorted") (by first | rfl | decide +kernel) ?_ (by first | decide +kernel | decide) (by first | decide +kernel | decide))
  rw [hse]
  refine PySem.callWith_builtin1 (Call_ (ld_blt I hg2 hm2 PyProof.Rows.boot_zip (PyProof.Rows.callWith_type1 (thn (ha.run pos pins s σ H _ I h) fun us0 s1 ⟨vs0, H1, I1, r1, q1⟩ => ?_) hs hpl)))
  obtain ⟨a, b, ds, ks, rfl, la, lb, hl, hd, q2⟩ := q1
  obtain ⟨ua, ub, rfl, ra, rb⟩ := vals2 r1
  obtain rfl : ua = Value.ref a := ra
  obtain rfl : ub = Value.ref b := rb
  refine zipMade I1 la lb fun us vs h0 v1 v2 zl zn D hs0 hk => ?_
  have lu : us.length = ds.length := by rw [← v1.length, List.length_map]
  have lv : vs.length = ds.length := by rw [← v2.length, List.length_map, hl]
  refine ZipL.call_sorted (s := { s1 with heap := h0 }) (I.ok.hd hc) D zn (by simp [lu, lv]) (by simpa using zl) fun h1 tk ts k1 lt1 lt2 G => ?_
  have lts : ts.length = (ds.zip ks).length := by rw [lt2, List.size_toArray, lu, List.length_zip, hl, Nat.min_self]
  have old := keepsOld hk k1
  have big : s1.heap.objs.size ≤ h1.objs.size := by
    have z : h0.objs.size < h1.objs.size := lt1
    omega
  -- what is collected
  have at_ : ∀ (j : Nat) (t : Addr), ts[j]? = some t → ∃ d k x y, ds[j]? = some d ∧ ks[j]? = some k ∧ x = Value.ref d.1 ∧ (∃ w, y = Value.int k w) ∧ PySem.IsPair h1 t x y := fun j t hj => by
    obtain ⟨x, y, ex, ey, e⟩ := G.pairs j t hj
    rw [List.getElem?_toArray] at ex ey
    obtain ⟨x', ex', rx⟩ := valsAt v1 ex
    obtain ⟨y', ey', ry⟩ := valsAt v2 ey
    rw [List.getElem?_map] at ex' ey'
    obtain ⟨d, hd1, e1⟩ := Option.map_eq_some_iff.mp ex'
    obtain ⟨k, hk1, e2⟩ := Option.map_eq_some_iff.mp ey'
    subst e1 e2
    obtain ⟨w, ew⟩ := (show ∃ w, y = Value.int k w from ry)
    exact ⟨d, k, x, y, hd1, hk1, rx, ⟨w, ew⟩, e⟩
  have hob : (h1.push { cls := .type "list", data := .seq (ts.map Value.ref).toArray }).get? h1.objs.size = some (seqObj "list" (ts.map Value.ref).toArray 0) := Heap.get?_push_size _ rfl
  have p2 : ∀ b o, h1.get? b = some o → (h1.push { cls := .type "list", data := .seq (ts.map Value.ref).toArray }).get? b = some o := fun b o e => Heap.get?_push_of_some _ e
  generalize eh2 : h1.push { cls := .type "list", data := .seq (ts.map Value.ref).toArray } = h2 at hob p2 ⊢
  have ne0 : ∀ {b o}, h1.get? b = some o → b ≠ h1.objs.size := fun e => Nat.ne_of_lt (Heap.lt_size e)
  let enc : (Addr × Int × Int) × Int → PyData := fun p => .tuple [.tuple [.int p.1.2.1, .int p.1.2.2], .int p.2]
  have each : EachIs (fun v d => ∃ as, Reads (sortingHeap h2 h1.objs.size (ts.map Value.ref)) v d as) (ts.map Value.ref) ((ds.zip ks).map enc) := by
    refine eachAt (by rw [List.length_map, List.length_map, lts]) fun j v d e1 e2 => ?_
    rw [List.getElem?_map] at e1 e2
    obtain ⟨t, ht, rfl⟩ := Option.map_eq_some_iff.mp e1
    obtain ⟨dk, hdk, rfl⟩ := Option.map_eq_some_iff.mp e2
    obtain ⟨d, k, x, y, f1, f2, rfl, ⟨w, rfl⟩, f3⟩ := at_ j t ht
    have edk : dk = (d, k) := by
      have z := List.getElem?_zip_eq_some.mpr (⟨f1, f2⟩ : ds[j]? = some (d, k).1 ∧ ks[j]? = some (d, k).2)
      exact Option.some.inj (hdk.symm.trans z)
    subst edk
    obtain ⟨_, its, rv, o, g1, g2, n, g3⟩ := (show ObjOk X.prog X.w H1 s1.heap d.1 (.tup [.int d.2.1, .int d.2.2]) from I1.hok d.1 _ (hd d (List.mem_of_getElem? f1)))
    obtain ⟨w1, w2, rfl, ⟨m1, rfl⟩, ⟨m2, rfl⟩⟩ := vals2 rv
    have g1' : h1.get? d.1 = some o := old _ _ g1
    exact ⟨_, Reads.tuple (sortingHeap_old (ne0 f3) (p2 _ _ f3)) rfl rfl (.cons (Reads.tuple (sortingHeap_old (ne0 g1') (p2 _ _ g1')) g2 g3 (.cons (.int _ _) (.cons (.int _ _) .nil))) (.cons (.int _ _) .nil))⟩
  have S : SortsAt X.prog X.w X.A.in1.in1 { s1 with heap := sortingHeap h2 h1.objs.size (ts.map Value.ref), toks := tk } _ (ts.map Value.ref) := SortsAt.data (s := { s1 with heap := sortingHeap h2 h1.objs.size (ts.map Value.ref), toks := tk }) each
    (fun d h1 d' h2 => by
      obtain ⟨p1, _, rfl⟩ := List.mem_map.mp h1
      obtain ⟨p2, _, rfl⟩ := List.mem_map.mp h2
      simp [enc, alike, alikeAll])
    (.inl fun d h1 => by
      obtain ⟨p1, _, rfl⟩ := List.mem_map.mp h1
      exact ⟨_, _, rfl⟩)
    (fun d h1 => by
      obtain ⟨p1, _, rfl⟩ := List.mem_map.mp h1
      show X.A.units + 1 + 1 + _ < cLine
      simp [enc, PyData.depth, PyData.depthAll]
      omega)
  have hlen : (ts.map Value.ref).length ≤ sizeLine := by rw [List.length_map, lt2]; simpa using zl
  refine wpAny_call_entry PyProof.Rows.slot_list_sort ⟨_, hob, rfl⟩ PyProof.Rows.entry_list_sort (list_sort_vals (s := { s1 with heap := h2, toks := tk }) hob S hlen ⟨.none, rfl, ?_⟩) (PyProof.Rows.args_list_sort _)
  generalize eo : sortVals (dataKind (sortingHeap h2 h1.objs.size (ts.map Value.ref)) ((ds.zip ks).map enc)) false (ts.map Value.ref) (ts.map Value.ref) = out
  have op : out.Perm (ts.map Value.ref) := by rw [← eo]; exact sortVals_perm _ _
  show EP X pins σ Q (.ref h1.objs.size) { s1 with heap := sortedHeap h2 h1.objs.size (ts.map Value.ref) out.toArray, toks := tk }
  obtain ⟨zs, pz, ez⟩ := perm_lift (fun z : Addr × (Addr × Int × Int) × Int => Value.ref z.1) op (ts.zip (ds.zip ks)) (by
    rw [show (ts.zip (ds.zip ks)).map (fun z => Value.ref z.1) = ((ts.zip (ds.zip ks)).map Prod.fst).map Value.ref by rw [List.map_map] <;> rfl, List.map_fst_zip (Nat.le_of_eq lts)])
  have kF : ∀ b o, h1.get? b = some o → (sortedHeap h2 h1.objs.size (ts.map Value.ref) out.toArray).get? b = some o := fun b o e => (PyProof.Rows.sortedHeap_old (ne0 e) (Heap.lt_size (p2 b o e))).trans (p2 b o e)
  obtain ⟨eF, heF⟩ := PyProof.Rows.sortedHeap_at (vs := ts.map Value.ref) (out := out.toArray) hob
  generalize sortedHeap h2 h1.objs.size (ts.map Value.ref) out.toArray = hF at kF heF
  have J : Inv X pins σ H1 { s1 with heap := hF, toks := tk } := I1.kept (t' := tk) fun b o e => kF b o (old b o e)
  have n0 : H1 h1.objs.size = none := I1.hok.fresh big
  have rv : Vals (zs.map fun z => V.ref z.1) out := by
    rw [← ez]
    exact vals_maps (fun z : Addr × (Addr × Int × Int) × Int => V.ref z.1) (fun z => Value.ref z.1) zs fun _ _ => rfl
  have J2 : Inv X pins σ (upd H1 h1.objs.size (.lst (zs.map fun z => V.ref z.1))) { s1 with heap := hF, toks := tk } :=
    J.take (h' := hF) (t' := tk) (fun b ob _ e => e) (I1.fpOk big n0) ⟨by rw [rv.length, op.length_eq]; exact hlen, out, eF, rv, heF⟩
  have nd : ts.Nodup := List.Pairwise.imp (fun h => Nat.ne_of_lt h) G.rise
  obtain ⟨H2, J3, g, qt⟩ := DX.takeT (P := fun t vs => ∃ (j : Nat) (d : Addr × Int × Int) (k : Int), ts[j]? = some t ∧ ds[j]? = some d ∧ ks[j]? = some k ∧ vs = [V.ref d.1, V.int k]) I1 ts _ J2 nd fun t ht => by
    obtain ⟨j, hj⟩ := List.mem_iff_getElem?.mp ht
    obtain ⟨d, k, x, y, f1, f2, rfl, ⟨w, rfl⟩, f3⟩ := at_ j t hj
    have lo : s1.heap.objs.size ≤ t := by
      have z : h0.objs.size + 1 ≤ t := G.above t ht
      exact Nat.le_trans (by omega) z
    refine ⟨lo, ?_, _, ⟨j, d, k, hj, f1, f2, rfl⟩, pairOk (show RelV (.ref d.1) (Value.ref d.1) from rfl) (show RelV (.int k) (Value.int k w) from ⟨w, rfl⟩) (kF _ _ f3)⟩
    rw [upd_ne (ne0 f3)]
    exact I1.hok.fresh lo
  refine ⟨.ref h1.objs.size, H2, J3, rfl, q2 H2 _ zs (fun c o e => g c o (by rw [upd_ne (ne_of_none e n0)]; exact e)) ?_ (g _ _ upd_same) fun z hz => ?_⟩
  · have e := pz.map (·.2)
    have m2 : (ts.zip (ds.zip ks)).map (·.2) = ds.zip ks := List.map_snd_zip (Nat.le_of_eq lts.symm)
    rw [m2] at e
    exact e
  · obtain ⟨i, hi⟩ := List.mem_iff_getElem?.mp (pz.mem_iff.mp hz)
    obtain ⟨i1, i2⟩ := List.getElem?_zip_eq_some.mp hi
    obtain ⟨i3, i4⟩ := List.getElem?_zip_eq_some.mp i2
    obtain ⟨vs', ⟨j, d, k, j1, j2, j3, ev⟩, hH⟩ := qt z.1 (List.mem_of_getElem? i1)
    have eij : i = j := (List.getElem?_inj (List.getElem?_eq_some_iff.mp i1).1 nd).mp (i1.trans j1.symm)
    subst eij
    rw [ev, Option.some.inj (j2.symm.trans i3), Option.some.inj (j3.symm.trans i4)] at hH
    exact hH
end
end My
set_option Elab.async false
set_option linter.all false
set_option maxRecDepth 100000
set_option maxHeartbeats 1000000
/-! ### for a, b in d.items(), d a dict whose keys are tuples -/
namespace My
open PySem PySem.W PySem.Spec PyProof.Rows PyProof.V L2
section
variable {X : Cx} {pins : List (Addr × Obj)} {σ : L2.St} {H : Hp} {s : Shared} {d : Addr} {o : Obj}
/-- what a locked dict with tuple keys is: each entry's key and value -/
theorem frz_ents {kvs : List (List Key × V)} (I : Inv X pins σ H s) (h : H d = some (.frz o (.dT kvs))) :
    (d == sysModules) = false ∧ s.heap.get? d = some o ∧ o.ExactDict ∧ ∃ (es : Array DictEntry) (ep : Nat), o.data = .dict es ep ∧ es.size = kvs.length ∧
      ∀ (i : Nat) (k : List Key) (v : V), kvs[i]? = some (k, v) → ∃ (en : DictEntry) (q : Addr), es[i]? = some en ∧ en.key = .ref q ∧ H q = some (.tup (k.map kV)) ∧ RelV v en.val := by
  obtain ⟨hd, z, hs, xs, pr, o', es, ep, ho, hx, hdt, he, _⟩ := I.hok d _ h
  rw [hd] at ho
  cases ho
  refine ⟨hs, hd, hx, es, ep, hdt, ?_, fun i k v e => ?_⟩
  · have l1 : es.size = xs.length := size_of_entries he
    have l2 : kvs.length = xs.length := Paired.length pr
    omega
  · obtain ⟨b, hb, e1, e2, e3⟩ := paired_get pr e
    have q := entry_at he i
    rw [hb] at q
    exact ⟨_, b.2.1, q, rfl, e2, e3⟩
end
def ItiT (d : Addr) (o : Obj) (kvs : List (List Key × V)) : It :=
  ⟨fun i H => H d = some (.frz o (.dT kvs)) ∧ i < kvs.length,
   fun i H x H' => ∃ (T q : Addr) (k : List Key) (v : V), kvs[i]? = some (k, v) ∧ x = .ref T ∧ H T = none ∧ H q = some (.tup (k.map kV)) ∧ H' = upd H T (.tup [.ref q, v]),
   fun i H => H d = some (.frz o (.dT kvs)) ∧ kvs.length ≤ i⟩
theorem turn_itemsT {P : Program} {w : World} {K : PySem.W.Frag} {d : Addr} {o : Obj} {es : Array DictEntry} {ep : Nat} {kvs : List (List Key × V)} {elts : List Expr} {kk : Nat} {tpos : Pos} (it : Addr) (hod : o.data = .dict es ep) :
    Turn P w K (.Tuple elts kk tpos) (ItiT d o kvs) [it] it (fun i h => ∃ ok ov, IsItemIter h it d i kvs.length ep ok ov) where
  mem := List.mem_singleton.mpr rfl
  obj := fun i h st b hb => by
    obtain ⟨ok, ov, e⟩ := st
    rw [List.mem_singleton.mp hb]
    exact ⟨_, e, fun v z => nomatch z⟩
  keep := fun i h h' st k => let ⟨ok, ov, e⟩ := st; ⟨ok, ov, k it (List.mem_singleton.mpr rfl) _ e⟩
  item := by
    intro X hP hw hK hc i pins s σ H E I hf st hg
    subst hP hw hK
    obtain ⟨hd, hi⟩ := hg
    obtain ⟨hs, hgd, hx, es', ep', hdt, hsz, ent⟩ := frz_ents I hd
    obtain ⟨rfl, rfl⟩ := dict_ep hod hdt
    obtain ⟨en, q, hen, hkey, hq, rv⟩ := ent i kvs[i].1 kvs[i].2 (List.getElem?_eq_getElem hi)
    obtain ⟨ok, ov, he⟩ := st
    rw [← hsz] at he
    have hi' : i < es'.size := by rw [hsz]; exact hi
    have hlt : it < s.heap.objs.size := Heap.lt_size he
    have een : es'[i] = en := by
      rw [Array.getElem?_eq_getElem hi'] at hen
      exact Option.some.inj hen
    refine DT.nextI he ⟨o, hgd, hx, hdt⟩ hi' fun h' ho hT hz hk => ?_
    refine ⟨_, rfl, wpAny_letOwnedTupleGo_items (s := { s with heap := h' }) ho fun h'' he' sb => ?_⟩
    have hT2 : h''.get? s.heap.objs.size = some { cls := .type "tuple", data := .seq #[es'[i].key, es'[i].val] } := (sb.2 _ (Nat.ne_of_gt hlt)).trans hT
    rw [een, hkey] at hT2
    have new : ObjOk X.prog X.w (upd H s.heap.objs.size (.tup [.ref q, kvs[i].2])) h'' s.heap.objs.size (.tup [.ref q, kvs[i].2]) :=
      ⟨by show 2 ≤ sizeLine; decide, [.ref q, en.val], .cons rfl (.cons rv .nil), ⟨_, hT2, rfl, _, rfl⟩⟩
    have I1 : Inv X pins σ (upd H s.heap.objs.size (.tup [.ref q, kvs[i].2])) { s with heap := h'' } :=
      I.turnedNew (t' := s.toks) (ch := [it]) (fun b ob hb e => (sb.2 b (fun z => hb (List.mem_singleton.mpr z))).trans (hk b ob (fun z => hb (List.mem_singleton.mpr z)) e)) hf (Nat.le_refl _) new
    refine ⟨.ref s.heap.objs.size, _, I1, rfl, ⟨_, q, kvs[i].1, kvs[i].2, List.getElem?_eq_getElem hi, rfl, I.hok.fresh (Nat.le_refl _), hq, rfl⟩, ⟨es'[i].key, es'[i].val, ?_⟩, fun b hb => ?_⟩
    · rw [← hsz]; exact he'
    · rw [List.mem_singleton.mp hb, upd_ne (Nat.ne_of_lt hlt)]
      exact (hf it (List.mem_singleton.mpr rfl)).1
  done := by
    intro X hP hw hK hc i pins s σ H E I hf st hg
    subst hP hw hK
    obtain ⟨hd, hi⟩ := hg
    obtain ⟨f0, f1, f2, f3, f4, f5⟩ := hf it (List.mem_singleton.mpr rfl)
    obtain ⟨hs, hgd, hx, es', ep', hdt, hsz, ent⟩ := frz_ents I hd
    obtain ⟨rfl, rfl⟩ := dict_ep hod hdt
    obtain ⟨ok, ov, he⟩ := st
    rw [← hsz] at he
    exact DT.endI (I.ok.hd hc) he ⟨o, hgd, hx, hdt⟩ (by rw [hsz]; exact hi) fun h' eb => ⟨rfl, I.turned (t' := s.toks) (fun b ob hb e => eb b ob hb e) f0 f1 f3 f4 f5⟩
  self := fun A i s Q E st h => let ⟨_, _, e⟩ := st; PySem.W.kcp_self e h
/-- the dict is locked by the walk and stays so -/
def iItemsT (td : TE) : TI := fun σ H R => td σ H fun x H1 => ∃ d kvs, x = .ref d ∧ H1 d = some (.dT kvs) ∧ ∀ o, R (ItiT d o kvs) (upd H1 d (.frz o (.dT kvs)))
theorem pi_itemsT {X : Cx} {e : Expr} {td : TE} {apos cpos : Pos} {elts : List Expr} {kk : Nat} {tpos : Pos} (he : PE X e td) (hbase : attributeBase e "items" X.env (eval e X.env) = eval e X.env := by rfl) (hline : (apos.endLine == cpos.line) = true := by rfl) :
    PI X (.Tuple elts kk tpos) (.Call (.Attribute e "items" apos) [] [] cpos) (iItemsT td) := by
  refine ⟨fun pins s σ H R I h => ?_⟩
  refine wpAny_Call_method (T := "dict") (id := "dict.items") hbase rfl hline F.plainAttrs_dict F.slot_dict_items F.type_dict_items (thn (he.run pins s σ H _ I h) fun u s1 ⟨x, H1, I0, rx, d, kvs, ex, hd0, q0⟩ => ?_)
  subst ex
  obtain rfl : u = Value.ref d := rx
  obtain ⟨o, I1⟩ := I0.lock hd0 True.intro
  have q := q0 o
  have hd : upd H1 d (.frz o (.dT kvs)) d = some (.frz o (.dT kvs)) := upd_same
  obtain ⟨hs, hgd, hx, es, ep, hdt, hsz, ent⟩ := frz_ents I1 hd
  refine ⟨⟨o, hgd, hx.1⟩, fun b eb => ?_, ?_⟩
  · cases eb
    exact ⟨o, hgd, hx.2.1⟩
  have I2 : Inv X pins σ (upd H1 d (.frz o (.dT kvs))) { s1 with heap := s1.heap.push { cls := .type "dict_items", data := .fields #[.ref d] } } := I1.kept (t' := s1.toks) fun b ob q => Heap.get?_push_of_some _ q
  have fin : wpAny (model X.prog X.w) X.A (pyIter (.ref s1.heap.objs.size)) (PIE X pins σ (.Tuple elts kk tpos) R) X.xe { s1 with heap := s1.heap.push { cls := .type "dict_items", data := .fields #[.ref d] } } := by
    refine DT.iterI (d := d) ⟨_, Heap.get?_push_size _ rfl, rfl, rfl⟩ (DT.Raw.push ⟨o, hgd, hx, hdt⟩ _) (pi_one (tk := s1.toks) I2 _ (turn_itemsT _ hdt) ⟨.none, .none, ?_⟩ q)
    rw [← hsz]
    exact Heap.get?_push_size _ rfl
  show wpAny _ _ (callWith cpos (.builtin "dict.items") [.ref d] [] []) _ X.xe s1
  exact method_meetsIn F.slot_dict_items F.entry_dict_items rfl (PySem.evalArgs_none ⟨rfl, ⟨o, hgd, hx.1⟩, F.args_dict_items_1 _, _, DT.meetsItems hs, ⟨⟨o, hgd, hx, hdt⟩, fin⟩⟩)
theorem walk_itemsT {d : Addr} {o : Obj} {kvs : List (List Key × V)} : Walk (ItiT d o kvs) kvs.length (fun H => H d = some (.frz o (.dT kvs)))
    (fun i H x H' => ∃ (T q : Addr) (k : List Key) (v : V), kvs[i]? = some (k, v) ∧ x = .ref T ∧ H T = none ∧ H q = some (.tup (k.map kV)) ∧ H' = upd H T (.tup [.ref q, v])) :=
  ⟨fun _ _ hi q => ⟨q, hi⟩, fun _ q => ⟨q, Nat.le_refl _⟩, fun _ _ _ _ _ _ y => y⟩
/-! ### min(d.values()) -/
end My
set_option Elab.async false
set_option linter.all false
set_option maxRecDepth 100000
set_option maxHeartbeats 1000000
/-! ### a range that a name holds, walked -/
namespace My
open PySem PySem.Spec PyProof.Rows L2
def iRngV (tl : TE) : TI := fun σ H R => tl σ H fun x H1 => ∃ (a : Addr) (lo hi : Int), x = .ref a ∧ H1 a = some (.rng lo hi) ∧ (-(2 ^ 62) ≤ lo ∧ lo < 2 ^ 62 ∧ -(2 ^ 62) ≤ hi ∧ hi < 2 ^ 62) ∧ R (Itr lo (hi - lo).toNat) H1
theorem pi_rngV {X : Cx} {tg l : Expr} {tl : TE} (hl : PE X l tl) : PI X tg l (iRngV tl) := by
  refine ⟨fun pins s σ H R I h => ?_⟩
  refine thn (hl.run pins s σ H _ I h) fun v s1 ⟨x, H1, I1, r1, a, lo, hi, ex, ha, ⟨b1, b2, b3, b4⟩, q⟩ => ?_
  subst ex
  obtain rfl : v = Value.ref a := r1
  obtain ⟨t1, t2, t3, ho⟩ := I1.hok a _ ha
  refine wpAny_pyIter_range ho (small_one b1 b2 b3 b4) ?_
  refine ⟨s1.heap.objs.size, [s1.heap.objs.size], _, _, H1, rfl, I1.kept (t' := s1.toks) fun b o e => Heap.get?_push_of_some _ e, turn_range _ lo (hi - lo).toNat, ?_, fun b hb => ?_, q⟩
  · have e1 : lo + ((0 : Nat) : Int) * 1 = lo := by simp
    have e2 : (((hi - lo).toNat : Nat) : Int) - ((0 : Nat) : Int) = Builtin.Range.rangeSize lo hi 1 := by rw [rangeSize_one]; split <;> omega
    show IsRangeIter _ _ (lo + ((0 : Nat) : Int) * 1) ((((hi - lo).toNat : Nat) : Int) - ((0 : Nat) : Int)) 1
    rw [e1, e2]
    exact Heap.get?_push_size _ rfl
  · obtain rfl : b = s1.heap.objs.size := by simpa using hb
    exact I1.fpOk (Nat.le_refl _) (I1.hok.fresh (Nat.le_refl _))
end My
set_option Elab.async false
set_option linter.all false
set_option maxRecDepth 100000
/-! the length of a dict with tuple keys, also while it is only read -/
namespace My
open PySem PySem.Spec PyProof.Rows L2
def rLenR : List V → Hp → VK → Prop := fun xs H Q => ∃ (p : Addr) (kvs : List (List Key × V)), xs = [.ref p] ∧ Rd H p (.dT kvs) ∧ Q (.int ((kvs.length : Nat) : Int)) H
theorem call_len_dTR {X : Cx} : CallR X (.builtin "len") rLenR := by
  intro pins s σ H xs us Q I r h
  obtain ⟨p, kvs, rfl, hp, q⟩ := h
  obtain ⟨u, rfl, rx⟩ := vals1 r
  obtain rfl : u = .ref p := rx
  obtain ⟨z, hd, ys, rel, dd⟩ := dt_rd I.hok hp
  have hl : kvs.length = ys.length := Paired.length rel
  refine call_len_dictH hd dd (by rw [← hl]; rw [sizeLine_eq] at z; omega) ?_
  rw [← hl]
  exact ⟨.int ((kvs.length : Nat) : Int), H, I.tok _, ⟨_, rfl⟩, q⟩
end My
set_option Elab.async false
set_option linter.all false
set_option maxRecDepth 100000
set_option maxHeartbeats 4000000
namespace My
open PySem PySem.Spec PyProof.Rows L2
def topS (i : Nat) : Stmt := PySem.Challenge.pw_dotquilts_k55_whole_symbols_are_one_spac.main.body.getD i (.Pass ⟨0, 0, 0, 0⟩)
abbrev s_is_number_to : Stmt := topS 6
theorem sc_is_number_to : FnScope ["thing", "least", "most"] ["thing", "least", "most"] (defScope s_is_number_to) := ⟨rfl, rfl, rfl, by decide +kernel, rfl, by decide +kernel, by decide +kernel⟩
abbrev s_is_word : Stmt := topS 19
theorem sc_is_word : FnScope ["bits", "thing"] ["bits", "thing"] (defScope s_is_word) := ⟨rfl, rfl, rfl, by decide +kernel, rfl, by decide +kernel, by decide +kernel⟩
abbrev s_is_row : Stmt := topS 8
theorem sc_is_row : FnScope ["thing"] ["thing"] (defScope s_is_row) := ⟨rfl, rfl, rfl, by decide +kernel, rfl, by decide +kernel, by decide +kernel⟩
abbrev s_are_plain_words : Stmt := topS 7
theorem sc_are_plain_words : FnScope ["bits", "things", "thing"] ["bits", "things"] (defScope s_are_plain_words) := ⟨rfl, rfl, rfl, by decide +kernel, rfl, by decide +kernel, by decide +kernel⟩
abbrev s_need_words : Stmt := topS 20
theorem sc_need_words : FnScope ["bits", "part", "words", "at", "word"] ["bits", "part", "words"] (defScope s_need_words) := ⟨rfl, rfl, rfl, by decide +kernel, rfl, by decide +kernel, by decide +kernel⟩
abbrev s_need_size : Stmt := topS 29
theorem sc_need_size : FnScope ["size"] ["size"] (defScope s_need_size) := ⟨rfl, rfl, rfl, by decide +kernel, rfl, by decide +kernel, by decide +kernel⟩
abbrev s_need_level : Stmt := topS 30
theorem sc_need_level : FnScope ["level"] ["level"] (defScope s_need_level) := ⟨rfl, rfl, rfl, by decide +kernel, rfl, by decide +kernel, by decide +kernel⟩
abbrev s_need_mask : Stmt := topS 51
theorem sc_need_mask : FnScope ["mask"] ["mask"] (defScope s_need_mask) := ⟨rfl, rfl, rfl, by decide +kernel, rfl, by decide +kernel, by decide +kernel⟩
abbrev s_block_sizes : Stmt := topS 34
theorem sc_block_sizes : FnScope ["size"] ["size"] (defScope s_block_sizes) := ⟨rfl, rfl, rfl, by decide +kernel, rfl, by decide +kernel, by decide +kernel⟩
abbrev s_word_count : Stmt := topS 33
theorem sc_word_count : FnScope ["size"] ["size"] (defScope s_word_count) := ⟨rfl, rfl, rfl, by decide +kernel, rfl, by decide +kernel, by decide +kernel⟩
abbrev s_word_bits : Stmt := topS 32
theorem sc_word_bits : FnScope ["size"] ["size"] (defScope s_word_bits) := ⟨rfl, rfl, rfl, by decide +kernel, rfl, by decide +kernel, by decide +kernel⟩
abbrev s_check_count : Stmt := topS 35
theorem sc_check_count : FnScope ["size", "level"] ["size", "level"] (defScope s_check_count) := ⟨rfl, rfl, rfl, by decide +kernel, rfl, by decide +kernel, by decide +kernel⟩
abbrev s_data_count : Stmt := topS 36
theorem sc_data_count : FnScope ["size", "level", "checks", "words"] ["size", "level"] (defScope s_data_count) := ⟨rfl, rfl, rfl, by decide +kernel, rfl, by decide +kernel, by decide +kernel⟩
abbrev s_block_places : Stmt := topS 59
theorem sc_block_places : FnScope ["size", "level", "blocks", "many", "checks", "own", "block", "longer", "found", "more", "first_check", "words"] ["size", "level"] (defScope s_block_places) := ⟨rfl, rfl, rfl, by decide +kernel, rfl, by decide +kernel, by decide +kernel⟩
abbrev s_dealt_words : Stmt := topS 60
theorem sc_dealt_words : FnScope ["size", "level", "blocks", "words", "places", "block", "index", "word"] ["size", "level", "blocks"] (defScope s_dealt_words) := ⟨rfl, rfl, rfl, by decide +kernel, rfl, by decide +kernel, by decide +kernel⟩
abbrev s_words_as_bits : Stmt := topS 3
theorem sc_words_as_bits : FnScope ["words", "many", "word", "bit"] ["words", "many"] (defScope s_words_as_bits) := ⟨rfl, rfl, rfl, by decide +kernel, rfl, by decide +kernel, by decide +kernel⟩
abbrev s_grid_of_words : Stmt := topS 58
theorem sc_grid_of_words : FnScope ["size", "words", "strip_shades", "shades", "places", "place"] ["size", "words", "strip_shades"] (defScope s_grid_of_words) := ⟨rfl, rfl, rfl, by decide +kernel, rfl, by decide +kernel, by decide +kernel⟩
abbrev s_word_of_format : Stmt := topS 52
theorem sc_word_of_format : FnScope ["level", "mask"] ["level", "mask"] (defScope s_word_of_format) := ⟨rfl, rfl, rfl, by decide +kernel, rfl, by decide +kernel, by decide +kernel⟩
abbrev s_as_bits : Stmt := topS 2
theorem sc_as_bits : FnScope ["number", "many", "place"] ["number", "many"] (defScope s_as_bits) := ⟨rfl, rfl, rfl, by decide +kernel, rfl, by decide +kernel, by decide +kernel⟩
abbrev s_strip_shades : Stmt := topS 54
theorem sc_strip_shades : FnScope ["level", "mask"] ["level", "mask"] (defScope s_strip_shades) := ⟨rfl, rfl, rfl, by decide +kernel, rfl, by decide +kernel, by decide +kernel⟩
abbrev s_masked_words : Stmt := topS 72
theorem sc_masked_words : FnScope ["size", "mask", "words", "turned", "word", "turn"] ["size", "mask", "words"] (defScope s_masked_words) := ⟨rfl, rfl, rfl, by decide +kernel, rfl, by decide +kernel, by decide +kernel⟩
abbrev s_drawn_grid : Stmt := topS 73
theorem sc_drawn_grid : FnScope ["size", "level", "mask", "words"] ["size", "level", "mask", "words"] (defScope s_drawn_grid) := ⟨rfl, rfl, rfl, by decide +kernel, rfl, by decide +kernel, by decide +kernel⟩
abbrev s_shares_of : Stmt := topS 42
theorem sc_shares_of : FnScope ["size", "level", "own", "shares"] ["size", "level", "own"] (defScope s_shares_of) := ⟨rfl, rfl, rfl, by decide +kernel, rfl, by decide +kernel, by decide +kernel⟩
abbrev s_own_counts : Stmt := topS 41
theorem sc_own_counts : FnScope ["size", "level", "checks", "words"] ["size", "level"] (defScope s_own_counts) := ⟨rfl, rfl, rfl, by decide +kernel, rfl, by decide +kernel, by decide +kernel⟩
abbrev s_checks_told : Stmt := topS 43
theorem sc_checks_told : FnScope ["size", "level", "words", "total", "share", "bit"] ["size", "level", "words"] (defScope s_checks_told) := ⟨rfl, rfl, rfl, by decide +kernel, rfl, by decide +kernel, by decide +kernel⟩
abbrev s_number_as_words : Stmt := topS 4
theorem sc_number_as_words : FnScope ["number", "many", "bits", "last", "place"] ["number", "many", "bits"] (defScope s_number_as_words) := ⟨rfl, rfl, rfl, by decide +kernel, rfl, by decide +kernel, by decide +kernel⟩
abbrev s_parted_data : Stmt := topS 44
theorem sc_parted_data : FnScope ["size", "level", "data", "found", "at", "own"] ["size", "level", "data"] (defScope s_parted_data) := ⟨rfl, rfl, rfl, by decide +kernel, rfl, by decide +kernel, by decide +kernel⟩
abbrev s_right_blocks : Stmt := topS 45
theorem sc_right_blocks : FnScope ["size", "level", "data", "checks", "bits", "words"] ["size", "level", "data"] (defScope s_right_blocks) := ⟨rfl, rfl, rfl, by decide +kernel, rfl, by decide +kernel, by decide +kernel⟩
abbrev s_need_data : Stmt := topS 75
theorem sc_need_data : FnScope ["size", "level", "data"] ["size", "level", "data"] (defScope s_need_data) := ⟨rfl, rfl, rfl, by decide +kernel, rfl, by decide +kernel, by decide +kernel⟩
abbrev s_words_of_data : Stmt := topS 76
theorem sc_words_of_data : FnScope ["size", "level", "data"] ["size", "level", "data"] (defScope s_words_of_data) := ⟨rfl, rfl, rfl, by decide +kernel, rfl, by decide +kernel, by decide +kernel⟩
abbrev s_symbol_of : Stmt := topS 77
theorem sc_symbol_of : FnScope ["size", "level", "mask", "data"] ["size", "level", "mask", "data"] (defScope s_symbol_of) := ⟨rfl, rfl, rfl, by decide +kernel, rfl, by decide +kernel, by decide +kernel⟩
abbrev s_by_sum : Stmt := topS 62
theorem sc_by_sum : FnScope ["row", "column"] ["row", "column"] (defScope s_by_sum) := ⟨rfl, rfl, rfl, by decide +kernel, rfl, by decide +kernel, by decide +kernel⟩
abbrev s_by_three : Stmt := topS 63
theorem sc_by_three : FnScope ["row", "column"] ["row", "column"] (defScope s_by_three) := ⟨rfl, rfl, rfl, by decide +kernel, rfl, by decide +kernel, by decide +kernel⟩
abbrev s_by_row : Stmt := topS 64
theorem sc_by_row : FnScope ["row", "_"] ["row", "_"] (defScope s_by_row) := ⟨rfl, rfl, rfl, by decide +kernel, rfl, by decide +kernel, by decide +kernel⟩
abbrev s_by_column : Stmt := topS 65
theorem sc_by_column : FnScope ["_", "column"] ["_", "column"] (defScope s_by_column) := ⟨rfl, rfl, rfl, by decide +kernel, rfl, by decide +kernel, by decide +kernel⟩
abbrev s_by_squares : Stmt := topS 66
theorem sc_by_squares : FnScope ["row", "column"] ["row", "column"] (defScope s_by_squares) := ⟨rfl, rfl, rfl, by decide +kernel, rfl, by decide +kernel, by decide +kernel⟩
abbrev s_by_product : Stmt := topS 67
theorem sc_by_product : FnScope ["row", "column"] ["row", "column"] (defScope s_by_product) := ⟨rfl, rfl, rfl, by decide +kernel, rfl, by decide +kernel, by decide +kernel⟩
abbrev s_by_five : Stmt := topS 68
theorem sc_by_five : FnScope ["row", "column"] ["row", "column"] (defScope s_by_five) := ⟨rfl, rfl, rfl, by decide +kernel, rfl, by decide +kernel, by decide +kernel⟩
abbrev s_by_seven : Stmt := topS 69
theorem sc_by_seven : FnScope ["row", "column"] ["row", "column"] (defScope s_by_seven) := ⟨rfl, rfl, rfl, by decide +kernel, rfl, by decide +kernel, by decide +kernel⟩
abbrev s_is_dot : Stmt := topS 9
theorem sc_is_dot : FnScope ["thing", "many"] ["thing", "many"] (defScope s_is_dot) := ⟨rfl, rfl, rfl, by decide +kernel, rfl, by decide +kernel, by decide +kernel⟩
abbrev s_turns : Stmt := topS 71
theorem sc_turns : FnScope ["mask", "dot", "rule"] ["mask", "dot"] (defScope s_turns) := ⟨rfl, rfl, rfl, by decide +kernel, rfl, by decide +kernel, by decide +kernel⟩
abbrev s_strip_dots : Stmt := topS 53
theorem sc_strip_dots : FnScope ["size", "many", "at"] ["size"] (defScope s_strip_dots) := ⟨rfl, rfl, rfl, by decide +kernel, rfl, by decide +kernel, by decide +kernel⟩
abbrev s_format_dots : Stmt := topS 55
theorem sc_format_dots : FnScope ["size", "level", "mask", "dot", "bit"] ["size", "level", "mask"] (defScope s_format_dots) := ⟨rfl, rfl, rfl, by decide +kernel, rfl, by decide +kernel, by decide +kernel⟩
abbrev s_side : Stmt := topS 31
theorem sc_side : FnScope ["size"] ["size"] (defScope s_side) := ⟨rfl, rfl, rfl, by decide +kernel, rfl, by decide +kernel, by decide +kernel⟩
abbrev s_border_value : Stmt := topS 37
theorem sc_border_value : FnScope ["last", "row", "column"] ["last", "row", "column"] (defScope s_border_value) := ⟨rfl, rfl, rfl, by decide +kernel, rfl, by decide +kernel, by decide +kernel⟩
abbrev s_border_dots : Stmt := topS 38
theorem sc_border_dots : FnScope ["last", "columns", "edges", "row", "column"] ["last"] (defScope s_border_dots) := ⟨rfl, rfl, rfl, by decide +kernel, rfl, by decide +kernel, by decide +kernel⟩
abbrev s_border : Stmt := topS 39
theorem sc_border : FnScope ["size", "last", "dot"] ["size"] (defScope s_border) := ⟨rfl, rfl, rfl, by decide +kernel, rfl, by decide +kernel, by decide +kernel⟩
abbrev s__law_draw : Stmt := topS 79
theorem sc__law_draw : FnScope ["_law_well", "_law_many", "_law_found", "_law_number_here"] ["_law_well", "_law_many"] (defScope s__law_draw) := ⟨rfl, rfl, rfl, by decide +kernel, rfl, by decide +kernel, by decide +kernel⟩
abbrev s__law_one : Stmt := topS 80
theorem sc__law_one : FnScope ["_law_well", "_law_some"] ["_law_well", "_law_some"] (defScope s__law_one) := ⟨rfl, rfl, rfl, by decide +kernel, rfl, by decide +kernel, by decide +kernel⟩
abbrev s__law_number : Stmt := topS 81
theorem sc__law_number : FnScope ["_law_grid", "_law_found", "_law_row_here", "_law_one_here"] ["_law_grid"] (defScope s__law_number) := ⟨rfl, rfl, rfl, by decide +kernel, rfl, by decide +kernel, by decide +kernel⟩
abbrev s__law_dots : Stmt := topS 82
theorem sc__law_dots : FnScope ["_law_size", "_law_found", "_law_row_here", "_law_column"] ["_law_size"] (defScope s__law_dots) := ⟨rfl, rfl, rfl, by decide +kernel, rfl, by decide +kernel, by decide +kernel⟩
abbrev s__law_row : Stmt := topS 83
theorem sc__law_row : FnScope ["_law_well", "_law_size", "_law_level", "_law_most", "_law_turn"] ["_law_well", "_law_size", "_law_level"] (defScope s__law_row) := ⟨rfl, rfl, rfl, by decide +kernel, rfl, by decide +kernel, by decide +kernel⟩
abbrev s__law_fixed_right : Stmt := topS 84
theorem sc__law_fixed_right : FnScope ["_law_size", "_law_level", "_law_mask", "_law_grids", "_law_fixed", "_law_row_here", "_law_column", "_law_its_own", "_law_grid"] ["_law_size", "_law_level", "_law_mask", "_law_grids"] (defScope s__law_fixed_right) := ⟨rfl, rfl, rfl, by decide +kernel, rfl, by decide +kernel, by decide +kernel⟩
abbrev s__law_right : Stmt := topS 85
theorem sc__law_right : FnScope ["_law_well", "_law_size", "_law_level", "_law_mask", "_law_one_here", "_law_other", "_law_both", "_law_grids", "_law_numbers", "_law_later", "_law_found", "_law_format_both", "_law_around", "_law_dot", "_law_changed", "_law_due", "_law_mine", "_law_its", "_law_some", "_law_grid"] ["_law_well"] (defScope s__law_right) := ⟨rfl, rfl, rfl, by decide +kernel, rfl, by decide +kernel, by decide +kernel⟩
abbrev s_law : Stmt := topS 86
theorem sc_law : FnScope ["_law_script", "_law_k", "_law_cell", "_law_well"] ["_law_script"] (defScope s_law) := ⟨rfl, rfl, rfl, by decide +kernel, rfl, by decide +kernel, by decide +kernel⟩
structure Txt (K : PySem.W.Frag) (mg : Str → Option Value) where
  f_is_number_to : Addr
  d_is_number_to : FuncData
  F_is_number_to : Fun K "is_number_to" "is_number_to" s_is_number_to f_is_number_to d_is_number_to
  g_is_number_to : mg "is_number_to" = some (.ref f_is_number_to)
  b_is_number_to : Binds K d_is_number_to ["thing", "least", "most"] []
  f_is_word : Addr
  d_is_word : FuncData
  F_is_word : Fun K "is_word" "is_word" s_is_word f_is_word d_is_word
  g_is_word : mg "is_word" = some (.ref f_is_word)
  b_is_word : Binds K d_is_word ["bits", "thing"] []
  f_is_row : Addr
  d_is_row : FuncData
  F_is_row : Fun K "is_row" "is_row" s_is_row f_is_row d_is_row
  g_is_row : mg "is_row" = some (.ref f_is_row)
  b_is_row : Binds K d_is_row ["thing"] []
  f_are_plain_words : Addr
  d_are_plain_words : FuncData
  F_are_plain_words : Fun K "are_plain_words" "are_plain_words" s_are_plain_words f_are_plain_words d_are_plain_words
  g_are_plain_words : mg "are_plain_words" = some (.ref f_are_plain_words)
  b_are_plain_words : Binds K d_are_plain_words ["bits", "things"] []
  f_need_words : Addr
  d_need_words : FuncData
  F_need_words : Fun K "need_words" "need_words" s_need_words f_need_words d_need_words
  g_need_words : mg "need_words" = some (.ref f_need_words)
  b_need_words : Binds K d_need_words ["bits", "part", "words"] []
  f_need_size : Addr
  d_need_size : FuncData
  F_need_size : Fun K "need_size" "need_size" s_need_size f_need_size d_need_size
  g_need_size : mg "need_size" = some (.ref f_need_size)
  b_need_size : Binds K d_need_size ["size"] []
  f_need_level : Addr
  d_need_level : FuncData
  F_need_level : Fun K "need_level" "need_level" s_need_level f_need_level d_need_level
  g_need_level : mg "need_level" = some (.ref f_need_level)
  b_need_level : Binds K d_need_level ["level"] []
  f_need_mask : Addr
  d_need_mask : FuncData
  F_need_mask : Fun K "need_mask" "need_mask" s_need_mask f_need_mask d_need_mask
  g_need_mask : mg "need_mask" = some (.ref f_need_mask)
  b_need_mask : Binds K d_need_mask ["mask"] []
  f_block_sizes : Addr
  d_block_sizes : FuncData
  F_block_sizes : Fun K "block_sizes" "block_sizes" s_block_sizes f_block_sizes d_block_sizes
  g_block_sizes : mg "block_sizes" = some (.ref f_block_sizes)
  b_block_sizes : Binds K d_block_sizes ["size"] []
  f_word_count : Addr
  d_word_count : FuncData
  F_word_count : Fun K "word_count" "word_count" s_word_count f_word_count d_word_count
  g_word_count : mg "word_count" = some (.ref f_word_count)
  b_word_count : Binds K d_word_count ["size"] []
  f_word_bits : Addr
  d_word_bits : FuncData
  F_word_bits : Fun K "word_bits" "word_bits" s_word_bits f_word_bits d_word_bits
  g_word_bits : mg "word_bits" = some (.ref f_word_bits)
  b_word_bits : Binds K d_word_bits ["size"] []
  f_check_count : Addr
  d_check_count : FuncData
  F_check_count : Fun K "check_count" "check_count" s_check_count f_check_count d_check_count
  g_check_count : mg "check_count" = some (.ref f_check_count)
  b_check_count : Binds K d_check_count ["size", "level"] []
  f_data_count : Addr
  d_data_count : FuncData
  F_data_count : Fun K "data_count" "data_count" s_data_count f_data_count d_data_count
  g_data_count : mg "data_count" = some (.ref f_data_count)
  b_data_count : Binds K d_data_count ["size", "level"] []
  f_block_places : Addr
  d_block_places : FuncData
  F_block_places : Fun K "block_places" "block_places" s_block_places f_block_places d_block_places
  g_block_places : mg "block_places" = some (.ref f_block_places)
  b_block_places : Binds K d_block_places ["size", "level"] []
  f_dealt_words : Addr
  d_dealt_words : FuncData
  F_dealt_words : Fun K "dealt_words" "dealt_words" s_dealt_words f_dealt_words d_dealt_words
  g_dealt_words : mg "dealt_words" = some (.ref f_dealt_words)
  b_dealt_words : Binds K d_dealt_words ["size", "level", "blocks"] []
  f_words_as_bits : Addr
  d_words_as_bits : FuncData
  F_words_as_bits : Fun K "words_as_bits" "words_as_bits" s_words_as_bits f_words_as_bits d_words_as_bits
  g_words_as_bits : mg "words_as_bits" = some (.ref f_words_as_bits)
  b_words_as_bits : Binds K d_words_as_bits ["words", "many"] []
  f_grid_of_words : Addr
  d_grid_of_words : FuncData
  F_grid_of_words : Fun K "grid_of_words" "grid_of_words" s_grid_of_words f_grid_of_words d_grid_of_words
  g_grid_of_words : mg "grid_of_words" = some (.ref f_grid_of_words)
  b_grid_of_words : Binds K d_grid_of_words ["size", "words", "strip_shades"] []
  f_word_of_format : Addr
  d_word_of_format : FuncData
  F_word_of_format : Fun K "word_of_format" "word_of_format" s_word_of_format f_word_of_format d_word_of_format
  g_word_of_format : mg "word_of_format" = some (.ref f_word_of_format)
  b_word_of_format : Binds K d_word_of_format ["level", "mask"] []
  f_as_bits : Addr
  d_as_bits : FuncData
  F_as_bits : Fun K "as_bits" "as_bits" s_as_bits f_as_bits d_as_bits
  g_as_bits : mg "as_bits" = some (.ref f_as_bits)
  b_as_bits : Binds K d_as_bits ["number", "many"] []
  f_strip_shades : Addr
  d_strip_shades : FuncData
  F_strip_shades : Fun K "strip_shades" "strip_shades" s_strip_shades f_strip_shades d_strip_shades
  g_strip_shades : mg "strip_shades" = some (.ref f_strip_shades)
  b_strip_shades : Binds K d_strip_shades ["level", "mask"] []
  f_masked_words : Addr
  d_masked_words : FuncData
  F_masked_words : Fun K "masked_words" "masked_words" s_masked_words f_masked_words d_masked_words
  g_masked_words : mg "masked_words" = some (.ref f_masked_words)
  b_masked_words : Binds K d_masked_words ["size", "mask", "words"] []
  f_drawn_grid : Addr
  d_drawn_grid : FuncData
  F_drawn_grid : Fun K "drawn_grid" "drawn_grid" s_drawn_grid f_drawn_grid d_drawn_grid
  g_drawn_grid : mg "drawn_grid" = some (.ref f_drawn_grid)
  b_drawn_grid : Binds K d_drawn_grid ["size", "level", "mask", "words"] []
  f_shares_of : Addr
  d_shares_of : FuncData
  F_shares_of : Fun K "shares_of" "shares_of" s_shares_of f_shares_of d_shares_of
  g_shares_of : mg "shares_of" = some (.ref f_shares_of)
  b_shares_of : Binds K d_shares_of ["size", "level", "own"] []
  f_own_counts : Addr
  d_own_counts : FuncData
  F_own_counts : Fun K "own_counts" "own_counts" s_own_counts f_own_counts d_own_counts
  g_own_counts : mg "own_counts" = some (.ref f_own_counts)
  b_own_counts : Binds K d_own_counts ["size", "level"] []
  f_checks_told : Addr
  d_checks_told : FuncData
  F_checks_told : Fun K "checks_told" "checks_told" s_checks_told f_checks_told d_checks_told
  g_checks_told : mg "checks_told" = some (.ref f_checks_told)
  b_checks_told : Binds K d_checks_told ["size", "level", "words"] []
  f_number_as_words : Addr
  d_number_as_words : FuncData
  F_number_as_words : Fun K "number_as_words" "number_as_words" s_number_as_words f_number_as_words d_number_as_words
  g_number_as_words : mg "number_as_words" = some (.ref f_number_as_words)
  b_number_as_words : Binds K d_number_as_words ["number", "many", "bits"] []
  f_parted_data : Addr
  d_parted_data : FuncData
  F_parted_data : Fun K "parted_data" "parted_data" s_parted_data f_parted_data d_parted_data
  g_parted_data : mg "parted_data" = some (.ref f_parted_data)
  b_parted_data : Binds K d_parted_data ["size", "level", "data"] []
  f_right_blocks : Addr
  d_right_blocks : FuncData
  F_right_blocks : Fun K "right_blocks" "right_blocks" s_right_blocks f_right_blocks d_right_blocks
  g_right_blocks : mg "right_blocks" = some (.ref f_right_blocks)
  b_right_blocks : Binds K d_right_blocks ["size", "level", "data"] []
  f_need_data : Addr
  d_need_data : FuncData
  F_need_data : Fun K "need_data" "need_data" s_need_data f_need_data d_need_data
  g_need_data : mg "need_data" = some (.ref f_need_data)
  b_need_data : Binds K d_need_data ["size", "level", "data"] []
  f_words_of_data : Addr
  d_words_of_data : FuncData
  F_words_of_data : Fun K "words_of_data" "words_of_data" s_words_of_data f_words_of_data d_words_of_data
  g_words_of_data : mg "words_of_data" = some (.ref f_words_of_data)
  b_words_of_data : Binds K d_words_of_data ["size", "level", "data"] []
  f_symbol_of : Addr
  d_symbol_of : FuncData
  F_symbol_of : Fun K "symbol_of" "symbol_of" s_symbol_of f_symbol_of d_symbol_of
  g_symbol_of : mg "symbol_of" = some (.ref f_symbol_of)
  b_symbol_of : Binds K d_symbol_of ["size", "level", "mask", "data"] []
  f_by_sum : Addr
  d_by_sum : FuncData
  F_by_sum : Fun K "by_sum" "by_sum" s_by_sum f_by_sum d_by_sum
  g_by_sum : mg "by_sum" = some (.ref f_by_sum)
  b_by_sum : Binds K d_by_sum ["row", "column"] []
  f_by_three : Addr
  d_by_three : FuncData
  F_by_three : Fun K "by_three" "by_three" s_by_three f_by_three d_by_three
  g_by_three : mg "by_three" = some (.ref f_by_three)
  b_by_three : Binds K d_by_three ["row", "column"] []
  f_by_row : Addr
  d_by_row : FuncData
  F_by_row : Fun K "by_row" "by_row" s_by_row f_by_row d_by_row
  g_by_row : mg "by_row" = some (.ref f_by_row)
  b_by_row : Binds K d_by_row ["row", "_"] []
  f_by_column : Addr
  d_by_column : FuncData
  F_by_column : Fun K "by_column" "by_column" s_by_column f_by_column d_by_column
  g_by_column : mg "by_column" = some (.ref f_by_column)
  b_by_column : Binds K d_by_column ["_", "column"] []
  f_by_squares : Addr
  d_by_squares : FuncData
  F_by_squares : Fun K "by_squares" "by_squares" s_by_squares f_by_squares d_by_squares
  g_by_squares : mg "by_squares" = some (.ref f_by_squares)
  b_by_squares : Binds K d_by_squares ["row", "column"] []
  f_by_product : Addr
  d_by_product : FuncData
  F_by_product : Fun K "by_product" "by_product" s_by_product f_by_product d_by_product
  g_by_product : mg "by_product" = some (.ref f_by_product)
  b_by_product : Binds K d_by_product ["row", "column"] []
  f_by_five : Addr
  d_by_five : FuncData
  F_by_five : Fun K "by_five" "by_five" s_by_five f_by_five d_by_five
  g_by_five : mg "by_five" = some (.ref f_by_five)
  b_by_five : Binds K d_by_five ["row", "column"] []
  f_by_seven : Addr
  d_by_seven : FuncData
  F_by_seven : Fun K "by_seven" "by_seven" s_by_seven f_by_seven d_by_seven
  g_by_seven : mg "by_seven" = some (.ref f_by_seven)
  b_by_seven : Binds K d_by_seven ["row", "column"] []
  f_is_dot : Addr
  d_is_dot : FuncData
  F_is_dot : Fun K "is_dot" "is_dot" s_is_dot f_is_dot d_is_dot
  g_is_dot : mg "is_dot" = some (.ref f_is_dot)
  b_is_dot : Binds K d_is_dot ["thing", "many"] []
  f_turns : Addr
  d_turns : FuncData
  F_turns : Fun K "turns" "turns" s_turns f_turns d_turns
  g_turns : mg "turns" = some (.ref f_turns)
  b_turns : Binds K d_turns ["mask", "dot"] []
  f_strip_dots : Addr
  d_strip_dots : FuncData
  F_strip_dots : Fun K "strip_dots" "strip_dots" s_strip_dots f_strip_dots d_strip_dots
  g_strip_dots : mg "strip_dots" = some (.ref f_strip_dots)
  b_strip_dots : Binds K d_strip_dots ["size"] []
  f_format_dots : Addr
  d_format_dots : FuncData
  F_format_dots : Fun K "format_dots" "format_dots" s_format_dots f_format_dots d_format_dots
  g_format_dots : mg "format_dots" = some (.ref f_format_dots)
  b_format_dots : Binds K d_format_dots ["size", "level", "mask"] []
  f_side : Addr
  d_side : FuncData
  F_side : Fun K "side" "side" s_side f_side d_side
  g_side : mg "side" = some (.ref f_side)
  b_side : Binds K d_side ["size"] []
  f_border_value : Addr
  d_border_value : FuncData
  F_border_value : Fun K "border_value" "border_value" s_border_value f_border_value d_border_value
  g_border_value : mg "border_value" = some (.ref f_border_value)
  b_border_value : Binds K d_border_value ["last", "row", "column"] []
  f_border_dots : Addr
  d_border_dots : FuncData
  F_border_dots : Fun K "border_dots" "border_dots" s_border_dots f_border_dots d_border_dots
  g_border_dots : mg "border_dots" = some (.ref f_border_dots)
  b_border_dots : Binds K d_border_dots ["last"] []
  f_border : Addr
  d_border : FuncData
  F_border : Fun K "border" "border" s_border f_border d_border
  g_border : mg "border" = some (.ref f_border)
  b_border : Binds K d_border ["size"] []
  f__law_draw : Addr
  d__law_draw : FuncData
  F__law_draw : Fun K "_law_draw" "_law_draw" s__law_draw f__law_draw d__law_draw
  g__law_draw : mg "_law_draw" = some (.ref f__law_draw)
  b__law_draw : Binds K d__law_draw ["_law_well", "_law_many"] []
  f__law_one : Addr
  d__law_one : FuncData
  F__law_one : Fun K "_law_one" "_law_one" s__law_one f__law_one d__law_one
  g__law_one : mg "_law_one" = some (.ref f__law_one)
  b__law_one : Binds K d__law_one ["_law_well", "_law_some"] []
  f__law_number : Addr
  d__law_number : FuncData
  F__law_number : Fun K "_law_number" "_law_number" s__law_number f__law_number d__law_number
  g__law_number : mg "_law_number" = some (.ref f__law_number)
  b__law_number : Binds K d__law_number ["_law_grid"] []
  f__law_dots : Addr
  d__law_dots : FuncData
  F__law_dots : Fun K "_law_dots" "_law_dots" s__law_dots f__law_dots d__law_dots
  g__law_dots : mg "_law_dots" = some (.ref f__law_dots)
  b__law_dots : Binds K d__law_dots ["_law_size"] []
  f__law_row : Addr
  d__law_row : FuncData
  F__law_row : Fun K "_law_row" "_law_row" s__law_row f__law_row d__law_row
  g__law_row : mg "_law_row" = some (.ref f__law_row)
  b__law_row : Binds K d__law_row ["_law_well", "_law_size", "_law_level"] []
  f__law_fixed_right : Addr
  d__law_fixed_right : FuncData
  F__law_fixed_right : Fun K "_law_fixed_right" "_law_fixed_right" s__law_fixed_right f__law_fixed_right d__law_fixed_right
  g__law_fixed_right : mg "_law_fixed_right" = some (.ref f__law_fixed_right)
  b__law_fixed_right : Binds K d__law_fixed_right ["_law_size", "_law_level", "_law_mask", "_law_grids"] []
  f__law_right : Addr
  d__law_right : FuncData
  F__law_right : Fun K "_law_right" "_law_right" s__law_right f__law_right d__law_right
  g__law_right : mg "_law_right" = some (.ref f__law_right)
  b__law_right : Binds K d__law_right ["_law_well"] []
  f_law : Addr
  d_law : FuncData
  F_law : Fun K "law" "law" s_law f_law d_law
  g_law : mg "law" = some (.ref f_law)
  b_law : Binds K d_law ["_law_script"] []
  n_any : mg "any" = none
  n_bool : mg "bool" = none
  n_divmod : mg "divmod" = none
  n_enumerate : mg "enumerate" = none
  n_int : mg "int" = none
  n_isinstance : mg "isinstance" = none
  n_len : mg "len" = none
  n_list : mg "list" = none
  n_min : mg "min" = none
  n_range : mg "range" = none
  n_sorted : mg "sorted" = none
  n_sum : mg "sum" = none
  n_tuple : mg "tuple" = none
  n_type : mg "type" = none
  n_zip : mg "zip" = none
  c_BLOCKS0 : Addr
  t_BLOCKS0 : tupB K c_BLOCKS0 [4] = true
  c_BLOCKS1 : Addr
  t_BLOCKS1 : tupB K c_BLOCKS1 [10, 10] = true
  c_BLOCKS2 : Addr
  t_BLOCKS2 : tupB K c_BLOCKS2 [22] = true
  c_BLOCKS3 : Addr
  t_BLOCKS3 : tupB K c_BLOCKS3 [19, 19] = true
  c_BLOCKS4 : Addr
  t_BLOCKS4 : tupB K c_BLOCKS4 [20, 19, 19] = true
  a_BLOCKS : Addr
  g_BLOCKS : mg "BLOCKS" = some (.ref a_BLOCKS)
  l_BLOCKS : KTupR K a_BLOCKS [c_BLOCKS0, c_BLOCKS1, c_BLOCKS2, c_BLOCKS3, c_BLOCKS4]
  c_CHECKS0 : Addr
  t_CHECKS0 : tupB K c_CHECKS0 [1, 2, 3, 3] = true
  c_CHECKS1 : Addr
  t_CHECKS1 : tupB K c_CHECKS1 [2, 4, 6, 8] = true
  c_CHECKS2 : Addr
  t_CHECKS2 : tupB K c_CHECKS2 [4, 8, 10, 12] = true
  c_CHECKS3 : Addr
  t_CHECKS3 : tupB K c_CHECKS3 [4, 8, 10, 12] = true
  c_CHECKS4 : Addr
  t_CHECKS4 : tupB K c_CHECKS4 [4, 8, 10, 12] = true
  a_CHECKS : Addr
  g_CHECKS : mg "CHECKS" = some (.ref a_CHECKS)
  l_CHECKS : KTupR K a_CHECKS [c_CHECKS0, c_CHECKS1, c_CHECKS2, c_CHECKS3, c_CHECKS4]
  a_FORMAT_WORDS : Addr
  g_FORMAT_WORDS : mg "FORMAT_WORDS" = some (.ref a_FORMAT_WORDS)
  l_FORMAT_WORDS : tupB K a_FORMAT_WORDS [709, 752, 666, 687, 590, 635, 529, 548, 979, 998, 908, 953, 856, 877, 775, 818, 220, 233, 131, 182, 87, 98, 8, 61, 458, 511, 405, 416, 321, 372, 286, 299] = true
  g_LEVELS : ∃ t, mg "LEVELS" = some (.int 4 t)
  g_MASKS : ∃ t, mg "MASKS" = some (.int 8 t)
  a_MASK_WORDS : Addr
  g_MASK_WORDS : mg "MASK_WORDS" = some (.ref a_MASK_WORDS)
  l_MASK_WORDS : tup3B K a_MASK_WORDS [[[9, 9, 9, 9], [9, 2, 5, 8], [0, 12, 0, 12], [5, 5, 6, 11], [9, 6, 9, 10], [14, 11, 11, 5], [7, 6, 8, 9], [0, 7, 14, 14]], [[9, 9, 9, 9, 10, 6, 6, 6, 6, 9, 9, 9, 9, 10, 6, 6, 6, 6, 5, 5], [9, 2, 4, 9, 2, 1, 8, 6, 1, 2, 4, 9, 2, 4, 6, 1, 8, 6, 4, 9], [12, 3, 0, 12, 0, 3, 0, 12, 3, 12, 3, 0, 12, 0, 3, 0, 12, 3, 2, 4], [5, 5, 5, 5, 6, 10, 10, 10, 10, 5, 5, 5, 5, 6, 10, 10, 10, 10, 0, 0], [9, 6, 9, 6, 9, 6, 9, 6, 9, 9, 6, 9, 6, 9, 6, 9, 6, 9, 3, 3], [7, 5, 13, 7, 4, 12, 3, 0, 12, 11, 10, 14, 11, 9, 13, 7, 5, 13, 9, 2], [11, 0, 14, 12, 1, 4, 0, 5, 0, 13, 10, 7, 6, 8, 2, 2, 0, 8, 6, 3], [0, 1, 15, 8, 1, 0, 2, 15, 4, 15, 8, 0, 7, 12, 11, 13, 0, 2, 3, 8]], [[153, 153, 153, 150, 102, 102, 102, 153, 153, 153, 166, 102, 102, 105, 153, 153, 154, 102, 102, 102, 170, 166], [146, 73, 36, 145, 134, 24, 97, 36, 146, 73, 33, 134, 24, 100, 146, 73, 36, 97, 134, 24, 146, 82], [48, 195, 12, 60, 48, 195, 12, 48, 195, 12, 3, 12, 48, 195, 12, 48, 192, 48, 195, 12, 73, 48], [85, 85, 85, 90, 170, 170, 170, 85, 85, 85, 106, 170, 170, 165, 85, 85, 86, 170, 170, 170, 0, 21], [150, 150, 150, 153, 105, 105, 105, 150, 150, 150, 150, 150, 150, 153, 105, 105, 105, 105, 105, 105, 153, 154], [12, 48, 195, 10, 235, 174, 186, 93, 117, 215, 76, 48, 195, 10, 235, 174, 185, 215, 93, 117, 36, 140], [130, 32, 136, 35, 196, 241, 60, 195, 176, 236, 20, 5, 1, 70, 157, 167, 104, 34, 8, 130, 99, 15], [128, 126, 1, 242, 244, 11, 208, 126, 1, 248, 16, 47, 64, 176, 31, 128, 124, 189, 2, 244, 225, 192]], [[153, 153, 153, 153, 150, 102, 102, 102, 102, 153, 153, 153, 153, 150, 102, 102, 102, 102, 153, 153, 153, 153, 166, 102, 102, 102, 105, 153, 153, 153, 154, 102, 102, 102, 102, 170, 166, 102], [146, 73, 36, 146, 72, 97, 134, 24, 97, 36, 146, 73, 36, 145, 134, 24, 97, 134, 73, 36, 146, 73, 33, 134, 24, 97, 137, 36, 146, 73, 36, 97, 134, 24, 97, 73, 36, 146], [12, 48, 195, 12, 60, 48, 195, 12, 48, 12, 48, 195, 12, 60, 48, 195, 12, 48, 12, 48, 195, 12, 3, 12, 48, 195, 0, 195, 12, 48, 192, 48, 195, 12, 48, 36, 140, 48], [85, 85, 85, 85, 90, 170, 170, 170, 170, 85, 85, 85, 85, 90, 170, 170, 170, 170, 85, 85, 85, 85, 106, 170, 170, 170, 165, 85, 85, 85, 86, 170, 170, 170, 170, 0, 21, 85], [150, 150, 150, 150, 153, 105, 105, 105, 105, 150, 150, 150, 150, 153, 105, 105, 105, 105, 150, 150, 150, 150, 150, 150, 150, 150, 153, 105, 105, 105, 105, 105, 105, 105, 105, 153, 154, 90], [235, 174, 186, 235, 165, 215, 93, 117, 215, 195, 12, 48, 195, 10, 235, 174, 186, 235, 215, 93, 117, 215, 76, 48, 195, 12, 62, 186, 235, 174, 185, 215, 93, 117, 215, 146, 67, 12], [80, 20, 5, 1, 70, 157, 167, 105, 218, 8, 130, 32, 136, 35, 196, 241, 60, 79, 14, 195, 176, 236, 20, 5, 1, 64, 90, 118, 157, 167, 104, 34, 8, 130, 32, 198, 60, 79], [224, 31, 128, 126, 4, 11, 208, 47, 64, 31, 128, 126, 1, 242, 244, 11, 208, 47, 128, 126, 1, 248, 16, 47, 64, 189, 7, 224, 31, 128, 124, 189, 2, 244, 11, 14, 31, 128]], [[153, 153, 153, 153, 153, 150, 102, 102, 102, 102, 102, 153, 153, 153, 153, 153, 150, 102, 102, 102, 102, 102, 153, 153, 153, 153, 153, 150, 102, 102, 102, 102, 102, 153, 153, 153, 153, 153, 166, 102, 102, 102, 102, 105, 153, 153, 153, 153, 154, 102, 102, 102, 102, 102, 170, 166, 102, 102], [146, 73, 36, 146, 73, 38, 24, 97, 134, 24, 97, 36, 146, 73, 36, 146, 72, 97, 134, 24, 97, 134, 73, 36, 146, 73, 36, 145, 134, 24, 97, 134, 24, 146, 73, 36, 146, 73, 33, 134, 24, 97, 134, 18, 73, 36, 146, 73, 36, 97, 134, 24, 97, 134, 36, 137, 36, 146], [195, 12, 48, 195, 12, 60, 48, 195, 12, 48, 195, 195, 12, 48, 195, 12, 60, 48, 195, 12, 48, 195, 195, 12, 48, 195, 12, 60, 48, 195, 12, 48, 195, 195, 12, 48, 195, 12, 3, 12, 48, 195, 12, 60, 48, 195, 12, 48, 192, 48, 195, 12, 48, 195, 146, 67, 12, 48], [85, 85, 85, 85, 85, 90, 170, 170, 170, 170, 170, 85, 85, 85, 85, 85, 90, 170, 170, 170, 170, 170, 85, 85, 85, 85, 85, 90, 170, 170, 170, 170, 170, 85, 85, 85, 85, 85, 106, 170, 170, 170, 170, 165, 85, 85, 85, 85, 86, 170, 170, 170, 170, 170, 0, 21, 85, 85], [150, 150, 150, 150, 150, 153, 105, 105, 105, 105, 105, 150, 150, 150, 150, 150, 153, 105, 105, 105, 105, 105, 150, 150, 150, 150, 150, 153, 105, 105, 105, 105, 105, 150, 150, 150, 150, 150, 150, 150, 150, 150, 150, 153, 105, 105, 105, 105, 105, 105, 105, 105, 105, 105, 153, 154, 90, 90], [117, 215, 93, 117, 215, 80, 195, 12, 48, 195, 12, 186, 235, 174, 186, 235, 165, 215, 93, 117, 215, 93, 48, 195, 12, 48, 195, 10, 235, 174, 186, 235, 174, 117, 215, 93, 117, 215, 76, 48, 195, 12, 48, 203, 174, 186, 235, 174, 185, 215, 93, 117, 215, 93, 73, 48, 195, 12], [196, 241, 60, 79, 19, 204, 59, 14, 195, 176, 236, 64, 80, 20, 5, 1, 70, 157, 167, 105, 218, 118, 34, 8, 130, 32, 136, 35, 196, 241, 60, 79, 19, 59, 14, 195, 176, 236, 20, 5, 1, 64, 80, 25, 218, 118, 157, 167, 104, 34, 8, 130, 32, 136, 140, 113, 60, 79], [248, 7, 224, 31, 128, 123, 208, 47, 64, 189, 2, 7, 224, 31, 128, 126, 4, 11, 208, 47, 64, 189, 224, 31, 128, 126, 1, 242, 244, 11, 208, 47, 64, 31, 128, 126, 1, 248, 16, 47, 64, 189, 2, 248, 7, 224, 31, 128, 124, 189, 2, 244, 11, 208, 112, 224, 31, 128]]] = true
  a_PLACES : Addr
  g_PLACES : mg "PLACES" = some (.ref a_PLACES)
  l_PLACES : tup3B K a_PLACES [[[37, 36, 37, 36, 37, 36, 37, 36], [37, 16, 17, 18, 19, 20, 21, 36], [37, 22, 23, 24, 25, 9, 8, 37], [37, 29, 33, 11, 10, 7, 6, 37], [37, 28, 32, 13, 12, 5, 4, 36], [37, 27, 31, 35, 14, 3, 2, 36], [37, 26, 30, 34, 15, 1, 0, 37], [37, 37, 37, 37, 37, 37, 37, 37]], [[101, 100, 101, 100, 101, 100, 101, 100, 101, 100, 101, 100], [101, 80, 81, 82, 83, 84, 85, 86, 87, 88, 89, 100], [101, 98, 79, 55, 54, 53, 52, 19, 18, 17, 16, 101], [101, 97, 78, 57, 56, 51, 50, 21, 20, 15, 14, 101], [101, 96, 77, 59, 58, 49, 48, 23, 22, 13, 12, 100], [101, 95, 76, 61, 60, 47, 46, 25, 24, 11, 10, 100], [101, 94, 75, 63, 62, 45, 44, 27, 26, 9, 8, 101], [101, 93, 74, 65, 64, 43, 42, 29, 28, 7, 6, 101], [101, 92, 73, 67, 66, 41, 40, 31, 30, 5, 4, 100], [101, 91, 72, 69, 68, 39, 38, 33, 32, 3, 2, 100], [101, 90, 99, 71, 70, 37, 36, 35, 34, 1, 0, 101], [101, 101, 101, 101, 101, 101, 101, 101, 101, 101, 101, 101]], [[197, 196, 197, 196, 197, 196, 197, 196, 197, 196, 197, 196, 197, 196, 197, 196], [197, 176, 177, 178, 179, 180, 181, 182, 183, 184, 185, 29, 28, 27, 26, 196], [197, 175, 174, 135, 134, 133, 132, 83, 82, 81, 80, 31, 30, 25, 24, 197], [197, 173, 172, 137, 136, 131, 130, 85, 84, 79, 78, 33, 32, 23, 22, 197], [197, 171, 170, 139, 138, 129, 128, 87, 86, 77, 76, 35, 34, 21, 20, 196], [197, 195, 169, 141, 140, 127, 126, 89, 88, 75, 74, 37, 36, 19, 18, 196], [197, 194, 168, 143, 142, 125, 124, 91, 90, 73, 72, 39, 38, 17, 16, 197], [197, 193, 167, 145, 144, 123, 122, 93, 92, 71, 70, 41, 40, 15, 14, 197], [197, 192, 166, 147, 146, 121, 120, 95, 94, 69, 68, 43, 42, 13, 12, 196], [197, 191, 165, 149, 148, 119, 118, 97, 96, 67, 66, 45, 44, 11, 10, 196], [197, 190, 164, 151, 150, 117, 116, 99, 98, 65, 64, 47, 46, 9, 8, 197], [197, 189, 163, 153, 152, 115, 114, 101, 100, 63, 62, 49, 48, 7, 6, 197], [197, 188, 162, 155, 154, 113, 112, 103, 102, 61, 60, 51, 50, 5, 4, 196], [197, 187, 161, 157, 156, 111, 110, 105, 104, 59, 58, 53, 52, 3, 2, 196], [197, 186, 160, 159, 158, 109, 108, 107, 106, 57, 56, 55, 54, 1, 0, 197], [197, 197, 197, 197, 197, 197, 197, 197, 197, 197, 197, 197, 197, 197, 197, 197]], [[325, 324, 325, 324, 325, 324, 325, 324, 325, 324, 325, 324, 325, 324, 325, 324, 325, 324, 325, 324], [325, 304, 305, 306, 307, 308, 309, 310, 311, 312, 313, 109, 108, 107, 106, 37, 36, 35, 34, 324], [325, 303, 302, 247, 246, 245, 244, 179, 178, 177, 176, 111, 110, 105, 104, 39, 38, 33, 32, 325], [325, 301, 300, 249, 248, 243, 242, 181, 180, 175, 174, 113, 112, 103, 102, 41, 40, 31, 30, 325], [325, 299, 298, 251, 250, 241, 240, 183, 182, 173, 172, 115, 114, 101, 100, 43, 42, 29, 28, 324], [325, 297, 296, 253, 252, 239, 238, 185, 184, 171, 170, 117, 116, 99, 98, 45, 44, 27, 26, 324], [325, 295, 294, 255, 254, 237, 236, 187, 186, 169, 168, 119, 118, 97, 96, 47, 46, 25, 24, 325], [325, 293, 292, 257, 256, 235, 234, 189, 188, 167, 166, 121, 120, 95, 94, 49, 48, 23, 22, 325], [325, 291, 290, 259, 258, 233, 232, 191, 190, 165, 164, 123, 122, 93, 92, 51, 50, 21, 20, 324], [325, 323, 289, 261, 260, 231, 230, 193, 192, 163, 162, 125, 124, 91, 90, 53, 52, 19, 18, 324], [325, 322, 288, 263, 262, 229, 228, 195, 194, 161, 160, 127, 126, 89, 88, 55, 54, 17, 16, 325], [325, 321, 287, 265, 264, 227, 226, 197, 196, 159, 158, 129, 128, 87, 86, 57, 56, 15, 14, 325], [325, 320, 286, 267, 266, 225, 224, 199, 198, 157, 156, 131, 130, 85, 84, 59, 58, 13, 12, 324], [325, 319, 285, 269, 268, 223, 222, 201, 200, 155, 154, 133, 132, 83, 82, 61, 60, 11, 10, 324], [325, 318, 284, 271, 270, 221, 220, 203, 202, 153, 152, 135, 134, 81, 80, 63, 62, 9, 8, 325], [325, 317, 283, 273, 272, 219, 218, 205, 204, 151, 150, 137, 136, 79, 78, 65, 64, 7, 6, 325], [325, 316, 282, 275, 274, 217, 216, 207, 206, 149, 148, 139, 138, 77, 76, 67, 66, 5, 4, 324], [325, 315, 281, 277, 276, 215, 214, 209, 208, 147, 146, 141, 140, 75, 74, 69, 68, 3, 2, 324], [325, 314, 280, 279, 278, 213, 212, 211, 210, 145, 144, 143, 142, 73, 72, 71, 70, 1, 0, 325], [325, 325, 325, 325, 325, 325, 325, 325, 325, 325, 325, 325, 325, 325, 325, 325, 325, 325, 325, 325]], [[485, 484, 485, 484, 485, 484, 485, 484, 485, 484, 485, 484, 485, 484, 485, 484, 485, 484, 485, 484, 485, 484, 485, 484], [485, 464, 465, 466, 467, 468, 469, 470, 471, 472, 473, 221, 220, 219, 218, 133, 132, 131, 130, 45, 44, 43, 42, 484], [485, 463, 462, 391, 390, 389, 388, 307, 306, 305, 304, 223, 222, 217, 216, 135, 134, 129, 128, 47, 46, 41, 40, 485], [485, 461, 460, 393, 392, 387, 386, 309, 308, 303, 302, 225, 224, 215, 214, 137, 136, 127, 126, 49, 48, 39, 38, 485], [485, 459, 458, 395, 394, 385, 384, 311, 310, 301, 300, 227, 226, 213, 212, 139, 138, 125, 124, 51, 50, 37, 36, 484], [485, 457, 456, 397, 396, 383, 382, 313, 312, 299, 298, 229, 228, 211, 210, 141, 140, 123, 122, 53, 52, 35, 34, 484], [485, 455, 454, 399, 398, 381, 380, 315, 314, 297, 296, 231, 230, 209, 208, 143, 142, 121, 120, 55, 54, 33, 32, 485], [485, 453, 452, 401, 400, 379, 378, 317, 316, 295, 294, 233, 232, 207, 206, 145, 144, 119, 118, 57, 56, 31, 30, 485], [485, 451, 450, 403, 402, 377, 376, 319, 318, 293, 292, 235, 234, 205, 204, 147, 146, 117, 116, 59, 58, 29, 28, 484], [485, 449, 448, 405, 404, 375, 374, 321, 320, 291, 290, 237, 236, 203, 202, 149, 148, 115, 114, 61, 60, 27, 26, 484], [485, 447, 446, 407, 406, 373, 372, 323, 322, 289, 288, 239, 238, 201, 200, 151, 150, 113, 112, 63, 62, 25, 24, 485], [485, 445, 444, 409, 408, 371, 370, 325, 324, 287, 286, 241, 240, 199, 198, 153, 152, 111, 110, 65, 64, 23, 22, 485], [485, 443, 442, 411, 410, 369, 368, 327, 326, 285, 284, 243, 242, 197, 196, 155, 154, 109, 108, 67, 66, 21, 20, 484], [485, 483, 441, 413, 412, 367, 366, 329, 328, 283, 282, 245, 244, 195, 194, 157, 156, 107, 106, 69, 68, 19, 18, 484], [485, 482, 440, 415, 414, 365, 364, 331, 330, 281, 280, 247, 246, 193, 192, 159, 158, 105, 104, 71, 70, 17, 16, 485], [485, 481, 439, 417, 416, 363, 362, 333, 332, 279, 278, 249, 248, 191, 190, 161, 160, 103, 102, 73, 72, 15, 14, 485], [485, 480, 438, 419, 418, 361, 360, 335, 334, 277, 276, 251, 250, 189, 188, 163, 162, 101, 100, 75, 74, 13, 12, 484], [485, 479, 437, 421, 420, 359, 358, 337, 336, 275, 274, 253, 252, 187, 186, 165, 164, 99, 98, 77, 76, 11, 10, 484], [485, 478, 436, 423, 422, 357, 356, 339, 338, 273, 272, 255, 254, 185, 184, 167, 166, 97, 96, 79, 78, 9, 8, 485], [485, 477, 435, 425, 424, 355, 354, 341, 340, 271, 270, 257, 256, 183, 182, 169, 168, 95, 94, 81, 80, 7, 6, 485], [485, 476, 434, 427, 426, 353, 352, 343, 342, 269, 268, 259, 258, 181, 180, 171, 170, 93, 92, 83, 82, 5, 4, 484], [485, 475, 433, 429, 428, 351, 350, 345, 344, 267, 266, 261, 260, 179, 178, 173, 172, 91, 90, 85, 84, 3, 2, 484], [485, 474, 432, 431, 430, 349, 348, 347, 346, 265, 264, 263, 262, 177, 176, 175, 174, 89, 88, 87, 86, 1, 0, 485], [485, 485, 485, 485, 485, 485, 485, 485, 485, 485, 485, 485, 485, 485, 485, 485, 485, 485, 485, 485, 485, 485, 485, 485]]] = true
  c_QUADS0 : Addr
  t_QUADS0 : tupB K c_QUADS0 [0, 0, 0, 0] = true
  c_QUADS1 : Addr
  t_QUADS1 : tupB K c_QUADS1 [0, 0, 0, 1] = true
  c_QUADS2 : Addr
  t_QUADS2 : tupB K c_QUADS2 [0, 0, 1, 0] = true
  c_QUADS3 : Addr
  t_QUADS3 : tupB K c_QUADS3 [0, 0, 1, 1] = true
  c_QUADS4 : Addr
  t_QUADS4 : tupB K c_QUADS4 [0, 1, 0, 0] = true
  c_QUADS5 : Addr
  t_QUADS5 : tupB K c_QUADS5 [0, 1, 0, 1] = true
  c_QUADS6 : Addr
  t_QUADS6 : tupB K c_QUADS6 [0, 1, 1, 0] = true
  c_QUADS7 : Addr
  t_QUADS7 : tupB K c_QUADS7 [0, 1, 1, 1] = true
  c_QUADS8 : Addr
  t_QUADS8 : tupB K c_QUADS8 [1, 0, 0, 0] = true
  c_QUADS9 : Addr
  t_QUADS9 : tupB K c_QUADS9 [1, 0, 0, 1] = true
  c_QUADS10 : Addr
  t_QUADS10 : tupB K c_QUADS10 [1, 0, 1, 0] = true
  c_QUADS11 : Addr
  t_QUADS11 : tupB K c_QUADS11 [1, 0, 1, 1] = true
  c_QUADS12 : Addr
  t_QUADS12 : tupB K c_QUADS12 [1, 1, 0, 0] = true
  c_QUADS13 : Addr
  t_QUADS13 : tupB K c_QUADS13 [1, 1, 0, 1] = true
  c_QUADS14 : Addr
  t_QUADS14 : tupB K c_QUADS14 [1, 1, 1, 0] = true
  c_QUADS15 : Addr
  t_QUADS15 : tupB K c_QUADS15 [1, 1, 1, 1] = true
  a_QUADS : Addr
  g_QUADS : mg "QUADS" = some (.ref a_QUADS)
  l_QUADS : KTupR K a_QUADS [c_QUADS0, c_QUADS1, c_QUADS2, c_QUADS3, c_QUADS4, c_QUADS5, c_QUADS6, c_QUADS7, c_QUADS8, c_QUADS9, c_QUADS10, c_QUADS11, c_QUADS12, c_QUADS13, c_QUADS14, c_QUADS15]
  a_RULES : Addr
  g_RULES : mg "RULES" = some (.ref a_RULES)
  l_RULES : tupRefs K a_RULES = some [f_by_sum, f_by_three, f_by_row, f_by_column, f_by_squares, f_by_product, f_by_five, f_by_seven] ∧ ([f_by_sum, f_by_three, f_by_row, f_by_column, f_by_squares, f_by_product, f_by_five, f_by_seven] : List Addr).Nodup
  a_SHARES : Addr
  g_SHARES : mg "SHARES" = some (.ref a_SHARES)
  l_SHARES : tup3B K a_SHARES [[[8, 4, 2, 1, 8, 4, 2, 1, 8, 4, 2, 1], [57, 216, 164, 82, 47, 27, 201, 104], [1601, 812, 3350, 2755], [741, 382, 3319, 1727]], [[230, 115, 253, 186, 59, 217, 168, 84, 145, 140, 70, 35, 196, 98, 49, 220, 42, 21, 206, 103, 93, 234, 117, 254, 162, 81, 236, 118, 25, 200, 100, 50], [53820, 41430, 23715, 58973, 5074, 52641, 27228, 13798, 19417, 10664, 6228, 50402, 45670, 37171, 36061, 18090, 52378, 26245, 13134, 56615, 54660, 44610, 22305, 61212], [7149884, 3852502, 13984931, 11416157, 15489839, 7792923, 15956169, 12448872, 1728909, 12926026, 7263781, 3646238, 11972949, 9673966, 9274999, 4867071], [3755124567, 2879479791, 1499261819, 3907418617, 507582810, 3341600997, 1863738494, 1002648311]], [[3304254554, 1652127277, 830749614, 2688722263, 1344400019, 682128881, 341082816, 170541408, 3224441698, 1621143857, 810606752, 405303376, 202651688, 101325844, 50662922, 3115976453, 178691248, 89345624, 3130074924, 1576053526, 2524507403, 1262276285, 2636015590, 4128213875, 3863766094, 1931883047, 2165512619, 4172395757, 2095078094, 1047539047, 523808395, 3072088061, 2334746955, 4255943837, 3327543030, 1663771515, 2309859717, 4243516666, 2121758333, 1065565062, 2113027378, 2256119321, 1132745652, 2571276634, 4095864877, 2057861294, 1028930647, 2787778195, 1475599608, 2478927484, 4057478974, 3228345119, 1614211511, 807128291, 414541513, 216151004, 3386238329, 3704801924, 1852400962, 931957281, 2739291560, 3911424596, 3433647402, 1726782997, 708767611, 354406277, 2998394874, 1508104061, 2496254854, 1255985475, 628019353, 2855758068, 2567668886, 4106043979, 2061902237, 1030990070, 2793493627, 1408772741, 2440828410, 4030640765, 4201325362, 2106435865, 2264853684, 1132426842, 2575776557, 4110132654, 2059790935, 1037727123, 1467237862, 2470091379, 4045229441, 3233193720, 1616596860, 815111998, 418576159, 209306551, 536003753, 3078185708, 3817091446, 3376586811, 3693170853, 1856514282, 928257141, 2737441410, 1964910540, 2182064998, 1103097139, 2565328545, 1288398824, 652053364, 332856634, 2976630301, 980604703, 490329015, 3064254947, 1532154057, 2502519004, 4071371886, 2035685943, 2217414051, 930518101, 2738571922, 3919914313, 3437931164, 1718965582, 864195111, 2705410475, 3902315757, 2875835526, 3985400387, 3460706713, 1730388212, 2343129210, 4260112445, 3329627302, 1664813651, 2797532268, 1398766134, 2442607899, 4042499765, 2025935842, 1020825969, 510455936, 255227968], [11631445368222200359, 16757226603236759979, 8430264473103348973, 4215132682286095054, 2127692246514806119, 13185144227365891723, 6612698019052607485, 10798148012564517830, 11286156707044472768, 5643156968611488608, 2821780691498690864, 12327615842502233112, 17080612548063618572, 14845346474573443846, 7474455287152681219, 10042451597182888121, 10639353337785837107, 17389508145544639393, 13876083323396268520, 6985189233553631348, 3492595336183837754, 1746297670633667101, 873148835316833718, 436575001373947483, 14725918171734653040, 7362959087603768376, 3681480057057259036, 11651691798684899086, 16780895730720682759, 8415225909652808123, 4207709540982114533, 2103986162130576586, 12784775150913286762, 16156358658598254901, 8078180051516368034, 4086315699446436433, 2081297710278060432, 1040780828751342664, 540515875210483236, 13492826890641615634, 15693895632876875266, 15338545437432289025, 7698483995361915832, 3849242373501608284, 11713186419122948142, 5908244177151353879, 10412083074042966707, 5226167373665933793, 601442746768626484, 300721682216694042, 150360841108381709, 75180796363829438, 13311810352767907935, 6694045035739225239, 3347022519606054643, 1693839062989604801, 15045864825244261926, 7556569119678353171, 3778399079910252465, 1914013077710043104, 1008657197088228208, 13747022565349710136, 6907147542391804956, 10940667417025866254, 10964401003168060513, 5524843960555694728, 2762422493526439236, 1381211966179156514, 12802896753314517265, 16207896343290089648, 8104150376557856856, 4072349634138874924, 17689354081001786075, 14017069458881996245, 7008534729450949330, 9843056902220301673, 4968675509709216396, 2484338542981107014, 1242169271499464227, 12728871940985999273, 18441550478853928801, 14397522581902771080, 15809644568615180612, 15387578905448076322, 15203567669887592977, 7621909295786440112, 10115994847903261272, 5082776050207445292, 17661694130517478392, 13983043655520025980, 7043172485986436670, 9826626511443288863, 4942446500601498039, 2518370685917920483, 1279311317042364105, 12742939365588156380, 8331638501093071846, 9365180490124875123, 17925285001190953601, 8996374970669427192, 4527521905812671612, 2263840218683098686, 13201567761388806943, 16402824318065224119, 842175138573635872, 13643858282969616400, 16585733578153158664, 8292866790276150276, 9298551368861948418, 17923679016823688449, 9000128354123497144, 4500161172460363612], [15953170217339834914600, 874530834917010197893908, 1077152410060201040269578, 538576252291540552765445, 269288126329940487792826, 774535658523382648550493, 390663723656105412598422, 197831395650040356277579, 411268812698841356545256, 694405642366696607340148, 1141584184732933224082234, 910947134753112213531933, 455486790077105873678006, 229067541009105795577691, 117918748173848054563733, 58965708443746700884466, 462603992718255429742907, 645828005812005161500837, 322914002906004863992042, 163071143359096611479669, 81535609985985134334082, 831777413442883507259457, 415888706722023729530008, 211041679094202757808716, 810187335599123403592467, 1120539672544734968123825, 973488973301854438486240, 486749663398338402482288, 656581950601709510343736, 1198230222737304291188252, 936764315060410342706958, 468382182255848710651655, 1191507474855280717556494, 597967887280414404873479, 302080078496575889342139, 792248250840013244432357, 1113774538730999335454666, 972003574742022022822757, 1050330916246656532530570, 525178727839543512652357, 1049852354028773180849902, 524926177111381984354167, 675670202953843558430595, 1204400267808998430925817, 939860254155178672966084, 1037644247185864810617954, 1007587054570524121001521, 994474030446415501473696, 1063923808221992058118640, 947373357445474288306296, 476776533080658313823292, 238400336187330521866782, 120528907831907866054927, 854645864683686684242111, 427328104663892981143783, 214982994533216728198347, 621580836221128364132323, 1180434517475533231602633, 929190590385403207411164, 466812903678018933541486, 235315689850638405362999, 757543655638707052186275, 378771875133710633354729, 191894120411191046085324, 600202709149728473246168, 640853610415071442209900, 1186981079443966223402550, 931147252859113805652763, 1032703172656144935791029, 516356758571952751111394, 673303347196092097132145, 339741523355853233273728, 1001513588223395066256852, 500767710837707539871338, 250383855567839605062453, 768457563750661051549090, 384239698600828471474769, 682804986665721688784272, 341402493333581987874376, 172910784701880087364388, 783057443745831099492242, 1108887450416103940016969, 554443763462086582132124, 614871085440904370116174, 307435562924974903683879, 718052697463516705099179, 362411326269728584433389, 181213121096292946444238, 264353877831594434844934, 772068565720789124224003, 1102798052256201460566713, 964614733395132976670180, 484511752614377327274610, 245352044817340535035193, 762569950553071752811172, 1096728649663575818193234], [2096219824289145559934226169, 1192914196792046455072319428, 57387520723407546261148568418, 70734760201764109637620923697, 35367380100882055469498025632, 17828160070862627249092780880, 51052584950617469997334890792, 25613372471118572501271182356, 74020786575134952915435671197, 64091198210948580543172126710, 69029395428375847208802298747, 66768798441429432819613822341, 65580395950737416135444451066, 64822385256842535948733605757, 64529329341032928881937058694, 32486919163683255795188563267, 75288055738950484669537928368, 59772696450774227924298834520, 66869809103461906343872303404, 33637401535779044764427464726, 16818702689230817992834504715, 8409353263646357279601536189, 56044284246691135647186884326, 69957360954162454486134229875, 17930252566038664269173710462, 51006128917761246824813834047, 25648097031209380970973147047, 12949963346390333063200042987, 53487423746752892534556774349, 26868839080731394332533907422, 13559957888743404025441277807, 53666957932330188045809275791, 60162378629818582336314453010, 30187685762699377418546796041, 42174496687888708613747780540, 21232128198525201101809036638, 10616067489392369849772600879, 5452916095390228915550451631, 54566065368568087484394275823, 27427836968931517623729256911, 53032205832877072315786177358, 73528205735313311192071138599, 64047329797781355290269896363, 32024307574230982632884037613, 43178530352349434807991110606, 78380102138511867390703435111, 61318229277834494406484936331, 30842269990456636175175934973, 43674236650800276080072294893, 78627955276820597643375147214, 39536682080559190574560869479, 42060328700879004914004082315, 77926785706970390825414172669, 61236040190718271036449798086, 67727166919287008008316511075, 33864375775005222199691364745, 41796317837830395629356911469, 77910496121125578748145417614, 61084295021424485176090551879, 67650730014151238084617270171, 34028348846792195423994085877, 44181344769980992104856418498, 22235479475236500697269697633, 48101764348153796152842010248, 74878651985916392391657059799, 59568221551593558124842042067, 29871264417904119410322727377, 14935632208952226281172994256, 7468153760009307166097097832, 3918095709148524394633634356, 1959388888788961164910989594, 979694449546729947811590157, 78238322470506754468126235636, 39264270260705030897656984954, 19632137925034321675436081725, 51857070421797054786099831206, 73038067525300891568270641235, 63685410318140877971079120017, 68970632967732581131896234736, 34611158539400287051384885624]]] = true
  a_SIDES : Addr
  g_SIDES : mg "SIDES" = some (.ref a_SIDES)
  l_SIDES : tupB K a_SIDES [8, 12, 16, 20, 24] = true
  a_SPANS : Addr
  g_SPANS : mg "SPANS" = some (.ref a_SPANS)
  l_SPANS : KInt K a_SPANS [(4, 16), (8, 256)]
  g_STRIP : ∃ t, mg "STRIP" = some (.int 10 t)
  c_STRIPS0 : Addr
  t_STRIPS0 : tupB K c_STRIPS0 [9, 10, 11, 12, 13, 14, 17, 18, 19, 20, 49, 41, 33, 25, 50, 42, 34, 26, 51, 43] = true
  c_STRIPS1 : Addr
  t_STRIPS1 : tupB K c_STRIPS1 [13, 14, 15, 16, 17, 18, 19, 20, 21, 22, 121, 109, 97, 85, 73, 61, 49, 37, 25, 122] = true
  c_STRIPS2 : Addr
  t_STRIPS2 : tupB K c_STRIPS2 [17, 18, 19, 20, 21, 22, 23, 24, 25, 26, 225, 209, 193, 177, 161, 145, 129, 113, 97, 81] = true
  c_STRIPS3 : Addr
  t_STRIPS3 : tupB K c_STRIPS3 [21, 22, 23, 24, 25, 26, 27, 28, 29, 30, 361, 341, 321, 301, 281, 261, 241, 221, 201, 181] = true
  c_STRIPS4 : Addr
  t_STRIPS4 : tupB K c_STRIPS4 [25, 26, 27, 28, 29, 30, 31, 32, 33, 34, 529, 505, 481, 457, 433, 409, 385, 361, 337, 313] = true
  a_STRIPS : Addr
  g_STRIPS : mg "STRIPS" = some (.ref a_STRIPS)
  l_STRIPS : KTupR K a_STRIPS [c_STRIPS0, c_STRIPS1, c_STRIPS2, c_STRIPS3, c_STRIPS4]
  a_WORD_BITS : Addr
  g_WORD_BITS : mg "WORD_BITS" = some (.ref a_WORD_BITS)
  l_WORD_BITS : tupB K a_WORD_BITS [4, 4, 8, 8, 8] = true
theorem getI_span {b : Nat} (hb : Wd b) : getI (b : Int) [(4, 16), (8, 256)] = some (span b : Int) := by rcases hb with rfl | rfl <;> rfl
section
variable {P : Program} {w : World} {K : PySem.W.Frag} {mg : Str → Option Value} {base : Heap}
/-! ### the program's defs -/
def sp_is_number_to : Sp := fun vs H Q _ => ∃ i l m : Int, vs = [.int i, .int l, .int m] ∧ Q (.bl (decide (l ≤ i) && decide (i ≤ m))) H
theorem ok_is_number_to (T : Txt K mg) : FnOk P w K mg base CX0 1 T.f_is_number_to T.d_is_number_to ["thing", "least", "most"] sp_is_number_to := by
  refine T.F_is_number_to.ok sc_is_number_to (fun vs H Q E h => ?_) (fun cdv A outer s H vs Q E hr h => ?_)
  · obtain ⟨i, l, m, rfl, _⟩ := h
    rfl
  · obtain ⟨i, l, m, rfl, q⟩ := h
    refine ⟨_, (pss_one (ps_ret (pe_and (pe_callB call_isi (by rfl) T.n_isinstance (by decide +kernel) (pa_cons (pv 0) (pa_cons (pe_bltn (v := .ty "int") (by rfl) T.n_int (by decide +kernel) rfl) pa_nil))) (pe_and (pe_not (pe_callB call_isi (by rfl) T.n_isinstance (by decide +kernel) (pa_cons (pv 0) (pa_cons (pe_bltn (v := .ty "bool") (by rfl) T.n_bool (by decide +kernel) rfl) pa_nil)))) (pe_one (pe_chain op_le op_le (pv 1) (pv 0) (pv 2))))))), ?_⟩
    refine ⟨_, rfl, .int i, .ty "int", .type "int", .type "int", true, rfl, .ty _, .base (.int i), kit_ty (by decide +kernel), true, rfl, ?_⟩
    refine ⟨_, rfl, .int i, .ty "bool", .type "int", .type "bool", false, rfl, .ty _, .base (.int i), kit_ty (by decide +kernel), _, rfl, true, rfl, ?_⟩
    refine ⟨_, rfl, _, rfl, _, _, rfl, rfl, _, rfl, ?_⟩
    refine ite2 (fun c => ?_) (fun c => ?_)
    · refine ⟨_, rfl, _, _, rfl, rfl, ?_⟩
      rw [show decide (l ≤ i) = true from c, Bool.true_and] at q
      exact q
    · rw [show decide (l ≤ i) = false by simpa using c, Bool.false_and] at q
      exact q
def sp_is_word : Sp := fun vs H Q _ => ∃ b x : Nat, vs = [vN b, vN x] ∧ Wd b ∧ x < span b ∧ Q (.bl true) H
theorem ok_is_word (T : Txt K mg) : FnOk P w K mg base CX0 3 T.f_is_word T.d_is_word ["bits", "thing"] sp_is_word := by
  refine T.F_is_word.ok sc_is_word (fun vs H Q E h => ?_) (fun cdv A outer s H vs Q E hr h => ?_)
  · obtain ⟨b, x, rfl, _⟩ := h
    rfl
  · obtain ⟨b, x, rfl, hb, hx, q⟩ := h
    refine ⟨_, (pss_one (ps_ret (pe_call (ok_is_number_to T) (hr.mono (by decide)) (by rfl) T.g_is_number_to T.F_is_number_to.kp T.b_is_number_to .nil pass0 (pa_cons (pv 1) (pa_cons pe_int (pa_cons (pe_op op_sub (pe_ix (ix_kint T.l_SPANS) (pe_glob (v := .ref T.a_SPANS) (by rfl) T.g_SPANS rfl) (pv 0) (fun _ _ => rfl)) pe_int) pa_nil)))))), ?_⟩
    refine ⟨_, rfl, _, rfl, _, _, rfl, rfl, getI_span hb, _, _, rfl, rfl, _, _, _, rfl, ?_⟩
    have e : (decide ((0 : Int) ≤ (x : Int)) && decide ((x : Int) ≤ (span b : Int) - 1)) = true := by
      simp
      omega
    rw [e]
    exact q
def sp_is_row (K : PySem.W.Frag) : Sp := fun vs H Q _ => ∃ (a : Addr) (k : Bool) (xs : List V), vs = [.ref a] ∧ SqB k K H a xs ∧ ∀ H', Same H H' → Q (.bl true) H'
theorem ok_is_row (T : Txt K mg) : FnOk P w K mg base CX0 1 T.f_is_row T.d_is_row ["thing"] (sp_is_row K) := by
  refine T.F_is_row.ok sc_is_row (fun vs H Q E h => ?_) (fun cdv A outer s H vs Q E hr h => ?_)
  · obtain ⟨a, k, xs, rfl, _⟩ := h
    rfl
  · obtain ⟨a, k, xs, rfl, hq, q⟩ := h
    refine ⟨_, (pss_one (ps_ret (pe_callB call_isiT (by rfl) T.n_isinstance (by decide +kernel) (pa_cons (pv 0) (pa_cons (pe_tup (pa_cons (pe_bltn (v := .ty "list") (by rfl) T.n_list (by decide +kernel) rfl) (pa_cons (pe_bltn (v := .ty "tuple") (by rfl) T.n_tuple (by decide +kernel) rfl) pa_nil))) pa_nil))))), ?_⟩
    refine ⟨_, rfl, (by show 2 ≤ sizeLine; decide), fun tp htp => ?_⟩
    have hq2 := Same.sqb (same_upd (o := .tup [.ty "list", .ty "tuple"]) htp) hq
    refine ⟨.ref a, tp, [.ty "list", .ty "tuple"], .type (if k = true then "list" else "tuple"), [.type "list", .type "tuple"], true, rfl, upd_same, .cons (.ty _) (.cons (.ty _) .nil), hq2.ty, ?_, q _ (same_upd htp)⟩
    cases k
    · exact kitAny_cons (kit_ty (r := false) (by decide +kernel)) (fun _ => kitAny_cons (kit_ty (r := true) (by decide +kernel)) (fun z => by cases z) (fun _ => rfl)) (fun z => by cases z)
    · exact kitAny_cons (kit_ty (r := true) (by decide +kernel)) (fun z => by cases z) (fun _ => rfl)
def sp_words (K : PySem.W.Frag) : Sp := fun vs H Q _ => ∃ (b : Nat) (a : Addr) (k : Bool) (ws : List Nat), vs = [vN b, .ref a] ∧ Wd b ∧ SqB k K H a (ws.map vN) ∧ Ws b ws ∧ ∀ H', Same H H' → Q (.bl true) H'
theorem ok_are_plain_words (T : Txt K mg) : FnOk P w K mg base CX0 1 T.f_are_plain_words T.d_are_plain_words ["bits", "things"] (sp_words K) := by
  refine T.F_are_plain_words.ok sc_are_plain_words (fun vs H Q E h => ?_) (fun cdv A outer s H vs Q E hr h => ?_)
  · obtain ⟨b, a, k, ws, rfl, _⟩ := h
    rfl
  · obtain ⟨b, a, k, ws, rfl, hb, hq, hw, q⟩ := h
    refine ⟨_, (pss_one (ps_ret (pe_notT (pe_lc (own := [("thing", 2)]) rfl sc_are_plain_words.nd (pi_seq (pv 1)) (blkOk_by (N := ["bits", "things", "thing"]) (sc := defScope s_are_plain_words) (by decide +kernel)) (fun _ _ _ _ _ => by exact (pg_name (i := 2) sc_are_plain_words.nd rfl (.inl rfl))) (fun _ _ _ _ _ => by exact (pts_one (PW.pt (pw_or (pt_cmpR op_isNotTy (pe_callTy RZ.call_type4 (by rfl) T.n_type (by decide +kernel) (pa_cons (pv 2) pa_nil)) (pe_bltn (v := .ty "int") (by rfl) T.n_int (by decide +kernel) rfl) (nomark _)) (pw_or1 (pt_truthK (K := K) rfl (pe_op op_shr (pv 2) (pv 0)) (fun _ => rfl))))))) (fun _ _ _ _ _ => by exact (pv 2)))))), ?_⟩
    refine ⟨_, rfl, a, _, k, rfl, hq, fun D hD => ?_⟩
    refine lc_it (walk_seq (b := k) (K := K) (a := a) (xs := ws.map vN)) (fun i H' => Same H H' ∧ H' D = some (.lst [])) ⟨same_upd hD, upd_same⟩ (fun i H' _ h => Same.sqb h.1 hq) ?_ ?_
    · rintro i v H1 H2 hi ⟨sm, g⟩ ⟨rfl, e2⟩
      rw [List.length_map] at hi
      have ey : v = vN (gd ws i) := by
        rw [List.getElem?_map, gd_in hi] at e2
        exact (Option.some.inj e2).symm
      subst ey
      refine ⟨rfl, ?_⟩
      refine ⟨_, rfl, _, "int", rfl, .int _, "int", "int", rfl, rfl, _, rfl, iteF ?_⟩
      refine ⟨_, rfl, _, rfl, _, _, rfl, rfl, by omega, _, rfl, ?_⟩
      rw [word_shr hb (gd_lt hb hw i)]
      exact iteF ⟨sm, g⟩
    · rintro H1 ⟨sm, g⟩
      exact ⟨_, SqB.truB (b := true) (.inl (.inl g)), q H1 sm⟩
def sp_need_words (K : PySem.W.Frag) : Sp := fun vs H Q _ => ∃ (b : Nat) (p : Str) (a : Addr) (k : Bool) (ws : List Nat), vs = [vN b, .str p, .ref a] ∧ Wd b ∧ SqB k K H a (ws.map vN) ∧ Ws b ws ∧ ∀ H', Same H H' → Q .non H'
theorem ok_need_words (T : Txt K mg) : FnOk P w K mg base CX0 4 T.f_need_words T.d_need_words ["bits", "part", "words"] (sp_need_words K) := by
  refine T.F_need_words.ok sc_need_words (fun vs H Q E h => ?_) (fun cdv A outer s H vs Q E hr h => ?_)
  · obtain ⟨b, p, a, k, ws, rfl, _⟩ := h
    rfl
  · obtain ⟨b, p, a, k, ws, rfl, hb, hq, hw, q⟩ := h
    refine ⟨_, (pss_cons (ps_if (pt_val (pe_call (ok_are_plain_words T) (hr.mono (by decide)) (by rfl) T.g_are_plain_words T.F_are_plain_words.kp T.b_are_plain_words .nil pass0 (pa_cons (pv 0) (pa_cons (pv 2) pa_nil)))) (pss_one ps_retN) pss_nil)
      (pss_one (ps_for PassesOwn.never rfl (pi_enumS (by rfl) T.n_enumerate (pa_cons (pv 2) pa_nil)) (pg_tup rfl (pgs_cons (pg_name (i := 3) sc_need_words.nd rfl (.inl rfl)) (pgs_cons (pg_name (i := 4) sc_need_words.nd rfl (.inl rfl)) pgs_nil))) (pss_one (ps_if (pt_not (pt_val (pe_call (ok_is_word T) (hr.mono (by decide)) (by rfl) T.g_is_word T.F_is_word.kp T.b_is_word .nil pass0 (pa_cons (pv 0) (pa_cons (pv 4) pa_nil))))) (pss_one ps_never) pss_nil))))), ?_⟩
    exact ⟨_, rfl, _, rfl, b, a, k, ws, rfl, hb, hq, hw, fun H1 s1 => ⟨_, rfl, iteT (q H1 s1)⟩⟩
/-! ### the class Field -/
def fl (b : Nat) (q r : Addr) : List (Str × V) := putF "exponents" (.ref r) (putF "powers" (.ref q) (putF "turn" (vN (turn b)) (putF "span" (vN (span b)) (putF "bits" (vN b) []))))
structure FieldAt (K : PySem.W.Frag) (C : Addr) (H : Hp) (p : Addr) (b : Nat) : Prop where
  ex : ∃ dx q r, H p = some (.ins C dx (fl b q r)) ∧ H q = some (.tup (PP b)) ∧ SqT K H r ((tabE b).map V.int)
theorem FieldAt.same {C p : Addr} {H H' : Hp} {b : Nat} (F : FieldAt K C H p b) (s : Same H H') : FieldAt K C H' p b := by
  obtain ⟨dx, q, r, h1, h2, h3⟩ := F.ex
  exact ⟨⟨dx, q, r, s _ _ h1, s _ _ h2, Same.sqt s h3⟩⟩
theorem ixN_nat {n j : Nat} (h : j < n) : ixN n (j : Int) = some j := by
  unfold ixN
  rw [if_pos (by omega), if_pos (by omega), Int.toNat_natCast]
/-! CUT -/
theorem cut_from (xs : List V) (k : Nat) (h : k ≤ xs.length) : cutV xs (some (k : Int)) none = xs.drop k := by
  unfold cutV
  rw [HT.sIx_none, HT.sIx_nat, Nat.min_eq_left h]
  exact List.take_of_length_le (by rw [List.length_drop]; omega)
/-! CUT -/
/-! CUT -/
/-! CUT -/
/-! CUT -/
/-! CUT -/
/-! ### sizes -/
def sp_need_size : Sp := fun vs H Q _ => ∃ s : Nat, vs = [.int ((s : Int) + 1)] ∧ s < 5 ∧ Q .non H
theorem ok_need_size (T : Txt K mg) : FnOk P w K mg base CX0 2 T.f_need_size T.d_need_size ["size"] sp_need_size := by
  refine T.F_need_size.ok sc_need_size (fun vs H Q E h => ?_) (fun cdv A outer s H vs Q E hr h => ?_)
  · obtain ⟨s, rfl, _⟩ := h
    rfl
  · obtain ⟨s0, rfl, hs, q⟩ := h
    refine ⟨_, (pss_one (ps_if (pt_not (pt_val (pe_call (ok_is_number_to T) (hr.mono (by decide)) (by rfl) T.g_is_number_to T.F_is_number_to.kp T.b_is_number_to .nil pass0 (pa_cons (pv 0) (pa_cons pe_int (pa_cons (pe_callB call_len_seq (by rfl) T.n_len (by decide +kernel) (pa_cons (pe_glob (v := .ref T.a_SIDES) (by rfl) T.g_SIDES rfl) pa_nil)) pa_nil)))))) (pss_one ps_never) pss_nil)), ?_⟩
    refine ⟨_, rfl, T.a_SIDES, _, rfl, .inr (tupB_ok (xs := sidesI) T.l_SIDES), _, _, _, rfl, ?_⟩
    have e : (decide ((1 : Int) ≤ (s0 : Int) + 1) && decide ((s0 : Int) + 1 ≤ (((sidesI.map V.int).length : Nat) : Int))) = true := by
      have : (sidesI.map V.int).length = 5 := rfl
      rw [this]
      simp
      omega
    rw [e]
    exact ⟨_, rfl, iteF q⟩
def sp_need_level : Sp := fun vs H Q _ => ∃ l : Nat, vs = [vN l] ∧ l < 4 ∧ Q .non H
theorem ok_need_level (T : Txt K mg) : FnOk P w K mg base CX0 2 T.f_need_level T.d_need_level ["level"] sp_need_level := by
  refine T.F_need_level.ok sc_need_level (fun vs H Q E h => ?_) (fun cdv A outer s H vs Q E hr h => ?_)
  · obtain ⟨l, rfl, _⟩ := h
    rfl
  · obtain ⟨l, rfl, hl, q⟩ := h
    refine ⟨_, (pss_one (ps_if (pt_not (pt_val (pe_call (ok_is_number_to T) (hr.mono (by decide)) (by rfl) T.g_is_number_to T.F_is_number_to.kp T.b_is_number_to .nil pass0 (pa_cons (pv 0) (pa_cons pe_int (pa_cons (pe_op op_sub (pe_glob (v := .int 4) (by rfl) T.g_LEVELS.choose_spec ⟨_, rfl⟩) pe_int) pa_nil)))))) (pss_one ps_never) pss_nil)), ?_⟩
    refine ⟨_, rfl, _, _, rfl, rfl, _, _, _, rfl, ?_⟩
    have e : (decide ((0 : Int) ≤ (l : Int)) && decide ((l : Int) ≤ 4 - 1)) = true := by
      simp
      omega
    rw [e]
    exact ⟨_, rfl, iteF q⟩
def sp_need_mask : Sp := fun vs H Q _ => ∃ m : Nat, vs = [vN m] ∧ m < 8 ∧ Q .non H
theorem ok_need_mask (T : Txt K mg) : FnOk P w K mg base CX0 2 T.f_need_mask T.d_need_mask ["mask"] sp_need_mask := by
  refine T.F_need_mask.ok sc_need_mask (fun vs H Q E h => ?_) (fun cdv A outer s H vs Q E hr h => ?_)
  · obtain ⟨m, rfl, _⟩ := h
    rfl
  · obtain ⟨m, rfl, hm, q⟩ := h
    refine ⟨_, (pss_one (ps_if (pt_not (pt_val (pe_call (ok_is_number_to T) (hr.mono (by decide)) (by rfl) T.g_is_number_to T.F_is_number_to.kp T.b_is_number_to .nil pass0 (pa_cons (pv 0) (pa_cons pe_int (pa_cons (pe_op op_sub (pe_glob (v := .int 8) (by rfl) T.g_MASKS.choose_spec ⟨_, rfl⟩) pe_int) pa_nil)))))) (pss_one ps_never) pss_nil)), ?_⟩
    refine ⟨_, rfl, _, _, rfl, rfl, _, _, _, rfl, ?_⟩
    have e : (decide ((0 : Int) ≤ (m : Int)) && decide ((m : Int) ≤ 8 - 1)) = true := by
      simp
      omega
    rw [e]
    exact ⟨_, rfl, iteF q⟩
/-- the blocks' tuple of a size -/
theorem blk_at (T : Txt K mg) {s : Nat} (hs : s < 5) : ∃ c, atI ([T.c_BLOCKS0, T.c_BLOCKS1, T.c_BLOCKS2, T.c_BLOCKS3, T.c_BLOCKS4].map V.ref) (s : Int) = some (.ref c) ∧ ∀ H, SqT K H c ((blkF s).map vN) := by
  have : s = 0 ∨ s = 1 ∨ s = 2 ∨ s = 3 ∨ s = 4 := by omega
  rcases this with rfl | rfl | rfl | rfl | rfl
  · exact ⟨T.c_BLOCKS0, rfl, fun H => tupB_ok (xs := [4]) T.t_BLOCKS0⟩
  · exact ⟨T.c_BLOCKS1, rfl, fun H => tupB_ok (xs := [10, 10]) T.t_BLOCKS1⟩
  · exact ⟨T.c_BLOCKS2, rfl, fun H => tupB_ok (xs := [22]) T.t_BLOCKS2⟩
  · exact ⟨T.c_BLOCKS3, rfl, fun H => tupB_ok (xs := [19, 19]) T.t_BLOCKS3⟩
  · exact ⟨T.c_BLOCKS4, rfl, fun H => tupB_ok (xs := [20, 19, 19]) T.t_BLOCKS4⟩
def sp_bs : Sp := fun vs H Q _ => ∃ s : Nat, vs = [.int ((s : Int) + 1)] ∧ s < 5 ∧ ∀ l, H l = none → Q (.ref l) (upd H l (.lst ((blkF s).map vN)))
theorem ok_block_sizes (T : Txt K mg) : FnOk P w K mg base CX0 3 T.f_block_sizes T.d_block_sizes ["size"] sp_bs := by
  refine T.F_block_sizes.ok sc_block_sizes (fun vs H Q E h => ?_) (fun cdv A outer s H vs Q E hr h => ?_)
  · obtain ⟨s, rfl, _⟩ := h
    rfl
  · obtain ⟨s0, rfl, hs, q⟩ := h
    refine ⟨_, (pss_cons (ps_expr (pe_call (ok_need_size T) (hr.mono (by decide)) (by rfl) T.g_need_size T.F_need_size.kp T.b_need_size .nil pass0 (pa_cons (pv 0) pa_nil)))
      (pss_one (ps_ret (pe_callTy call_list_of (by rfl) T.n_list (by decide +kernel) (pa_cons (pe_ix ix_rowB (pe_glob (v := .ref T.a_BLOCKS) (by rfl) T.g_BLOCKS rfl) (pe_op op_sub (pv 0) pe_int) (fun _ _ => rfl)) pa_nil))))), ?_⟩
    obtain ⟨c, hc, hC⟩ := blk_at T hs
    refine ⟨_, rfl, s0, rfl, hs, ?_⟩
    refine ⟨_, rfl, _, _, rfl, rfl, T.a_BLOCKS, _, _, .ref c, false, rfl, rfl, T.l_BLOCKS.sq (by show 5 ≤ 1000; decide), ?_, c, _, rfl, .inr (hC _), q⟩
    rw [show (s0 : Int) + 1 - 1 = (s0 : Int) by omega]
    exact hc
def sp_wc : Sp := fun vs H Q _ => ∃ s : Nat, vs = [.int ((s : Int) + 1)] ∧ s < 5 ∧ ∀ H', Same H H' → Q (vN (totF s)) H'
theorem sum_vN (r : List Nat) : (r.map fun n : Nat => (n : Int)).sum = ((r.sum : Nat) : Int) := by
  induction r with
  | nil => rfl
  | cons x r ih => rw [List.map_cons, List.sum_cons, List.sum_cons, ih]; omega
theorem vN_ints (r : List Nat) : r.map vN = (r.map fun n : Nat => (n : Int)).map V.int := by
  rw [List.map_map]
  rfl
theorem ok_word_count (T : Txt K mg) : FnOk P w K mg base CX0 4 T.f_word_count T.d_word_count ["size"] sp_wc := by
  refine T.F_word_count.ok sc_word_count (fun vs H Q E h => ?_) (fun cdv A outer s H vs Q E hr h => ?_)
  · obtain ⟨s, rfl, _⟩ := h
    rfl
  · obtain ⟨s0, rfl, hs, q⟩ := h
    refine ⟨_, (pss_one (ps_ret (pe_callB (cr_sum rfl) (by rfl) T.n_sum (by decide +kernel) (pa_cons (pe_call (ok_block_sizes T) (hr.mono (by decide)) (by rfl) T.g_block_sizes T.F_block_sizes.kp T.b_block_sizes .nil pass0 (pa_cons (pv 0) pa_nil)) pa_nil)))), ?_⟩
    refine ⟨_, rfl, s0, rfl, hs, fun l hl => ⟨l, (blkF s0).map fun n : Nat => (n : Int), rfl, .inl (.inl (by rw [upd_same, vN_ints])), ?_⟩⟩
    rw [sum_vN]
    exact q _ (same_upd hl)
theorem bit_at (T : Txt K mg) {s : Nat} (hs : s < 5) : ∃ xs, (∀ H, SqT K H T.a_WORD_BITS xs) ∧ atI xs ((s : Int) + 1 - 1) = some (vN (bitsF s)) := by
  refine ⟨_, fun H => tupB_ok (xs := [4, 4, 8, 8, 8]) T.l_WORD_BITS, ?_⟩
  have : s = 0 ∨ s = 1 ∨ s = 2 ∨ s = 3 ∨ s = 4 := by omega
  rcases this with rfl | rfl | rfl | rfl | rfl <;> rfl
def sp_wbits : Sp := fun vs H Q _ => ∃ s : Nat, vs = [.int ((s : Int) + 1)] ∧ s < 5 ∧ Q (vN (bitsF s)) H
theorem ok_word_bits (T : Txt K mg) : FnOk P w K mg base CX0 3 T.f_word_bits T.d_word_bits ["size"] sp_wbits := by
  refine T.F_word_bits.ok sc_word_bits (fun vs H Q E h => ?_) (fun cdv A outer s H vs Q E hr h => ?_)
  · obtain ⟨s, rfl, _⟩ := h
    rfl
  · obtain ⟨s0, rfl, hs, q⟩ := h
    refine ⟨_, (pss_cons (ps_expr (pe_call (ok_need_size T) (hr.mono (by decide)) (by rfl) T.g_need_size T.F_need_size.kp T.b_need_size .nil pass0 (pa_cons (pv 0) pa_nil)))
      (pss_one (ps_ret (pe_ix ix_rowB (pe_glob (v := .ref T.a_WORD_BITS) (by rfl) T.g_WORD_BITS rfl) (pe_op op_sub (pv 0) pe_int) (fun _ _ => rfl))))), ?_⟩
    obtain ⟨xb, hX, hx⟩ := bit_at T hs
    refine ⟨_, rfl, s0, rfl, hs, ?_⟩
    exact ⟨_, rfl, _, _, rfl, rfl, T.a_WORD_BITS, xb, _, vN (bitsF s0), false, rfl, rfl, hX _, hx, q⟩
theorem chk_at (T : Txt K mg) {s : Nat} (hs : s < 5) : ∃ c, atI ([T.c_CHECKS0, T.c_CHECKS1, T.c_CHECKS2, T.c_CHECKS3, T.c_CHECKS4].map V.ref) (s : Int) = some (.ref c) ∧ ∀ H, SqT K H c ((cksL.getD s []).map vN) := by
  have : s = 0 ∨ s = 1 ∨ s = 2 ∨ s = 3 ∨ s = 4 := by omega
  rcases this with rfl | rfl | rfl | rfl | rfl
  · exact ⟨T.c_CHECKS0, rfl, fun H => tupB_ok (xs := [1, 2, 3, 3]) T.t_CHECKS0⟩
  · exact ⟨T.c_CHECKS1, rfl, fun H => tupB_ok (xs := [2, 4, 6, 8]) T.t_CHECKS1⟩
  · exact ⟨T.c_CHECKS2, rfl, fun H => tupB_ok (xs := [4, 8, 10, 12]) T.t_CHECKS2⟩
  · exact ⟨T.c_CHECKS3, rfl, fun H => tupB_ok (xs := [4, 8, 10, 12]) T.t_CHECKS3⟩
  · exact ⟨T.c_CHECKS4, rfl, fun H => tupB_ok (xs := [4, 8, 10, 12]) T.t_CHECKS4⟩
theorem ck_at {s l : Nat} (hs : s < 5) (hl : l < 4) : atI ((cksL.getD s []).map vN) (l : Int) = some (vN (ckF s l)) := by
  have h : decide ((cksL.getD s [])[l]? = some (ckF s l)) = true := all20 (P := fun s l => decide ((cksL.getD s [])[l]? = some (ckF s l))) (by decide +kernel) hs hl
  refine atI_nat ?_
  rw [List.getElem?_map, of_decide_eq_true h]
  rfl
def startL : List (List Nat) := [[0, 1, 3, 6], [0, 2, 6, 3], [0, 60, 120, 180], [0, 60, 120, 180], [0, 60, 120, 180]]
def startF (s l : Nat) : Nat := (startL.getD s []).getD l 0
def sp_cc : Sp := fun vs H Q _ => ∃ s l : Nat, vs = [.int ((s : Int) + 1), vN l] ∧ s < 5 ∧ l < 4 ∧ Q (vN (ckF s l)) H
theorem ok_check_count (T : Txt K mg) : FnOk P w K mg base CX0 3 T.f_check_count T.d_check_count ["size", "level"] sp_cc := by
  refine T.F_check_count.ok sc_check_count (fun vs H Q E h => ?_) (fun cdv A outer s H vs Q E hr h => ?_)
  · obtain ⟨s, l, rfl, _⟩ := h
    rfl
  · obtain ⟨s0, l, rfl, hs, hl, q⟩ := h
    refine ⟨_, (pss_cons (ps_expr (pe_call (ok_need_size T) (hr.mono (by decide)) (by rfl) T.g_need_size T.F_need_size.kp T.b_need_size .nil pass0 (pa_cons (pv 0) pa_nil)))
      (pss_cons (ps_expr (pe_call (ok_need_level T) (hr.mono (by decide)) (by rfl) T.g_need_level T.F_need_level.kp T.b_need_level .nil pass0 (pa_cons (pv 1) pa_nil)))
      (pss_one (ps_ret (pe_ix ix_rowB (pe_ix ix_rowB (pe_glob (v := .ref T.a_CHECKS) (by rfl) T.g_CHECKS rfl) (pe_op op_sub (pv 0) pe_int) (fun _ _ => rfl)) (pv 1) (fun _ _ => rfl)))))), ?_⟩
    obtain ⟨c, hc, hC⟩ := chk_at T hs
    have one : (s0 : Int) + 1 - 1 = (s0 : Int) := by omega
    refine ⟨_, rfl, s0, rfl, hs, _, rfl, l, rfl, hl, ?_⟩
    refine ⟨_, rfl, _, _, rfl, rfl, T.a_CHECKS, _, _, .ref c, false, rfl, rfl, T.l_CHECKS.sq (by show 5 ≤ 1000; decide), (by rw [one]; exact hc), ?_⟩
    exact ⟨_, rfl, c, _, _, vN (ckF s0 l), false, rfl, rfl, hC _, ck_at hs hl, q⟩
/-- how many data words the blocks of a size hold -/
def dataF (s l : Nat) : Nat := ((blkF s).map fun n => n - ckF s l).sum
theorem blk_ge {s l : Nat} (hs : s < 5) (hl : l < 4) : ∀ n ∈ blkF s, ckF s l < n ∧ n ≤ 22 := fun n hn =>
  of_decide_eq_true (List.all_eq_true.mp (all20 (P := fun s l => (blkF s).all fun n => decide (ckF s l < n ∧ n ≤ 22)) (by decide +kernel) hs hl) n hn)
theorem blk_le3 {s : Nat} (hs : s < 5) : (blkF s).length ≤ 3 := of_decide_eq_true (all5 (P := fun s => decide ((blkF s).length ≤ 3)) (by decide +kernel) hs)
def sp_dc : Sp := fun vs H Q _ => ∃ s l : Nat, vs = [.int ((s : Int) + 1), vN l] ∧ s < 5 ∧ l < 4 ∧ ∀ H', Same H H' → Q (vN (dataF s l)) H'
theorem ok_data_count (T : Txt K mg) : FnOk P w K mg base CX0 4 T.f_data_count T.d_data_count ["size", "level"] sp_dc := by
  refine T.F_data_count.ok sc_data_count (fun vs H Q E h => ?_) (fun cdv A outer s H vs Q E hr h => ?_)
  · obtain ⟨s, l, rfl, _⟩ := h
    rfl
  · obtain ⟨s0, l, rfl, hs, hl, q⟩ := h
    refine ⟨_, (pss_cons (ps_set (i := 2) sc_data_count.nd rfl (.inr rfl) (pe_call (ok_check_count T) (hr.mono (by decide)) (by rfl) T.g_check_count T.F_check_count.kp T.b_check_count .nil pass0 (pa_cons (pv 0) (pa_cons (pv 1) pa_nil))))
      (pss_one (ps_ret (pe_callB (cr_sum rfl) (by rfl) T.n_sum (by decide +kernel) (pa_cons (pe_lc (own := [("words", 3)]) rfl sc_data_count.nd (pi_list (pe_call (ok_block_sizes T) (hr.mono (by decide)) (by rfl) T.g_block_sizes T.F_block_sizes.kp T.b_block_sizes .nil pass0 (pa_cons (pv 0) pa_nil))) (blkOk_by (N := ["size", "level", "checks", "words"]) (sc := defScope s_data_count) (by decide +kernel)) (fun _ _ _ _ _ => by exact (pg_name (i := 3) sc_data_count.nd rfl (.inl rfl))) (fun _ _ _ _ _ => by exact pts_nil) (fun _ _ _ _ _ => by exact (pe_op op_sub (pv 3) (pv 2)))) pa_nil))))), ?_⟩
    refine ⟨_, rfl, _, rfl, s0, l, rfl, hs, hl, ?_⟩
    refine ⟨_, rfl, s0, rfl, hs, fun b hbn => ?_⟩
    have sb := same_upd (o := .lst ((blkF s0).map vN)) hbn
    refine ⟨b, rfl, ⟨_, .inl (.inl upd_same)⟩, fun D hD => ?_⟩
    have gb := upd_same (H := H) (a := b) (o := .lst ((blkF s0).map vN))
    generalize (upd H b (.lst ((blkF s0).map vN))) = H1 at sb gb hD ⊢
    have ge := blk_ge hs hl
    refine lc_it (walk_list (K := K) (a := b) (xs := (blkF s0).map vN)) (fun i H' => Same H1 H' ∧ H' D = some (.lst ((((blkF s0).take i).map fun n => n - ckF s0 l).map vN))) ⟨same_upd hD, upd_same⟩ (fun i H' _ h => .inl (.inl (h.1 _ _ gb))) ?_ ?_
    · rintro i v H2 H3 hi ⟨sm, gD⟩ ⟨rfl, e2⟩
      rw [List.length_map] at hi
      have e1 : (blkF s0)[i]? = some (blkF s0)[i] := List.getElem?_eq_getElem hi
      have hn := ge _ (List.getElem_mem hi)
      have l22 := blk_le3 hs
      generalize (blkF s0)[i] = n at e1 hn
      rw [List.getElem?_map, e1] at e2
      obtain rfl := (Option.some.inj e2).symm
      have ev : (fun i j : Int => V.int (i - j)) (n : Int) (ckF s0 l : Int) = vN (n - ckF s0 l) := congrArg V.int (by omega)
      refine ⟨rfl, ?_⟩
      refine ⟨_, rfl, _, rfl, _, _, rfl, rfl, _, gD, ?_, fun c o' hc => ?_, ?_⟩
      · rw [List.length_map, List.length_map, List.length_take]
        exact small1000 (by omega)
      · rw [upd_ne (ne_of_none hc hD)]
        exact sm _ _ hc
      · rw [upd_same, ev, List.take_add_one, e1, Option.toList_some, List.map_append, List.map_append]
        rfl
    · rintro H2 ⟨s2, g2⟩
      rw [List.length_map, List.take_length] at g2
      refine ⟨D, ((blkF s0).map fun n => n - ckF s0 l).map fun n : Nat => (n : Int), rfl, .inl (.inl (by rw [g2, vN_ints])), ?_⟩
      rw [sum_vN]
      exact q _ (sb.trans s2)
/-! CUT -/
/-! CUT -/
/-! CUT -/
theorem tot_le {s : Nat} (hs : s < 5) : totF s ≤ 58 := by
  have h : decide (totF s ≤ 58) = true := all5 (P := fun s => decide (totF s ≤ 58)) (by decide +kernel) hs
  exact of_decide_eq_true h
theorem filter_snoc' {P : Nat → Bool} (i : Nat) : (List.range (i + 1)).filter P = (List.range i).filter P ++ (if P i = true then [i] else []) := by
  rw [List.range_succ, List.filter_append]
  cases h : P i <;> simp [h]
theorem acc_yes {H1 H' : Hp} {D : Addr} {P : Nat → Bool} {i : Nat} (sm : Same H1 H') (hD : H1 D = none) (g : H' D = some (.lst (((List.range i).filter P).map vN))) (hi : i < 1000) (hp : P i = true) :
    ∃ acc, H' D = some (.lst acc) ∧ acc.length < sizeLine ∧ Same H1 (upd H' D (.lst (acc ++ [vN i]))) ∧ (upd H' D (.lst (acc ++ [vN i]))) D = some (.lst (((List.range (i + 1)).filter P).map vN)) := by
  refine ⟨_, g, ?_, fun c o hc => ?_, ?_⟩
  · have h := List.length_filter_le P (List.range i)
    rw [List.length_range] at h
    rw [List.length_map]
    exact small1000 (by omega)
  · rw [upd_ne (ne_of_none hc hD)]
    exact sm _ _ hc
  · rw [upd_same, filter_snoc', if_pos hp, List.map_append]
    rfl
theorem acc_no {P : Nat → Bool} {i : Nat} (hp : P i = false) : ((List.range (i + 1)).filter P).map vN = ((List.range i).filter P).map vN := by
  rw [filter_snoc', hp, if_neg Bool.false_ne_true, List.append_nil]
theorem own_le {s l : Nat} (hs : s < 5) (hl : l < 4) : ownF s l ≤ 30 := of_decide_eq_true (all20 (P := fun s l => decide (ownF s l ≤ 30)) (by decide +kernel) hs hl)
theorem ck_le {s l : Nat} (hs : s < 5) (hl : l < 4) : ckF s l ≤ 30 := of_decide_eq_true (all20 (P := fun s l => decide (ckF s l ≤ 30)) (by decide +kernel) hs hl)
theorem long_le {s : Nat} (hs : s < 5) : (longF s).length ≤ 3 := of_decide_eq_true (all5 (P := fun s => decide ((longF s).length ≤ 3)) (by decide +kernel) hs)
theorem flat_vN (ys : List Nat) : (ys.map vN).all flatV = true := by
  rw [List.all_map]
  exact List.all_eq_true.mpr fun _ _ => rfl
theorem inV_vN (n : Nat) : ∀ xs : List Nat, inV (vN n) (xs.map vN) = decide (n ∈ xs)
  | [] => rfl
  | x :: xs => by
    have ih := inV_vN n xs
    unfold inV at ih ⊢
    rw [List.map_cons, List.any_cons, ih]
    have e : eqV (vN x) (vN n) = decide (n = x) := by
      show ((x : Int) == (n : Int)) = _
      by_cases h : n = x
      · subst h; simp
      · rw [decide_eq_false h, beq_eq_false_iff_ne]
        omega
    rw [e]
    by_cases h : n = x <;> simp [h]
theorem blk_pos {s : Nat} (hs : s < 5) : 0 < (blkF s).length := of_decide_eq_true (all5 (P := fun s => decide (0 < (blkF s).length)) (by decide +kernel) hs)
theorem blk_le {s : Nat} (hs : s < 5) : (blkF s).length ≤ 3 := of_decide_eq_true (all5 (P := fun s => decide ((blkF s).length ≤ 3)) (by decide +kernel) hs)
theorem min_is {s : Nat} {m : Int} (hs : s < 5) (hm : m ∈ (blkF s).map fun n : Nat => (n : Int)) (h : ∀ y ∈ (blkF s).map fun n : Nat => (n : Int), m ≤ y) : m = (minF s : Int) := by
  have : s = 0 ∨ s = 1 ∨ s = 2 ∨ s = 3 ∨ s = 4 := by omega
  rcases this with rfl | rfl | rfl | rfl | rfl
  · have e : m = 4 := by simpa [blkF, blksL] using hm
    exact e
  · have e : m = 10 := by simpa [blkF, blksL] using hm
    exact e
  · have e : m = 22 := by simpa [blkF, blksL] using hm
    exact e
  · have e : m = 19 := by simpa [blkF, blksL] using hm
    exact e
  · have e : m = 20 ∨ m = 19 := by simpa [blkF, blksL] using hm
    have e2 := h 19 (by simp [blkF, blksL])
    have e3 : minF 4 = 19 := by decide
    rw [e3]
    omega
theorem own_is {s l : Nat} (hs : s < 5) (hl : l < 4) : (minF s : Int) - (ckF s l : Int) = (ownF s l : Int) :=
  of_decide_eq_true (all20 (P := fun s l => decide ((minF s : Int) - (ckF s l : Int) = (ownF s l : Int))) (by decide +kernel) hs hl)
def moreF (s l b : Nat) : List Nat := if b ∈ longF s then [(blkF s).length * ownF s l + b] else []
def firstF (s l b : Nat) : Nat := (blkF s).length * ownF s l + (longF s).length + b
theorem place_is (s l b : Nat) : placeF s l b = stepsF b (ownF s l) (blkF s).length ++ moreF s l b ++ stepsF (firstF s l b) (ckF s l) (blkF s).length := rfl
instance {i j c : Int} {n : Nat} : Decidable (RgC i j c n) := by unfold RgC; infer_instance
theorem rgs {s l b : Nat} (hs : s < 5) (hl : l < 4) (hb : b < (blkF s).length) : RgC (b : Int) ((blkF s).length * (ownF s l : Int)) ((blkF s).length : Int) (ownF s l) ∧
    RgC (firstF s l b : Int) ((firstF s l b : Int) + (blkF s).length * (ckF s l : Int)) ((blkF s).length : Int) (ckF s l) := by
  have h := all20 (P := fun s l => (List.range (blkF s).length).all fun b => decide (RgC (b : Int) ((blkF s).length * (ownF s l : Int)) ((blkF s).length : Int) (ownF s l)) && decide (RgC (firstF s l b : Int) ((firstF s l b : Int) + (blkF s).length * (ckF s l : Int)) ((blkF s).length : Int) (ckF s l))) (by decide +kernel) hs hl
  have h2 := List.all_eq_true.mp h b (List.mem_range.mpr hb)
  rw [Bool.and_eq_true] at h2
  exact ⟨of_decide_eq_true h2.1, of_decide_eq_true h2.2⟩
theorem rng_is (a n c : Nat) : (rngL (a : Int) (c : Int) n).map V.int = (stepsF a n c).map vN := by
  unfold rngL stepsF
  rw [List.map_map, List.map_map]
  refine List.map_congr_left fun k _ => ?_
  show V.int ((a : Int) + (k : Int) * (c : Int)) = V.int ((a + k * c : Nat) : Int)
  congr 1
theorem FrI.ext {H H' H2 : Hp} {D : Addr} {L : List Addr} {g : Grid} {i : Nat} (F : FrI H H' D L g i) (s : Same H' H2) : FrI H H2 D L g i :=
  ⟨F.same.trans s, s _ _ F.out, F.len, fun j l r e1 e2 => let ⟨q1, q2, q3⟩ := F.row j l r e1 e2; ⟨q1, q2, s _ _ q3⟩⟩
theorem more_le (s l b : Nat) : (moreF s l b).length ≤ 1 := by
  unfold moreF
  split <;> simp
def sp_bp : Sp := fun vs H Q _ => ∃ s l : Nat, vs = [.int ((s : Int) + 1), vN l] ∧ s < 5 ∧ l < 4 ∧ ∀ D H', Fr H H' D (gridN (placesF s l)) → Q (.ref D) H'
theorem ok_block_places (T : Txt K mg) : FnOk P w K mg base CX0 1 T.f_block_places T.d_block_places ["size", "level"] (sp_bp) := by
  refine T.F_block_places.ok sc_block_places (fun vs H Q E h => ?_) (fun cdv A outer s H vs Q E hr h => ?_)
  · obtain ⟨s, l, rfl, _⟩ := h
    rfl
  · obtain ⟨s0, l0, rfl, hs, hl, q⟩ := h
    refine ⟨_, (pss_cons (ps_set (i := 2) sc_block_places.nd rfl (.inr rfl) (pe_ix ix_rowB (pe_glob (v := .ref T.a_BLOCKS) (by rfl) T.g_BLOCKS rfl) (pe_op op_sub (pv 0) pe_int) (fun _ _ => rfl)))
      (pss_cons (ps_set (i := 3) sc_block_places.nd rfl (.inl rfl) (pe_callB call_len_seq (by rfl) T.n_len (by decide +kernel) (pa_cons (pv 2) pa_nil)))
      (pss_cons (ps_set (i := 4) sc_block_places.nd rfl (.inl rfl) (pe_ix ix_rowB (pe_ix ix_rowB (pe_glob (v := .ref T.a_CHECKS) (by rfl) T.g_CHECKS rfl) (pe_op op_sub (pv 0) pe_int) (fun _ _ => rfl)) (pv 1) (fun _ _ => rfl)))
      (pss_cons (ps_set (i := 5) sc_block_places.nd rfl (.inl rfl) (pe_op op_sub (pe_callB (cr_minTK (K := K) rfl rfl) (by rfl) T.n_min (by decide +kernel) (pa_cons (pv 2) pa_nil)) (pv 4)))
      (pss_cons (ps_setLc (i := 7) (own := [("block", 6), ("words", 11)]) (g := gTup K 2 (gCons (gName 6) (gCons (gName 11) gNil))) rfl sc_block_places.nd rfl rfl (sw_true rfl rfl rfl (by decide +kernel)) (pi_enumS (by rfl) T.n_enumerate (pa_cons (pv 2) pa_nil)) (blkOk_by (N := ["size", "level", "blocks", "many", "checks", "own", "block", "longer", "found", "more", "first_check", "words"]) (sc := defScope s_block_places) (by decide +kernel)) (fun _ _ _ _ _ => by (refine pg_tup ?_ ?_); (exact rfl); (refine pgs_cons ?_ ?_); (exact (pg_name (i := 6) sc_block_places.nd rfl (.inl rfl))); (refine pgs_cons ?_ ?_); (exact (pg_name (i := 11) sc_block_places.nd rfl (.inl rfl))); (exact pgs_nil)) (fun _ _ _ _ _ => by exact (pts_one (pt_cmpR op_gt (pv 11) (pe_callB (cr_minTK (K := K) rfl rfl) (by rfl) T.n_min (by decide +kernel) (pa_cons (pv 2) pa_nil)) (nomark _)))) (fun _ _ _ _ _ => by exact (pv 6)))
      (pss_cons (ps_set (i := 8) sc_block_places.nd rfl (.inl rfl) (pe_lst pa_nil))
      (pss_cons (ps_for PassesOwn.never rfl (pi_range1 (by rfl) T.n_range (pa_cons (pv 3) pa_nil)) (pg_name (i := 6) sc_block_places.nd rfl (.inl rfl)) (Evl.pss_cut (ps_set (i := 9) sc_block_places.nd rfl (.inl rfl) (pe_ifExp (pt_cmpR op_in_seq (pv 6) (pv 7) (by rfl)) (pe_lst (pa_cons (pe_op op_add (pe_op op_mul (pv 3) (pv 5)) (pv 6)) pa_nil)) (pe_lst pa_nil)))
      (Evl.pss_cut (ps_set (i := 10) sc_block_places.nd rfl (.inl rfl) (pe_op op_add (pe_op op_add (pe_op op_mul (pv 3) (pv 5)) (pe_callB call_len_seq (by rfl) T.n_len (by decide +kernel) (pa_cons (pv 7) pa_nil))) (pv 6)))
      (pss_one (ps_expr (pe_bm PySem.F.plainAttrs_list PySem.F.slot_list_append PySem.F.type_list_append mt_append (pv 8) (pa_cons (pe_op op_cat (pe_op op_cat (pe_callTy (cr_listR rfl) (by rfl) T.n_list (by decide +kernel) (pa_cons (pe_callTy cr_range3 (by rfl) T.n_range (by decide +kernel) (pa_cons (pv 6) (pa_cons (pe_op op_mul (pv 3) (pv 5)) (pa_cons (pv 3) pa_nil)))) pa_nil)) (pv 9)) (pe_callTy (cr_listR rfl) (by rfl) T.n_list (by decide +kernel) (pa_cons (pe_callTy cr_range3 (by rfl) T.n_range (by decide +kernel) (pa_cons (pv 10) (pa_cons (pe_op op_add (pv 10) (pe_op op_mul (pv 3) (pv 4))) (pa_cons (pv 3) pa_nil)))) pa_nil))) pa_nil)))))))
      (pss_one (ps_ret (pv 8)))))))))), ?_⟩
    obtain ⟨c, hc, hC⟩ := blk_at T hs
    obtain ⟨c2, hc2, hC2⟩ := chk_at T hs
    have e1 : (s0 : Int) + 1 - 1 = (s0 : Int) := by omega
    refine ⟨_, rfl, _, _, rfl, rfl, T.a_BLOCKS, _, _, .ref c, false, rfl, rfl, T.l_BLOCKS.sq (by show 5 ≤ 1000; decide), by rw [e1]; exact hc, ?_⟩
    refine ⟨_, rfl, c, _, rfl, .inr (hC _), ?_⟩
    refine ⟨_, rfl, _, _, rfl, rfl, T.a_CHECKS, _, _, .ref c2, false, rfl, rfl, T.l_CHECKS.sq (by show 5 ≤ 1000; decide), by rw [e1]; exact hc2, ?_⟩
    refine ⟨_, rfl, c2, _, _, vN (ckF s0 l0), false, rfl, rfl, hC2 _, ck_at hs hl, ?_⟩
    rw [List.length_map]
    refine ⟨_, rfl, c, (blkF s0).map fun n : Nat => (n : Int), rfl, by rw [← vN_ints]; exact hC _, by rw [List.length_map]; exact blk_pos hs, fun m hm hle => ?_⟩
    obtain rfl := min_is hs hm hle
    refine ⟨_, rfl, _, _, rfl, rfl, ?_⟩
    have eo : (fun i j : Int => V.int (i - j)) (minF s0 : Int) (ckF s0 l0 : Int) = vN (ownF s0 l0) := congrArg V.int (own_is hs hl)
    rw [eo]
    refine ⟨_, rfl, c, _, false, rfl, hC _, fun D hD => ?_⟩
    refine lc_it (walk_enumS (b := false) (K := K) (a := c) (xs := (blkF s0).map vN)) (fun i H' => Same H H' ∧ H' D = some (.lst (((List.range i).filter fun b => decide (minF s0 < (blkF s0).getD b 0)).map vN))) ⟨same_upd hD, upd_same⟩ (fun i H' _ h => hC _) ?_ ?_
    · rintro i v H1 H2 hi ⟨sm, g⟩ ⟨T1, x1, y1, rfl, hT1, rfl, e1, e2⟩
      rw [List.length_map] at hi
      have ex : x1 = .int (i : Int) := (Option.some.inj e1).symm
      replace e2 : ((blkF s0).map vN)[i]? = some y1 := e2
      rw [List.getElem?_map, List.getElem?_eq_getElem hi] at e2
      obtain rfl := (Option.some.inj e2).symm
      subst ex
      have sT := same_upd (o := .tup [.int (i : Int), vN (blkF s0)[i]]) hT1
      refine ⟨T1, [_, _], rfl, .inl (.inl upd_same), rfl, _, [_], rfl, _, [], rfl, rfl, rfl, ?_⟩
      refine ⟨_, rfl, _, rfl, c, (blkF s0).map fun n : Nat => (n : Int), rfl, by rw [← vN_ints]; exact hC _, by rw [List.length_map]; exact blk_pos hs, fun m hm hle => ?_⟩
      obtain rfl := min_is hs hm hle
      refine ⟨_, _, rfl, rfl, _, rfl, ?_⟩
      have ed : decide ((minF s0 : Int) < (((blkF s0)[i] : Nat) : Int)) = decide (minF s0 < (blkF s0).getD i 0) := by
        rw [getD_in hi]
        exact decide_eq_decide.mpr Int.ofNat_lt
      have l3 := blk_le hs
      rw [ed]
      cases hp : decide (minF s0 < (blkF s0).getD i 0) with
      | true => exact iteT ⟨_, rfl, acc_yes (P := fun b => decide (minF s0 < (blkF s0).getD b 0)) (sm.trans sT) hD (sT _ _ g) (by omega) hp⟩
      | false =>
        refine iteF ⟨sm.trans sT, ?_⟩
        rw [acc_no (P := fun b => decide (minF s0 < (blkF s0).getD b 0)) hp]
        exact sT _ _ g
    rintro H1 ⟨s1, hL⟩
    rw [List.length_map] at hL
    replace hL : H1 D = some (.lst ((longF s0).map vN)) := hL
    have l3 := blk_le hs
    have o30 := own_le hs hl
    have k30 := ck_le hs hl
    have lg3 := long_le hs
    refine ⟨(by show 0 ≤ sizeLine; decide), fun F hF => ?_⟩
    refine ⟨_, rfl, ((blkF s0).length : Int), rfl, by omega, by omega, ?_⟩
    refine for_range (lo := 0) (n := (blkF s0).length) (fun i σ H' => ∃ (z6 z9 z10 z11 : Option V) (M : List Addr), σ = [some (.int ((s0 : Int) + 1)), some (vN l0), some (.ref c), some (.int (blkF s0).length), some (vN (ckF s0 l0)), some (vN (ownF s0 l0)), z6, some (.ref D), some (.ref F), z9, z10, z11] ∧ FrI H1 H' F M (gridN (placesF s0 l0)) i) ⟨_, _, _, _, [], rfl, FrI.start hF⟩ ?_ ?_
    · rintro i σ H2 hi ⟨z6, z9, z10, z11, M, rfl, FI⟩
      have hL2 := FI.same _ _ hL
      have e0 : V.int (0 + (i : Int)) = vN i := by rw [Int.zero_add]; rfl
      rw [e0]
      refine ⟨fun σ' H' => ∃ p : Addr, σ' = [some (.int ((s0 : Int) + 1)), some (vN l0), some (.ref c), some (.int (blkF s0).length), some (vN (ckF s0 l0)), some (vN (ownF s0 l0)), some (vN i), some (.ref D), some (.ref F), some (.ref p), z10, z11] ∧ Same H2 H' ∧ H2 p = none ∧ H' p = some (.lst ((moreF s0 l0 i).map vN)), ?_, ?_⟩
      · refine ⟨_, rfl, _, rfl, D, _, rfl, .inl (.inl (.inl hL2)), rfl, flat_vN _, _, rfl, ?_⟩
        rw [inV_vN]
        refine ite2 (fun hm => ?_) (fun hm => ?_)
        · refine ⟨_, rfl, _, rfl, _, _, rfl, rfl, .inl ⟨by omega, by omega⟩, _, rfl, _, _, rfl, rfl, (by show 1 ≤ sizeLine; decide), fun p hp => ⟨p, rfl, same_upd hp, hp, ?_⟩⟩
          rw [upd_same]
          unfold moreF
          rw [if_pos (of_decide_eq_true hm)]
          have e : ((blkF s0).length : Int) * (ownF s0 l0 : Int) + (i : Int) = (((blkF s0).length * ownF s0 l0 + i : Nat) : Int) := by push_cast; rfl
          show some (HO.lst [V.int _]) = _
          rw [e]
          rfl
        · refine ⟨(by show 0 ≤ sizeLine; decide), fun p hp => ⟨p, rfl, same_upd hp, hp, ?_⟩⟩
          rw [upd_same]
          unfold moreF
          rw [if_neg (fun h => hm (decide_eq_true h))]
          rfl
      rintro σ H3 ⟨p, rfl, s3, hp0, hp⟩
      refine ⟨fun σ' H' => σ' = [some (.int ((s0 : Int) + 1)), some (vN l0), some (.ref c), some (.int (blkF s0).length), some (vN (ckF s0 l0)), some (vN (ownF s0 l0)), some (vN i), some (.ref D), some (.ref F), some (.ref p), some (vN (firstF s0 l0 i)), z11] ∧ H' = H3, ?_, ?_⟩
      · refine ⟨_, rfl, _, rfl, _, _, rfl, rfl, .inl ⟨by omega, by omega⟩, _, rfl, D, _, rfl, .inl (.inl (.inl (s3 _ _ hL2))), _, _, rfl, rfl, _, rfl, _, _, rfl, rfl, ?_⟩
        rw [List.length_map]
        have e : ((blkF s0).length : Int) * (ownF s0 l0 : Int) + ((longF s0).length : Int) + (i : Int) = ((firstF s0 l0 i : Nat) : Int) := by unfold firstF; push_cast; rfl
        refine ⟨?_, rfl⟩
        show List.set _ 10 (some (V.int _)) = _
        rw [e]
        rfl
      rintro σ H4 ⟨rfl, rfl⟩
      obtain ⟨r1, r2⟩ := rgs hs hl hi
      have F4 := FI.ext s3
      have m1 := more_le s0 l0 i
      have ln : ∀ (a c : Int) (n : Nat), ((rngL a c n).map V.int).length = n := fun a c n => by unfold rngL; rw [List.length_map, List.length_map, List.length_range]
      refine ⟨_, rfl, .inl ⟨rfl, _, .inl (.inl F4.out)⟩, ?_⟩
      refine ⟨_, rfl, _, rfl, _, rfl, _, _, rfl, rfl, .inl ⟨by omega, by omega⟩, _, rfl, _, _, _, _, rfl, r1, fun g1 hg1 => ?_⟩
      refine ⟨g1, _, _, _, _, rfl, upd_same, r1, by omega, fun l1 hl1 => ?_⟩
      have sb := (same_upd hg1).trans (same_upd (o := .lst ((rngL (i : Int) ((blkF s0).length : Int) (ownF s0 l0)).map V.int)) hl1)
      refine ⟨_, rfl, l1, p, _, _, rfl, rfl, upd_same, sb _ _ hp, ?_, fun l2 hl2 => ?_⟩
      · rw [ln, List.length_map]
        exact Nat.le_of_lt (small1000 (by omega))
      have sd := sb.trans (same_upd (o := .lst ((rngL (i : Int) ((blkF s0).length : Int) (ownF s0 l0)).map V.int ++ (moreF s0 l0 i).map vN)) hl2)
      refine ⟨_, rfl, _, rfl, _, rfl, _, rfl, _, _, rfl, rfl, .inl ⟨by omega, by omega⟩, _, _, rfl, rfl, _, rfl, _, _, _, _, rfl, r2, fun g2 hg2 => ?_⟩
      refine ⟨g2, _, _, _, _, rfl, upd_same, r2, by omega, fun l3 hl3 => ?_⟩
      have se := (same_upd hg2).trans (same_upd (o := .lst ((rngL (firstF s0 l0 i : Int) ((blkF s0).length : Int) (ckF s0 l0)).map V.int)) hl3)
      refine ⟨l2, l3, _, _, rfl, rfl, se _ _ upd_same, upd_same, ?_, fun l4 hl4 => ?_⟩
      · rw [List.length_append, ln, ln, List.length_map]
        exact Nat.le_of_lt (small1000 (by omega))
      have sf := (sd.trans se).trans (same_upd (o := .lst ((rngL (i : Int) ((blkF s0).length : Int) (ownF s0 l0)).map V.int ++ (moreF s0 l0 i).map vN ++ (rngL (firstF s0 l0 i : Int) ((blkF s0).length : Int) (ckF s0 l0)).map V.int)) hl4)
      refine ⟨F, _, _, rfl, rfl, sf _ _ F4.out, ?_, ?_⟩
      · rw [List.length_map, F4.len]
        exact small1000 (by omega)
      refine ⟨_, _, _, _, _, rfl, F4.step (c := l4) (r := ofN (placeF s0 l0 i)) hF ?_ sf (Same.free (sd.trans se) hl4) ?_⟩
      · unfold gridN placesF
        rw [List.map_map, List.getElem?_map, List.getElem?_range hi]
        rfl
      · rw [upd_same, ofN_v, place_is, List.map_append, List.map_append, ← rng_is, ← rng_is]
    · rintro σ H2 ⟨z6, z9, z10, z11, M, rfl, FI⟩
      have e : (gridN (placesF s0 l0)).length = (blkF s0).length := by unfold gridN placesF; rw [List.length_map, List.length_map, List.length_range]
      exact ⟨_, rfl, q F H2 (Fr.back ⟨hF, M, by rw [e]; exact FI⟩ s1)⟩
/-! CUT -/
def Kp (p : Addr) (H H' : Hp) : Prop := ∀ b o, H b = some o → b ≠ p → H' b = some o
theorem Kp.upd {p : Addr} {H : Hp} {o : HO} : Kp p H (upd H p o) := fun b u e n => by
  rw [upd_ne n]
  exact e
theorem Kp.trans {p : Addr} {H H1 H2 : Hp} (a : Kp p H H1) (b : Kp p H1 H2) : Kp p H H2 := fun c o e n => b c o (a c o e n) n
theorem Same.kp {p : Addr} {H H1 : Hp} (a : Same H H1) : Kp p H H1 := fun c o e _ => a c o e
theorem Kp.sqb {p a : Addr} {k : Bool} {K : PySem.W.Frag} {H H' : Hp} {xs ys : List V} (kp : Kp p H H') (hp : H p = some (.lst ys)) (hne : xs ≠ ys) (h : SqB k K H a xs) : SqB k K H' a xs := by
  cases k
  · rcases h with (h | ⟨o, h⟩) | h
    · exact .inl (.inl (kp _ _ h (fun e => by rw [e, hp] at h; cases h)))
    · exact .inl (.inr ⟨o, kp _ _ h (fun e => by rw [e, hp] at h; cases h)⟩)
    · exact .inr h
  · rcases h with (h | ⟨o, h⟩) | h
    · exact .inl (.inl (kp _ _ h (fun e => by rw [e, hp] at h; cases h; exact hne rfl)))
    · exact .inl (.inr ⟨o, kp _ _ h (fun e => by rw [e, hp] at h; cases h)⟩)
    · exact .inr h
def sp_dw (K : PySem.W.Frag) : Sp := fun vs H Q _ => ∃ (s l : Nat) (a : Addr) (k : Bool) (rows : List (List Nat)), vs = [.int ((s : Int) + 1), vN l, .ref a] ∧ s < 5 ∧ l < 4 ∧ GrB k K H a (gridN rows) ∧ RowsOk s rows ∧ ∀ D H', Same H H' → H D = none → H' D = some (.lst ((dueF s l rows).map vN)) → Q (.ref D) H'
theorem ok_dealt_words (T : Txt K mg) : FnOk P w K mg base CX0 5 T.f_dealt_words T.d_dealt_words ["size", "level", "blocks"] (sp_dw K) := by
  refine T.F_dealt_words.ok sc_dealt_words (fun vs H Q E h => ?_) (fun cdv A outer s H vs Q E hr h => ?_)
  · obtain ⟨s, l, a, k, rows, rfl, _⟩ := h
    rfl
  · obtain ⟨s0, l0, a, k, rows, rfl, hs, hl, ha, hR, q⟩ := h
    refine ⟨_, (pss_cons (ps_set (i := 3) sc_dealt_words.nd rfl (.inl rfl) (pe_op op_rep (pe_lst (pa_cons pe_non pa_nil)) (pe_call (ok_word_count T) (hr.mono (by decide)) (by rfl) T.g_word_count T.F_word_count.kp T.b_word_count .nil pass0 (pa_cons (pv 0) pa_nil))))
      (pss_cons (ps_for PassesOwn.never rfl (pi_zipB (K := K) rfl (by rfl) T.n_zip (pa_cons (pe_call (ok_block_places T) (hr.mono (by decide)) (by rfl) T.g_block_places T.F_block_places.kp T.b_block_places .nil pass0 (pa_cons (pv 0) (pa_cons (pv 1) pa_nil))) (pa_cons (pv 2) pa_nil))) (pg_tup rfl (pgs_cons (pg_name (i := 4) sc_dealt_words.nd rfl (.inl rfl)) (pgs_cons (pg_name (i := 5) sc_dealt_words.nd rfl (.inl rfl)) pgs_nil))) (pss_one (ps_for PassesOwn.never rfl (pi_zipB (K := K) rfl (by rfl) T.n_zip (pa_cons (pv 4) (pa_cons (pv 5) pa_nil))) (pg_tup rfl (pgs_cons (pg_name (i := 6) sc_dealt_words.nd rfl (.inl rfl)) (pgs_cons (pg_name (i := 7) sc_dealt_words.nd rfl (.inl rfl)) pgs_nil))) (pss_one (ps_asg (pv 7) (pg_sub (pv 3) (pv 6) set_list))))))
      (pss_one (ps_ret (pv 3))))), ?_⟩
    have tl := tot_le hs
    have tp := tot_pos hs
    refine ⟨(by show 1 ≤ sizeLine; decide), fun w0 hw0 => ⟨_, rfl, s0, rfl, hs, fun H1 s1 => ?_⟩⟩
    refine ⟨w0, _, _, rfl, rfl, s1 _ _ upd_same, by omega, by omega, ?_, fun D hD => ?_⟩
    · rw [Int.toNat_natCast]
      exact Nat.le_of_lt (small1000 (by show 1 * totF s0 ≤ 1000; omega))
    rw [Int.toNat_natCast, rep1]
    have sD := ((same_upd hw0).trans s1).trans (same_upd (o := .lst (List.replicate (totF s0) V.non)) hD)
    have gD := upd_same (H := H1) (a := D) (o := .lst (List.replicate (totF s0) V.non))
    have fD : H D = none := Same.free ((same_upd hw0).trans s1) hD
    generalize upd H1 D (.lst (List.replicate (totF s0) V.non)) = HD at sD gD ⊢
    refine ⟨_, rfl, _, rfl, s0, l0, rfl, hs, hl, fun P1 H2 F1 => ?_⟩
    obtain ⟨hP, LP, FP⟩ := F1
    have s2 := sD.trans FP.same
    have gD2 := FP.same _ _ gD
    obtain ⟨La, h1, h2, h3⟩ := ha.ex
    have lP : LP.length = (blkF s0).length := by rw [FP.len]; unfold gridN placesF; rw [List.length_map, List.length_map, List.length_range]
    have lA : La.length = (blkF s0).length := by rw [h2]; unfold gridN; rw [List.length_map, hR.len]
    have q1 : SqB true K H2 P1 (LP.map V.ref) := .lst FP.out
    have q2 := Same.sqb s2 h1
    refine ⟨_, rfl, P1, a, _, _, k, rfl, q1, q2, ?_⟩
    refine for_it (walk_zipB (n := (blkF s0).length) (ka := true) (kb := k) (K := K) (a := P1) (b := a) (xs := LP.map V.ref) (ys := La.map V.ref) (by rw [List.length_map, List.length_map, lP, lA, Nat.min_self])) (fun i σ H' => ∃ (z4 z5 z6 z7 : Option V) (W : List (Option Nat)), σ = [some (.int ((s0 : Int) + 1)), some (vN l0), some (.ref a), some (.ref D), z4, z5, z6, z7] ∧ Kp D H2 H' ∧ H' D = some (.lst (W.map vG)) ∧ DealtW s0 l0 rows i 0 W)
      ⟨_, _, _, _, _, rfl, Same.kp (Same.refl _), by rw [List.map_replicate]; exact gD2, DealtW.start _ _ _⟩ (fun i σ H' _ ⟨_, _, _, _, _, _, kp, _⟩ => ⟨Kp.sqb kp gD2 (refs_ne tp) q1, Kp.sqb kp gD2 (refs_ne tp) q2⟩) ?_ ?_
    · rintro i x σ H3 H4 hi ⟨z4, z5, z6, z7, W, rfl, kp, gW, dw⟩ ⟨T1, x1, y1, rfl, hT, rfl, e1, e2⟩
      have eP : LP[i]? = some (LP[i]'(by omega)) := List.getElem?_eq_getElem _
      have eA : La[i]? = some (La[i]'(by omega)) := List.getElem?_eq_getElem _
      generalize LP[i]'(by omega) = lp at eP
      generalize La[i]'(by omega) = la at eA
      replace e1 : (LP.map V.ref)[i]? = some x1 := e1
      replace e2 : (La.map V.ref)[i]? = some y1 := e2
      rw [List.getElem?_map, eP] at e1
      rw [List.getElem?_map, eA] at e2
      obtain rfl := (Option.some.inj e1).symm
      obtain rfl := (Option.some.inj e2).symm
      obtain ⟨r, er, lr, eg, hr4⟩ := hR.row hi
      have qp : SqB true K H2 lp ((placeF s0 l0 i).map vN) := by
        have := (FP.row i lp (ofN (placeF s0 l0 i)) eP (by unfold gridN placesF; rw [List.map_map, List.getElem?_map, List.getElem?_range hi]; rfl)).2.2
        rw [ofN_v] at this
        exact .lst this
      have qa : SqB k K H2 la (r.map vN) := by
        have := h3 i la (ofN r) eA (by unfold gridN; rw [List.getElem?_map, er]; rfl)
        rw [ofN_v] at this
        exact Same.sqb s2 this
      have sT := same_upd (o := .tup [V.ref lp, V.ref la]) hT
      refine ⟨T1, [_, _], rfl, .inl (.inl upd_same), rfl, _, [_], rfl, _, [], rfl, rfl, ?_⟩
      generalize (upd H3 T1 (.tup [V.ref lp, V.ref la])) = H5 at sT ⊢
      have kp5 : Kp D H2 H5 := kp.trans (Same.kp sT)
      have gW5 := sT _ _ gW
      refine ⟨_, rfl, _, rfl, lp, la, _, _, k, rfl, Kp.sqb kp5 gD2 (words_ne tp) qp, Kp.sqb kp5 gD2 (words_ne tp) qa, ?_⟩
      have lpl := place_len hs hl hi
      refine for_it (walk_zipB (n := (blkF s0).getD i 0) (ka := true) (kb := k) (K := K) (a := lp) (b := la) (xs := (placeF s0 l0 i).map vN) (ys := r.map vN) (by rw [List.length_map, List.length_map, lpl, lr, Nat.min_self])) (fun j σ H' => ∃ (z6 z7 : Option V) (W : List (Option Nat)), σ = [some (.int ((s0 : Int) + 1)), some (vN l0), some (.ref a), some (.ref D), some (.ref lp), some (.ref la), z6, z7] ∧ Kp D H2 H' ∧ H' D = some (.lst (W.map vG)) ∧ DealtW s0 l0 rows i j W)
        ⟨_, _, W, rfl, kp5, gW5, dw⟩ (fun j σ H' _ ⟨_, _, _, _, kp, _⟩ => ⟨Kp.sqb kp gD2 (words_ne tp) qp, Kp.sqb kp gD2 (words_ne tp) qa⟩) ?_ ?_
      · rintro j x σ H6 H7 hj ⟨z6, z7, W6, rfl, kp6, gW6, dw6⟩ ⟨T2, x2, y2, rfl, hT2, rfl, e3, e4⟩
        replace e3 : ((placeF s0 l0 i).map vN)[j]? = some x2 := e3
        replace e4 : (r.map vN)[j]? = some y2 := e4
        rw [List.getElem?_map, List.getElem?_eq_getElem (by omega)] at e3
        rw [List.getElem?_map, List.getElem?_eq_getElem (by omega)] at e4
        have ex : x2 = vN ((placeF s0 l0 i).getD j 0) := by rw [getD_in (by omega)]; exact (Option.some.inj e3).symm
        have ey : y2 = vG (some ((rows.getD i []).getD j 0)) := by rw [eg, getD_in (by omega)]; exact (Option.some.inj e4).symm
        subst ex ey
        clear e3 e4
        have sT2 := same_upd (o := .tup [vN ((placeF s0 l0 i).getD j 0), vG (some ((rows.getD i []).getD j 0))]) hT2
        refine ⟨T2, [_, _], rfl, .inl (.inl upd_same), rfl, _, [_], rfl, _, [], rfl, rfl, ?_⟩
        generalize (upd H6 T2 (.tup [vN ((placeF s0 l0 i).getD j 0), vG (some ((rows.getD i []).getD j 0))])) = H8 at sT2 ⊢
        have gW8 := sT2 _ _ gW6
        have pin := place_in hs hl hi hj
        refine ⟨_, rfl, _, rfl, _, rfl, D, _, _, (placeF s0 l0 i).getD j 0, rfl, rfl, gW8, ?_, ?_⟩
        · exact ixN_nat (by rw [List.length_map, dw6.len]; exact pin.1)
        · refine ⟨_, _, _, rfl, (kp6.trans (Same.kp sT2)).trans Kp.upd, ?_, dw6.step hs hl hi hj⟩
          rw [upd_same, List.map_set]
      · rintro σ H6 ⟨z6, z7, W6, rfl, kp6, gW6, dw6⟩
        exact ⟨_, _, _, _, W6, rfl, kp6, gW6, dw6.next (Nat.le_refl _)⟩
    · rintro σ H3 ⟨z4, z5, z6, z7, W, rfl, kp, gW, dw⟩
      have eW := dw.done hs hl
      subst eW
      rw [ofN_v] at gW
      refine ⟨_, rfl, q D H3 (fun b o hb => kp b o (s2 b o hb) (ne_of_none hb fD)) fD gW⟩
def backF (s l : Nat) (ws : List (Option Nat)) : Grid := (placesF s l).map fun ps => ps.map fun i => ws.getD i none
/-! CUT -/
/-! CUT -/
theorem quads_at (T : Txt K mg) {w : Nat} (hw : w < 16) : ∃ c, atI ([T.c_QUADS0, T.c_QUADS1, T.c_QUADS2, T.c_QUADS3, T.c_QUADS4, T.c_QUADS5, T.c_QUADS6, T.c_QUADS7, T.c_QUADS8, T.c_QUADS9, T.c_QUADS10, T.c_QUADS11, T.c_QUADS12, T.c_QUADS13, T.c_QUADS14, T.c_QUADS15].map V.ref) (w : Int) = some (.ref c) ∧ ∀ H, SqT K H c ((bitsW 4 w).map vN) := by
  have : w = 0 ∨ w = 1 ∨ w = 2 ∨ w = 3 ∨ w = 4 ∨ w = 5 ∨ w = 6 ∨ w = 7 ∨ w = 8 ∨ w = 9 ∨ w = 10 ∨ w = 11 ∨ w = 12 ∨ w = 13 ∨ w = 14 ∨ w = 15 := by omega
  rcases this with rfl | rfl | rfl | rfl | rfl | rfl | rfl | rfl | rfl | rfl | rfl | rfl | rfl | rfl | rfl | rfl
  · exact ⟨T.c_QUADS0, rfl, fun H => tupB_ok (xs := [0, 0, 0, 0]) T.t_QUADS0⟩
  · exact ⟨T.c_QUADS1, rfl, fun H => tupB_ok (xs := [0, 0, 0, 1]) T.t_QUADS1⟩
  · exact ⟨T.c_QUADS2, rfl, fun H => tupB_ok (xs := [0, 0, 1, 0]) T.t_QUADS2⟩
  · exact ⟨T.c_QUADS3, rfl, fun H => tupB_ok (xs := [0, 0, 1, 1]) T.t_QUADS3⟩
  · exact ⟨T.c_QUADS4, rfl, fun H => tupB_ok (xs := [0, 1, 0, 0]) T.t_QUADS4⟩
  · exact ⟨T.c_QUADS5, rfl, fun H => tupB_ok (xs := [0, 1, 0, 1]) T.t_QUADS5⟩
  · exact ⟨T.c_QUADS6, rfl, fun H => tupB_ok (xs := [0, 1, 1, 0]) T.t_QUADS6⟩
  · exact ⟨T.c_QUADS7, rfl, fun H => tupB_ok (xs := [0, 1, 1, 1]) T.t_QUADS7⟩
  · exact ⟨T.c_QUADS8, rfl, fun H => tupB_ok (xs := [1, 0, 0, 0]) T.t_QUADS8⟩
  · exact ⟨T.c_QUADS9, rfl, fun H => tupB_ok (xs := [1, 0, 0, 1]) T.t_QUADS9⟩
  · exact ⟨T.c_QUADS10, rfl, fun H => tupB_ok (xs := [1, 0, 1, 0]) T.t_QUADS10⟩
  · exact ⟨T.c_QUADS11, rfl, fun H => tupB_ok (xs := [1, 0, 1, 1]) T.t_QUADS11⟩
  · exact ⟨T.c_QUADS12, rfl, fun H => tupB_ok (xs := [1, 1, 0, 0]) T.t_QUADS12⟩
  · exact ⟨T.c_QUADS13, rfl, fun H => tupB_ok (xs := [1, 1, 0, 1]) T.t_QUADS13⟩
  · exact ⟨T.c_QUADS14, rfl, fun H => tupB_ok (xs := [1, 1, 1, 0]) T.t_QUADS14⟩
  · exact ⟨T.c_QUADS15, rfl, fun H => tupB_ok (xs := [1, 1, 1, 1]) T.t_QUADS15⟩
theorem and15 {w : Nat} (h : w < 256) : Builtin.bitAnd (w : Int) 15 = ((w % 16 : Nat) : Int) := by
  have q : ((List.range 256).all fun w => decide (Builtin.bitAnd (w : Int) 15 = ((w % 16 : Nat) : Int))) = true := by decide +kernel
  exact of_decide_eq_true (List.all_eq_true.mp q w (List.mem_range.mpr h))
def sp_wab (K : PySem.W.Frag) : Sp := fun vs H Q _ => ∃ (a : Addr) (k : Bool) (b : Nat) (ws : List Nat), vs = [.ref a, vN b] ∧ Wd b ∧ SqB k K H a (ws.map vN) ∧ (∀ x ∈ ws, x < span b) ∧ ws.length ≤ 100 ∧ ∀ D H', Same H H' → H D = none → H' D = some (.lst ((wordsB b ws).map vN)) → Q (.ref D) H'
theorem ok_words_as_bits (T : Txt K mg) : FnOk P w K mg base CX0 1 T.f_words_as_bits T.d_words_as_bits ["words", "many"] (sp_wab K) := by
  refine T.F_words_as_bits.ok sc_words_as_bits (fun vs H Q E h => ?_) (fun cdv A outer s H vs Q E hr h => ?_)
  · obtain ⟨a, k, b, ws, rfl, _⟩ := h
    rfl
  · obtain ⟨a, k, b, ws, rfl, hb, hq, hw, hl, q⟩ := h
    refine ⟨_, (pss_cons (ps_if (pt_cmpR op_eq (pv 1) pe_int (nomark _)) (pss_one (ps_ret (pe_lc2 (g := (gName 2)) (g1 := (gName 3)) (own := [("word", 2), ("bit", 3)]) (vs1 := [3]) rfl sc_words_as_bits.nd (pi_seq (pv 0)) (blkOk_by (N := ["words", "many", "word", "bit"]) (sc := defScope s_words_as_bits) (by decide +kernel)) (by decide) (fun _ _ _ _ _ => by exact (pg_name (i := 2) sc_words_as_bits.nd rfl (.inl rfl))) (fun _ _ _ _ _ => by exact pts_nil) (fun _ _ _ _ _ => by exact (pi_seqK (K := K) rfl (pe_ix (ix_rowBK (K := K) rfl) (pe_glob (v := .ref T.a_QUADS) (by rfl) T.g_QUADS rfl) (pv 2) (fun _ _ => rfl)))) (fun _ _ _ _ _ => by exact (pg_name (i := 3) sc_words_as_bits.nd rfl (.inl rfl))) (fun _ _ _ _ _ => by exact pts_nil) (fun _ _ _ _ _ => by exact (pv 3))))) pss_nil)
      (pss_one (ps_ret (pe_lc2 (g := (gName 2)) (g1 := (gName 3)) (own := [("word", 2), ("bit", 3)]) (vs1 := [3]) rfl sc_words_as_bits.nd (pi_seq (pv 0)) (blkOk_by (N := ["words", "many", "word", "bit"]) (sc := defScope s_words_as_bits) (by decide +kernel)) (by decide) (fun _ _ _ _ _ => by exact (pg_name (i := 2) sc_words_as_bits.nd rfl (.inl rfl))) (fun _ _ _ _ _ => by exact pts_nil) (fun _ _ _ _ _ => by exact (pi_seqK (K := K) rfl (pe_op (op_catTK (K := K) rfl) (pe_ix (ix_rowBK (K := K) rfl) (pe_glob (v := .ref T.a_QUADS) (by rfl) T.g_QUADS rfl) (pe_op op_shr (pv 2) pe_int) (fun _ _ => rfl)) (pe_ix (ix_rowBK (K := K) rfl) (pe_glob (v := .ref T.a_QUADS) (by rfl) T.g_QUADS rfl) (pe_op op_and (pv 2) pe_int) (fun _ _ => rfl))))) (fun _ _ _ _ _ => by exact (pg_name (i := 3) sc_words_as_bits.nd rfl (.inl rfl))) (fun _ _ _ _ _ => by exact pts_nil) (fun _ _ _ _ _ => by exact (pv 3)))))), ?_⟩
    have fin : ∀ (D : Addr) (H1 : Hp), H D = none → Same H H1 ∧ H1 D = some (.lst ((wordsB b (ws.take (ws.map vN).length)).map vN)) → Q (.ref D) H1 := fun D H1 hD h => by
      rw [List.length_map, List.take_length] at h
      exact q D H1 h.1 hD h.2
    have step : ∀ (i : Nat) (hi : i < ws.length), wordsB b (ws.take (i + 1)) = wordsB b (ws.take i) ++ bitsW b ws[i] := fun i hi => by
      rw [List.take_add_one, List.getElem?_eq_getElem hi]
      exact wordsB_snoc b _ _
    have len : ∀ i, (wordsB b (ws.take i)).length ≤ 800 := fun i => by
      rw [wordsB_len, List.length_take]
      have h1 : b ≤ 8 := by rcases hb with h | h <;> omega
      exact Nat.le_trans (Nat.mul_le_mul h1 (Nat.min_le_right i ws.length)) (by omega)
    rcases hb with rfl | rfl
    · refine ⟨_, rfl, rfl, _, rfl, ?_⟩
      refine iteT ?_
      refine ⟨_, rfl, a, _, k, rfl, hq, fun D hD => ?_⟩
      refine lc2_it (walk_seq (b := k) (K := K) (a := a) (xs := ws.map vN)) (fun i H' => Same H H' ∧ H' D = some (.lst ((wordsB 4 (ws.take i)).map vN))) ⟨same_upd hD, upd_same⟩ (fun i H' _ h => Same.sqb h.1 hq) ?_ (fun H1 h => fin D H1 hD h)
      rintro i v H1 H2 hi ⟨sm, g⟩ ⟨rfl, e2⟩
      rw [List.length_map] at hi
      rw [List.getElem?_map, List.getElem?_eq_getElem hi] at e2
      obtain rfl := (Option.some.inj e2).symm
      obtain ⟨c, hc, hC⟩ := quads_at T (hw _ (List.getElem_mem hi))
      refine ⟨rfl, iteT (B := Same H H2 ∧ H2 D = some (.lst ((wordsB 4 (ws.take (i + 1))).map vN))) ⟨_, rfl, T.a_QUADS, _, _, .ref c, false, rfl, rfl, T.l_QUADS.sq (by show 16 ≤ 1000; decide), hc, c, _, false, rfl, hC _, ?_⟩⟩
      refine lc_in (walk_seq (b := false) (K := K) (a := c) (xs := (bitsW 4 ws[i]).map vN)) (fun j H' => (Same H H' ∧ SqT K H' c ((bitsW 4 ws[i]).map vN)) ∧ H' D = some (.lst ((wordsB 4 (ws.take i) ++ (bitsW 4 ws[i]).take j).map vN))) ⟨⟨sm, hC _⟩, by rw [List.take_zero, List.append_nil]; exact g⟩ (fun j H' _ h => h.1.2) ?_ ?_
      · rintro j v H5 H6 hj ⟨⟨s3, q3⟩, g3⟩ ⟨rfl, e3⟩
        rw [List.length_map] at hj
        rw [List.getElem?_map, List.getElem?_eq_getElem hj] at e3
        obtain rfl := (Option.some.inj e3).symm
        have lj := len i
        have hj8 : j < 4 := by rw [bitsW_len] at hj; exact hj
        refine ⟨rfl, iteT (B := (Same H H6 ∧ SqT K H6 c ((bitsW 4 ws[i]).map vN)) ∧ H6 D = some (.lst ((wordsB 4 (ws.take i) ++ (bitsW 4 ws[i]).take (j + 1)).map vN))) ⟨_, rfl, _, g3, ?_, ⟨fun f o hf => ?_, ?_⟩, ?_⟩⟩
        · rw [List.length_map, List.length_append, List.length_take, bitsW_len]
          exact small1000 (by omega)
        · rw [upd_ne (ne_of_none hf hD)]
          exact s3 _ _ hf
        · exact hC _
        · have e : ∀ A : List Nat, A ++ (bitsW 4 ws[i]).take (j + 1) = (A ++ (bitsW 4 ws[i]).take j) ++ [(bitsW 4 ws[i])[j]] := fun A => by
            rw [List.take_add_one, List.getElem?_eq_getElem hj, ← List.append_assoc]
            rfl
          rw [upd_same, e]
          exact congrArg (fun z => some (HO.lst z)) (@List.map_append _ _ vN _ [(bitsW 4 ws[i])[j]]).symm
      · rintro H5 ⟨⟨s3, _⟩, g3⟩
        rw [List.length_map, List.take_length] at g3
        rw [step i hi]
        exact ⟨s3, g3⟩
    · refine ⟨_, rfl, rfl, _, rfl, ?_⟩
      refine iteF ?_
      refine ⟨_, rfl, a, _, k, rfl, hq, fun D hD => ?_⟩
      refine lc2_it (walk_seq (b := k) (K := K) (a := a) (xs := ws.map vN)) (fun i H' => Same H H' ∧ H' D = some (.lst ((wordsB 8 (ws.take i)).map vN))) ⟨same_upd hD, upd_same⟩ (fun i H' _ h => Same.sqb h.1 hq) ?_ (fun H1 h => fin D H1 hD h)
      rintro i v H1 H2 hi ⟨sm, g⟩ ⟨rfl, e2⟩
      rw [List.length_map] at hi
      rw [List.getElem?_map, List.getElem?_eq_getElem hi] at e2
      obtain rfl := (Option.some.inj e2).symm
      have h256 : ws[i] < 256 := hw _ (List.getElem_mem hi)
      obtain ⟨c1, hc1, hC1⟩ := quads_at T (w := ws[i] / 16) (by omega)
      obtain ⟨c2, hc2, hC2⟩ := quads_at T (w := ws[i] % 16) (by omega)
      have v1 : ((ws[i] : Nat) : Int) / 2 ^ (4 : Int).toNat = ((ws[i] / 16 : Nat) : Int) := by
        show ((ws[i] : Nat) : Int) / 16 = _
        omega
      have v2 : Builtin.bitAnd ((ws[i] : Nat) : Int) 15 = ((ws[i] % 16 : Nat) : Int) := and15 h256
      refine ⟨rfl, iteT (B := Same H H2 ∧ H2 D = some (.lst ((wordsB 8 (ws.take (i + 1))).map vN))) ⟨_, rfl, _, _, rfl, rfl, (show (0 : Int) ≤ 4 by decide), T.a_QUADS, _, _, .ref c1, false, rfl, rfl, T.l_QUADS.sq (by show 16 ≤ 1000; decide), (by rw [v1]; exact hc1), ?_⟩⟩
      refine ⟨_, rfl, _, _, rfl, rfl, T.a_QUADS, _, _, .ref c2, false, rfl, rfl, T.l_QUADS.sq (by show 16 ≤ 1000; decide), (by rw [v2]; exact hc2), ?_⟩
      refine ⟨c1, c2, _, _, rfl, rfl, hC1 _, hC2 _, ?_, ?_, ?_, fun _ u nu => ?_⟩
      · intro z
        have := congrArg List.length z
        rw [List.length_map, bitsW_len] at this
        cases this
      · rw [List.length_map, List.length_map, bitsW_len, bitsW_len]
        decide
      · intro z
        have := congrArg List.length z
        rw [List.length_map, bitsW_len] at this
        cases this
      rw [← List.map_append, ← bits8 h256]
      have gu := upd_same (H := H2) (a := u) (o := .tup ((bitsW 8 ws[i]).map vN))
      have su := same_upd (o := .tup ((bitsW 8 ws[i]).map vN)) nu
      have smu := sm.trans su
      have gD := su _ _ g
      have nuD : u ≠ D := fun z => by rw [z, g] at nu; cases nu
      refine ⟨u, _, false, rfl, .inl (.inl gu), ?_⟩
      refine lc_in (walk_seq (b := false) (K := K) (a := u) (xs := (bitsW 8 ws[i]).map vN)) (fun j H' => (Same H H' ∧ H' u = some (.tup ((bitsW 8 ws[i]).map vN))) ∧ H' D = some (.lst ((wordsB 8 (ws.take i) ++ (bitsW 8 ws[i]).take j).map vN))) ⟨⟨smu, gu⟩, by rw [List.take_zero, List.append_nil]; exact gD⟩ (fun j H' _ h => .inl (.inl h.1.2)) ?_ ?_
      · rintro j v H5 H6 hj ⟨⟨s3, q3⟩, g3⟩ ⟨rfl, e3⟩
        rw [List.length_map] at hj
        rw [List.getElem?_map, List.getElem?_eq_getElem hj] at e3
        obtain rfl := (Option.some.inj e3).symm
        have lj := len i
        have hj8 : j < 8 := by rw [bitsW_len] at hj; exact hj
        refine ⟨rfl, iteT (B := (Same H H6 ∧ H6 u = some (.tup ((bitsW 8 ws[i]).map vN))) ∧ H6 D = some (.lst ((wordsB 8 (ws.take i) ++ (bitsW 8 ws[i]).take (j + 1)).map vN))) ⟨_, rfl, _, g3, ?_, ⟨fun f o hf => ?_, ?_⟩, ?_⟩⟩
        · rw [List.length_map, List.length_append, List.length_take, bitsW_len]
          exact small1000 (by omega)
        · rw [upd_ne (ne_of_none hf hD)]
          exact s3 _ _ hf
        · rw [upd_ne nuD]; exact q3
        · have e : ∀ A : List Nat, A ++ (bitsW 8 ws[i]).take (j + 1) = (A ++ (bitsW 8 ws[i]).take j) ++ [(bitsW 8 ws[i])[j]] := fun A => by
            rw [List.take_add_one, List.getElem?_eq_getElem hj, ← List.append_assoc]
            rfl
          rw [upd_same, e]
          exact congrArg (fun z => some (HO.lst z)) (@List.map_append _ _ vN _ [(bitsW 8 ws[i])[j]]).symm
      · rintro H5 ⟨⟨s3, _⟩, g3⟩
        rw [List.length_map, List.take_length] at g3
        rw [step i hi]
        exact ⟨s3, g3⟩
/-! CUT -/
def ruleF : Nat → Int → Int → Bool
  | 0, r, c => (r + c) % 2 == 0
  | 1, r, c => (r + 2 * c) % 3 == 0
  | 2, r, _ => r % 3 == 1
  | 3, _, c => decide (c % 4 < 2)
  | 4, r, c => (r / 2 + c / 2) % 2 == 0
  | 5, r, c => r * c % 3 == 0
  | 6, r, c => decide ((r * r + c) % 5 < 2)
  | _, r, c => decide ((r + c) % 7 < 3)
def placesD : List (List (List Int)) := [[[37, 36, 37, 36, 37, 36, 37, 36], [37, 16, 17, 18, 19, 20, 21, 36], [37, 22, 23, 24, 25, 9, 8, 37], [37, 29, 33, 11, 10, 7, 6, 37], [37, 28, 32, 13, 12, 5, 4, 36], [37, 27, 31, 35, 14, 3, 2, 36], [37, 26, 30, 34, 15, 1, 0, 37], [37, 37, 37, 37, 37, 37, 37, 37]], [[101, 100, 101, 100, 101, 100, 101, 100, 101, 100, 101, 100], [101, 80, 81, 82, 83, 84, 85, 86, 87, 88, 89, 100], [101, 98, 79, 55, 54, 53, 52, 19, 18, 17, 16, 101], [101, 97, 78, 57, 56, 51, 50, 21, 20, 15, 14, 101], [101, 96, 77, 59, 58, 49, 48, 23, 22, 13, 12, 100], [101, 95, 76, 61, 60, 47, 46, 25, 24, 11, 10, 100], [101, 94, 75, 63, 62, 45, 44, 27, 26, 9, 8, 101], [101, 93, 74, 65, 64, 43, 42, 29, 28, 7, 6, 101], [101, 92, 73, 67, 66, 41, 40, 31, 30, 5, 4, 100], [101, 91, 72, 69, 68, 39, 38, 33, 32, 3, 2, 100], [101, 90, 99, 71, 70, 37, 36, 35, 34, 1, 0, 101], [101, 101, 101, 101, 101, 101, 101, 101, 101, 101, 101, 101]], [[197, 196, 197, 196, 197, 196, 197, 196, 197, 196, 197, 196, 197, 196, 197, 196], [197, 176, 177, 178, 179, 180, 181, 182, 183, 184, 185, 29, 28, 27, 26, 196], [197, 175, 174, 135, 134, 133, 132, 83, 82, 81, 80, 31, 30, 25, 24, 197], [197, 173, 172, 137, 136, 131, 130, 85, 84, 79, 78, 33, 32, 23, 22, 197], [197, 171, 170, 139, 138, 129, 128, 87, 86, 77, 76, 35, 34, 21, 20, 196], [197, 195, 169, 141, 140, 127, 126, 89, 88, 75, 74, 37, 36, 19, 18, 196], [197, 194, 168, 143, 142, 125, 124, 91, 90, 73, 72, 39, 38, 17, 16, 197], [197, 193, 167, 145, 144, 123, 122, 93, 92, 71, 70, 41, 40, 15, 14, 197], [197, 192, 166, 147, 146, 121, 120, 95, 94, 69, 68, 43, 42, 13, 12, 196], [197, 191, 165, 149, 148, 119, 118, 97, 96, 67, 66, 45, 44, 11, 10, 196], [197, 190, 164, 151, 150, 117, 116, 99, 98, 65, 64, 47, 46, 9, 8, 197], [197, 189, 163, 153, 152, 115, 114, 101, 100, 63, 62, 49, 48, 7, 6, 197], [197, 188, 162, 155, 154, 113, 112, 103, 102, 61, 60, 51, 50, 5, 4, 196], [197, 187, 161, 157, 156, 111, 110, 105, 104, 59, 58, 53, 52, 3, 2, 196], [197, 186, 160, 159, 158, 109, 108, 107, 106, 57, 56, 55, 54, 1, 0, 197], [197, 197, 197, 197, 197, 197, 197, 197, 197, 197, 197, 197, 197, 197, 197, 197]], [[325, 324, 325, 324, 325, 324, 325, 324, 325, 324, 325, 324, 325, 324, 325, 324, 325, 324, 325, 324], [325, 304, 305, 306, 307, 308, 309, 310, 311, 312, 313, 109, 108, 107, 106, 37, 36, 35, 34, 324], [325, 303, 302, 247, 246, 245, 244, 179, 178, 177, 176, 111, 110, 105, 104, 39, 38, 33, 32, 325], [325, 301, 300, 249, 248, 243, 242, 181, 180, 175, 174, 113, 112, 103, 102, 41, 40, 31, 30, 325], [325, 299, 298, 251, 250, 241, 240, 183, 182, 173, 172, 115, 114, 101, 100, 43, 42, 29, 28, 324], [325, 297, 296, 253, 252, 239, 238, 185, 184, 171, 170, 117, 116, 99, 98, 45, 44, 27, 26, 324], [325, 295, 294, 255, 254, 237, 236, 187, 186, 169, 168, 119, 118, 97, 96, 47, 46, 25, 24, 325], [325, 293, 292, 257, 256, 235, 234, 189, 188, 167, 166, 121, 120, 95, 94, 49, 48, 23, 22, 325], [325, 291, 290, 259, 258, 233, 232, 191, 190, 165, 164, 123, 122, 93, 92, 51, 50, 21, 20, 324], [325, 323, 289, 261, 260, 231, 230, 193, 192, 163, 162, 125, 124, 91, 90, 53, 52, 19, 18, 324], [325, 322, 288, 263, 262, 229, 228, 195, 194, 161, 160, 127, 126, 89, 88, 55, 54, 17, 16, 325], [325, 321, 287, 265, 264, 227, 226, 197, 196, 159, 158, 129, 128, 87, 86, 57, 56, 15, 14, 325], [325, 320, 286, 267, 266, 225, 224, 199, 198, 157, 156, 131, 130, 85, 84, 59, 58, 13, 12, 324], [325, 319, 285, 269, 268, 223, 222, 201, 200, 155, 154, 133, 132, 83, 82, 61, 60, 11, 10, 324], [325, 318, 284, 271, 270, 221, 220, 203, 202, 153, 152, 135, 134, 81, 80, 63, 62, 9, 8, 325], [325, 317, 283, 273, 272, 219, 218, 205, 204, 151, 150, 137, 136, 79, 78, 65, 64, 7, 6, 325], [325, 316, 282, 275, 274, 217, 216, 207, 206, 149, 148, 139, 138, 77, 76, 67, 66, 5, 4, 324], [325, 315, 281, 277, 276, 215, 214, 209, 208, 147, 146, 141, 140, 75, 74, 69, 68, 3, 2, 324], [325, 314, 280, 279, 278, 213, 212, 211, 210, 145, 144, 143, 142, 73, 72, 71, 70, 1, 0, 325], [325, 325, 325, 325, 325, 325, 325, 325, 325, 325, 325, 325, 325, 325, 325, 325, 325, 325, 325, 325]], [[485, 484, 485, 484, 485, 484, 485, 484, 485, 484, 485, 484, 485, 484, 485, 484, 485, 484, 485, 484, 485, 484, 485, 484], [485, 464, 465, 466, 467, 468, 469, 470, 471, 472, 473, 221, 220, 219, 218, 133, 132, 131, 130, 45, 44, 43, 42, 484], [485, 463, 462, 391, 390, 389, 388, 307, 306, 305, 304, 223, 222, 217, 216, 135, 134, 129, 128, 47, 46, 41, 40, 485], [485, 461, 460, 393, 392, 387, 386, 309, 308, 303, 302, 225, 224, 215, 214, 137, 136, 127, 126, 49, 48, 39, 38, 485], [485, 459, 458, 395, 394, 385, 384, 311, 310, 301, 300, 227, 226, 213, 212, 139, 138, 125, 124, 51, 50, 37, 36, 484], [485, 457, 456, 397, 396, 383, 382, 313, 312, 299, 298, 229, 228, 211, 210, 141, 140, 123, 122, 53, 52, 35, 34, 484], [485, 455, 454, 399, 398, 381, 380, 315, 314, 297, 296, 231, 230, 209, 208, 143, 142, 121, 120, 55, 54, 33, 32, 485], [485, 453, 452, 401, 400, 379, 378, 317, 316, 295, 294, 233, 232, 207, 206, 145, 144, 119, 118, 57, 56, 31, 30, 485], [485, 451, 450, 403, 402, 377, 376, 319, 318, 293, 292, 235, 234, 205, 204, 147, 146, 117, 116, 59, 58, 29, 28, 484], [485, 449, 448, 405, 404, 375, 374, 321, 320, 291, 290, 237, 236, 203, 202, 149, 148, 115, 114, 61, 60, 27, 26, 484], [485, 447, 446, 407, 406, 373, 372, 323, 322, 289, 288, 239, 238, 201, 200, 151, 150, 113, 112, 63, 62, 25, 24, 485], [485, 445, 444, 409, 408, 371, 370, 325, 324, 287, 286, 241, 240, 199, 198, 153, 152, 111, 110, 65, 64, 23, 22, 485], [485, 443, 442, 411, 410, 369, 368, 327, 326, 285, 284, 243, 242, 197, 196, 155, 154, 109, 108, 67, 66, 21, 20, 484], [485, 483, 441, 413, 412, 367, 366, 329, 328, 283, 282, 245, 244, 195, 194, 157, 156, 107, 106, 69, 68, 19, 18, 484], [485, 482, 440, 415, 414, 365, 364, 331, 330, 281, 280, 247, 246, 193, 192, 159, 158, 105, 104, 71, 70, 17, 16, 485], [485, 481, 439, 417, 416, 363, 362, 333, 332, 279, 278, 249, 248, 191, 190, 161, 160, 103, 102, 73, 72, 15, 14, 485], [485, 480, 438, 419, 418, 361, 360, 335, 334, 277, 276, 251, 250, 189, 188, 163, 162, 101, 100, 75, 74, 13, 12, 484], [485, 479, 437, 421, 420, 359, 358, 337, 336, 275, 274, 253, 252, 187, 186, 165, 164, 99, 98, 77, 76, 11, 10, 484], [485, 478, 436, 423, 422, 357, 356, 339, 338, 273, 272, 255, 254, 185, 184, 167, 166, 97, 96, 79, 78, 9, 8, 485], [485, 477, 435, 425, 424, 355, 354, 341, 340, 271, 270, 257, 256, 183, 182, 169, 168, 95, 94, 81, 80, 7, 6, 485], [485, 476, 434, 427, 426, 353, 352, 343, 342, 269, 268, 259, 258, 181, 180, 171, 170, 93, 92, 83, 82, 5, 4, 484], [485, 475, 433, 429, 428, 351, 350, 345, 344, 267, 266, 261, 260, 179, 178, 173, 172, 91, 90, 85, 84, 3, 2, 484], [485, 474, 432, 431, 430, 349, 348, 347, 346, 265, 264, 263, 262, 177, 176, 175, 174, 89, 88, 87, 86, 1, 0, 485], [485, 485, 485, 485, 485, 485, 485, 485, 485, 485, 485, 485, 485, 485, 485, 485, 485, 485, 485, 485, 485, 485, 485, 485]]]
def maskD : List (List (List Int)) := [[[9, 9, 9, 9], [9, 2, 5, 8], [0, 12, 0, 12], [5, 5, 6, 11], [9, 6, 9, 10], [14, 11, 11, 5], [7, 6, 8, 9], [0, 7, 14, 14]], [[9, 9, 9, 9, 10, 6, 6, 6, 6, 9, 9, 9, 9, 10, 6, 6, 6, 6, 5, 5], [9, 2, 4, 9, 2, 1, 8, 6, 1, 2, 4, 9, 2, 4, 6, 1, 8, 6, 4, 9], [12, 3, 0, 12, 0, 3, 0, 12, 3, 12, 3, 0, 12, 0, 3, 0, 12, 3, 2, 4], [5, 5, 5, 5, 6, 10, 10, 10, 10, 5, 5, 5, 5, 6, 10, 10, 10, 10, 0, 0], [9, 6, 9, 6, 9, 6, 9, 6, 9, 9, 6, 9, 6, 9, 6, 9, 6, 9, 3, 3], [7, 5, 13, 7, 4, 12, 3, 0, 12, 11, 10, 14, 11, 9, 13, 7, 5, 13, 9, 2], [11, 0, 14, 12, 1, 4, 0, 5, 0, 13, 10, 7, 6, 8, 2, 2, 0, 8, 6, 3], [0, 1, 15, 8, 1, 0, 2, 15, 4, 15, 8, 0, 7, 12, 11, 13, 0, 2, 3, 8]], [[153, 153, 153, 150, 102, 102, 102, 153, 153, 153, 166, 102, 102, 105, 153, 153, 154, 102, 102, 102, 170, 166], [146, 73, 36, 145, 134, 24, 97, 36, 146, 73, 33, 134, 24, 100, 146, 73, 36, 97, 134, 24, 146, 82], [48, 195, 12, 60, 48, 195, 12, 48, 195, 12, 3, 12, 48, 195, 12, 48, 192, 48, 195, 12, 73, 48], [85, 85, 85, 90, 170, 170, 170, 85, 85, 85, 106, 170, 170, 165, 85, 85, 86, 170, 170, 170, 0, 21], [150, 150, 150, 153, 105, 105, 105, 150, 150, 150, 150, 150, 150, 153, 105, 105, 105, 105, 105, 105, 153, 154], [12, 48, 195, 10, 235, 174, 186, 93, 117, 215, 76, 48, 195, 10, 235, 174, 185, 215, 93, 117, 36, 140], [130, 32, 136, 35, 196, 241, 60, 195, 176, 236, 20, 5, 1, 70, 157, 167, 104, 34, 8, 130, 99, 15], [128, 126, 1, 242, 244, 11, 208, 126, 1, 248, 16, 47, 64, 176, 31, 128, 124, 189, 2, 244, 225, 192]], [[153, 153, 153, 153, 150, 102, 102, 102, 102, 153, 153, 153, 153, 150, 102, 102, 102, 102, 153, 153, 153, 153, 166, 102, 102, 102, 105, 153, 153, 153, 154, 102, 102, 102, 102, 170, 166, 102], [146, 73, 36, 146, 72, 97, 134, 24, 97, 36, 146, 73, 36, 145, 134, 24, 97, 134, 73, 36, 146, 73, 33, 134, 24, 97, 137, 36, 146, 73, 36, 97, 134, 24, 97, 73, 36, 146], [12, 48, 195, 12, 60, 48, 195, 12, 48, 12, 48, 195, 12, 60, 48, 195, 12, 48, 12, 48, 195, 12, 3, 12, 48, 195, 0, 195, 12, 48, 192, 48, 195, 12, 48, 36, 140, 48], [85, 85, 85, 85, 90, 170, 170, 170, 170, 85, 85, 85, 85, 90, 170, 170, 170, 170, 85, 85, 85, 85, 106, 170, 170, 170, 165, 85, 85, 85, 86, 170, 170, 170, 170, 0, 21, 85], [150, 150, 150, 150, 153, 105, 105, 105, 105, 150, 150, 150, 150, 153, 105, 105, 105, 105, 150, 150, 150, 150, 150, 150, 150, 150, 153, 105, 105, 105, 105, 105, 105, 105, 105, 153, 154, 90], [235, 174, 186, 235, 165, 215, 93, 117, 215, 195, 12, 48, 195, 10, 235, 174, 186, 235, 215, 93, 117, 215, 76, 48, 195, 12, 62, 186, 235, 174, 185, 215, 93, 117, 215, 146, 67, 12], [80, 20, 5, 1, 70, 157, 167, 105, 218, 8, 130, 32, 136, 35, 196, 241, 60, 79, 14, 195, 176, 236, 20, 5, 1, 64, 90, 118, 157, 167, 104, 34, 8, 130, 32, 198, 60, 79], [224, 31, 128, 126, 4, 11, 208, 47, 64, 31, 128, 126, 1, 242, 244, 11, 208, 47, 128, 126, 1, 248, 16, 47, 64, 189, 7, 224, 31, 128, 124, 189, 2, 244, 11, 14, 31, 128]], [[153, 153, 153, 153, 153, 150, 102, 102, 102, 102, 102, 153, 153, 153, 153, 153, 150, 102, 102, 102, 102, 102, 153, 153, 153, 153, 153, 150, 102, 102, 102, 102, 102, 153, 153, 153, 153, 153, 166, 102, 102, 102, 102, 105, 153, 153, 153, 153, 154, 102, 102, 102, 102, 102, 170, 166, 102, 102], [146, 73, 36, 146, 73, 38, 24, 97, 134, 24, 97, 36, 146, 73, 36, 146, 72, 97, 134, 24, 97, 134, 73, 36, 146, 73, 36, 145, 134, 24, 97, 134, 24, 146, 73, 36, 146, 73, 33, 134, 24, 97, 134, 18, 73, 36, 146, 73, 36, 97, 134, 24, 97, 134, 36, 137, 36, 146], [195, 12, 48, 195, 12, 60, 48, 195, 12, 48, 195, 195, 12, 48, 195, 12, 60, 48, 195, 12, 48, 195, 195, 12, 48, 195, 12, 60, 48, 195, 12, 48, 195, 195, 12, 48, 195, 12, 3, 12, 48, 195, 12, 60, 48, 195, 12, 48, 192, 48, 195, 12, 48, 195, 146, 67, 12, 48], [85, 85, 85, 85, 85, 90, 170, 170, 170, 170, 170, 85, 85, 85, 85, 85, 90, 170, 170, 170, 170, 170, 85, 85, 85, 85, 85, 90, 170, 170, 170, 170, 170, 85, 85, 85, 85, 85, 106, 170, 170, 170, 170, 165, 85, 85, 85, 85, 86, 170, 170, 170, 170, 170, 0, 21, 85, 85], [150, 150, 150, 150, 150, 153, 105, 105, 105, 105, 105, 150, 150, 150, 150, 150, 153, 105, 105, 105, 105, 105, 150, 150, 150, 150, 150, 153, 105, 105, 105, 105, 105, 150, 150, 150, 150, 150, 150, 150, 150, 150, 150, 153, 105, 105, 105, 105, 105, 105, 105, 105, 105, 105, 153, 154, 90, 90], [117, 215, 93, 117, 215, 80, 195, 12, 48, 195, 12, 186, 235, 174, 186, 235, 165, 215, 93, 117, 215, 93, 48, 195, 12, 48, 195, 10, 235, 174, 186, 235, 174, 117, 215, 93, 117, 215, 76, 48, 195, 12, 48, 203, 174, 186, 235, 174, 185, 215, 93, 117, 215, 93, 73, 48, 195, 12], [196, 241, 60, 79, 19, 204, 59, 14, 195, 176, 236, 64, 80, 20, 5, 1, 70, 157, 167, 105, 218, 118, 34, 8, 130, 32, 136, 35, 196, 241, 60, 79, 19, 59, 14, 195, 176, 236, 20, 5, 1, 64, 80, 25, 218, 118, 157, 167, 104, 34, 8, 130, 32, 136, 140, 113, 60, 79], [248, 7, 224, 31, 128, 123, 208, 47, 64, 189, 2, 7, 224, 31, 128, 126, 4, 11, 208, 47, 64, 189, 224, 31, 128, 126, 1, 242, 244, 11, 208, 47, 64, 31, 128, 126, 1, 248, 16, 47, 64, 189, 2, 248, 7, 224, 31, 128, 124, 189, 2, 244, 11, 208, 112, 224, 31, 128]]]
def plF (s r c : Nat) : Nat := (((placesD.getD s []).getD r []).getD c 0).toNat
def mwF (s m : Nat) : List Nat := ((maskD.getD s []).getD m []).map Int.toNat
theorem all8 {P : Nat → Bool} (h : ((List.range 8).all P) = true) {m : Nat} (hm : m < 8) : P m = true := List.all_eq_true.mp h m (List.mem_range.mpr hm)
theorem pl_way {s i : Nat} (hs : s < 5) (h : i < ptF s) : ∃ q, (wayF (sdF s))[i]? = some q ∧ plF s q.1 q.2 = i := by
  have z : ((wayL.getD s []).map fun q => plF s q.1 q.2) = List.range (ptF s) := eq_of_beq (all5 (P := fun s => ((wayL.getD s []).map fun q => plF s q.1 q.2) == List.range (ptF s)) (by decide +kernel) hs)
  have hl : i < (wayF (sdF s)).length := by rw [way_len hs]; exact h
  refine ⟨(wayF (sdF s))[i], List.getElem?_eq_getElem hl, ?_⟩
  have e : (((wayL.getD s []).map fun q => plF s q.1 q.2))[i]? = some i := by rw [z, List.getElem?_range h]
  rw [← way_at hs, List.getElem?_map, List.getElem?_eq_getElem hl] at e
  exact Option.some.inj e
theorem way_pl {s r c : Nat} (hs : s < 5) (hr : r < sdF s) (hc : c < sdF s) : plF s r c < ptF s + 22 ∧ (plF s r c < ptF s → (wayF (sdF s))[plF s r c]? = some (r, c)) := by
  have z := all5 (P := fun s => (List.range (sdF s)).all fun r => (List.range (sdF s)).all fun c => decide (plF s r c < ptF s + 22) && (!decide (plF s r c < ptF s) || (wayL.getD s [])[plF s r c]? == some (r, c))) (by decide +kernel) hs
  have z2 := List.all_eq_true.mp (List.all_eq_true.mp z r (List.mem_range.mpr hr)) c (List.mem_range.mpr hc)
  rw [Bool.and_eq_true, Bool.or_eq_true] at z2
  refine ⟨of_decide_eq_true z2.1, fun h => ?_⟩
  rcases z2.2 with q | q
  · rw [decide_eq_true h] at q
    cases q
  · rw [way_at hs]
    exact eq_of_beq q
theorem mask_bits {s m : Nat} (hs : s < 5) (hm : m < 8) : wordsB (bitsF s) (mwF s m) = (wayF (sdF s)).map fun q => if ruleF m q.1 q.2 = true then 1 else 0 := by
  rw [way_at hs]
  exact eq_of_beq (all8 (all5 (P := fun s => (List.range 8).all fun m => wordsB (bitsF s) (mwF s m) == (wayL.getD s []).map fun q => if ruleF m q.1 q.2 = true then 1 else 0) (by decide +kernel) hs) hm)
theorem mask_words {s m : Nat} (hs : s < 5) (hm : m < 8) : ((maskD.getD s []).getD m []).map V.int = (mwF s m).map vN ∧ (∀ x ∈ mwF s m, x < span (bitsF s)) ∧ (mwF s m).length ≤ 100 := by
  have z := all8 (all5 (P := fun s => (List.range 8).all fun m => (((maskD.getD s []).getD m []) == (mwF s m).map Int.ofNat) && (mwF s m).all (fun x => decide (x < span (bitsF s))) && decide ((mwF s m).length ≤ 100)) (by decide +kernel) hs) hm
  rw [Bool.and_eq_true, Bool.and_eq_true] at z
  refine ⟨?_, fun x hx => of_decide_eq_true (List.all_eq_true.mp z.1.2 x hx), of_decide_eq_true z.2⟩
  rw [eq_of_beq z.1.1, List.map_map]
  rfl
theorem places_at {s r : Nat} (hs : s < 5) (hr : r < sdF s) : ∃ P R, placesD[s]? = some P ∧ P.length = sdF s ∧ P[r]? = some R ∧ R.length = sdF s ∧ ∀ c, c < sdF s → R[c]? = some ((plF s r c : Nat) : Int) := by
  have z := all5 (P := fun s => decide (s < placesD.length) && decide ((placesD.getD s []).length = sdF s) && (List.range (sdF s)).all fun r => decide (((placesD.getD s []).getD r []).length = sdF s) && ((placesD.getD s []).getD r []).all fun x => decide (0 ≤ x)) (by decide +kernel) hs
  rw [Bool.and_eq_true, Bool.and_eq_true] at z
  have z1 := of_decide_eq_true z.1.1
  have z2 := of_decide_eq_true z.1.2
  have z3 := List.all_eq_true.mp z.2 r (List.mem_range.mpr hr)
  rw [Bool.and_eq_true] at z3
  have z4 := of_decide_eq_true z3.1
  refine ⟨placesD.getD s [], (placesD.getD s []).getD r [], ?_, z2, ?_, z4, fun c hc => ?_⟩
  · rw [List.getD_eq_getElem?_getD, List.getElem?_eq_getElem z1]
    rfl
  · rw [getD_in (l := placesD.getD s []) (by omega)]
    exact List.getElem?_eq_getElem _
  · have h0 := of_decide_eq_true (List.all_eq_true.mp z3.2 _ (getD_mem (d := 0) (show c < ((placesD.getD s []).getD r []).length by omega)))
    rw [List.getElem?_eq_getElem (by omega)]
    unfold plF
    rw [Int.toNat_of_nonneg h0, getD_in (l := ((placesD.getD s []).getD r [])) (by omega)]
theorem mask_at {s m : Nat} (hs : s < 5) (hm : m < 8) : ∃ M, maskD[s]? = some M ∧ M.length = 8 ∧ M[m]? = some ((maskD.getD s []).getD m []) := by
  have z := all5 (P := fun s => decide (s < maskD.length) && decide ((maskD.getD s []).length = 8)) (by decide +kernel) hs
  rw [Bool.and_eq_true] at z
  have z1 := of_decide_eq_true z.1
  have z2 := of_decide_eq_true z.2
  refine ⟨maskD.getD s [], ?_, z2, ?_⟩
  · rw [List.getD_eq_getElem?_getD, List.getElem?_eq_getElem z1]
    rfl
  · rw [getD_in (l := maskD.getD s []) (by omega)]
    exact List.getElem?_eq_getElem _
/-- whether a mask turns a dot of a symbol -/
def hitF (s m r c : Nat) : Bool := decide (plF s r c < ptF s) && ruleF m r c
def maskG (s m : Nat) (g : Grid) : Grid := turnG (hitF s m) g
theorem mbit_at {s m r c : Nat} (hs : s < 5) (hm : m < 8) (hr : r < sdF s) (hc : c < sdF s) : (wordsB (bitsF s) (mwF s m) ++ List.replicate 22 0)[plF s r c]? = some (if hitF s m r c = true then 1 else 0) := by
  obtain ⟨h1, h2⟩ := way_pl hs hr hc
  have hl : (wordsB (bitsF s) (mwF s m)).length = ptF s := by rw [mask_bits hs hm, List.length_map, way_len hs]
  unfold hitF
  by_cases q : plF s r c < ptF s
  · rw [List.getElem?_append_left (by rw [hl]; exact q), mask_bits hs hm, List.getElem?_map, h2 q, decide_eq_true q]
    rfl
  · rw [List.getElem?_append_right (by rw [hl]; omega), hl, List.getElem?_replicate, if_pos (by omega), decide_eq_false q]
    rfl
/-! CUT -/
/-! CUT -/
/-! ### words read from dots -/
theorem pt_parts {s : Nat} (hs : s < 5) : ptF s = 4 * (ptF s / 4) ∧ ptF s / 4 ≤ 116 ∧ 0 < ptF s ∧ (bitsF s = 4 ∨ (bitsF s = 8 ∧ ptF s / 4 = 2 * (ptF s / 8))) :=
  of_decide_eq_true (all5 (P := fun s => decide (ptF s = 4 * (ptF s / 4) ∧ ptF s / 4 ≤ 116 ∧ 0 < ptF s ∧ (bitsF s = 4 ∨ (bitsF s = 8 ∧ ptF s / 4 = 2 * (ptF s / 8))))) (by decide +kernel) hs)
/-! CUT -/
/-! ### words in grids -/
/-- the dots on the way through a grid -/
def dotsF (s : Nat) (g : Grid) : List (Option Nat) := (wayF (sdF s)).map fun q => cell g q.1 q.2
theorem wdots_len {s : Nat} (hs : s < 5) (g : Grid) : (dotsF s g).length = ptF s := by
  unfold dotsF
  rw [List.length_map, way_len hs]
/-! CUT -/
/-! ### grids of words -/
def shadesF (s : Nat) (ws : List Nat) (st : List (Option Nat)) : List (Option Nat) := (wordsB (bitsF s) ws).map some ++ (st ++ [some 0, some 1])
/-- the grid that some words make -/
def layF (s : Nat) (ws : List Nat) (st : List (Option Nat)) : Grid := (List.range (sdF s)).map fun r => (List.range (sdF s)).map fun c => (shadesF s ws st).getD (plF s r c) none
theorem tot_pt {s : Nat} (hs : s < 5) : bitsF s * totF s = ptF s := of_decide_eq_true (all5 (P := fun s => decide (bitsF s * totF s = ptF s)) (by decide +kernel) hs)
theorem shades_len {s : Nat} (hs : s < 5) {ws : List Nat} {st : List (Option Nat)} (hl : ws.length = totF s) (h2 : st.length = 20) : (shadesF s ws st).length = ptF s + 22 := by
  unfold shadesF
  rw [List.length_append, List.length_map, wordsB_len, hl, tot_pt hs, List.length_append, h2]
  rfl
theorem bitsW_lt (b w : Nat) : ∀ x ∈ bitsW b w, x < 2 := fun x hx => by
  unfold bitsW at hx
  obtain ⟨i, _, rfl⟩ := List.mem_map.mp hx
  exact Nat.mod_lt _ (by decide)
theorem wordsB_lt (b : Nat) (ws : List Nat) : ∀ x ∈ wordsB b ws, x < 2 := fun x hx => by
  unfold wordsB at hx
  obtain ⟨w, _, h⟩ := List.mem_flatMap.mp hx
  exact bitsW_lt b w x h
theorem shades_ok (s : Nat) (ws : List Nat) {st : List (Option Nat)} (hst : ∀ o ∈ st, DotOk o) : ∀ o ∈ shadesF s ws st, DotOk o := fun o ho => by
  unfold shadesF at ho
  rcases List.mem_append.mp ho with h | h
  · obtain ⟨x, hx, rfl⟩ := List.mem_map.mp h
    have := wordsB_lt _ _ x hx
    have : x = 0 ∨ x = 1 := by omega
    rcases this with rfl | rfl
    · exact .inr (.inl rfl)
    · exact .inr (.inr rfl)
  · rcases List.mem_append.mp h with h | h
    · exact hst o h
    · simp at h
      rcases h with rfl | rfl
      · exact .inr (.inl rfl)
      · exact .inr (.inr rfl)
theorem lay_row {s r : Nat} (ws : List Nat) (st : List (Option Nat)) (hr : r < sdF s) : (layF s ws st)[r]? = some ((List.range (sdF s)).map fun c => (shadesF s ws st).getD (plF s r c) none) := by
  unfold layF
  rw [List.getElem?_map, List.getElem?_range hr]
  rfl
theorem lay_len (s : Nat) (ws : List Nat) (st : List (Option Nat)) : (layF s ws st).length = sdF s := by
  unfold layF
  rw [List.length_map, List.length_range]
theorem lay_sq {s : Nat} (hs : s < 5) {ws : List Nat} {st : List (Option Nat)} (hl : ws.length = totF s) (h2 : st.length = 20) (hst : ∀ o ∈ st, DotOk o) : Sq (sdF s) (layF s ws st) where
  len := lay_len s ws st
  row r hr := by
    obtain ⟨i, _, rfl⟩ := List.mem_map.mp hr
    rw [List.length_map, List.length_range]
  dot r hr o ho := by
    obtain ⟨i, hi, rfl⟩ := List.mem_map.mp hr
    obtain ⟨j, hj, rfl⟩ := List.mem_map.mp ho
    have := (way_pl hs (List.mem_range.mp hi) (List.mem_range.mp hj)).1
    exact shades_ok s ws hst _ (getD_mem (by rw [shades_len hs hl h2]; exact this))
abbrev sc_lc_gow : Scope := { kind := .function, names := [(".0", .local), ("places", .local), ("shades", .cell)], isGenerator := false, isCoroutine := false }
def sp_gow (K : PySem.W.Frag) : Sp := fun vs H Q _ => ∃ (s : Nat) (a b : Addr) (k : Bool) (ws : List Nat) (st : List (Option Nat)), vs = [.int ((s : Int) + 1), .ref a, .ref b] ∧ s < 5 ∧ SqB k K H a (ws.map vN) ∧ (∀ x ∈ ws, x < span (bitsF s)) ∧ ws.length = totF s ∧ H b = some (.lst (st.map vG)) ∧ st.length = 20 ∧ ∀ D H', Fr H H' D (layF s ws st) → Q (.ref D) H'
theorem ok_grid_of_words (T : Txt K mg) : FnOk P w K mg base CX0 2 T.f_grid_of_words T.d_grid_of_words ["size", "words", "strip_shades"] (sp_gow K) := by
  refine T.F_grid_of_words.ok sc_grid_of_words (fun vs H Q E h => ?_) (fun cdv A outer s H vs Q E hr h => ?_)
  · obtain ⟨s, a, b, k, ws, st, rfl, _⟩ := h
    rfl
  · obtain ⟨s0, a, b, k, ws, st, rfl, hs, hq, hw, hl, hb, hst, q⟩ := h
    refine ⟨_, (pss_cons (ps_set (i := 3) sc_grid_of_words.nd rfl (.inr rfl) (pe_op op_cat (pe_op op_cat (pe_call (ok_words_as_bits T) (hr.mono (by decide)) (by rfl) T.g_words_as_bits T.F_words_as_bits.kp T.b_words_as_bits .nil pass0 (pa_cons (pv 1) (pa_cons (pe_ix ix_rowB (pe_glob (v := .ref T.a_WORD_BITS) (by rfl) T.g_WORD_BITS rfl) (pe_op op_sub (pv 0) pe_int) (fun _ _ => rfl)) pa_nil))) (pv 2)) (pe_lst (pa_cons pe_int (pa_cons pe_int pa_nil)))))
      (pss_one (ps_ret (pe_lc (own := [("places", 4)]) rfl sc_grid_of_words.nd (pi_seqK (K := K) rfl (pe_ix (ix_rowBK (K := K) rfl) (pe_glob (v := .ref T.a_PLACES) (by rfl) T.g_PLACES rfl) (pe_op op_sub (pv 0) pe_int) (fun _ _ => rfl))) (blkOk_by (N := ["size", "words", "strip_shades", "shades", "places", "place"]) (sc := defScope s_grid_of_words) (by decide +kernel)) (fun _ _ _ _ _ => by exact (pg_name (i := 4) sc_grid_of_words.nd rfl (.inl rfl))) (fun _ _ _ _ _ => by exact pts_nil) (fun _ _ _ _ _ => by exact (pe_lc (own := [("place", 5)]) rfl sc_grid_of_words.nd (pi_seqK (K := K) rfl (pv 4)) (blkOk_by (N := ["size", "words", "strip_shades", "shades", "places", "place"]) (sc := sc_lc_gow) (by decide +kernel)) (fun _ _ _ _ _ => by exact (pg_name (i := 5) sc_grid_of_words.nd rfl (.inl rfl))) (fun _ _ _ _ _ => by exact pts_nil) (fun _ _ _ _ _ => by exact (pe_ix (ix_rowBK (K := K) rfl) (pv 3) (pv 5) (fun _ _ => rfl))))))))), ?_⟩
    have n24 := (side_le (sd_ok hs)).2
    have t58 := tot_le hs
    obtain ⟨xb, hX, hx⟩ := bit_at T hs
    have lw : (wordsB (bitsF s0) ws).length = ptF s0 := by rw [wordsB_len, hl, tot_pt hs]
    have p464 := (pt_parts hs)
    refine ⟨_, rfl, _, rfl, _, _, rfl, rfl, T.a_WORD_BITS, xb, _, vN (bitsF s0), false, rfl, rfl, hX _, hx, ?_⟩
    refine ⟨a, k, bitsF s0, ws, rfl, bits_wd hs, hq, hw, by omega, fun D1 H1 s1 n1 g1 => ?_⟩
    refine ⟨_, rfl, D1, b, _, _, rfl, rfl, g1, s1 _ _ hb, ?_, fun p2 hp2 => ?_⟩
    · rw [List.length_map, lw, List.length_map, hst]
      exact Nat.le_of_lt (small1000 (by omega))
    have s2 := same_upd (o := .lst ((wordsB (bitsF s0) ws).map vN ++ st.map vG)) hp2
    refine ⟨(by show 2 ≤ sizeLine; decide), fun p3 hp3 => ?_⟩
    have s3 := same_upd (o := .lst [V.int 0, V.int 1]) hp3
    refine ⟨p2, p3, _, _, rfl, rfl, s3 _ _ upd_same, upd_same, ?_, fun tl htl => ?_⟩
    · rw [List.length_append, List.length_map, lw, List.length_map, hst]
      show ptF s0 + 20 + 2 ≤ sizeLine
      exact Nat.le_of_lt (small1000 (by omega))
    have s4 := same_upd (o := .lst ((wordsB (bitsF s0) ws).map vN ++ st.map vG ++ [V.int 0, V.int 1])) htl
    have sA := ((s1.trans s2).trans s3).trans s4
    have gtl : (upd (upd (upd H1 p2 (.lst ((wordsB (bitsF s0) ws).map vN ++ st.map vG))) p3 (.lst [V.int 0, V.int 1])) tl (.lst ((wordsB (bitsF s0) ws).map vN ++ st.map vG ++ [V.int 0, V.int 1]))) tl = some (.lst ((shadesF s0 ws st).map vG)) := by
      rw [upd_same]
      unfold shadesF
      rw [List.map_append, List.map_append, List.map_map, List.append_assoc]
      rfl
    generalize (upd (upd (upd H1 p2 (.lst ((wordsB (bitsF s0) ws).map vN ++ st.map vG))) p3 (.lst [V.int 0, V.int 1])) tl (.lst ((wordsB (bitsF s0) ws).map vN ++ st.map vG ++ [V.int 0, V.int 1]))) = H2 at sA gtl ⊢
    clear s1 s2 s3 s4 hp2 hp3 htl g1 n1
    obtain ⟨Pd, _, eP, lP, _⟩ := places_at (r := 0) hs (by have := (side_le (sd_ok hs)).1; omega)
    obtain ⟨cp, hcp, c2, hat2, bp, hbp, lbp, prow⟩ := tup3_at (i := s0) (show tup3B K T.a_PLACES placesD = true from T.l_PLACES) eP
    refine ⟨_, rfl, _, _, rfl, rfl, T.a_PLACES, _, _, .ref c2, false, rfl, rfl, hcp _, (by rw [show (s0 : Int) + 1 - 1 = (s0 : Int) by omega]; exact hat2), ?_⟩
    refine ⟨c2, _, false, rfl, hbp _, fun D hD => ?_⟩
    refine lc_it (walk_seq (b := false) (K := K) (a := c2) (xs := bp.map V.ref)) (fun i H' => ∃ M, FrI H2 H' D M (layF s0 ws st) i) ⟨[], FrI.start hD⟩ (fun i H' _ _ => hbp _) ?_ ?_
    · rintro i v H3 H4 hi ⟨M, F⟩ ⟨rfl, e2⟩
      rw [List.length_map] at hi
      have eB : bp[i]? = some (bp[i]'hi) := List.getElem?_eq_getElem _
      have hi2 : i < sdF s0 := by omega
      generalize bp[i]'hi = lb at eB
      rw [List.getElem?_map, eB] at e2
      obtain rfl := (Option.some.inj e2).symm
      obtain ⟨_, R, eP2, _, eR, lR, cR⟩ := places_at hs hi2
      obtain rfl : Pd = _ := Option.some.inj (eP.symm.trans eP2)
      have qp : ∀ H', SqB false K H' lb (R.map V.int) := fun H' => prow i lb R eB eR H'
      have er := lay_row ws st hi2
      refine ⟨rfl, ?_⟩
      refine ⟨_, rfl, lb, _, false, rfl, qp _, fun D2 hD2 => ?_⟩
      refine lc_it (walk_seq (b := false) (K := K) (a := lb) (xs := R.map V.int)) (fun j H' => Same H4 H' ∧ H' D2 = some (.lst (((List.range j).map fun c => (shadesF s0 ws st).getD (plF s0 i c) none).map vG))) ⟨same_upd hD2, upd_same⟩ (fun j H' _ _ => qp _) ?_ ?_
      · rintro j v H6 H7 hj ⟨sm, gD⟩ ⟨rfl, e4⟩
        rw [List.length_map, lR] at hj
        rw [List.getElem?_map, cR j hj] at e4
        obtain rfl := (Option.some.inj e4).symm
        have gtl8 := sm _ _ (F.same _ _ gtl)
        have hp := (way_pl hs hi2 hj).1
        have ep : (shadesF s0 ws st)[plF s0 i j]? = some ((shadesF s0 ws st).getD (plF s0 i j) none) := by
          rw [getD_in (by rw [shades_len hs hl hst]; exact hp)]
          exact List.getElem?_eq_getElem _
        refine ⟨rfl, ?_⟩
        refine ⟨_, rfl, _, rfl, tl, _, _, vG ((shadesF s0 ws st).getD (plF s0 i j) none), true, rfl, rfl, .lst gtl8, atI_nat (by rw [List.getElem?_map, ep]; rfl), _, gD, ?_, fun b' o hb' => ?_, ?_⟩
        · rw [List.length_map, List.length_map, List.length_range]
          exact small1000 (by omega)
        · rw [upd_ne (ne_of_none hb' hD2)]
          exact sm _ _ hb'
        · rw [upd_same, List.range_succ, List.map_append, List.map_append]
          rfl
      · rintro H6 ⟨sm, gD⟩
        rw [List.length_map, lR] at gD
        refine ⟨_, sm _ _ F.out, ?_, M ++ [D2], F.step hD er sm hD2 gD⟩
        rw [List.length_map, F.len]
        exact small1000 (by omega)
    · rintro H3 ⟨M, F⟩
      rw [List.length_map, lbp, lP] at F
      exact q D H3 (Fr.back ⟨hD, M, by rw [lay_len]; exact F⟩ sA)
/-! CUT -/
theorem walk_rngC {lo c : Int} {n : Nat} : Walk (Itc lo c n) n (fun _ => True) (fun i H x H' => H' = H ∧ x = .int (lo + (i : Nat) * c)) where
  goes := fun i H h _ => h
  stops := fun H _ => Nat.le_refl n
  yields := fun i H x H' _ _ y => y
def fwI : List Int := fwL.map fun x : Nat => (x : Int)
theorem fwI_at {i : Nat} (h : i < 32) : atI (fwI.map V.int) (i : Int) = some (vN (fwF i)) := by
  refine atI_nat ?_
  unfold fwI
  rw [List.map_map, List.getElem?_map, fwF, List.getD_eq_getElem?_getD, List.getElem?_eq_getElem (by exact h)]
  rfl
def sp_wof : Sp := fun vs H Q _ => ∃ l m : Nat, vs = [vN l, vN m] ∧ l < 4 ∧ m < 8 ∧ Q (vN (fwF (8 * l + m))) H
theorem ok_word_of_format (T : Txt K mg) : FnOk P w K mg base CX0 1 T.f_word_of_format T.d_word_of_format ["level", "mask"] sp_wof := by
  refine T.F_word_of_format.ok sc_word_of_format (fun vs H Q E h => ?_) (fun cdv A outer s H vs Q E hr h => ?_)
  · obtain ⟨l, m, rfl, _⟩ := h
    rfl
  · obtain ⟨l, m, rfl, hl, hm, q⟩ := h
    refine ⟨_, (pss_one (ps_ret (pe_ix ix_rowB (pe_glob (v := .ref T.a_FORMAT_WORDS) (by rfl) T.g_FORMAT_WORDS rfl) (pe_op op_add (pe_op op_mul (pe_glob (v := .int 8) (by rfl) T.g_MASKS.choose_spec ⟨_, rfl⟩) (pv 0)) (pv 1)) (fun _ _ => rfl)))), ?_⟩
    exact ⟨_, rfl, _, _, rfl, rfl, .inl ⟨by decide, by decide⟩, _, rfl, _, _, rfl, rfl, T.a_FORMAT_WORDS, _, _, vN (fwF (8 * l + m)), false, rfl, rfl, tupB_ok (xs := fwI) T.l_FORMAT_WORDS, fwI_at (i := 8 * l + m) (by omega), q⟩
def sp_asb : Sp := fun vs H Q _ => ∃ n m : Nat, vs = [vN n, vN m] ∧ m ≤ 100 ∧ ∀ D H', Same H H' → H D = none → H' D = some (.lst ((bitsW m n).map vN)) → Q (.ref D) H'
theorem and_one (n : Nat) : Builtin.bitAnd (n : Int) 1 = ((n % 2 : Nat) : Int) := by
  have h := PyProof.Rows.bitAnd_pp (x := (n : Int)) (y := 1) (by omega) (by omega)
  rw [h]
  show (((n : Int).toNat &&& (1 : Int).toNat : Nat) : Int) = _
  rw [Int.toNat_natCast]
  show ((n &&& 1 : Nat) : Int) = _
  rw [Nat.and_one_is_mod]
theorem bitsW_snoc (m n i : Nat) : (List.range (i + 1)).map (fun k => n / 2 ^ (m - 1 - k) % 2) = (List.range i).map (fun k => n / 2 ^ (m - 1 - k) % 2) ++ [n / 2 ^ (m - 1 - i) % 2] := by
  rw [List.range_succ, List.map_append]
  rfl
theorem ok_as_bits (T : Txt K mg) : FnOk P w K mg base CX0 1 T.f_as_bits T.d_as_bits ["number", "many"] sp_asb := by
  refine T.F_as_bits.ok sc_as_bits (fun vs H Q E h => ?_) (fun cdv A outer s H vs Q E hr h => ?_)
  · obtain ⟨n, m, rfl, _⟩ := h
    rfl
  · obtain ⟨n, m, rfl, hm, q⟩ := h
    refine ⟨_, (pss_one (ps_ret (pe_lc (own := [("place", 2)]) rfl sc_as_bits.nd (pi_range3 (by rfl) T.n_range (pa_cons (pe_op op_sub (pv 1) pe_int) (pa_cons (pe_un un_neg pe_int) (pa_cons (pe_un un_neg pe_int) pa_nil)))) (blkOk_by (N := ["number", "many", "place"]) (sc := defScope s_as_bits) (by decide +kernel)) (fun _ _ _ _ _ => by exact (pg_name (i := 2) sc_as_bits.nd rfl (.inl rfl))) (fun _ _ _ _ _ => by exact pts_nil) (fun _ _ _ _ _ => by exact (pe_op op_and (pe_op op_shr (pv 0) (pv 2)) pe_int))))), ?_⟩
    refine ⟨_, rfl, _, _, rfl, rfl, _, rfl, _, rfl, (m : Int) - 1, -1, -1, m, rfl, ?_, fun D hD => ?_⟩
    · have h := RgC.neg (i := (m : Int) - 1) (j := -1) (by omega) (by omega) (by decide) (by decide)
      rw [show ((m : Int) - 1 - -1).toNat = m by omega] at h
      exact h
    refine lc_it (walk_rngC (lo := (m : Int) - 1) (c := -1) (n := m)) (fun i H' => Same H H' ∧ H' D = some (.lst (((List.range i).map fun k => n / 2 ^ (m - 1 - k) % 2).map vN))) ⟨same_upd hD, upd_same⟩ (fun i H' _ h => trivial) ?_ ?_
    · rintro i v H1 H2 hi ⟨sm, gD⟩ ⟨rfl, rfl⟩
      have ev : V.int (Builtin.bitAnd ((n : Int) / 2 ^ ((m : Int) - 1 + (i : Nat) * -1).toNat) 1) = vN (n / 2 ^ (m - 1 - i) % 2) := by
        rw [show ((m : Int) - 1 + (i : Nat) * -1).toNat = m - 1 - i by omega]
        have e : (n : Int) / 2 ^ (m - 1 - i) = ((n / 2 ^ (m - 1 - i) : Nat) : Int) := by
          rw [Int.natCast_ediv, Int.natCast_pow]
          rfl
        rw [e, and_one]
        rfl
      refine ⟨rfl, ?_⟩
      refine ⟨_, rfl, _, rfl, _, _, rfl, rfl, (by show (0 : Int) ≤ (m : Int) - 1 + (i : Nat) * -1; omega), _, _, rfl, rfl, _, gD, ?_, fun c o' hc => ?_, ?_⟩
      · rw [List.length_map, List.length_map, List.length_range]
        exact small1000 (by omega)
      · rw [upd_ne (ne_of_none hc hD)]
        exact sm _ _ hc
      · rw [upd_same, bitsW_snoc, List.map_append, List.map_cons, ← ev]
        rfl
    · rintro H1 ⟨s1, g1⟩
      exact q D H1 s1 hD g1
def stripL (l m : Nat) : List Nat := bitsW 10 (fwF (8 * l + m)) ++ bitsW 10 (fwF (8 * l + m))
def sp_ss : Sp := fun vs H Q _ => ∃ l m : Nat, vs = [vN l, vN m] ∧ l < 4 ∧ m < 8 ∧ ∀ D H', Same H H' → H D = none → H' D = some (.lst ((stripL l m).map vN)) → Q (.ref D) H'
theorem ok_strip_shades (T : Txt K mg) : FnOk P w K mg base CX0 2 T.f_strip_shades T.d_strip_shades ["level", "mask"] sp_ss := by
  refine T.F_strip_shades.ok sc_strip_shades (fun vs H Q E h => ?_) (fun cdv A outer s H vs Q E hr h => ?_)
  · obtain ⟨l, m, rfl, _⟩ := h
    rfl
  · obtain ⟨l, m, rfl, hl, hm, q⟩ := h
    refine ⟨_, (pss_one (ps_ret (pe_op op_rep (pe_call (ok_as_bits T) (hr.mono (by decide)) (by rfl) T.g_as_bits T.F_as_bits.kp T.b_as_bits .nil pass0 (pa_cons (pe_call (ok_word_of_format T) (hr.mono (by decide)) (by rfl) T.g_word_of_format T.F_word_of_format.kp T.b_word_of_format .nil pass0 (pa_cons (pv 0) (pa_cons (pv 1) pa_nil))) (pa_cons (pe_glob (v := .int 10) (by rfl) T.g_STRIP.choose_spec ⟨_, rfl⟩) pa_nil))) pe_int))), ?_⟩
    refine ⟨_, rfl, _, rfl, l, m, rfl, hl, hm, ?_⟩
    refine ⟨fwF (8 * l + m), 10, rfl, by decide, fun D H1 s1 n1 g1 => ?_⟩
    refine ⟨D, 2, _, rfl, rfl, g1, by decide, by decide, ?_, fun D2 hD2 => ?_⟩
    · rw [List.length_map, bitsW_len]
      decide
    have s2 := same_upd (o := .lst (List.replicate (2 : Int).toNat ((bitsW 10 (fwF (8 * l + m))).map vN)).flatten) hD2
    refine q D2 _ (s1.trans s2) (Same.free s1 hD2) ?_
    rw [upd_same]
    unfold stripL
    rw [List.map_append]
    show some (HO.lst (_ ++ (_ ++ []))) = _
    rw [List.append_nil]
theorem mw_len {s m : Nat} (hs : s < 5) (hm : m < 8) : (mwF s m).length = totF s :=
  of_decide_eq_true (all8 (all5 (P := fun s => (List.range 8).all fun m => decide ((mwF s m).length = totF s)) (by decide +kernel) hs) hm)
/-- words with a mask over them -/
def maskW (s m : Nat) (ws : List Nat) : List Nat := List.zipWith (fun x y => x ^^^ y) ws (mwF s m)
theorem maskW_len {s m : Nat} (hs : s < 5) (hm : m < 8) {ws : List Nat} (hl : ws.length = totF s) : (maskW s m ws).length = totF s := by
  unfold maskW
  rw [List.length_zipWith, hl, mw_len hs hm, Nat.min_self]
theorem maskW_lt {s m : Nat} (hs : s < 5) (hm : m < 8) {ws : List Nat} (hw : ∀ x ∈ ws, x < span (bitsF s)) : ∀ x ∈ maskW s m ws, x < span (bitsF s) := fun x hx => by
  unfold maskW at hx
  obtain ⟨i, hi, rfl⟩ := List.getElem_of_mem hx
  rw [List.getElem_zipWith]
  exact xor_lt (bits_wd hs) (hw _ (List.getElem_mem _)) ((mask_words hs hm).2.1 _ (List.getElem_mem _))
def sp_mw (K : PySem.W.Frag) : Sp := fun vs H Q _ => ∃ (s m : Nat) (a : Addr) (k : Bool) (ws : List Nat), vs = [.int ((s : Int) + 1), vN m, .ref a] ∧ s < 5 ∧ m < 8 ∧ SqB k K H a (ws.map vN) ∧ ws.length = totF s ∧ ∀ D H', Same H H' → H D = none → H' D = some (.lst ((maskW s m ws).map vN)) → Q (.ref D) H'
theorem ok_masked_words (T : Txt K mg) : FnOk P w K mg base CX0 1 T.f_masked_words T.d_masked_words ["size", "mask", "words"] (sp_mw K) := by
  refine T.F_masked_words.ok sc_masked_words (fun vs H Q E h => ?_) (fun cdv A outer s H vs Q E hr h => ?_)
  · obtain ⟨s, m, a, k, ws, rfl, _⟩ := h
    rfl
  · obtain ⟨s0, m, a, k, ws, rfl, hs, hm, hq, hl, q⟩ := h
    refine ⟨_, (pss_cons (ps_set (i := 3) sc_masked_words.nd rfl (.inl rfl) (pe_ix ix_rowB (pe_ix ix_rowB (pe_glob (v := .ref T.a_MASK_WORDS) (by rfl) T.g_MASK_WORDS rfl) (pe_op op_sub (pv 0) pe_int) (fun _ _ => rfl)) (pv 1) (fun _ _ => rfl)))
      (pss_one (ps_ret (pe_lc (own := [("word", 4), ("turn", 5)]) (g := gTup K 2 (gCons (gName 4) (gCons (gName 5) gNil))) rfl sc_masked_words.nd (pi_zipRT (K := K) rfl (by rfl) T.n_zip (pa_cons (pv 2) (pa_cons (pv 3) pa_nil))) (blkOk_by (N := ["size", "mask", "words", "turned", "word", "turn"]) (sc := defScope s_masked_words) (by decide +kernel)) (fun _ _ _ _ _ => by (refine pg_tup ?_ ?_); (exact rfl); (refine pgs_cons ?_ ?_); (exact (pg_name (i := 4) sc_masked_words.nd rfl (.inl rfl))); (refine pgs_cons ?_ ?_); (exact (pg_name (i := 5) sc_masked_words.nd rfl (.inl rfl))); (exact pgs_nil)) (fun _ _ _ _ _ => by exact pts_nil) (fun _ _ _ _ _ => by exact (pe_ifExp (pt_cmpR op_isN (pv 4) pe_non (nomark _)) pe_non (pe_op op_xor (pv 4) (pv 5)))))))), ?_⟩
    obtain ⟨Md, eM, lM, eMr⟩ := mask_at hs hm
    obtain ⟨cs, hcs, c, hat, bs, hbs, lbs, hrow⟩ := tup3_at (i := s0) (show tup3B K T.a_MASK_WORDS maskD = true from T.l_MASK_WORDS) eM
    obtain ⟨mw1, mw2, mw3⟩ := mask_words hs hm
    have eb : bs[m]? = some (bs[m]'(by omega)) := List.getElem?_eq_getElem _
    generalize bs[m]'(by omega) = b at eb
    have hb : ∀ H, SqT K H b ((mwF s0 m).map vN) := fun H => by rw [← mw1]; exact hrow m b _ eb eMr H
    have ml := mw_len hs hm
    refine ⟨_, rfl, _, _, rfl, rfl, T.a_MASK_WORDS, _, _, .ref c, false, rfl, rfl, hcs _, (by rw [show (s0 : Int) + 1 - 1 = (s0 : Int) by omega]; exact hat), ?_⟩
    refine ⟨_, rfl, c, _, _, .ref b, false, rfl, rfl, hbs _, atI_nat (by rw [List.getElem?_map, eb]; rfl), ?_⟩
    refine ⟨_, rfl, _, rfl, a, b, _, _, k, rfl, hq, hb _, fun D hD => ?_⟩
    refine lc_it (walk_zipB (n := totF s0) (ka := k) (kb := false) (K := K) (a := a) (b := b) (xs := ws.map vN) (ys := (mwF s0 m).map vN) (by rw [List.length_map, List.length_map]; omega)) (fun i H' => Same H H' ∧ H' D = some (.lst (((maskW s0 m ws).take i).map vN))) ⟨same_upd hD, upd_same⟩ (fun i H' _ h => ⟨Same.sqb h.1 hq, hb _⟩) ?_ ?_
    · rintro i v H3 H4 hi ⟨sm, gD⟩ ⟨T1, x1, y1, rfl, hT, rfl, e1, e2⟩
      have ex : ws[i]? = some (ws[i]'(by omega)) := List.getElem?_eq_getElem _
      have ey : (mwF s0 m)[i]? = some ((mwF s0 m)[i]'(by omega)) := List.getElem?_eq_getElem _
      generalize ws[i]'(by omega) = x at ex
      generalize (mwF s0 m)[i]'(by omega) = y at ey
      replace e1 : (ws.map vN)[i]? = some x1 := e1
      replace e2 : ((mwF s0 m).map vN)[i]? = some y1 := e2
      rw [List.getElem?_map, ex] at e1
      rw [List.getElem?_map, ey] at e2
      obtain rfl := (Option.some.inj e1).symm
      obtain rfl := (Option.some.inj e2).symm
      have ez : (maskW s0 m ws)[i]? = some (x ^^^ y) := by
        unfold maskW
        rw [List.getElem?_zipWith, ex, ey]
      have sT := same_upd (o := .tup [vN x, vN y]) hT
      have gT := sT _ _ gD
      have ev : V.int (Builtin.bitXor (x : Int) (y : Int)) = vN (x ^^^ y) := congrArg V.int (bx x y)
      refine ⟨T1, [_, _], rfl, .inl (.inl upd_same), rfl, _, [_], rfl, _, [], rfl, rfl, rfl, ?_⟩
      refine ⟨_, rfl, rfl, _, rfl, ite2 (fun c => absurd c (by rw [decide_eq_false (fun e => by cases e)]; decide)) (fun _ => ?_)⟩
      refine ⟨_, rfl, _, rfl, _, _, rfl, rfl, _, gT, ?_, fun c o' hc => ?_, ?_⟩
      · have t58 := tot_le hs
        rw [List.length_map, List.length_take]
        exact small1000 (by omega)
      · rw [upd_ne (ne_of_none hc hD)]
        exact sT _ _ (sm _ _ hc)
      · rw [upd_same, List.take_add_one, ez, Option.toList_some, List.map_append, List.map_cons, ← ev]
        rfl
    · rintro H3 ⟨s3, g3⟩
      rw [List.take_of_length_le (by rw [maskW_len hs hm hl]; exact Nat.le_refl _)] at g3
      exact q D H3 s3 hD g3
/-- a symbol drawn -/
def drawF (s l m : Nat) (ws : List Nat) : Grid := layF s (maskW s m ws) ((stripL l m).map some)
def sp_dg (K : PySem.W.Frag) : Sp := fun vs H Q _ => ∃ (s l m : Nat) (a : Addr) (k : Bool) (ws : List Nat), vs = [.int ((s : Int) + 1), vN l, vN m, .ref a] ∧ s < 5 ∧ l < 4 ∧ m < 8 ∧ SqB k K H a (ws.map vN) ∧ (∀ x ∈ ws, x < span (bitsF s)) ∧ ws.length = totF s ∧ ∀ D H', Fr H H' D (drawF s l m ws) → Q (.ref D) H'
theorem ok_drawn_grid (T : Txt K mg) : FnOk P w K mg base CX0 3 T.f_drawn_grid T.d_drawn_grid ["size", "level", "mask", "words"] (sp_dg K) := by
  refine T.F_drawn_grid.ok sc_drawn_grid (fun vs H Q E h => ?_) (fun cdv A outer s H vs Q E hr h => ?_)
  · obtain ⟨s, l, m, a, k, ws, rfl, _⟩ := h
    rfl
  · obtain ⟨s0, l, m, a, k, ws, rfl, hs, hl, hm, hq, hw, hn, q⟩ := h
    refine ⟨_, (pss_one (ps_ret (pe_call (ok_grid_of_words T) (hr.mono (by decide)) (by rfl) T.g_grid_of_words T.F_grid_of_words.kp T.b_grid_of_words .nil pass0 (pa_cons (pv 0) (pa_cons (pe_call (ok_masked_words T) (hr.mono (by decide)) (by rfl) T.g_masked_words T.F_masked_words.kp T.b_masked_words .nil pass0 (pa_cons (pv 0) (pa_cons (pv 2) (pa_cons (pv 3) pa_nil)))) (pa_cons (pe_call (ok_strip_shades T) (hr.mono (by decide)) (by rfl) T.g_strip_shades T.F_strip_shades.kp T.b_strip_shades .nil pass0 (pa_cons (pv 1) (pa_cons (pv 2) pa_nil))) pa_nil)))))), ?_⟩
    refine ⟨_, rfl, _, rfl, _, rfl, _, rfl, s0, m, a, k, ws, rfl, hs, hm, hq, hn, fun D1 H1 s1 n1 g1 => ?_⟩
    refine ⟨_, rfl, _, rfl, l, m, rfl, hl, hm, fun D2 H2 s2 n2 g2 => ?_⟩
    have e : (stripL l m).map vN = ((stripL l m).map some).map vG := by
      rw [List.map_map]
      rfl
    refine ⟨s0, D1, D2, true, maskW s0 m ws, (stripL l m).map some, rfl, hs, .lst (s2 _ _ g1), maskW_lt hs hm hw, maskW_len hs hm hn, by rw [← e]; exact g2, ?_, fun D H' F => q D H' (F.back (s1.trans s2))⟩
    unfold stripL
    rw [List.length_map, List.length_append, bitsW_len]
/-! CUT -/
theorem due_at {s l i : Nat} {rows : List (List Nat)} (hi : i < totF s) : (dueF s l rows)[i]? = some ((rows.getD (spotF s l i).1 []).getD (spotF s l i).2 0) := by
  unfold dueF
  rw [List.getElem?_map, order_at hi]
  rfl
theorem due_len (s l : Nat) (rows : List (List Nat)) : (dueF s l rows).length = totF s := by
  unfold dueF
  rw [List.length_map, order_len]
theorem back_due {s l : Nat} {rows : List (List Nat)} (hs : s < 5) (hl : l < 4) (h : RowsOk s rows) : backF s l (ofN (dueF s l rows)) = gridN rows := by
  refine List.ext_getElem? fun b => ?_
  unfold backF placesF gridN
  rw [List.map_map, List.getElem?_map, List.getElem?_map]
  by_cases hb : b < (blkF s).length
  · obtain ⟨r, er, lr, eg, _⟩ := h.row hb
    rw [List.getElem?_range hb, er]
    refine congrArg some ?_
    show (placeF s l b).map (fun i => (ofN (dueF s l rows)).getD i none) = r.map some
    refine List.ext_getElem? fun c => ?_
    rw [List.getElem?_map, List.getElem?_map]
    by_cases hc : c < (blkF s).getD b 0
    · have pin := place_in hs hl hb hc
      have lp := place_len hs hl hb
      have e1 : (placeF s l b)[c]? = some ((placeF s l b).getD c 0) := by rw [getD_in (by omega), List.getElem?_eq_getElem (by omega)]
      have e2 : r[c]? = some (r.getD c 0) := by rw [getD_in (by omega), List.getElem?_eq_getElem (by omega)]
      rw [e1, e2]
      refine congrArg some ?_
      show ((dueF s l rows).map some).getD ((placeF s l b).getD c 0) none = some (r.getD c 0)
      rw [List.getD_eq_getElem?_getD, List.getElem?_map, due_at pin.1, pin.2]
      show some ((rows.getD b []).getD c 0) = _
      rw [eg]
    · have lp := place_len hs hl hb
      rw [List.getElem?_eq_none (by omega), List.getElem?_eq_none (by omega)]
      rfl
  · rw [List.getElem?_eq_none (by rw [List.length_range]; omega), List.getElem?_eq_none (by rw [h.len]; omega)]
    rfl
theorem due_words {s l : Nat} {rows : List (List Nat)} (hs : s < 5) (hl : l < 4) (h : RowsOk s rows) {x : Nat} (hx : x ∈ dueF s l rows) : x < span (bitsF s) := by
  obtain ⟨i, hi, e⟩ := List.getElem_of_mem hx
  have ht : i < totF s := by rw [← due_len s l rows]; exact hi
  have e2 := due_at (l := l) (rows := rows) ht
  rw [List.getElem?_eq_getElem hi, e] at e2
  obtain ⟨b1, b2, _⟩ := spot_in hs hl ht
  obtain ⟨r, er, lr, eg, hw⟩ := h.row b1
  rw [eg] at e2
  rw [Option.some.inj e2, getD_in (by omega)]
  exact hw _ (List.getElem_mem _)
/-! ### the blocks of data words -/
def sharesD : List (List (List Int)) := [[[8, 4, 2, 1, 8, 4, 2, 1, 8, 4, 2, 1], [57, 216, 164, 82, 47, 27, 201, 104], [1601, 812, 3350, 2755], [741, 382, 3319, 1727]], [[230, 115, 253, 186, 59, 217, 168, 84, 145, 140, 70, 35, 196, 98, 49, 220, 42, 21, 206, 103, 93, 234, 117, 254, 162, 81, 236, 118, 25, 200, 100, 50], [53820, 41430, 23715, 58973, 5074, 52641, 27228, 13798, 19417, 10664, 6228, 50402, 45670, 37171, 36061, 18090, 52378, 26245, 13134, 56615, 54660, 44610, 22305, 61212], [7149884, 3852502, 13984931, 11416157, 15489839, 7792923, 15956169, 12448872, 1728909, 12926026, 7263781, 3646238, 11972949, 9673966, 9274999, 4867071], [3755124567, 2879479791, 1499261819, 3907418617, 507582810, 3341600997, 1863738494, 1002648311]], [[3304254554, 1652127277, 830749614, 2688722263, 1344400019, 682128881, 341082816, 170541408, 3224441698, 1621143857, 810606752, 405303376, 202651688, 101325844, 50662922, 3115976453, 178691248, 89345624, 3130074924, 1576053526, 2524507403, 1262276285, 2636015590, 4128213875, 3863766094, 1931883047, 2165512619, 4172395757, 2095078094, 1047539047, 523808395, 3072088061, 2334746955, 4255943837, 3327543030, 1663771515, 2309859717, 4243516666, 2121758333, 1065565062, 2113027378, 2256119321, 1132745652, 2571276634, 4095864877, 2057861294, 1028930647, 2787778195, 1475599608, 2478927484, 4057478974, 3228345119, 1614211511, 807128291, 414541513, 216151004, 3386238329, 3704801924, 1852400962, 931957281, 2739291560, 3911424596, 3433647402, 1726782997, 708767611, 354406277, 2998394874, 1508104061, 2496254854, 1255985475, 628019353, 2855758068, 2567668886, 4106043979, 2061902237, 1030990070, 2793493627, 1408772741, 2440828410, 4030640765, 4201325362, 2106435865, 2264853684, 1132426842, 2575776557, 4110132654, 2059790935, 1037727123, 1467237862, 2470091379, 4045229441, 3233193720, 1616596860, 815111998, 418576159, 209306551, 536003753, 3078185708, 3817091446, 3376586811, 3693170853, 1856514282, 928257141, 2737441410, 1964910540, 2182064998, 1103097139, 2565328545, 1288398824, 652053364, 332856634, 2976630301, 980604703, 490329015, 3064254947, 1532154057, 2502519004, 4071371886, 2035685943, 2217414051, 930518101, 2738571922, 3919914313, 3437931164, 1718965582, 864195111, 2705410475, 3902315757, 2875835526, 3985400387, 3460706713, 1730388212, 2343129210, 4260112445, 3329627302, 1664813651, 2797532268, 1398766134, 2442607899, 4042499765, 2025935842, 1020825969, 510455936, 255227968], [11631445368222200359, 16757226603236759979, 8430264473103348973, 4215132682286095054, 2127692246514806119, 13185144227365891723, 6612698019052607485, 10798148012564517830, 11286156707044472768, 5643156968611488608, 2821780691498690864, 12327615842502233112, 17080612548063618572, 14845346474573443846, 7474455287152681219, 10042451597182888121, 10639353337785837107, 17389508145544639393, 13876083323396268520, 6985189233553631348, 3492595336183837754, 1746297670633667101, 873148835316833718, 436575001373947483, 14725918171734653040, 7362959087603768376, 3681480057057259036, 11651691798684899086, 16780895730720682759, 8415225909652808123, 4207709540982114533, 2103986162130576586, 12784775150913286762, 16156358658598254901, 8078180051516368034, 4086315699446436433, 2081297710278060432, 1040780828751342664, 540515875210483236, 13492826890641615634, 15693895632876875266, 15338545437432289025, 7698483995361915832, 3849242373501608284, 11713186419122948142, 5908244177151353879, 10412083074042966707, 5226167373665933793, 601442746768626484, 300721682216694042, 150360841108381709, 75180796363829438, 13311810352767907935, 6694045035739225239, 3347022519606054643, 1693839062989604801, 15045864825244261926, 7556569119678353171, 3778399079910252465, 1914013077710043104, 1008657197088228208, 13747022565349710136, 6907147542391804956, 10940667417025866254, 10964401003168060513, 5524843960555694728, 2762422493526439236, 1381211966179156514, 12802896753314517265, 16207896343290089648, 8104150376557856856, 4072349634138874924, 17689354081001786075, 14017069458881996245, 7008534729450949330, 9843056902220301673, 4968675509709216396, 2484338542981107014, 1242169271499464227, 12728871940985999273, 18441550478853928801, 14397522581902771080, 15809644568615180612, 15387578905448076322, 15203567669887592977, 7621909295786440112, 10115994847903261272, 5082776050207445292, 17661694130517478392, 13983043655520025980, 7043172485986436670, 9826626511443288863, 4942446500601498039, 2518370685917920483, 1279311317042364105, 12742939365588156380, 8331638501093071846, 9365180490124875123, 17925285001190953601, 8996374970669427192, 4527521905812671612, 2263840218683098686, 13201567761388806943, 16402824318065224119, 842175138573635872, 13643858282969616400, 16585733578153158664, 8292866790276150276, 9298551368861948418, 17923679016823688449, 9000128354123497144, 4500161172460363612], [15953170217339834914600, 874530834917010197893908, 1077152410060201040269578, 538576252291540552765445, 269288126329940487792826, 774535658523382648550493, 390663723656105412598422, 197831395650040356277579, 411268812698841356545256, 694405642366696607340148, 1141584184732933224082234, 910947134753112213531933, 455486790077105873678006, 229067541009105795577691, 117918748173848054563733, 58965708443746700884466, 462603992718255429742907, 645828005812005161500837, 322914002906004863992042, 163071143359096611479669, 81535609985985134334082, 831777413442883507259457, 415888706722023729530008, 211041679094202757808716, 810187335599123403592467, 1120539672544734968123825, 973488973301854438486240, 486749663398338402482288, 656581950601709510343736, 1198230222737304291188252, 936764315060410342706958, 468382182255848710651655, 1191507474855280717556494, 597967887280414404873479, 302080078496575889342139, 792248250840013244432357, 1113774538730999335454666, 972003574742022022822757, 1050330916246656532530570, 525178727839543512652357, 1049852354028773180849902, 524926177111381984354167, 675670202953843558430595, 1204400267808998430925817, 939860254155178672966084, 1037644247185864810617954, 1007587054570524121001521, 994474030446415501473696, 1063923808221992058118640, 947373357445474288306296, 476776533080658313823292, 238400336187330521866782, 120528907831907866054927, 854645864683686684242111, 427328104663892981143783, 214982994533216728198347, 621580836221128364132323, 1180434517475533231602633, 929190590385403207411164, 466812903678018933541486, 235315689850638405362999, 757543655638707052186275, 378771875133710633354729, 191894120411191046085324, 600202709149728473246168, 640853610415071442209900, 1186981079443966223402550, 931147252859113805652763, 1032703172656144935791029, 516356758571952751111394, 673303347196092097132145, 339741523355853233273728, 1001513588223395066256852, 500767710837707539871338, 250383855567839605062453, 768457563750661051549090, 384239698600828471474769, 682804986665721688784272, 341402493333581987874376, 172910784701880087364388, 783057443745831099492242, 1108887450416103940016969, 554443763462086582132124, 614871085440904370116174, 307435562924974903683879, 718052697463516705099179, 362411326269728584433389, 181213121096292946444238, 264353877831594434844934, 772068565720789124224003, 1102798052256201460566713, 964614733395132976670180, 484511752614377327274610, 245352044817340535035193, 762569950553071752811172, 1096728649663575818193234], [2096219824289145559934226169, 1192914196792046455072319428, 57387520723407546261148568418, 70734760201764109637620923697, 35367380100882055469498025632, 17828160070862627249092780880, 51052584950617469997334890792, 25613372471118572501271182356, 74020786575134952915435671197, 64091198210948580543172126710, 69029395428375847208802298747, 66768798441429432819613822341, 65580395950737416135444451066, 64822385256842535948733605757, 64529329341032928881937058694, 32486919163683255795188563267, 75288055738950484669537928368, 59772696450774227924298834520, 66869809103461906343872303404, 33637401535779044764427464726, 16818702689230817992834504715, 8409353263646357279601536189, 56044284246691135647186884326, 69957360954162454486134229875, 17930252566038664269173710462, 51006128917761246824813834047, 25648097031209380970973147047, 12949963346390333063200042987, 53487423746752892534556774349, 26868839080731394332533907422, 13559957888743404025441277807, 53666957932330188045809275791, 60162378629818582336314453010, 30187685762699377418546796041, 42174496687888708613747780540, 21232128198525201101809036638, 10616067489392369849772600879, 5452916095390228915550451631, 54566065368568087484394275823, 27427836968931517623729256911, 53032205832877072315786177358, 73528205735313311192071138599, 64047329797781355290269896363, 32024307574230982632884037613, 43178530352349434807991110606, 78380102138511867390703435111, 61318229277834494406484936331, 30842269990456636175175934973, 43674236650800276080072294893, 78627955276820597643375147214, 39536682080559190574560869479, 42060328700879004914004082315, 77926785706970390825414172669, 61236040190718271036449798086, 67727166919287008008316511075, 33864375775005222199691364745, 41796317837830395629356911469, 77910496121125578748145417614, 61084295021424485176090551879, 67650730014151238084617270171, 34028348846792195423994085877, 44181344769980992104856418498, 22235479475236500697269697633, 48101764348153796152842010248, 74878651985916392391657059799, 59568221551593558124842042067, 29871264417904119410322727377, 14935632208952226281172994256, 7468153760009307166097097832, 3918095709148524394633634356, 1959388888788961164910989594, 979694449546729947811590157, 78238322470506754468126235636, 39264270260705030897656984954, 19632137925034321675436081725, 51857070421797054786099831206, 73038067525300891568270641235, 63685410318140877971079120017, 68970632967732581131896234736, 34611158539400287051384885624]]]
def mostL : List (List Nat) := [[3, 2, 1, 1], [8, 6, 4, 2], [18, 14, 12, 10]]
/-- how many words the shares are told for -/
def mostW (s l : Nat) : Nat := (mostL.getD (min s 2) []).getD l 0
def shF (s l n : Nat) : List Nat := shL (bitsF s) (startF s l) (ckF s l) n
def chF (s l : Nat) (ws : List Nat) : List Nat := chk (bitsF s) (startF s l) (ckF s l) ws
theorem shares_is {s l : Nat} (hs : s < 5) (hl : l < 4) : (sharesD.getD (min s 2) []).getD l [] = (shF s l (mostW s l)).map fun n : Nat => (n : Int) :=
  eq_of_beq (all20 (P := fun s l => (sharesD.getD (min s 2) []).getD l [] == (shF s l (mostW s l)).map fun n : Nat => (n : Int)) (by decide +kernel) hs hl)
theorem own_most {s l : Nat} (hs : s < 5) (hl : l < 4) : ∀ n ∈ blkF s, n - ckF s l ≤ mostW s l := fun n hn =>
  of_decide_eq_true (List.all_eq_true.mp (all20 (P := fun s l => (blkF s).all fun n => decide (n - ckF s l ≤ mostW s l)) (by decide +kernel) hs hl) n hn)
theorem most_18 {s l : Nat} (hs : s < 5) (hl : l < 4) : mostW s l ≤ 18 := of_decide_eq_true (all20 (P := fun s l => decide (mostW s l ≤ 18)) (by decide +kernel) hs hl)
theorem shares_row {s l : Nat} (hs : s < 5) (hl : l < 4) : ∃ S, sharesD[min s 2]? = some S ∧ S.length = 4 ∧ S[l]? = some ((shF s l (mostW s l)).map fun n : Nat => (n : Int)) := by
  have z := all20 (P := fun s l => decide (min s 2 < sharesD.length) && decide ((sharesD.getD (min s 2) []).length = 4)) (by decide +kernel) hs hl
  rw [Bool.and_eq_true] at z
  have z1 := of_decide_eq_true z.1
  have z2 := of_decide_eq_true z.2
  refine ⟨sharesD.getD (min s 2) [], ?_, z2, ?_⟩
  · rw [List.getD_eq_getElem?_getD, List.getElem?_eq_getElem z1]
    rfl
  · rw [← shares_is hs hl, List.getD_eq_getElem?_getD (l := sharesD.getD (min s 2) []), List.getElem?_eq_getElem (by omega)]
    rfl
def sp_so (K : PySem.W.Frag) : Sp := fun vs H Q _ => ∃ s l n : Nat, vs = [.int ((s : Int) + 1), vN l, vN n] ∧ s < 5 ∧ l < 4 ∧ n ≤ mostW s l ∧ ∀ p H', Same H H' → SqT K H' p ((shF s l n).map vN) → Q (.ref p) H'
theorem ok_shares_of (T : Txt K mg) : FnOk P w K mg base CX0 1 T.f_shares_of T.d_shares_of ["size", "level", "own"] (sp_so K) := by
  refine T.F_shares_of.ok sc_shares_of (fun vs H Q E h => ?_) (fun cdv A outer s H vs Q E hr h => ?_)
  · obtain ⟨s, l, n, rfl, _⟩ := h
    rfl
  · obtain ⟨s0, l, n, rfl, hs, hl, hn, q⟩ := h
    refine ⟨_, (pss_cons (ps_set (i := 3) sc_shares_of.nd rfl (.inl rfl) (pe_ix ix_rowB (pe_ix ix_rowB (pe_glob (v := .ref T.a_SHARES) (by rfl) T.g_SHARES rfl) (pe_op op_sub (pe_callB (call_min2 rfl) (by rfl) T.n_min (by decide +kernel) (pa_cons (pv 0) (pa_cons pe_int pa_nil))) pe_int) (fun _ _ => rfl)) (pv 1) (fun _ _ => rfl)))
      (pss_one (ps_ret (pe_slice sl_rowB (pv 3) (po_some (pe_op op_sub (pe_callB call_len_seq (by rfl) T.n_len (by decide +kernel) (pa_cons (pv 3) pa_nil)) (pe_op op_mul (pv 2) (pe_ix ix_rowB (pe_glob (v := .ref T.a_WORD_BITS) (by rfl) T.g_WORD_BITS rfl) (pe_op op_sub (pv 0) pe_int) (fun _ _ => rfl))))) po_none)))), ?_⟩
    obtain ⟨S, eS, lS, eR⟩ := shares_row hs hl
    obtain ⟨cs, hcs, c, hat, bs, hbs, lbs, hrow⟩ := tup3_at (i := min s0 2) (show tup3B K T.a_SHARES sharesD = true from T.l_SHARES) eS
    obtain ⟨xb, hX, hx⟩ := bit_at T hs
    have eb : bs[l]? = some (bs[l]'(by omega)) := List.getElem?_eq_getElem _
    generalize bs[l]'(by omega) = b at eb
    have hb : ∀ H, SqT K H b ((shF s0 l (mostW s0 l)).map vN) := fun H => by rw [vN_ints]; exact hrow l b _ eb eR H
    have ls : (shF s0 l (mostW s0 l)).length = mostW s0 l * bitsF s0 := shL_len _ _ _ _
    have m18 := most_18 hs hl
    have hwd := bits_wd hs
    have b8 : bitsF s0 ≤ 8 := by rcases hwd with h | h <;> omega
    have em : (if (3 : Int) < (s0 : Int) + 1 then (3 : Int) else (s0 : Int) + 1) - 1 = ((min s0 2 : Nat) : Int) := by
      split <;> omega
    refine ⟨_, rfl, _, _, rfl, _, _, rfl, rfl, T.a_SHARES, _, _, .ref c, false, rfl, rfl, hcs _, (by rw [em]; exact hat), ?_⟩
    refine ⟨_, rfl, c, _, _, .ref b, false, rfl, rfl, hbs _, atI_nat (by rw [List.getElem?_map, eb]; rfl), ?_⟩
    refine ⟨_, rfl, ?_⟩
    refine ⟨_, rfl, b, _, rfl, .inr (hb _), _, rfl, _, rfl, _, _, rfl, rfl, T.a_WORD_BITS, _, _, vN (bitsF s0), false, rfl, rfl, hX _, (by rw [show (s0 : Int) + 1 - 1 = (s0 : Int) + 1 - 1 from rfl]; exact hx), _, _, rfl, rfl, .inr ⟨by omega, by omega⟩, _, _, rfl, rfl, _, rfl, b, _, false, rfl, hb _, fun p H' sm hp => q p H' sm ?_⟩
    have le : ((((shF s0 l (mostW s0 l)).map vN).length : Nat) : Int) - (n : Int) * (bitsF s0 : Int) = (((mostW s0 l - n) * bitsF s0 : Nat) : Int) := by
      have h1 := Nat.sub_mul (mostW s0 l) n (bitsF s0)
      have h2 : n * bitsF s0 ≤ mostW s0 l * bitsF s0 := Nat.mul_le_mul_right _ hn
      rw [List.length_map, ls, h1, Int.ofNat_sub h2, Int.natCast_mul, Int.natCast_mul]
    have lk : (mostW s0 l - n) * bitsF s0 ≤ ((shF s0 l (mostW s0 l)).map vN).length := by
      rw [List.length_map, ls]
      exact Nat.mul_le_mul_right _ (Nat.sub_le _ _)
    have hp' : SqT K H' p (cutV ((shF s0 l (mostW s0 l)).map vN) (some (((((shF s0 l (mostW s0 l)).map vN).length : Nat) : Int) - (n : Int) * (bitsF s0 : Int))) none) := hp
    rw [le, cut_from _ _ lk, ← List.map_drop] at hp'
    have ed : (shF s0 l (mostW s0 l)).drop ((mostW s0 l - n) * bitsF s0) = shF s0 l n := by
      have z := shL_drop (bitsF s0) (startF s0 l) (ckF s0 l) n (mostW s0 l - n)
      rw [show n + (mostW s0 l - n) = mostW s0 l by omega] at z
      exact z
    rw [ed] at hp'
    exact hp'
/-! CUT -/
def ownsF (s l : Nat) : List Nat := (blkF s).map fun n => n - ckF s l
def sp_oc : Sp := fun vs H Q _ => ∃ s l : Nat, vs = [.int ((s : Int) + 1), vN l] ∧ s < 5 ∧ l < 4 ∧ ∀ D H', Same H H' → H D = none → H' D = some (.lst ((ownsF s l).map vN)) → Q (.ref D) H'
theorem ok_own_counts (T : Txt K mg) : FnOk P w K mg base CX0 1 T.f_own_counts T.d_own_counts ["size", "level"] sp_oc := by
  refine T.F_own_counts.ok sc_own_counts (fun vs H Q E h => ?_) (fun cdv A outer s H vs Q E hr h => ?_)
  · obtain ⟨s, l, rfl, _⟩ := h
    rfl
  · obtain ⟨s0, l, rfl, hs, hl, q⟩ := h
    refine ⟨_, (pss_cons (ps_set (i := 2) sc_own_counts.nd rfl (.inr rfl) (pe_ix ix_rowB (pe_ix ix_rowB (pe_glob (v := .ref T.a_CHECKS) (by rfl) T.g_CHECKS rfl) (pe_op op_sub (pv 0) pe_int) (fun _ _ => rfl)) (pv 1) (fun _ _ => rfl)))
      (pss_one (ps_ret (pe_lc (own := [("words", 3)]) rfl sc_own_counts.nd (pi_seqK (K := K) rfl (pe_ix (ix_rowBK (K := K) rfl) (pe_glob (v := .ref T.a_BLOCKS) (by rfl) T.g_BLOCKS rfl) (pe_op op_sub (pv 0) pe_int) (fun _ _ => rfl))) (blkOk_by (N := ["size", "level", "checks", "words"]) (sc := defScope s_own_counts) (by decide +kernel)) (fun _ _ _ _ _ => by exact (pg_name (i := 3) sc_own_counts.nd rfl (.inl rfl))) (fun _ _ _ _ _ => by exact pts_nil) (fun _ _ _ _ _ => by exact (pe_op op_sub (pv 3) (pv 2))))))), ?_⟩
    obtain ⟨c, hc, hC⟩ := chk_at T hs
    obtain ⟨b, hb, hB⟩ := blk_at T hs
    have one : (s0 : Int) + 1 - 1 = (s0 : Int) := by omega
    refine ⟨_, rfl, _, _, rfl, rfl, T.a_CHECKS, _, _, .ref c, false, rfl, rfl, T.l_CHECKS.sq (by show 5 ≤ 1000; decide), (by rw [one]; exact hc), ?_⟩
    refine ⟨_, rfl, c, _, _, vN (ckF s0 l), false, rfl, rfl, hC _, ck_at hs hl, ?_⟩
    refine ⟨_, rfl, _, _, rfl, rfl, T.a_BLOCKS, _, _, .ref b, false, rfl, rfl, T.l_BLOCKS.sq (by show 5 ≤ 1000; decide), (by rw [one]; exact hb), ?_⟩
    refine ⟨b, _, false, rfl, hB _, fun D hD => ?_⟩
    have ge := blk_ge hs hl
    refine lc_it (walk_seq (b := false) (K := K) (a := b) (xs := (blkF s0).map vN)) (fun i H' => Same H H' ∧ H' D = some (.lst (((ownsF s0 l).take i).map vN))) ⟨same_upd hD, upd_same⟩ (fun i H' _ h => hB _) ?_ ?_
    · rintro i v H2 H3 hi ⟨sm, gD⟩ ⟨rfl, e2⟩
      rw [List.length_map] at hi
      have e1 : (blkF s0)[i]? = some (blkF s0)[i] := List.getElem?_eq_getElem hi
      have hn := ge _ (List.getElem_mem hi)
      have l22 := blk_le3 hs
      generalize (blkF s0)[i] = n at e1 hn
      rw [List.getElem?_map, e1] at e2
      obtain rfl := (Option.some.inj e2).symm
      have eo : (ownsF s0 l)[i]? = some (n - ckF s0 l) := by
        unfold ownsF
        rw [List.getElem?_map, e1]
        rfl
      have ev : (fun i j : Int => V.int (i - j)) (n : Int) (ckF s0 l : Int) = vN (n - ckF s0 l) := congrArg V.int (by omega)
      refine ⟨rfl, ?_⟩
      refine ⟨_, rfl, _, rfl, _, _, rfl, rfl, _, gD, ?_, fun c o' hc => ?_, ?_⟩
      · rw [List.length_map, List.length_take]
        exact small1000 (by omega)
      · rw [upd_ne (ne_of_none hc hD)]
        exact sm _ _ hc
      · rw [upd_same, ev, List.take_add_one, eo, Option.toList_some, List.map_append]
        rfl
    · rintro H2 ⟨s2, g2⟩
      rw [List.take_of_length_le (by unfold ownsF; rw [List.length_map, List.length_map]; exact Nat.le_refl _)] at g2
      exact q D _ s2 hD g2
def sp_ct (K : PySem.W.Frag) : Sp := fun vs H Q _ => ∃ (s l : Nat) (a : Addr) (k : Bool) (ws : List Nat), vs = [.int ((s : Int) + 1), vN l, .ref a] ∧ s < 5 ∧ l < 4 ∧ SqB k K H a (ws.map vN) ∧ (∀ x ∈ ws, x < span (bitsF s)) ∧ ws.length ≤ mostW s l ∧ ∀ H', Same H H' → Q (vN (numF (bitsF s) (chF s l ws))) H'
theorem ok_checks_told (T : Txt K mg) : FnOk P w K mg base CX0 2 T.f_checks_told T.d_checks_told ["size", "level", "words"] (sp_ct K) := by
  refine T.F_checks_told.ok sc_checks_told (fun vs H Q E h => ?_) (fun cdv A outer s H vs Q E hr h => ?_)
  · obtain ⟨s, l, a, k, ws, rfl, _⟩ := h
    rfl
  · obtain ⟨s0, l, a, k, ws, rfl, hs, hl, hq, hw, hn, q⟩ := h
    refine ⟨_, (pss_cons (ps_set (i := 3) sc_checks_told.nd rfl (.inl rfl) pe_int)
      (pss_cons (ps_for PassesOwn.never rfl (pi_zipTL (K := K) rfl (by rfl) T.n_zip (pa_cons (pe_call (ok_shares_of T) (hr.mono (by decide)) (by rfl) T.g_shares_of T.F_shares_of.kp T.b_shares_of .nil pass0 (pa_cons (pv 0) (pa_cons (pv 1) (pa_cons (pe_callB call_len_seq (by rfl) T.n_len (by decide +kernel) (pa_cons (pv 2) pa_nil)) pa_nil)))) (pa_cons (pe_call (ok_words_as_bits T) (hr.mono (by decide)) (by rfl) T.g_words_as_bits T.F_words_as_bits.kp T.b_words_as_bits .nil pass0 (pa_cons (pv 2) (pa_cons (pe_ix ix_rowB (pe_glob (v := .ref T.a_WORD_BITS) (by rfl) T.g_WORD_BITS rfl) (pe_op op_sub (pv 0) pe_int) (fun _ _ => rfl)) pa_nil))) pa_nil))) (pg_tup rfl (pgs_cons (pg_name (i := 4) sc_checks_told.nd rfl (.inl rfl)) (pgs_cons (pg_name (i := 5) sc_checks_told.nd rfl (.inl rfl)) pgs_nil))) (pss_one (ps_if (pt_truth (pv 5) (by intro _; rfl)) (pss_one (ps_aug (i := 3) sc_checks_told.nd rfl (.inl rfl) (pv 4) (pip_of iop_xor))) pss_nil)))
      (pss_one (ps_ret (pv 3))))), ?_⟩
    obtain ⟨xb, hX, hx⟩ := bit_at T hs
    have hwd := bits_wd hs
    have m18 := most_18 hs hl
    refine ⟨_, rfl, _, rfl, _, rfl, a, _, rfl, hq.or, ?_⟩
    rw [List.length_map]
    refine ⟨s0, l, ws.length, rfl, hs, hl, hn, fun p H1 s1 g1 => ?_⟩
    refine ⟨_, rfl, _, rfl, _, _, rfl, rfl, T.a_WORD_BITS, _, _, vN (bitsF s0), false, rfl, rfl, hX _, hx, a, k, bitsF s0, ws, rfl, hwd, Same.sqb s1 hq, hw, by omega, fun D H2 s2 n2 g2 => ?_⟩
    have ls : (shF s0 l ws.length).length = ws.length * bitsF s0 := shL_len _ _ _ _
    have lb : (wordsB (bitsF s0) ws).length = ws.length * bitsF s0 := by rw [wordsB_len, Nat.mul_comm]
    have g3 : SqB false K H2 p ((shF s0 l ws.length).map vN) := Same.sqb s2 (b := false) g1
    have g4 : SqB true K H2 D ((wordsB (bitsF s0) ws).map vN) := .inl (.inl g2)
    have smA := s1.trans s2
    refine ⟨p, D, _, _, rfl, g3, g4, ?_⟩
    refine for_it (walk_zipB (n := ws.length * bitsF s0) (ka := false) (kb := true) (K := K) (a := p) (b := D) (xs := (shF s0 l ws.length).map vN) (ys := (wordsB (bitsF s0) ws).map vN) (by rw [List.length_map, List.length_map, ls, lb, Nat.min_self])) (fun i σ H' => ∃ z1 z2 : Option V, σ = [some (.int ((s0 : Int) + 1)), some (vN l), some (.ref a), some (vN (tellF 0 ((shF s0 l ws.length).take i) ((wordsB (bitsF s0) ws).take i))), z1, z2] ∧ Same H2 H') ⟨_, _, rfl, Same.refl _⟩ (fun i σ H' _ ⟨_, _, _, sm⟩ => ⟨Same.sqb sm g3, Same.sqb sm g4⟩) ?_ ?_
    · rintro i x σ H4 H5 hi ⟨z2, z3, rfl, sm⟩ ⟨T1, x1, y1, rfl, hT, rfl, e1, e2⟩
      have ex : (shF s0 l ws.length)[i]? = some ((shF s0 l ws.length)[i]'(by omega)) := List.getElem?_eq_getElem _
      have ey : (wordsB (bitsF s0) ws)[i]? = some ((wordsB (bitsF s0) ws)[i]'(by omega)) := List.getElem?_eq_getElem _
      generalize (shF s0 l ws.length)[i]'(by omega) = x at ex
      generalize (wordsB (bitsF s0) ws)[i]'(by omega) = y at ey
      replace e1 : ((shF s0 l ws.length).map vN)[i]? = some x1 := e1
      replace e2 : ((wordsB (bitsF s0) ws).map vN)[i]? = some y1 := e2
      rw [List.getElem?_map, ex] at e1
      rw [List.getElem?_map, ey] at e2
      obtain rfl := (Option.some.inj e1).symm
      obtain rfl := (Option.some.inj e2).symm
      have sT := same_upd (o := .tup [vN x, vN y]) hT
      have et : tellF 0 ((shF s0 l ws.length).take (i + 1)) ((wordsB (bitsF s0) ws).take (i + 1)) = if y = 0 then tellF 0 ((shF s0 l ws.length).take i) ((wordsB (bitsF s0) ws).take i) else tellF 0 ((shF s0 l ws.length).take i) ((wordsB (bitsF s0) ws).take i) ^^^ x := by
        rw [List.take_add_one, List.take_add_one, ex, ey]
        exact tell_snoc (by rw [List.length_take, List.length_take, ls, lb])
      refine ⟨T1, [_, _], rfl, .inl (.inl upd_same), rfl, _, [_], rfl, _, [], rfl, rfl, ?_⟩
      rcases Nat.eq_zero_or_pos y with e0 | e0
      · subst e0
        rw [if_pos rfl] at et
        refine ⟨_, rfl, false, rfl, iteF ?_⟩
        rw [et]
        exact ⟨_, _, rfl, sm.trans sT⟩
      · have ny : ¬ y = 0 := by omega
        rw [if_neg ny] at et
        refine ⟨_, rfl, true, ?_, iteT ?_⟩
        · show true = ((y : Int) != 0)
          rw [show ((y : Int) != 0) = true from by rw [bne_iff_ne]; omega]
        · refine ⟨_, rfl, _, rfl, _, _, rfl, rfl, ?_⟩
          rw [et]
          have ev : V.int (Builtin.bitXor ((tellF 0 ((shF s0 l ws.length).take i) ((wordsB (bitsF s0) ws).take i) : Nat) : Int) (x : Int)) = vN (tellF 0 ((shF s0 l ws.length).take i) ((wordsB (bitsF s0) ws).take i) ^^^ x) := congrArg V.int (bx _ _)
          rw [← ev]
          exact ⟨_, _, rfl, sm.trans sT⟩
    · rintro σ H4 ⟨z1, z2, rfl, sm⟩
      rw [List.take_of_length_le (by omega), List.take_of_length_le (by omega)]
      have ec : tellF 0 (shF s0 l ws.length) (wordsB (bitsF s0) ws) = numF (bitsF s0) (chF s0 l ws) := tell_chk hwd ws hw
      rw [ec]
      exact ⟨_, rfl, q _ (smA.trans sm)⟩
/-! CUT -/
def sp_nw : Sp := fun vs H Q _ => ∃ (b : Nat) (ws : List Nat), vs = [vN (numF b ws), vN ws.length, vN b] ∧ Wd b ∧ (∀ x ∈ ws, x < span b) ∧ ws.length ≤ 100 ∧ ∀ D H', Same H H' → H D = none → H' D = some (.lst (ws.map vN)) → Q (.ref D) H'
theorem and_last (b n : Nat) : Builtin.bitAnd (n : Int) ((2 ^ b - 1 : Nat) : Int) = ((n % 2 ^ b : Nat) : Int) := by
  have h := PyProof.Rows.bitAnd_pp (x := (n : Int)) (y := ((2 ^ b - 1 : Nat) : Int)) (by omega) (by omega)
  rw [h, Int.toNat_natCast, Int.toNat_natCast]
  show ((n &&& (2 ^ b - 1) : Nat) : Int) = _
  rw [Nat.and_two_pow_sub_one_eq_mod]
theorem ok_number_as_words (T : Txt K mg) : FnOk P w K mg base CX0 1 T.f_number_as_words T.d_number_as_words ["number", "many", "bits"] sp_nw := by
  refine T.F_number_as_words.ok sc_number_as_words (fun vs H Q E h => ?_) (fun cdv A outer s H vs Q E hr h => ?_)
  · obtain ⟨b, ws, rfl, _⟩ := h
    rfl
  · obtain ⟨b, ws, rfl, hb, hw, hl, q⟩ := h
    refine ⟨_, (pss_cons (ps_set (i := 3) sc_number_as_words.nd rfl (.inr rfl) (pe_op op_sub (pe_op op_shl pe_int (pv 2)) pe_int))
      (pss_one (ps_ret (pe_lc (own := [("place", 4)]) rfl sc_number_as_words.nd (pi_range3 (by rfl) T.n_range (pa_cons (pe_op op_sub (pv 1) pe_int) (pa_cons (pe_un un_neg pe_int) (pa_cons (pe_un un_neg pe_int) pa_nil)))) (blkOk_by (N := ["number", "many", "bits", "last", "place"]) (sc := defScope s_number_as_words) (by decide +kernel)) (fun _ _ _ _ _ => by exact (pg_name (i := 4) sc_number_as_words.nd rfl (.inl rfl))) (fun _ _ _ _ _ => by exact pts_nil) (fun _ _ _ _ _ => by exact (pe_op op_and (pe_op op_shr (pv 0) (pe_op op_mul (pv 2) (pv 4))) (pv 3))))))), ?_⟩
    have hs2 := span_two hb
    have b8 : b = 4 ∨ b = 8 := hb
    have el : V.int (1 * 2 ^ ((b : Int)).toNat - 1) = vN (2 ^ b - 1) := by rcases b8 with rfl | rfl <;> rfl
    refine ⟨_, rfl, _, _, rfl, rfl, ⟨by omega, by omega, by decide⟩, _, _, rfl, rfl, ?_⟩
    show gName 3 (V.int (1 * 2 ^ ((b : Int)).toNat - 1)) _ _ _
    rw [el]
    refine ⟨_, rfl, _, _, rfl, rfl, _, rfl, _, rfl, (ws.length : Int) - 1, -1, -1, ws.length, rfl, ?_, fun D hD => ?_⟩
    · have h := RgC.neg (i := (ws.length : Int) - 1) (j := -1) (by omega) (by omega) (by decide) (by decide)
      rw [show ((ws.length : Int) - 1 - -1).toNat = ws.length by omega] at h
      exact h
    refine lc_it (walk_rngC (lo := (ws.length : Int) - 1) (c := -1) (n := ws.length)) (fun i H' => Same H H' ∧ H' D = some (.lst ((ws.take i).map vN))) ⟨same_upd hD, upd_same⟩ (fun i H' _ h => trivial) ?_ ?_
    · rintro i v H1 H2 hi ⟨sm, gD⟩ ⟨rfl, rfl⟩
      have ei : ws[i]? = some (numF b ws / 2 ^ (b * (ws.length - 1 - i)) % 2 ^ b) := numF_at (fun x hx => by rw [← hs2]; exact hw x hx) hi
      have ev : V.int (Builtin.bitAnd ((numF b ws : Nat) / 2 ^ ((b : Int) * ((ws.length : Int) - 1 + (i : Nat) * -1)).toNat) ((2 ^ b - 1 : Nat) : Int)) = vN (numF b ws / 2 ^ (b * (ws.length - 1 - i)) % 2 ^ b) := by
        have et : ((b : Int) * ((ws.length : Int) - 1 + (i : Nat) * -1)).toNat = b * (ws.length - 1 - i) := by
          rw [show (ws.length : Int) - 1 + (i : Nat) * -1 = ((ws.length - 1 - i : Nat) : Int) by omega, ← Int.natCast_mul, Int.toNat_natCast]
        rw [et]
        have e : ((numF b ws : Nat) : Int) / 2 ^ (b * (ws.length - 1 - i)) = ((numF b ws / 2 ^ (b * (ws.length - 1 - i)) : Nat) : Int) := by
          rw [Int.natCast_ediv, Int.natCast_pow]
          rfl
        rw [e, and_last]
        rfl
      refine ⟨rfl, ?_⟩
      refine ⟨_, rfl, _, rfl, _, rfl, _, _, rfl, rfl, .inl ⟨by omega, by omega⟩, _, _, rfl, rfl, ?_, _, rfl, _, _, rfl, rfl, _, gD, ?_, fun c o' hc => ?_, ?_⟩
      · show (0 : Int) ≤ (b : Int) * ((ws.length : Int) - 1 + (i : Nat) * -1)
        exact Int.mul_nonneg (by omega) (by omega)
      · rw [List.length_map, List.length_take]
        exact small1000 (by omega)
      · rw [upd_ne (ne_of_none hc hD)]
        exact sm _ _ hc
      · rw [upd_same, List.take_add_one, ei, Option.toList_some, List.map_append, List.map_cons, ← ev]
        rfl
    · rintro H1 ⟨s1, g1⟩
      rw [List.take_length] at g1
      exact q D H1 s1 hD g1
def partF (ns ds : List Nat) : List (List Nat) := (List.range ns.length).map fun i => (ds.drop (ns.take i).sum).take (ns.getD i 0)
theorem cut_mid (xs : List V) (i n : Nat) (h : i + n ≤ xs.length) : cutV xs (some (i : Int)) (some ((i : Int) + (n : Int))) = (xs.drop i).take n := by
  unfold cutV
  rw [show (i : Int) + (n : Int) = ((i + n : Nat) : Int) by omega, HT.sIx_nat, HT.sIx_nat, Nat.min_eq_left h, Nat.min_eq_left (by omega)]
  rw [show i + n - i = n by omega]
theorem sum_take_le (ns : List Nat) (i : Nat) : (ns.take i).sum ≤ ns.sum := by
  have h := congrArg List.sum (List.take_append_drop i ns)
  rw [List.sum_append] at h
  omega
theorem sum_take_next {ns : List Nat} {i n : Nat} (h : ns[i]? = some n) : (ns.take (i + 1)).sum = (ns.take i).sum + n := by
  rw [List.take_add_one, h, Option.toList_some, List.sum_append]
  simp
def sp_pd (K : PySem.W.Frag) : Sp := fun vs H Q _ => ∃ (s l : Nat) (a : Addr) (k : Bool) (ds : List Nat), vs = [.int ((s : Int) + 1), vN l, .ref a] ∧ s < 5 ∧ l < 4 ∧ SqB k K H a (ds.map vN) ∧ ds.length = dataF s l ∧ ∀ D H', Fr H H' D (gridN (partF (ownsF s l) ds)) → Q (.ref D) H'
theorem ok_parted_data (T : Txt K mg) : FnOk P w K mg base CX0 2 T.f_parted_data T.d_parted_data ["size", "level", "data"] (sp_pd K) := by
  refine T.F_parted_data.ok sc_parted_data (fun vs H Q E h => ?_) (fun cdv A outer s H vs Q E hr h => ?_)
  · obtain ⟨s, l, a, k, ds, rfl, _⟩ := h
    rfl
  · obtain ⟨s0, l, a, k, ds, rfl, hs, hl, hq, hn, q⟩ := h
    refine ⟨_, (pss_cons (ps_set (i := 3) sc_parted_data.nd rfl (.inl rfl) (pe_lst pa_nil))
      (pss_cons (ps_set (i := 4) sc_parted_data.nd rfl (.inl rfl) pe_int)
      (pss_cons (ps_for PassesOwn.never rfl (pi_list (pe_call (ok_own_counts T) (hr.mono (by decide)) (by rfl) T.g_own_counts T.F_own_counts.kp T.b_own_counts .nil pass0 (pa_cons (pv 0) (pa_cons (pv 1) pa_nil)))) (pg_name (i := 5) sc_parted_data.nd rfl (.inl rfl)) (pss_cons (ps_expr (pe_bm PySem.F.plainAttrs_list PySem.F.slot_list_append PySem.F.type_list_append mt_append (pv 3) (pa_cons (pe_callTy call_list_of (by rfl) T.n_list (by decide +kernel) (pa_cons (pe_slice sl_rowB (pv 2) (po_some (pv 4)) (po_some (pe_op op_add (pv 4) (pv 5)))) pa_nil)) pa_nil)))
      (pss_one (ps_aug (i := 4) sc_parted_data.nd rfl (.inl rfl) (pv 5) ip_add))))
      (pss_one (ps_ret (pv 3)))))), ?_⟩
    refine ⟨(by show 0 ≤ sizeLine; decide), fun F hF => ?_⟩
    refine ⟨_, rfl, _, rfl, s0, l, rfl, hs, hl, fun b H1 s1 hb gb => ?_⟩
    have l22 := blk_le3 hs
    have lo : (ownsF s0 l).length = (blkF s0).length := by unfold ownsF; rw [List.length_map]
    have hF1 : H1 F = some (.lst []) := s1 _ _ upd_same
    refine ⟨b, rfl, ⟨_, .inl (.inl gb)⟩, ?_⟩
    refine for_it (walk_list (K := K) (a := b) (xs := (ownsF s0 l).map vN)) (fun i σ H' => ∃ (z : Option V) (M : List Addr), σ = [some (.int ((s0 : Int) + 1)), some (vN l), some (.ref a), some (.ref F), some (vN ((ownsF s0 l).take i).sum), z] ∧ FrI H H' F M (gridN (partF (ownsF s0 l) ds)) i ∧ H' b = some (.lst ((ownsF s0 l).map vN))) ⟨_, [], rfl, (FrI.start hF).ext s1, gb⟩ (fun i σ H' _ ⟨_, _, _, _, g⟩ => .inl (.inl g)) ?_ ?_
    · rintro i x σ H2 H3 hi ⟨z, M, rfl, FI, g2⟩ ⟨rfl, e2⟩
      rw [List.length_map] at hi
      have en : (ownsF s0 l)[i]? = some ((ownsF s0 l)[i]'hi) := List.getElem?_eq_getElem hi
      generalize (ownsF s0 l)[i]'hi = n at en
      rw [List.getElem?_map, en] at e2
      obtain rfl := (Option.some.inj e2).symm
      have es := sum_take_next en
      have le := sum_take_le (ownsF s0 l) (i + 1)
      have et : dataF s0 l = (ownsF s0 l).sum := rfl
      have lc : ((ownsF s0 l).take i).sum + n ≤ (ds.map vN).length := by rw [List.length_map]; omega
      have ec := cut_mid (ds.map vN) _ _ lc
      refine ⟨_, rfl, .inl ⟨rfl, _, .inl (.inl FI.out)⟩, ?_⟩
      refine ⟨_, rfl, _, rfl, _, rfl, _, rfl, _, rfl, _, _, rfl, rfl, _, rfl, a, _, k, rfl, Same.sqb FI.same hq, fun p H4 s4 h4 => ?_⟩
      refine ⟨p, _, rfl, SqB.or h4, fun c hc => ?_⟩
      refine ⟨F, _, _, rfl, rfl, (same_upd hc) _ _ (s4 _ _ FI.out), ?_, ?_⟩
      · rw [List.length_map, FI.len]
        exact small1000 (by omega)
      have sc := s4.trans (same_upd (o := .lst (cutV (ds.map vN) (some (((ownsF s0 l).take i).sum : Nat)) (some ((((ownsF s0 l).take i).sum : Nat) + (n : Int))))) hc)
      have nb : b ≠ F := fun z => by rw [z, upd_same] at hb; cases hb
      have ep : (gridN (partF (ownsF s0 l) ds))[i]? = some (ofN ((ds.drop ((ownsF s0 l).take i).sum).take n)) := by
        unfold gridN partF
        rw [List.map_map, List.getElem?_map, List.getElem?_range hi]
        show some (ofN ((ds.drop ((ownsF s0 l).take i).sum).take ((ownsF s0 l).getD i 0))) = _
        rw [List.getD_eq_getElem?_getD, en]
        rfl
      refine ⟨_, rfl, _, rfl, _, _, rfl, rfl, some (vN n), M ++ [c], ?_, FI.step (c := c) hF ep sc (Same.free s4 hc) ?_, ?_⟩
      · rw [es]
        rfl
      · rw [upd_same, ec, ofN_v, ← List.map_drop, ← List.map_take]
      · rw [upd_ne nb]
        exact sc _ _ g2
    · rintro σ H4 ⟨z, M, rfl, FI, g4⟩
      rw [List.length_map] at FI
      have e : (gridN (partF (ownsF s0 l) ds)).length = (ownsF s0 l).length := by unfold gridN partF; rw [List.length_map, List.length_map, List.length_range]
      exact ⟨_, rfl, q F H4 ⟨hF, M, by rw [e]; exact FI⟩⟩
/-! CUT -/
def rightF (s l : Nat) (ds : List Nat) : List (List Nat) := (partF (ownsF s l) ds).map fun ws => ws ++ chF s l ws
theorem owns_len (s l : Nat) : (ownsF s l).length = (blkF s).length := by
  unfold ownsF
  rw [List.length_map]
theorem prow_at {s l i : Nat} {ds : List Nat} (hs : s < 5) (hl : l < 4) (hn : ds.length = dataF s l) (hi : i < (blkF s).length) : ∃ r n, (partF (ownsF s l) ds)[i]? = some r ∧ (blkF s)[i]? = some n ∧ r.length = n - ckF s l ∧ ckF s l < n ∧ n ≤ 22 ∧ r.length ≤ mostW s l ∧ ∀ x ∈ r, x ∈ ds := by
  have eb : (blkF s)[i]? = some (blkF s)[i] := List.getElem?_eq_getElem hi
  have hb := blk_ge hs hl _ (List.getElem_mem hi)
  have hm := own_most hs hl _ (List.getElem_mem hi)
  generalize (blkF s)[i] = n at eb hb hm
  have en : (ownsF s l)[i]? = some (n - ckF s l) := by
    unfold ownsF
    rw [List.getElem?_map, eb]
    rfl
  have es := sum_take_next en
  have le := sum_take_le (ownsF s l) (i + 1)
  have et : dataF s l = (ownsF s l).sum := rfl
  have lr : ((ds.drop ((ownsF s l).take i).sum).take (n - ckF s l)).length = n - ckF s l := by
    rw [List.length_take, List.length_drop]
    omega
  refine ⟨(ds.drop ((ownsF s l).take i).sum).take (n - ckF s l), n, ?_, eb, lr, hb.1, hb.2, by rw [lr]; exact hm, fun x hx => List.mem_of_mem_drop (List.mem_of_mem_take hx)⟩
  unfold partF
  rw [List.getElem?_map, List.getElem?_range (by rw [owns_len]; exact hi)]
  show some ((ds.drop ((ownsF s l).take i).sum).take ((ownsF s l).getD i 0)) = _
  rw [List.getD_eq_getElem?_getD, en]
  rfl
theorem prow_len (s l : Nat) (ds : List Nat) : (partF (ownsF s l) ds).length = (blkF s).length := by
  unfold partF
  rw [List.length_map, List.length_range, owns_len]
theorem chF_len {s l : Nat} (hs : s < 5) (ws : List Nat) : (chF s l ws).length = ckF s l := chk_len (bits_wd hs)
theorem chF_ws {s l : Nat} (hs : s < 5) {ws : List Nat} (hw : ∀ x ∈ ws, x < span (bitsF s)) : ∀ x ∈ chF s l ws, x < span (bitsF s) := chk_ws (bits_wd hs) hw
def sp_rb (K : PySem.W.Frag) : Sp := fun vs H Q _ => ∃ (s l : Nat) (a : Addr) (k : Bool) (ds : List Nat), vs = [.int ((s : Int) + 1), vN l, .ref a] ∧ s < 5 ∧ l < 4 ∧ SqB k K H a (ds.map vN) ∧ (∀ x ∈ ds, x < span (bitsF s)) ∧ ds.length = dataF s l ∧ ∀ D H', Fr H H' D (gridN (rightF s l ds)) → Q (.ref D) H'
theorem ok_right_blocks (T : Txt K mg) : FnOk P w K mg base CX0 3 T.f_right_blocks T.d_right_blocks ["size", "level", "data"] (sp_rb K) := by
  refine T.F_right_blocks.ok sc_right_blocks (fun vs H Q E h => ?_) (fun cdv A outer s H vs Q E hr h => ?_)
  · obtain ⟨s, l, a, k, ds, rfl, _⟩ := h
    rfl
  · obtain ⟨s0, l, a, k, ds, rfl, hs, hl, hq, hw, hn, q⟩ := h
    refine ⟨_, (pss_cons (ps_set (i := 3) sc_right_blocks.nd rfl (.inr rfl) (pe_ix ix_rowB (pe_ix ix_rowB (pe_glob (v := .ref T.a_CHECKS) (by rfl) T.g_CHECKS rfl) (pe_op op_sub (pv 0) pe_int) (fun _ _ => rfl)) (pv 1) (fun _ _ => rfl)))
      (pss_cons (ps_set (i := 4) sc_right_blocks.nd rfl (.inr rfl) (pe_ix ix_rowB (pe_glob (v := .ref T.a_WORD_BITS) (by rfl) T.g_WORD_BITS rfl) (pe_op op_sub (pv 0) pe_int) (fun _ _ => rfl)))
      (pss_one (ps_ret (pe_lc (own := [("words", 5)]) rfl sc_right_blocks.nd (pi_list (pe_call (ok_parted_data T) (hr.mono (by decide)) (by rfl) T.g_parted_data T.F_parted_data.kp T.b_parted_data .nil pass0 (pa_cons (pv 0) (pa_cons (pv 1) (pa_cons (pv 2) pa_nil))))) (blkOk_by (N := ["size", "level", "data", "checks", "bits", "words"]) (sc := defScope s_right_blocks) (by decide +kernel)) (fun _ _ _ _ _ => by exact (pg_name (i := 5) sc_right_blocks.nd rfl (.inl rfl))) (fun _ _ _ _ _ => by exact pts_nil) (fun _ _ _ _ _ => by exact (pe_op op_cat (pv 5) (pe_call (ok_number_as_words T) (hr.mono (by decide)) (by rfl) T.g_number_as_words T.F_number_as_words.kp T.b_number_as_words .nil pass0 (pa_cons (pe_call (ok_checks_told T) (hr.mono (by decide)) (by rfl) T.g_checks_told T.F_checks_told.kp T.b_checks_told .nil pass0 (pa_cons (pv 0) (pa_cons (pv 1) (pa_cons (pv 5) pa_nil)))) (pa_cons (pv 3) (pa_cons (pv 4) pa_nil))))))))))), ?_⟩
    obtain ⟨c, hc, hC⟩ := chk_at T hs
    obtain ⟨xb, hX, hx⟩ := bit_at T hs
    have hwd := bits_wd hs
    have one : (s0 : Int) + 1 - 1 = (s0 : Int) := by omega
    refine ⟨_, rfl, _, _, rfl, rfl, T.a_CHECKS, _, _, .ref c, false, rfl, rfl, T.l_CHECKS.sq (by show 5 ≤ 1000; decide), (by rw [one]; exact hc), ?_⟩
    refine ⟨_, rfl, c, _, _, vN (ckF s0 l), false, rfl, rfl, hC _, ck_at hs hl, ?_⟩
    refine ⟨_, rfl, _, _, rfl, rfl, T.a_WORD_BITS, _, _, vN (bitsF s0), false, rfl, rfl, hX _, hx, ?_⟩
    refine ⟨_, rfl, _, rfl, _, rfl, s0, l, a, k, ds, rfl, hs, hl, hq, hn, fun P1 H1 F1 => ?_⟩
    have hs1 := F1.same0
    obtain ⟨hP, L, FP⟩ := id F1
    refine ⟨P1, rfl, ⟨_, .inl (.inl FP.out)⟩, fun D hD => ?_⟩
    have lL : L.length = (blkF s0).length := by
      rw [FP.len]
      unfold gridN
      rw [List.length_map, prow_len]
    have l3 := blk_le3 hs
    refine lc_it (walk_list (K := K) (a := P1) (xs := L.map V.ref)) (fun i H' => ∃ M, FrI H1 H' D M (gridN (rightF s0 l ds)) i) ⟨[], FrI.start hD⟩ (fun i H' _ ⟨M, h⟩ => .inl (.inl (h.same _ _ FP.out))) ?_ ?_
    · rintro i v H0 H2 hi ⟨M, FI⟩ ⟨rfl, e2⟩
      rw [List.length_map, lL] at hi
      have eA : L[i]? = some (L[i]'(by omega)) := List.getElem?_eq_getElem _
      generalize L[i]'(by omega) = la at eA
      rw [List.getElem?_map, eA] at e2
      obtain rfl := (Option.some.inj e2).symm
      obtain ⟨r, n, er, eb, lr, b1, b2, hm, hin⟩ := prow_at hs hl hn hi
      have hwr : ∀ x ∈ r, x < span (bitsF s0) := fun x hx => hw x (hin x hx)
      obtain ⟨f1, f2, f3⟩ := FP.row i la (ofN r) eA (by unfold gridN; rw [List.getElem?_map, er]; rfl)
      rw [ofN_v] at f3
      have f4 : SqB true K H2 la (r.map vN) := .inl (.inl (FI.same _ _ f3))
      refine ⟨rfl, ?_⟩
      refine ⟨_, rfl, _, rfl, _, rfl, _, rfl, s0, l, la, true, r, rfl, hs, hl, f4, hwr, hm, fun H3 s3 => ?_⟩
      refine ⟨_, rfl, _, rfl, bitsF s0, chF s0 l r, (by rw [chF_len hs]; rfl), hwd, chF_ws hs hwr, ?_, fun p H4 s4 n4 g4 => ?_⟩
      · rw [chF_len hs]
        omega
      have lc := chF_len (l := l) hs r
      refine ⟨la, p, _, _, rfl, rfl, (s3.trans s4) _ _ (FI.same _ _ f3), g4, ?_, fun c hc => ?_⟩
      · rw [List.length_map, List.length_map, lc]
        exact Nat.le_of_lt (small1000 (by omega))
      have sc := (s3.trans s4).trans (same_upd (o := .lst (r.map vN ++ (chF s0 l r).map vN)) hc)
      have er2 : (gridN (rightF s0 l ds))[i]? = some (ofN (r ++ chF s0 l r)) := by
        unfold gridN rightF
        rw [List.getElem?_map, List.getElem?_map, er]
        rfl
      refine ⟨_, sc _ _ FI.out, ?_, M ++ [c], FI.step (c := c) hD er2 sc (Same.free (s3.trans s4) hc) ?_⟩
      · rw [List.length_map, FI.len]
        exact small1000 (by omega)
      · rw [upd_same, ofN_v, List.map_append]
    · rintro H2 ⟨M, FI⟩
      rw [List.length_map, lL] at FI
      have e : (gridN (rightF s0 l ds)).length = (blkF s0).length := by unfold gridN rightF; rw [List.length_map, List.length_map, prow_len]
      exact q D H2 (Fr.back ⟨hD, M, by rw [e]; exact FI⟩ hs1)
/-! CUT -/
theorem right_ok {s l : Nat} {ds : List Nat} (hs : s < 5) (hl : l < 4) (hn : ds.length = dataF s l) (hw : ∀ x ∈ ds, x < span (bitsF s)) : RowsOk s (rightF s l ds) := by
  refine ⟨List.ext_getElem? fun i => ?_, fun r hr x hx => ?_⟩
  · by_cases hi : i < (blkF s).length
    · obtain ⟨r, n, er, eb, lr, b1, b2, _, _⟩ := prow_at hs hl hn hi
      unfold rightF
      rw [List.map_map, List.getElem?_map, er, eb]
      refine congrArg some ?_
      show (r ++ chF s l r).length = n
      rw [List.length_append, chF_len hs]
      omega
    · rw [List.getElem?_eq_none (by unfold rightF; rw [List.length_map, List.length_map, prow_len]; omega), List.getElem?_eq_none (by omega)]
  · obtain ⟨p, hp, rfl⟩ := List.mem_map.mp hr
    obtain ⟨i, hi, e⟩ := List.getElem_of_mem hp
    rw [prow_len] at hi
    obtain ⟨r, n, er, eb, lr, b1, b2, _, hin⟩ := prow_at hs hl hn hi
    rw [List.getElem?_eq_getElem (by rw [prow_len]; exact hi), e] at er
    obtain rfl := (Option.some.inj er).symm
    have hwr : ∀ x ∈ r, x < span (bitsF s) := fun x hx => hw x (hin x hx)
    rcases List.mem_append.mp hx with h | h
    · exact hwr x h
    · exact chF_ws hs hwr x h
def sp_nd (K : PySem.W.Frag) : Sp := fun vs H Q _ => ∃ (s l : Nat) (a : Addr) (k : Bool) (ds : List Nat), vs = [.int ((s : Int) + 1), vN l, .ref a] ∧ s < 5 ∧ l < 4 ∧ SqB k K H a (ds.map vN) ∧ (∀ x ∈ ds, x < span (bitsF s)) ∧ ds.length = dataF s l ∧ ∀ H', Same H H' → Q .non H'
theorem ok_need_data (T : Txt K mg) : FnOk P w K mg base CX0 5 T.f_need_data T.d_need_data ["size", "level", "data"] (sp_nd K) := by
  refine T.F_need_data.ok sc_need_data (fun vs H Q E h => ?_) (fun cdv A outer s H vs Q E hr h => ?_)
  · obtain ⟨s, l, a, k, ds, rfl, _⟩ := h
    rfl
  · obtain ⟨s0, l, a, k, ds, rfl, hs, hl, hq, hw, hn, q⟩ := h
    refine ⟨_, (pss_cons (ps_if (PW.pt (pw_or (pt_not (pt_val (pe_call (ok_is_row T) (hr.mono (by decide)) (by rfl) T.g_is_row T.F_is_row.kp T.b_is_row .nil pass0 (pa_cons (pv 2) pa_nil)))) (pw_or1 (pt_cmpR op_ne (pe_callB call_len_seq (by rfl) T.n_len (by decide +kernel) (pa_cons (pv 2) pa_nil)) (pe_call (ok_data_count T) (hr.mono (by decide)) (by rfl) T.g_data_count T.F_data_count.kp T.b_data_count .nil pass0 (pa_cons (pv 0) (pa_cons (pv 1) pa_nil))) (nomark _))))) (pss_one ps_never) pss_nil)
      (pss_one (ps_expr (pe_call (ok_need_words T) (hr.mono (by decide)) (by rfl) T.g_need_words T.F_need_words.kp T.b_need_words .nil pass0 (pa_cons (pe_ix ix_rowB (pe_glob (v := .ref T.a_WORD_BITS) (by rfl) T.g_WORD_BITS rfl) (pe_op op_sub (pv 0) pe_int) (fun _ _ => rfl)) (pa_cons pe_str (pa_cons (pv 2) pa_nil))))))), ?_⟩
    obtain ⟨xb, hX, hx⟩ := bit_at T hs
    have hwd := bits_wd hs
    have lq : ((ds.map vN).length : Int) = (dataF s0 l : Nat) := by rw [List.length_map, hn]
    refine ⟨_, rfl, a, k, _, rfl, hq, fun H1 s1 => ⟨true, rfl, iteF ⟨_, rfl, a, _, rfl, (Same.sqb s1 hq).or, ?_⟩⟩⟩
    rw [lq]
    refine ⟨_, rfl, _, rfl, s0, l, rfl, hs, hl, fun H2 s2 => ?_⟩
    refine ⟨rfl, ?_⟩
    rw [show (!decide (V.int ((dataF s0 l : Nat) : Int) = vN (dataF s0 l))) = false from by simp [vN]]
    refine ⟨false, rfl, iteF ?_⟩
    exact ⟨_, rfl, _, _, rfl, rfl, T.a_WORD_BITS, _, _, vN (bitsF s0), false, rfl, rfl, hX _, hx, _, rfl, bitsF s0, _, a, k, ds, rfl, hwd, Same.sqb (s1.trans s2) hq, hw, fun H3 s3 => q H3 ((s1.trans s2).trans s3)⟩
def sp_wd (K : PySem.W.Frag) : Sp := fun vs H Q _ => ∃ (s l : Nat) (a : Addr) (k : Bool) (ds : List Nat), vs = [.int ((s : Int) + 1), vN l, .ref a] ∧ s < 5 ∧ l < 4 ∧ SqB k K H a (ds.map vN) ∧ (∀ x ∈ ds, x < span (bitsF s)) ∧ ds.length = dataF s l ∧ ∀ D H', Same H H' → H D = none → H' D = some (.lst ((dueF s l (rightF s l ds)).map vN)) → Q (.ref D) H'
theorem ok_words_of_data (T : Txt K mg) : FnOk P w K mg base CX0 6 T.f_words_of_data T.d_words_of_data ["size", "level", "data"] (sp_wd K) := by
  refine T.F_words_of_data.ok sc_words_of_data (fun vs H Q E h => ?_) (fun cdv A outer s H vs Q E hr h => ?_)
  · obtain ⟨s, l, a, k, ds, rfl, _⟩ := h
    rfl
  · obtain ⟨s0, l, a, k, ds, rfl, hs, hl, hq, hw, hn, q⟩ := h
    refine ⟨_, (pss_one (ps_ret (pe_call (ok_dealt_words T) (hr.mono (by decide)) (by rfl) T.g_dealt_words T.F_dealt_words.kp T.b_dealt_words .nil pass0 (pa_cons (pv 0) (pa_cons (pv 1) (pa_cons (pe_call (ok_right_blocks T) (hr.mono (by decide)) (by rfl) T.g_right_blocks T.F_right_blocks.kp T.b_right_blocks .nil pass0 (pa_cons (pv 0) (pa_cons (pv 1) (pa_cons (pv 2) pa_nil)))) pa_nil)))))), ?_⟩
    refine ⟨_, rfl, _, rfl, _, rfl, _, rfl, _, rfl, s0, l, a, k, ds, rfl, hs, hl, hq, hw, hn, fun P1 H1 F1 => ?_⟩
    exact ⟨s0, l, P1, true, rightF s0 l ds, rfl, hs, hl, F1.gr, right_ok hs hl hn hw, fun D H2 s2 n2 g2 => q D H2 (F1.same0.trans s2) (Same.free F1.same0 n2) g2⟩
/-- the grid of the symbol with these data words -/
def symF (s l m : Nat) (ds : List Nat) : Grid := drawF s l m (dueF s l (rightF s l ds))
def sp_sy (K : PySem.W.Frag) : Sp := fun vs H Q _ => ∃ (s l m : Nat) (a : Addr) (k : Bool) (ds : List Nat), vs = [.int ((s : Int) + 1), vN l, vN m, .ref a] ∧ s < 5 ∧ l < 4 ∧ m < 8 ∧ SqB k K H a (ds.map vN) ∧ (∀ x ∈ ds, x < span (bitsF s)) ∧ ds.length = dataF s l ∧ ∀ D H', Fr H H' D (symF s l m ds) → Q (.ref D) H'
theorem ok_symbol_of (T : Txt K mg) : FnOk P w K mg base CX0 7 T.f_symbol_of T.d_symbol_of ["size", "level", "mask", "data"] (sp_sy K) := by
  refine T.F_symbol_of.ok sc_symbol_of (fun vs H Q E h => ?_) (fun cdv A outer s H vs Q E hr h => ?_)
  · obtain ⟨s, l, m, a, k, ds, rfl, _⟩ := h
    rfl
  · obtain ⟨s0, l, m, a, k, ds, rfl, hs, hl, hm, hq, hw, hn, q⟩ := h
    refine ⟨_, (pss_cons (ps_expr (pe_call (ok_need_size T) (hr.mono (by decide)) (by rfl) T.g_need_size T.F_need_size.kp T.b_need_size .nil pass0 (pa_cons (pv 0) pa_nil)))
      (pss_cons (ps_expr (pe_call (ok_need_level T) (hr.mono (by decide)) (by rfl) T.g_need_level T.F_need_level.kp T.b_need_level .nil pass0 (pa_cons (pv 1) pa_nil)))
      (pss_cons (ps_expr (pe_call (ok_need_mask T) (hr.mono (by decide)) (by rfl) T.g_need_mask T.F_need_mask.kp T.b_need_mask .nil pass0 (pa_cons (pv 2) pa_nil)))
      (pss_cons (ps_expr (pe_call (ok_need_data T) (hr.mono (by decide)) (by rfl) T.g_need_data T.F_need_data.kp T.b_need_data .nil pass0 (pa_cons (pv 0) (pa_cons (pv 1) (pa_cons (pv 3) pa_nil)))))
      (pss_one (ps_ret (pe_call (ok_drawn_grid T) (hr.mono (by decide)) (by rfl) T.g_drawn_grid T.F_drawn_grid.kp T.b_drawn_grid .nil pass0 (pa_cons (pv 0) (pa_cons (pv 1) (pa_cons (pv 2) (pa_cons (pe_call (ok_words_of_data T) (hr.mono (by decide)) (by rfl) T.g_words_of_data T.F_words_of_data.kp T.b_words_of_data .nil pass0 (pa_cons (pv 0) (pa_cons (pv 1) (pa_cons (pv 3) pa_nil)))) pa_nil))))))))))), ?_⟩
    refine ⟨_, rfl, s0, rfl, hs, _, rfl, l, rfl, hl, _, rfl, m, rfl, hm, ?_⟩
    refine ⟨_, rfl, _, rfl, _, rfl, s0, l, a, k, ds, rfl, hs, hl, hq, hw, hn, fun H1 s1 => ?_⟩
    refine ⟨_, rfl, _, rfl, _, rfl, _, rfl, _, rfl, _, rfl, s0, l, a, k, ds, rfl, hs, hl, Same.sqb s1 hq, hw, hn, fun D H2 s2 n2 g2 => ?_⟩
    exact ⟨s0, l, m, D, true, _, rfl, hs, hl, hm, .inl (.inl g2), fun x hx => due_words hs hl (right_ok hs hl hn hw) hx, due_len _ _ _, fun D2 H3 F => q D2 H3 (F.back (s1.trans s2))⟩
/-! CUT -/
/-- which dots a mask turns, by its number -/
def sp_by (m : Nat) : Sp := fun vs H Q _ => ∃ r c : Int, vs = [.int r, .int c] ∧ 0 ≤ r ∧ r < 100 ∧ 0 ≤ c ∧ c < 100 ∧ Q (.bl (ruleF m r c)) H
theorem ok_by_sum (T : Txt K mg) : FnOk P w K mg base CX0 1 T.f_by_sum T.d_by_sum ["row", "column"] (sp_by 0) := by
  refine T.F_by_sum.ok sc_by_sum (fun vs H Q E h => ?_) (fun cdv A outer s H vs Q E hr h => ?_)
  · obtain ⟨r, c, rfl, _⟩ := h
    rfl
  · obtain ⟨r, c, rfl, r0, r1, c0, c1, q⟩ := h
    refine ⟨_, (pss_one (ps_ret (pe_cmpR op_eq (pe_op op_mod (pe_op op_add (pv 0) (pv 1)) pe_int) pe_int (nomark _)))), ?_⟩
    refine ⟨_, rfl, _, rfl, _, _, rfl, rfl, _, _, rfl, rfl, (show (0 : Int) < 2 by decide), rfl, ?_⟩
    rw [dec_int]
    exact q
theorem ok_by_three (T : Txt K mg) : FnOk P w K mg base CX0 1 T.f_by_three T.d_by_three ["row", "column"] (sp_by 1) := by
  refine T.F_by_three.ok sc_by_three (fun vs H Q E h => ?_) (fun cdv A outer s H vs Q E hr h => ?_)
  · obtain ⟨r, c, rfl, _⟩ := h
    rfl
  · obtain ⟨r, c, rfl, r0, r1, c0, c1, q⟩ := h
    refine ⟨_, (pss_one (ps_ret (pe_cmpR op_eq (pe_op op_mod (pe_op op_add (pv 0) (pe_op op_mul pe_int (pv 1))) pe_int) pe_int (nomark _)))), ?_⟩
    refine ⟨_, rfl, _, rfl, _, _, rfl, rfl, .inl ⟨by decide, by decide⟩, _, _, rfl, rfl, _, _, rfl, rfl, (show (0 : Int) < 3 by decide), rfl, ?_⟩
    rw [dec_int]
    exact q
theorem ok_by_row (T : Txt K mg) : FnOk P w K mg base CX0 1 T.f_by_row T.d_by_row ["row", "_"] (sp_by 2) := by
  refine T.F_by_row.ok sc_by_row (fun vs H Q E h => ?_) (fun cdv A outer s H vs Q E hr h => ?_)
  · obtain ⟨r, c, rfl, _⟩ := h
    rfl
  · obtain ⟨r, c, rfl, r0, r1, c0, c1, q⟩ := h
    refine ⟨_, (pss_one (ps_ret (pe_cmpR op_eq (pe_op op_mod (pv 0) pe_int) pe_int (nomark _)))), ?_⟩
    refine ⟨_, rfl, _, _, rfl, rfl, (show (0 : Int) < 3 by decide), rfl, ?_⟩
    rw [dec_int]
    exact q
theorem ok_by_column (T : Txt K mg) : FnOk P w K mg base CX0 1 T.f_by_column T.d_by_column ["_", "column"] (sp_by 3) := by
  refine T.F_by_column.ok sc_by_column (fun vs H Q E h => ?_) (fun cdv A outer s H vs Q E hr h => ?_)
  · obtain ⟨r, c, rfl, _⟩ := h
    rfl
  · obtain ⟨r, c, rfl, r0, r1, c0, c1, q⟩ := h
    refine ⟨_, (pss_one (ps_ret (pe_cmpR op_lt (pe_op op_mod (pv 1) pe_int) pe_int (nomark _)))), ?_⟩
    exact ⟨_, rfl, _, _, rfl, rfl, (show (0 : Int) < 4 by decide), _, _, rfl, rfl, q⟩
theorem ok_by_squares (T : Txt K mg) : FnOk P w K mg base CX0 1 T.f_by_squares T.d_by_squares ["row", "column"] (sp_by 4) := by
  refine T.F_by_squares.ok sc_by_squares (fun vs H Q E h => ?_) (fun cdv A outer s H vs Q E hr h => ?_)
  · obtain ⟨r, c, rfl, _⟩ := h
    rfl
  · obtain ⟨r, c, rfl, r0, r1, c0, c1, q⟩ := h
    refine ⟨_, (pss_one (ps_ret (pe_cmpR op_eq (pe_op op_mod (pe_op op_add (pe_op op_fdiv (pv 0) pe_int) (pe_op op_fdiv (pv 1) pe_int)) pe_int) pe_int (nomark _)))), ?_⟩
    refine ⟨_, rfl, _, _, rfl, rfl, ⟨by decide, by decide⟩, _, rfl, _, _, rfl, rfl, ⟨by decide, by decide⟩, _, _, rfl, rfl, _, _, rfl, rfl, (show (0 : Int) < 2 by decide), rfl, ?_⟩
    rw [dec_int]
    exact q
theorem ok_by_product (T : Txt K mg) : FnOk P w K mg base CX0 1 T.f_by_product T.d_by_product ["row", "column"] (sp_by 5) := by
  refine T.F_by_product.ok sc_by_product (fun vs H Q E h => ?_) (fun cdv A outer s H vs Q E hr h => ?_)
  · obtain ⟨r, c, rfl, _⟩ := h
    rfl
  · obtain ⟨r, c, rfl, r0, r1, c0, c1, q⟩ := h
    refine ⟨_, (pss_one (ps_ret (pe_cmpR op_eq (pe_op op_mod (pe_op op_mul (pv 0) (pv 1)) pe_int) pe_int (nomark _)))), ?_⟩
    refine ⟨_, rfl, _, rfl, _, _, rfl, rfl, .inl ⟨by omega, by omega⟩, _, _, rfl, rfl, (show (0 : Int) < 3 by decide), rfl, ?_⟩
    rw [dec_int]
    exact q
theorem ok_by_five (T : Txt K mg) : FnOk P w K mg base CX0 1 T.f_by_five T.d_by_five ["row", "column"] (sp_by 6) := by
  refine T.F_by_five.ok sc_by_five (fun vs H Q E h => ?_) (fun cdv A outer s H vs Q E hr h => ?_)
  · obtain ⟨r, c, rfl, _⟩ := h
    rfl
  · obtain ⟨r, c, rfl, r0, r1, c0, c1, q⟩ := h
    refine ⟨_, (pss_one (ps_ret (pe_cmpR op_lt (pe_op op_mod (pe_op op_add (pe_op op_mul (pv 0) (pv 0)) (pv 1)) pe_int) pe_int (nomark _)))), ?_⟩
    exact ⟨_, rfl, _, rfl, _, _, rfl, rfl, .inl ⟨by omega, by omega⟩, _, rfl, _, _, rfl, rfl, _, _, rfl, rfl, (show (0 : Int) < 5 by decide), _, _, rfl, rfl, q⟩
theorem ok_by_seven (T : Txt K mg) : FnOk P w K mg base CX0 1 T.f_by_seven T.d_by_seven ["row", "column"] (sp_by 7) := by
  refine T.F_by_seven.ok sc_by_seven (fun vs H Q E h => ?_) (fun cdv A outer s H vs Q E hr h => ?_)
  · obtain ⟨r, c, rfl, _⟩ := h
    rfl
  · obtain ⟨r, c, rfl, r0, r1, c0, c1, q⟩ := h
    refine ⟨_, (pss_one (ps_ret (pe_cmpR op_lt (pe_op op_mod (pe_op op_add (pv 0) (pv 1)) pe_int) pe_int (nomark _)))), ?_⟩
    exact ⟨_, rfl, _, rfl, _, _, rfl, rfl, _, _, rfl, rfl, (show (0 : Int) < 7 by decide), _, _, rfl, rfl, q⟩
/-- the masks' functions, each with its word -/
def ruleS (T : Txt K mg) : Addr → Option Sp := fun f =>
  if T.f_by_sum = f then some (sp_by 0) else if T.f_by_three = f then some (sp_by 1) else if T.f_by_row = f then some (sp_by 2) else if T.f_by_column = f then some (sp_by 3)
  else if T.f_by_squares = f then some (sp_by 4) else if T.f_by_product = f then some (sp_by 5) else if T.f_by_five = f then some (sp_by 6) else if T.f_by_seven = f then some (sp_by 7) else none
theorem held (T : Txt K mg) : ∀ f sp, ruleS T f = some sp → Held P w K mg base 1 f sp := by
  intro f sp h
  unfold ruleS at h
  split at h
  · next e => cases h; rw [← e]; exact ⟨_, _, ok_by_sum T, T.F_by_sum.kp, T.b_by_sum⟩
  split at h
  · next e => cases h; rw [← e]; exact ⟨_, _, ok_by_three T, T.F_by_three.kp, T.b_by_three⟩
  split at h
  · next e => cases h; rw [← e]; exact ⟨_, _, ok_by_row T, T.F_by_row.kp, T.b_by_row⟩
  split at h
  · next e => cases h; rw [← e]; exact ⟨_, _, ok_by_column T, T.F_by_column.kp, T.b_by_column⟩
  split at h
  · next e => cases h; rw [← e]; exact ⟨_, _, ok_by_squares T, T.F_by_squares.kp, T.b_by_squares⟩
  split at h
  · next e => cases h; rw [← e]; exact ⟨_, _, ok_by_product T, T.F_by_product.kp, T.b_by_product⟩
  split at h
  · next e => cases h; rw [← e]; exact ⟨_, _, ok_by_five T, T.F_by_five.kp, T.b_by_five⟩
  split at h
  · next e => cases h; rw [← e]; exact ⟨_, _, ok_by_seven T, T.F_by_seven.kp, T.b_by_seven⟩
  · cases h
def sp_is_dot (K : PySem.W.Frag) : Sp := fun vs H Q _ => ∃ (p : Addr) (i j n : Nat), vs = [.ref p, vN n] ∧ SqT K H p [vN i, vN j] ∧ i < n ∧ j < n ∧ Q (.bl true) H
theorem ok_is_dot (T : Txt K mg) : FnOk P w K mg base CX0 2 T.f_is_dot T.d_is_dot ["thing", "many"] (sp_is_dot K) := by
  refine T.F_is_dot.ok sc_is_dot (fun vs H Q E h => ?_) (fun cdv A outer s H vs Q E hr h => ?_)
  · obtain ⟨p, i, j, n, rfl, _⟩ := h
    rfl
  · obtain ⟨p, i, j, n, rfl, hp, hi, hj, q⟩ := h
    refine ⟨_, (pss_cons (ps_if (PW.pt (pw_or (pt_not (pt_val (pe_callB call_isi (by rfl) T.n_isinstance (by decide +kernel) (pa_cons (pv 0) (pa_cons (pe_bltn (v := .ty "tuple") (by rfl) T.n_tuple (by decide +kernel) rfl) pa_nil))))) (pw_or1 (pt_cmpR op_ne (pe_callB call_len_seq (by rfl) T.n_len (by decide +kernel) (pa_cons (pv 0) pa_nil)) pe_int (nomark _))))) (pss_one (ps_ret pe_bl)) pss_nil)
      (pss_one (ps_ret (pe_and (pe_call (ok_is_number_to T) (hr.mono (by decide)) (by rfl) T.g_is_number_to T.F_is_number_to.kp T.b_is_number_to .nil pass0 (pa_cons (pe_ix ix_rowB (pv 0) pe_int (fun _ _ => rfl)) (pa_cons pe_int (pa_cons (pe_op op_sub (pv 1) pe_int) pa_nil)))) (pe_one (pe_call (ok_is_number_to T) (hr.mono (by decide)) (by rfl) T.g_is_number_to T.F_is_number_to.kp T.b_is_number_to .nil pass0 (pa_cons (pe_ix ix_rowB (pv 0) pe_int (fun _ _ => rfl)) (pa_cons pe_int (pa_cons (pe_op op_sub (pv 1) pe_int) pa_nil))))))))), ?_⟩
    refine ⟨_, rfl, .ref p, .ty "tuple", .type "tuple", .type "tuple", true, rfl, .ty _, SqB.ty (b := false) hp, kit_ty (by decide +kernel), true, rfl, iteF ?_⟩
    refine ⟨_, rfl, p, _, rfl, .inr hp, rfl, _, rfl, iteF ?_⟩
    refine ⟨_, rfl, p, _, 0, vN i, false, rfl, rfl, hp, rfl, _, rfl, _, _, rfl, rfl, (i : Int), 0, _, rfl, ?_⟩
    have e : (decide ((0 : Int) ≤ (i : Int)) && decide ((i : Int) ≤ (n : Int) - 1)) = true := by
      simp
      omega
    rw [e]
    refine ⟨true, rfl, iteT ?_⟩
    refine ⟨_, rfl, p, _, 1, vN j, false, rfl, rfl, hp, rfl, _, rfl, _, _, rfl, rfl, (j : Int), 0, _, rfl, ?_⟩
    have e2 : (decide ((0 : Int) ≤ (j : Int)) && decide ((j : Int) ≤ (n : Int) - 1)) = true := by
      simp
      omega
    rw [e2]
    exact q
/-- the function of a mask -/
theorem rule_at (T : Txt K mg) {m : Nat} (hm : m < 8) : ∃ (fs : List Addr) (f : Addr), (∀ H, SqT K H T.a_RULES (fs.map V.ref)) ∧ atI (fs.map V.ref) (m : Int) = some (.ref f) ∧ ruleS T f = some (sp_by m) := by
  obtain ⟨l1, nd⟩ := T.l_RULES
  obtain ⟨k1, k2⟩ := tupRefs_ok l1
  simp only [List.nodup_cons, List.mem_cons, List.not_mem_nil, or_false, not_or] at nd
  obtain ⟨⟨a1, a2, a3, a4, a5, a6, a7⟩, ⟨b2, b3, b4, b5, b6, b7⟩, ⟨c3, c4, c5, c6, c7⟩, ⟨d4, d5, d6, d7⟩, ⟨e5, e6, e7⟩, ⟨g6, g7⟩, h7, _⟩ := nd
  have : m = 0 ∨ m = 1 ∨ m = 2 ∨ m = 3 ∨ m = 4 ∨ m = 5 ∨ m = 6 ∨ m = 7 := by omega
  rcases this with rfl | rfl | rfl | rfl | rfl | rfl | rfl | rfl
  · exact ⟨_, T.f_by_sum, fun H => k1.sq k2, rfl, by unfold ruleS; simp⟩
  · exact ⟨_, T.f_by_three, fun H => k1.sq k2, rfl, by unfold ruleS; simp [a1]⟩
  · exact ⟨_, T.f_by_row, fun H => k1.sq k2, rfl, by unfold ruleS; simp [a2, b2]⟩
  · exact ⟨_, T.f_by_column, fun H => k1.sq k2, rfl, by unfold ruleS; simp [a3, b3, c3]⟩
  · exact ⟨_, T.f_by_squares, fun H => k1.sq k2, rfl, by unfold ruleS; simp [a4, b4, c4, d4]⟩
  · exact ⟨_, T.f_by_product, fun H => k1.sq k2, rfl, by unfold ruleS; simp [a5, b5, c5, d5, e5]⟩
  · exact ⟨_, T.f_by_five, fun H => k1.sq k2, rfl, by unfold ruleS; simp [a6, b6, c6, d6, e6, g6]⟩
  · exact ⟨_, T.f_by_seven, fun H => k1.sq k2, rfl, by unfold ruleS; simp [a7, b7, c7, d7, e7, g7, h7]⟩
def sp_turns (K : PySem.W.Frag) : Sp := fun vs H Q _ => ∃ (p : Addr) (m i j : Nat), vs = [vN m, .ref p] ∧ SqT K H p [vN i, vN j] ∧ m < 8 ∧ i < 24 ∧ j < 24 ∧ Q (.int (if ruleF m i j = true then 1 else 0)) H
theorem ok_turns (T : Txt K mg) : FnOk P w K mg base CX0 3 T.f_turns T.d_turns ["mask", "dot"] (sp_turns K) := by
  refine T.F_turns.ok sc_turns (fun vs H Q E h => ?_) (fun cdv A outer s H vs Q E hr h => ?_)
  · obtain ⟨p, m, i, j, rfl, _⟩ := h
    rfl
  · obtain ⟨p, m, i, j, rfl, hp, hm, hi, hj, q⟩ := h
    refine ⟨_, (pss_cons (ps_expr (pe_call (ok_need_mask T) (hr.mono (by decide)) (by rfl) T.g_need_mask T.F_need_mask.kp T.b_need_mask .nil pass0 (pa_cons (pv 0) pa_nil)))
      (pss_cons (ps_if (pt_not (pt_val (pe_call (ok_is_dot T) (hr.mono (by decide)) (by rfl) T.g_is_dot T.F_is_dot.kp T.b_is_dot .nil pass0 (pa_cons (pv 1) (pa_cons (pe_ix ix_rowB (pe_glob (v := .ref T.a_SIDES) (by rfl) T.g_SIDES rfl) (pe_un un_neg pe_int) (fun _ _ => rfl)) pa_nil))))) (pss_one ps_never) pss_nil)
      (pss_cons (ps_set (i := 2) sc_turns.nd rfl (.inl rfl) (pe_ix ix_rowB (pe_glob (v := .ref T.a_RULES) (by rfl) T.g_RULES rfl) (pv 0) (fun _ _ => rfl)))
      (pss_one (ps_ret (pe_ifExp (pt_val (pe_callA (i := 2) (held T) (hr.mono (by decide)) rfl (.inl rfl) (pa_cons (pe_ix ix_rowB (pv 1) pe_int (fun _ _ => rfl)) (pa_cons (pe_ix ix_rowB (pv 1) pe_int (fun _ _ => rfl)) pa_nil)))) pe_int pe_int)))))), ?_⟩
    obtain ⟨fs, f, g1, g2, g3⟩ := rule_at T hm
    refine ⟨_, rfl, m, rfl, hm, ?_⟩
    refine ⟨_, rfl, 1, rfl, T.a_SIDES, _, _, vN 24, false, rfl, rfl, tupB_ok (xs := sidesI) T.l_SIDES, rfl, p, i, j, 24, rfl, hp, hi, hj, true, rfl, iteF ?_⟩
    refine ⟨_, rfl, T.a_RULES, _, _, .ref f, false, rfl, rfl, g1 _, g2, ?_⟩
    refine ⟨f, sp_by m, rfl, g3, ?_⟩
    refine ⟨_, rfl, p, _, 0, vN i, false, rfl, rfl, hp, rfl, _, rfl, p, _, 1, vN j, false, rfl, rfl, hp, rfl, (i : Int), (j : Int), rfl, by omega, by omega, by omega, by omega, ?_⟩
    refine ⟨_, rfl, ?_⟩
    cases hb : ruleF m (i : Int) (j : Int) with
    | true =>
      rw [hb] at q
      exact iteT q
    | false =>
      rw [hb] at q
      exact iteF q
/-! CUT -/
def stripF (s : Nat) : List Nat := (usedF (sdF s)).map fun q => q.1 * sdF s + q.2
theorem strip_at (T : Txt K mg) {s : Nat} (hs : s < 5) : ∃ c, atI ([T.c_STRIPS0, T.c_STRIPS1, T.c_STRIPS2, T.c_STRIPS3, T.c_STRIPS4].map V.ref) (s : Int) = some (.ref c) ∧ ∀ H, SqT K H c ((stripF s).map vN) := by
  have : s = 0 ∨ s = 1 ∨ s = 2 ∨ s = 3 ∨ s = 4 := by omega
  rcases this with rfl | rfl | rfl | rfl | rfl
  · exact ⟨T.c_STRIPS0, rfl, fun H => by
      rw [show stripF 0 = [9, 10, 11, 12, 13, 14, 17, 18, 19, 20, 49, 41, 33, 25, 50, 42, 34, 26, 51, 43] by unfold stripF; rw [used_at (by decide)]; decide +kernel]
      exact tupB_ok (xs := [9, 10, 11, 12, 13, 14, 17, 18, 19, 20, 49, 41, 33, 25, 50, 42, 34, 26, 51, 43]) T.t_STRIPS0⟩
  · exact ⟨T.c_STRIPS1, rfl, fun H => by
      rw [show stripF 1 = [13, 14, 15, 16, 17, 18, 19, 20, 21, 22, 121, 109, 97, 85, 73, 61, 49, 37, 25, 122] by unfold stripF; rw [used_at (by decide)]; decide +kernel]
      exact tupB_ok (xs := [13, 14, 15, 16, 17, 18, 19, 20, 21, 22, 121, 109, 97, 85, 73, 61, 49, 37, 25, 122]) T.t_STRIPS1⟩
  · exact ⟨T.c_STRIPS2, rfl, fun H => by
      rw [show stripF 2 = [17, 18, 19, 20, 21, 22, 23, 24, 25, 26, 225, 209, 193, 177, 161, 145, 129, 113, 97, 81] by unfold stripF; rw [used_at (by decide)]; decide +kernel]
      exact tupB_ok (xs := [17, 18, 19, 20, 21, 22, 23, 24, 25, 26, 225, 209, 193, 177, 161, 145, 129, 113, 97, 81]) T.t_STRIPS2⟩
  · exact ⟨T.c_STRIPS3, rfl, fun H => by
      rw [show stripF 3 = [21, 22, 23, 24, 25, 26, 27, 28, 29, 30, 361, 341, 321, 301, 281, 261, 241, 221, 201, 181] by unfold stripF; rw [used_at (by decide)]; decide +kernel]
      exact tupB_ok (xs := [21, 22, 23, 24, 25, 26, 27, 28, 29, 30, 361, 341, 321, 301, 281, 261, 241, 221, 201, 181]) T.t_STRIPS3⟩
  · exact ⟨T.c_STRIPS4, rfl, fun H => by
      rw [show stripF 4 = [25, 26, 27, 28, 29, 30, 31, 32, 33, 34, 529, 505, 481, 457, 433, 409, 385, 361, 337, 313] by unfold stripF; rw [used_at (by decide)]; decide +kernel]
      exact tupB_ok (xs := [25, 26, 27, 28, 29, 30, 31, 32, 33, 34, 529, 505, 481, 457, 433, 409, 385, 361, 337, 313]) T.t_STRIPS4⟩
theorem strip_len {s : Nat} (hs : s < 5) : (usedF (sdF s)).length = 20 := by
  rw [used_at hs]
  exact of_decide_eq_true (all5 (P := fun s => decide ((usedL.getD s []).length = 20)) (by decide +kernel) hs)
theorem strip_in {s : Nat} (hs : s < 5) {q : Nat × Nat} (h : q ∈ usedF (sdF s)) : q.1 < sdF s ∧ q.2 < sdF s := by
  rw [used_at hs] at h
  have := List.all_eq_true.mp (all5 (P := fun s => (usedL.getD s []).all fun q => decide (q.1 < sdF s ∧ q.2 < sdF s)) (by decide +kernel) hs) q h
  exact of_decide_eq_true this
def sp_sdots : Sp := fun vs H Q _ => ∃ s : Nat, vs = [.int ((s : Int) + 1)] ∧ s < 5 ∧ ∀ (D : Addr) (L : List Addr) H', Same H H' → H D = none → H' D = some (.lst (L.map V.ref)) → Spots H' L (usedF (sdF s)) → Q (.ref D) H'
theorem ok_strip_dots (T : Txt K mg) : FnOk P w K mg base CX0 1 T.f_strip_dots T.d_strip_dots ["size"] sp_sdots := by
  refine T.F_strip_dots.ok sc_strip_dots (fun vs H Q E h => ?_) (fun cdv A outer s H vs Q E hr h => ?_)
  · obtain ⟨s, rfl, _⟩ := h
    rfl
  · obtain ⟨s0, rfl, hs, q⟩ := h
    refine ⟨_, (pss_cons (ps_set (i := 1) sc_strip_dots.nd rfl (.inr rfl) (pe_ix ix_rowB (pe_glob (v := .ref T.a_SIDES) (by rfl) T.g_SIDES rfl) (pe_op op_sub (pv 0) pe_int) (fun _ _ => rfl)))
      (pss_one (ps_ret (pe_lc (own := [("at", 2)]) rfl sc_strip_dots.nd (pi_seqK (K := K) rfl (pe_ix (ix_rowBK (K := K) rfl) (pe_glob (v := .ref T.a_STRIPS) (by rfl) T.g_STRIPS rfl) (pe_op op_sub (pv 0) pe_int) (fun _ _ => rfl))) (blkOk_by (N := ["size", "many", "at"]) (sc := defScope s_strip_dots) (by decide +kernel)) (fun _ _ _ _ _ => by exact (pg_name (i := 2) sc_strip_dots.nd rfl (.inl rfl))) (fun _ _ _ _ _ => by exact pts_nil) (fun _ _ _ _ _ => by exact (pe_callB call_divmod (by rfl) T.n_divmod (by decide +kernel) (pa_cons (pv 2) (pa_cons (pv 1) pa_nil)))))))), ?_⟩
    obtain ⟨c, hc, hrow⟩ := strip_at T hs
    have one : (s0 : Int) + 1 - 1 = (s0 : Int) := by omega
    have hm : 8 ≤ sdF s0 ∧ sdF s0 ≤ 24 := side_le (sd_ok hs)
    refine ⟨_, rfl, _, _, rfl, rfl, T.a_SIDES, _, _, vN (sdF s0), false, rfl, rfl, tupB_ok (xs := sidesI) T.l_SIDES, (by rw [one]; exact atI_nat (by rw [List.getElem?_map, sd_side hs]; rfl)), ?_⟩
    refine ⟨_, rfl, _, _, rfl, rfl, T.a_STRIPS, _, _, .ref c, false, rfl, rfl, (T.l_STRIPS.sq (hz := by show 5 ≤ 1000; decide)), (by rw [one]; exact hc), ?_⟩
    refine ⟨c, _, false, rfl, hrow _, fun D hD => ?_⟩
    have lS : (stripF s0).length = 20 := by
      unfold stripF
      rw [List.length_map]
      exact strip_len hs
    refine lc_it (walk_seq (b := false) (K := K) (a := c) (xs := (stripF s0).map vN)) (fun i H' => ∃ L : List Addr, Same H H' ∧ H' D = some (.lst (L.map V.ref)) ∧ Spots H' L ((usedF (sdF s0)).take i)) ⟨[], same_upd hD, upd_same, Spots.nil⟩ (fun i H' _ h => hrow _) ?_ ?_
    · rintro i v H1 H2 hi ⟨L, s1, gD, sp⟩ ⟨rfl, e2⟩
      rw [List.length_map, lS] at hi
      have eu : (usedF (sdF s0))[i]? = some ((usedF (sdF s0))[i]'(by rw [strip_len hs]; exact hi)) := List.getElem?_eq_getElem _
      generalize (usedF (sdF s0))[i]'(by rw [strip_len hs]; exact hi) = qq at eu
      obtain ⟨x, y⟩ := qq
      obtain ⟨hx, hy⟩ := strip_in hs (List.mem_of_getElem? eu)
      have hx : x < sdF s0 := hx
      have hy : y < sdF s0 := hy
      have ev : v = vN (x * sdF s0 + y) := by
        unfold stripF at e2
        rw [List.getElem?_map, List.getElem?_map, eu] at e2
        exact (Option.some.inj e2).symm
      subst ev
      have lL : L.length = i := by rw [sp.len, List.length_take, strip_len hs]; omega
      refine ⟨rfl, ?_⟩
      refine ⟨_, rfl, _, rfl, (x * sdF s0 + y : Nat), (sdF s0 : Nat), rfl, ⟨by omega, by omega⟩, fun p hp => ?_⟩
      have e1 : (((x * sdF s0 + y : Nat) : Int) / ((sdF s0 : Nat) : Int)) = (x : Nat) := by
        rw [← Int.natCast_ediv, Nat.mul_comm, Nat.mul_add_div (by omega), Nat.div_eq_of_lt hy, Nat.add_zero]
      have e2 : (((x * sdF s0 + y : Nat) : Int) % ((sdF s0 : Nat) : Int)) = (y : Nat) := by
        rw [← Int.natCast_emod, Nat.mul_comm, Nat.mul_add_mod, Nat.mod_eq_of_lt hy]
      rw [e1, e2]
      have nD : D ≠ p := fun e => by rw [e, hp] at gD; cases gD
      have gD2 : upd H2 p (.tup [V.int (x : Nat), V.int (y : Nat)]) D = some (.lst (L.map V.ref)) := by rw [upd_ne nD]; exact gD
      refine ⟨_, gD2, ?_, L ++ [p], fun c' o' hc' => ?_, ?_, ?_⟩
      · rw [List.length_map, lL]
        exact small1000 (by omega)
      · rw [upd_ne (ne_of_none hc' hD)]
        exact same_upd hp _ _ (s1 _ _ hc')
      · rw [upd_same, List.map_append]
        rfl
      · rw [List.take_add_one, eu]
        have st : ∀ b xs, H2 b = some (.tup xs) → upd (upd H2 p (.tup [V.int (x : Nat), V.int (y : Nat)])) D (.lst (L.map V.ref ++ [V.ref p])) b = some (.tup xs) := fun b xs e => by
          rw [upd_ne (fun z => by rw [z, gD] at e; cases e)]
          exact same_upd hp _ _ e
        refine Spots.append (sp.keep st) ⟨rfl, fun j l q e3 e4 => ?_⟩
        cases j with
        | succ j => simp at e3
        | zero =>
          obtain rfl : p = l := by simpa using e3
          obtain rfl : (x, y) = q := by simpa using e4
          rw [upd_ne nD.symm, upd_same]
          rfl
    · rintro H1 ⟨L, s1, gD, sp⟩
      rw [List.length_map, lS, List.take_of_length_le (by rw [strip_len hs]; exact Nat.le_refl _)] at sp
      exact q D L H1 s1 hD gD sp
/-- what the dots of the format are -/
def dotI (p : (Nat × Nat) × Nat) : (Int × Int) × Int := (((p.1.1 : Nat), (p.1.2 : Nat)), (p.2 : Nat))
def fdL (s l m : Nat) : List ((Int × Int) × Int) := ((usedF (sdF s)).zip (stripL l m)).map dotI
theorem stripL_len (l m : Nat) : (stripL l m).length = 20 := by
  unfold stripL
  rw [List.length_append, bitsW_len]
theorem used_nd {s : Nat} (hs : s < 5) : (usedF (sdF s)).Nodup := by
  rw [used_at hs]
  exact of_decide_eq_true (all5 (P := fun s => decide ((usedL.getD s []).Nodup)) (by decide +kernel) hs)
theorem dotI_keys {us : List (Nat × Nat)} {bs : List Nat} (hl : us.length = bs.length) (nd : us.Nodup) : (((us.zip bs).map dotI).map (·.1)).Nodup := by
  have e : ((us.zip bs).map dotI).map (·.1) = us.map fun q : Nat × Nat => (((q.1 : Nat) : Int), ((q.2 : Nat) : Int)) := by
    rw [List.map_map]
    have z : us = (us.zip bs).map Prod.fst := (List.map_fst_zip (Nat.le_of_eq hl)).symm
    conv => rhs; rw [z]
    rw [List.map_map]
    rfl
  rw [e]
  refine List.Pairwise.map _ (fun a b h => ?_) nd
  intro z
  have z1 := (Prod.mk.inj z).1
  have z2 := (Prod.mk.inj z).2
  exact h (Prod.ext (by omega) (by omega))
def sp_fd : Sp := fun vs H Q _ => ∃ s l m : Nat, vs = [.int ((s : Int) + 1), vN l, vN m] ∧ s < 5 ∧ l < 4 ∧ m < 8 ∧ ∀ (D : Addr) (mm : List ((Int × Int) × Int)) H', Same H H' → H D = none → mm.Perm (fdL s l m) → H' D = some (.dT (dP mm)) → Q (.ref D) H'
theorem ok_format_dots (T : Txt K mg) : FnOk P w K mg base CX0 3 T.f_format_dots T.d_format_dots ["size", "level", "mask"] sp_fd := by
  refine T.F_format_dots.ok sc_format_dots (fun vs H Q E h => ?_) (fun cdv A outer s H vs Q E hr h => ?_)
  · obtain ⟨s, l, m, rfl, _⟩ := h
    rfl
  · obtain ⟨s0, l, m, rfl, hs, hl, hm, q⟩ := h
    refine ⟨_, (pss_cons (ps_expr (pe_call (ok_need_size T) (hr.mono (by decide)) (by rfl) T.g_need_size T.F_need_size.kp T.b_need_size .nil pass0 (pa_cons (pv 0) pa_nil)))
      (pss_cons (ps_expr (pe_call (ok_need_level T) (hr.mono (by decide)) (by rfl) T.g_need_level T.F_need_level.kp T.b_need_level .nil pass0 (pa_cons (pv 1) pa_nil)))
      (pss_cons (ps_expr (pe_call (ok_need_mask T) (hr.mono (by decide)) (by rfl) T.g_need_mask T.F_need_mask.kp T.b_need_mask .nil pass0 (pa_cons (pv 2) pa_nil)))
      (pss_one (ps_ret (pe_dcT (Nat.lt_of_le_of_lt (Nat.le_add_right _ 64) hr.units) (own := [("dot", 3), ("bit", 4)]) (g := gTup K 2 (gCons (gName 3) (gCons (gName 4) gNil))) rfl sc_format_dots.nd (pi_seq (pe_sortZ hr.units rfl (by rfl) T.n_sorted (by rfl) T.n_zip (pa_cons (pe_call (ok_strip_dots T) (hr.mono (by decide)) (by rfl) T.g_strip_dots T.F_strip_dots.kp T.b_strip_dots .nil pass0 (pa_cons (pv 0) pa_nil)) (pa_cons (pe_call (ok_strip_shades T) (hr.mono (by decide)) (by rfl) T.g_strip_shades T.F_strip_shades.kp T.b_strip_shades .nil pass0 (pa_cons (pv 1) (pa_cons (pv 2) pa_nil))) pa_nil)))) (blkOk_by (N := ["size", "level", "mask", "dot", "bit"]) (sc := defScope s_format_dots) (by decide +kernel)) (fun _ _ _ _ _ => by (refine pg_tup ?_ ?_); (exact rfl); (refine pgs_cons ?_ ?_); (exact (pg_name (i := 3) sc_format_dots.nd rfl (.inl rfl))); (refine pgs_cons ?_ ?_); (exact (pg_name (i := 4) sc_format_dots.nd rfl (.inl rfl))); (exact pgs_nil)) (fun _ _ _ _ _ => by exact pts_nil) (fun _ _ _ _ _ => by exact (pv 3)) (fun _ _ _ _ _ => by exact (pv 4)))))))), ?_⟩
    refine ⟨_, rfl, s0, rfl, hs, _, rfl, l, rfl, hl, _, rfl, m, rfl, hm, ?_⟩
    refine ⟨_, rfl, s0, rfl, hs, fun B L H1 s1 nB gB sp => ⟨_, rfl, _, rfl, l, m, rfl, hl, hm, fun C H2 s2 nC gC => ?_⟩⟩
    have lu := strip_len hs
    have lb := stripL_len l m
    have lL : L.length = 20 := by rw [sp.len, lu]
    let ds : List (Addr × Int × Int) := (L.zip (usedF (sdF s0))).map fun p => (p.1, ((p.2.1 : Nat) : Int), ((p.2.2 : Nat) : Int))
    let ks : List Int := (stripL l m).map fun n => ((n : Nat) : Int)
    have eB : ds.map (fun d => V.ref d.1) = L.map V.ref := by
      have z : L = (L.zip (usedF (sdF s0))).map Prod.fst := (List.map_fst_zip (Nat.le_of_eq sp.len)).symm
      conv => rhs; rw [z]
      rw [List.map_map, List.map_map]
      rfl
    have eC : ks.map V.int = (stripL l m).map vN := by rw [List.map_map]; rfl
    have lds : ds.length = 20 := by rw [List.length_map, List.length_zip, lL, lu]; rfl
    have lks : ks.length = 20 := by rw [List.length_map, lb]
    refine ⟨B, C, ds, ks, rfl, .inl (.inl (by rw [eB]; exact s2 _ _ gB)), .inl (.inl (by rw [eC]; exact gC)), by rw [lds, lks], fun d hd => ?_, fun H3 l3 ps kp pp g3 hp => ?_⟩
    · obtain ⟨p, hp, rfl⟩ := List.mem_map.mp hd
      obtain ⟨j, hj⟩ := List.mem_iff_getElem?.mp hp
      obtain ⟨j1, j2⟩ := List.getElem?_zip_eq_some.mp hj
      exact s2 _ _ (sp.at' j _ _ j1 j2)
    · have rowB : ∀ {H'}, Same H3 H' → SqB true K H' l3 (ps.map fun p => V.ref p.1) := fun s => .inl (.inl (s _ _ g3))
      refine ⟨l3, _, true, rfl, rowB (Same.refl _), fun D hD => ?_⟩
      let g : Addr × (Addr × Int × Int) × Int → (Int × Int) × Int := fun p => (p.2.1.2, p.2.2)
      have pm : (ps.map g).Perm (fdL s0 l m) := by
        have e := pp.map fun x : (Addr × Int × Int) × Int => (x.1.2, x.2)
        rw [List.map_map] at e
        refine e.trans (List.Perm.of_eq ?_)
        unfold fdL
        refine List.ext_getElem? fun j => ?_
        rw [List.getElem?_map, List.getElem?_map]
        by_cases hj : j < 20
        · have a1 : L[j]? = some (L[j]'(by omega)) := List.getElem?_eq_getElem _
          have a2 : (usedF (sdF s0))[j]? = some ((usedF (sdF s0))[j]'(by omega)) := List.getElem?_eq_getElem _
          have a3 : (stripL l m)[j]? = some ((stripL l m)[j]'(by omega)) := List.getElem?_eq_getElem _
          generalize L[j]'(by omega) = x1 at a1
          generalize (usedF (sdF s0))[j]'(by omega) = x2 at a2
          generalize (stripL l m)[j]'(by omega) = x3 at a3
          have b1 : ds[j]? = some (x1, ((x2.1 : Nat) : Int), ((x2.2 : Nat) : Int)) := by
            rw [List.getElem?_map, List.getElem?_zip_eq_some.mpr (⟨a1, a2⟩ : L[j]? = some (x1, x2).1 ∧ (usedF (sdF s0))[j]? = some (x1, x2).2)]
            rfl
          have b2 : ks[j]? = some ((x3 : Nat) : Int) := by
            rw [List.getElem?_map, a3]
            rfl
          rw [List.getElem?_zip_eq_some.mpr (⟨b1, b2⟩ : ds[j]? = some ((x1, ((x2.1 : Nat) : Int), ((x2.2 : Nat) : Int)), ((x3 : Nat) : Int)).1 ∧ ks[j]? = some ((x1, ((x2.1 : Nat) : Int), ((x2.2 : Nat) : Int)), ((x3 : Nat) : Int)).2),
            List.getElem?_zip_eq_some.mpr (⟨a2, a3⟩ : (usedF (sdF s0))[j]? = some (x2, x3).1 ∧ (stripL l m)[j]? = some (x2, x3).2)]
          rfl
        · rw [List.getElem?_eq_none (by rw [List.length_zip, lds, lks]; omega), List.getElem?_eq_none (by rw [List.length_zip, lu, lb]; omega)]
          rfl
      have nd : ((ps.map g).map (·.1)).Nodup := (pm.map (·.1)).nodup_iff.mpr (dotI_keys (by rw [lu, lb]) (used_nd hs))
      have lps : ps.length = 20 := by
        have e := pm.length_eq
        unfold fdL at e
        rw [List.length_map, List.length_map, List.length_zip, lu, lb] at e
        exact e
      refine dcT_it (walk_seq (b := true) (K := K) (a := l3) (xs := ps.map fun p => V.ref p.1)) (fun i H' => Same H3 H' ∧ H' D = some (.dT (dP ((ps.take i).map g)))) ⟨same_upd hD, upd_same⟩ (fun i H' _ h => rowB h.1) ?_ ?_
      · rintro i v H4 H5 hi ⟨s4, gD⟩ ⟨rfl, e2⟩
        rw [List.getElem?_map] at e2
        obtain ⟨p, ep, rfl⟩ := Option.map_eq_some_iff.mp e2
        have mp := List.mem_of_getElem? ep
        have pz : p.2 ∈ ds.zip ks := pp.mem_iff.mp (List.mem_map.mpr ⟨p, mp, rfl⟩)
        obtain ⟨j, hj⟩ := List.mem_iff_getElem?.mp pz
        obtain ⟨j1, j2⟩ := List.getElem?_zip_eq_some.mp hj
        obtain ⟨z, hz, ez⟩ := List.mem_map.mp (List.mem_of_getElem? j1)
        obtain ⟨i0, hi0⟩ := List.mem_iff_getElem?.mp hz
        obtain ⟨i1, i2⟩ := List.getElem?_zip_eq_some.mp hi0
        have gk : H3 p.2.1.1 = some (.tup ((kP p.2.1.2).map kV)) := by
          rw [← ez]
          exact kp _ _ (s2 _ _ (sp.at' i0 _ _ i1 i2))
        refine ⟨p.1, _, rfl, .inl (.inl (s4 _ _ (hp p mp))), rfl, _, _, rfl, _, _, rfl, rfl, rfl, ?_⟩
        refine ⟨_, rfl, _, rfl, _, _, p.2.1.1, rfl, s4 _ _ gk, gD, ?_, fun c' o' hc' => ?_, ?_⟩
        · rw [dP_length, List.length_map, List.length_take]
          exact small1000 (by omega)
        · rw [upd_ne (ne_of_none hc' hD)]
          exact s4 _ _ hc'
        · rw [upd_same, putK_dP, putP_new, List.take_add_one, ep, Option.toList_some, List.map_append]
          · rfl
          · intro hm'
            rw [← List.take_append_drop i ps, List.map_append, List.map_append, List.nodup_append] at nd
            have ed : ps.drop i = p :: ps.drop (i + 1) := by
              rw [List.drop_eq_getElem_cons (List.getElem?_eq_some_iff.mp ep).1, (List.getElem?_eq_some_iff.mp ep).2]
            rw [ed] at nd
            exact nd.2.2 _ hm' _ (List.mem_cons_self ..) rfl
      · rintro H4 ⟨s4, gD⟩
        rw [List.length_map, List.take_of_length_le (Nat.le_refl _)] at gD
        exact q D _ H4 (s1.trans (s2.trans (fun c o e => s4 _ _ (kp c o e)))) (Same.free s1 (Same.free s2 (Same.free kp hD))) pm gD
/-! CUT -/
theorem wordsB_at {b : Nat} (hb : 0 < b) : ∀ (ws : List Nat) (k : Nat), (wordsB b ws)[k]? = (ws[k / b]?).map fun w => w / 2 ^ (b - 1 - k % b) % 2
  | [], k => by
    show ([] : List Nat)[k]? = _
    simp
  | w :: ws, k => by
    show (bitsW b w ++ wordsB b ws)[k]? = _
    have hl : (bitsW b w).length = b := bitsW_len b w
    by_cases hk : k < b
    · rw [List.getElem?_append_left (by omega), Nat.div_eq_of_lt hk, Nat.mod_eq_of_lt hk]
      unfold bitsW
      rw [List.getElem?_map, List.getElem?_range hk]
      rfl
    · have ih := wordsB_at hb ws (k - b)
      have e1 : k % b = (k - b) % b := Nat.mod_eq_sub_mod (by omega)
      have e2 : k / b = (k - b) / b + 1 := Nat.div_eq_sub_div hb (by omega)
      rw [List.getElem?_append_right (by omega), hl, ih, e1, e2]
      rfl
theorem gd_app_left {xs ys : List Nat} {k : Nat} (h : k < xs.length) : gd (xs ++ ys) k = gd xs k := by
  unfold gd
  rw [List.getD_eq_getElem?_getD, List.getD_eq_getElem?_getD, List.getElem?_append_left h]
theorem gd_app_right {xs ys : List Nat} {k : Nat} (h : xs.length ≤ k) : gd (xs ++ ys) k = gd ys (k - xs.length) := by
  unfold gd
  rw [List.getD_eq_getElem?_getD, List.getD_eq_getElem?_getD, List.getElem?_append_right h]
theorem gd_part (ds : List Nat) (i n k : Nat) : gd ((ds.drop i).take n) k = if k < n then gd ds (i + k) else 0 := by
  unfold gd
  rw [List.getD_eq_getElem?_getD, List.getD_eq_getElem?_getD, List.getElem?_take, List.getElem?_drop]
  split <;> rfl
theorem zx_part {xs ys : List Nat} (h : xs.length = ys.length) (i n : Nat) : ((zx xs ys).drop i).take n = zx ((xs.drop i).take n) ((ys.drop i).take n) := by
  refine List.ext_getElem? fun k => ?_
  have e1 : (((zx xs ys).drop i).take n).length = (zx ((xs.drop i).take n) ((ys.drop i).take n)).length := by
    rw [zx_len, List.length_take, List.length_drop, zx_len, List.length_take, List.length_drop]
  by_cases hk : k < (((zx xs ys).drop i).take n).length
  · rw [gd_in hk, gd_in (by rw [← e1]; exact hk), gd_zx (by rw [List.length_take, List.length_take, List.length_drop, List.length_drop, h]), gd_part, gd_part, gd_part, gd_zx h]
    split
    · rfl
    · rfl
  · rw [List.getElem?_eq_none (by omega), List.getElem?_eq_none (by omega)]
theorem ent_at {s l b c : Nat} {ds : List Nat} : (((rightF s l ds).getD b []).getD c 0) = if b < (blkF s).length then gd ((ds.drop ((ownsF s l).take b).sum).take ((ownsF s l).getD b 0) ++ chF s l ((ds.drop ((ownsF s l).take b).sum).take ((ownsF s l).getD b 0))) c else 0 := by
  rw [List.getD_eq_getElem?_getD (l := rightF s l ds)]
  unfold rightF partF
  rw [List.map_map, List.getElem?_map, owns_len]
  split
  · rename_i h
    rw [List.getElem?_range h]
    rfl
  · rename_i h
    rw [List.getElem?_eq_none (by rw [List.length_range]; omega)]
    rfl
theorem ent_zx {s l b c : Nat} {xs ys : List Nat} (hs : s < 5) (hx : ∀ x ∈ xs, x < span (bitsF s)) (hy : ∀ x ∈ ys, x < span (bitsF s)) (h : xs.length = ys.length) :
    ((rightF s l (zx xs ys)).getD b []).getD c 0 = ((rightF s l xs).getD b []).getD c 0 ^^^ ((rightF s l ys).getD b []).getD c 0 := by
  rw [ent_at, ent_at, ent_at]
  by_cases hb : b < (blkF s).length
  · rw [if_pos hb, if_pos hb, if_pos hb, zx_part h]
    have hl : ((xs.drop ((ownsF s l).take b).sum).take ((ownsF s l).getD b 0)).length = ((ys.drop ((ownsF s l).take b).sum).take ((ownsF s l).getD b 0)).length := by rw [List.length_take, List.length_take, List.length_drop, List.length_drop, h]
    have wx : ∀ x ∈ (xs.drop ((ownsF s l).take b).sum).take ((ownsF s l).getD b 0), x < span (bitsF s) := fun x hh => hx x (List.mem_of_mem_drop (List.mem_of_mem_take hh))
    have wy : ∀ x ∈ (ys.drop ((ownsF s l).take b).sum).take ((ownsF s l).getD b 0), x < span (bitsF s) := fun x hh => hy x (List.mem_of_mem_drop (List.mem_of_mem_take hh))
    generalize (xs.drop ((ownsF s l).take b).sum).take ((ownsF s l).getD b 0) = u at hl wx
    generalize (ys.drop ((ownsF s l).take b).sum).take ((ownsF s l).getD b 0) = v at hl wy
    have ec : chF s l (zx u v) = zx (chF s l u) (chF s l v) := chk_sum (bits_wd hs) wx wy hl.symm
    have lu : (chF s l u).length = (chF s l v).length := by rw [chF_len hs, chF_len hs]
    rw [ec]
    by_cases hc : c < u.length
    · rw [gd_app_left (by rw [zx_len]; exact hc), gd_app_left hc, gd_app_left (by omega), gd_zx hl]
    · rw [gd_app_right (by rw [zx_len]; omega), gd_app_right (by omega), gd_app_right (by omega), gd_zx lu, zx_len, hl]
  · rw [if_neg hb, if_neg hb, if_neg hb]
    rfl
theorem due_zx {s l i : Nat} {xs ys : List Nat} (hs : s < 5) (hx : ∀ x ∈ xs, x < span (bitsF s)) (hy : ∀ x ∈ ys, x < span (bitsF s)) (h : xs.length = ys.length) (hi : i < totF s) :
    gd (dueF s l (rightF s l (zx xs ys))) i = gd (dueF s l (rightF s l xs)) i ^^^ gd (dueF s l (rightF s l ys)) i := by
  have e : ∀ R : List (List Nat), gd (dueF s l R) i = (R.getD (spotF s l i).1 []).getD (spotF s l i).2 0 := fun R => by
    unfold gd
    rw [List.getD_eq_getElem?_getD, due_at hi]
    rfl
  rw [e, e, e, ent_zx hs hx hy h]
theorem bit_even (m a b c d j : Nat) (hd : d = a ^^^ b ^^^ c) : ((m ^^^ a) / 2 ^ j % 2 + (m ^^^ b) / 2 ^ j % 2 + (m ^^^ c) / 2 ^ j % 2 + (m ^^^ d) / 2 ^ j % 2) % 2 = 0 := by
  have e : ∀ x : Nat, x / 2 ^ j % 2 = (x.testBit j).toNat := fun x => (Nat.toNat_testBit x j).symm
  rw [e, e, e, e, hd, Nat.testBit_xor, Nat.testBit_xor, Nat.testBit_xor, Nat.testBit_xor, Nat.testBit_xor, Nat.testBit_xor]
  cases m.testBit j <;> cases a.testBit j <;> cases b.testBit j <;> cases c.testBit j <;> rfl
/-! CUT -/
theorem mask_at_i {s m i : Nat} (hs : s < 5) (hm : m < 8) {ws : List Nat} (hl : ws.length = totF s) (hi : i < totF s) : (maskW s m ws)[i]? = some (gd (mwF s m) i ^^^ gd ws i) := by
  unfold maskW
  have ml := mw_len hs hm
  rw [List.getElem?_zipWith, gd_in (show i < ws.length by omega), gd_in (show i < (mwF s m).length by omega)]
  exact congrArg some (Nat.xor_comm _ _)
theorem shade_at {s m k : Nat} (hs : s < 5) (hm : m < 8) {ws : List Nat} {st : List (Option Nat)} (hl : ws.length = totF s) (hk : k < ptF s) : (shadesF s (maskW s m ws) st).getD k none = some ((gd (mwF s m) (k / bitsF s) ^^^ gd ws (k / bitsF s)) / 2 ^ (bitsF s - 1 - k % bitsF s) % 2) := by
  have hb : 0 < bitsF s := by rcases bits_wd hs with h | h <;> omega
  have ht := tot_pt hs
  have hd : k / bitsF s < totF s := Nat.div_lt_of_lt_mul (by rw [ht]; exact hk)
  unfold shadesF
  have lw : (wordsB (bitsF s) (maskW s m ws)).length = ptF s := by rw [wordsB_len, maskW_len hs hm hl, ht]
  rw [List.getD_eq_getElem?_getD, List.getElem?_append_left (by rw [List.length_map]; omega), List.getElem?_map, wordsB_at hb, mask_at_i hs hm hl hd]
  rfl
theorem shade_st {s m k : Nat} (hs : s < 5) (hm : m < 8) {ws : List Nat} {st : List (Option Nat)} (hl : ws.length = totF s) (hk : ptF s ≤ k) : (shadesF s (maskW s m ws) st).getD k none = (st ++ [some 0, some 1]).getD (k - ptF s) none := by
  have ht := tot_pt hs
  unfold shadesF
  have lw : ((wordsB (bitsF s) (maskW s m ws)).map some).length = ptF s := by rw [List.length_map, wordsB_len, maskW_len hs hm hl, ht]
  rw [List.getD_eq_getElem?_getD, List.getElem?_append_right (by omega), lw, List.getD_eq_getElem?_getD]
def x4F (xs ys zs : List Nat) : List Nat := zx (zx xs ys) zs
theorem x4_ws {s : Nat} (hs : s < 5) {xs ys : List Nat} (hx : ∀ x ∈ xs, x < span (bitsF s)) (hy : ∀ x ∈ ys, x < span (bitsF s)) : ∀ x ∈ zx xs ys, x < span (bitsF s) := zx_ws (bits_wd hs) hx hy
theorem cell_sym {s l m i j : Nat} {ds : List Nat} (hi : i < sdF s) (hj : j < sdF s) : cell (symF s l m ds) i j = (shadesF s (maskW s m (dueF s l (rightF s l ds))) ((stripL l m).map some)).getD (plF s i j) none := by
  unfold cell symF drawF
  have e : (layF s (maskW s m (dueF s l (rightF s l ds))) ((stripL l m).map some)).getD i [] = (List.range (sdF s)).map fun c => (shadesF s (maskW s m (dueF s l (rightF s l ds))) ((stripL l m).map some)).getD (plF s i c) none := by
    rw [List.getD_eq_getElem?_getD, lay_row _ _ hi]
    rfl
  rw [e]
  generalize (shadesF s (maskW s m (dueF s l (rightF s l ds))) ((stripL l m).map some)) = S
  rw [List.getD_eq_getElem?_getD, List.getElem?_map, List.getElem?_range hj]
  rfl
/-- at each dot the four dots have an even sum -/
theorem sym_even {s l m i j : Nat} {xs ys zs : List Nat} (hs : s < 5) (hl : l < 4) (hm : m < 8) (hx : ∀ x ∈ xs, x < span (bitsF s)) (hy : ∀ x ∈ ys, x < span (bitsF s)) (hz : ∀ x ∈ zs, x < span (bitsF s))
    (lx : xs.length = dataF s l) (ly : ys.length = dataF s l) (lz : zs.length = dataF s l) (hi : i < sdF s) (hj : j < sdF s) :
    ∃ v1 v2 v3 v4 : Nat, cell (symF s l m xs) i j = some v1 ∧ cell (symF s l m ys) i j = some v2 ∧ cell (symF s l m zs) i j = some v3 ∧ cell (symF s l m (x4F xs ys zs)) i j = some v4 ∧ (v1 + v2 + v3 + v4) % 2 = 0 := by
  have hp := (way_pl hs hi hj).1
  rw [cell_sym hi hj, cell_sym hi hj, cell_sym hi hj, cell_sym hi hj]
  generalize plF s i j = k at hp
  by_cases hk : k < ptF s
  · rw [shade_at hs hm (due_len _ _ _) hk, shade_at hs hm (due_len _ _ _) hk, shade_at hs hm (due_len _ _ _) hk, shade_at hs hm (due_len _ _ _) hk]
    have hd : k / bitsF s < totF s := Nat.div_lt_of_lt_mul (by rw [tot_pt hs]; exact hk)
    refine ⟨_, _, _, _, rfl, rfl, rfl, rfl, bit_even _ _ _ _ _ _ ?_⟩
    unfold x4F
    rw [due_zx hs (x4_ws hs hx hy) hz (by rw [zx_len]; omega) hd, due_zx hs hx hy (by omega) hd]
  · rw [shade_st hs hm (due_len _ _ _) (by omega), shade_st hs hm (due_len _ _ _) (by omega), shade_st hs hm (due_len _ _ _) (by omega), shade_st hs hm (due_len _ _ _) (by omega)]
    have hc : ∃ v, ((stripL l m).map some ++ [some 0, some 1]).getD (k - ptF s) none = some v := by
      have hl22 : ((stripL l m).map some ++ [some 0, some 1]).length = 22 := by
        rw [List.length_append, List.length_map]
        unfold stripL
        rw [List.length_append, bitsW_len]
        rfl
      have e : ((stripL l m).map some ++ [some 0, some 1]) = (stripL l m ++ [0, 1]).map some := by rw [List.map_append]; rfl
      rw [e] at hl22 ⊢
      rw [List.length_map] at hl22
      rw [List.getD_eq_getElem?_getD, List.getElem?_map, List.getElem?_eq_getElem (by omega)]
      exact ⟨_, rfl⟩
    obtain ⟨v, e⟩ := hc
    exact ⟨v, v, v, v, e, e, e, e, by omega⟩
/-! CUT -/
theorem strip_ok (l m : Nat) : ∀ o ∈ (stripL l m).map some, DotOk o := fun o ho => by
  obtain ⟨x, hx, rfl⟩ := List.mem_map.mp ho
  have h2 : x < 2 := by
    unfold stripL at hx
    rcases List.mem_append.mp hx with h | h
    · exact bitsW_lt _ _ _ h
    · exact bitsW_lt _ _ _ h
  have : x = 0 ∨ x = 1 := by omega
  rcases this with rfl | rfl
  · exact .inr (.inl rfl)
  · exact .inr (.inr rfl)
theorem draw_sq {s l m : Nat} (hs : s < 5) (hm : m < 8) {ws : List Nat} (hl : ws.length = totF s) : Sq (sdF s) (drawF s l m ws) :=
  lay_sq hs (maskW_len hs hm hl) (by rw [List.length_map]; unfold stripL; rw [List.length_append, bitsW_len]) (strip_ok l m)
theorem cell_draw {s l m i j : Nat} {ws : List Nat} (hi : i < sdF s) (hj : j < sdF s) : cell (drawF s l m ws) i j = (shadesF s (maskW s m ws) ((stripL l m).map some)).getD (plF s i j) none := by
  unfold cell drawF
  have e : (layF s (maskW s m ws) ((stripL l m).map some)).getD i [] = (List.range (sdF s)).map fun c => (shadesF s (maskW s m ws) ((stripL l m).map some)).getD (plF s i c) none := by
    rw [List.getD_eq_getElem?_getD, lay_row _ _ hi]
    rfl
  rw [e]
  generalize (shadesF s (maskW s m ws) ((stripL l m).map some)) = S
  rw [List.getD_eq_getElem?_getD, List.getElem?_map, List.getElem?_range hj]
  rfl
theorem bit_un (x w j : Nat) : (x ^^^ w) / 2 ^ j % 2 = if x / 2 ^ j % 2 = 1 then 1 - w / 2 ^ j % 2 else w / 2 ^ j % 2 := by
  have e : ∀ x : Nat, x / 2 ^ j % 2 = (x.testBit j).toNat := fun x => (Nat.toNat_testBit x j).symm
  rw [e, e, e, Nat.testBit_xor]
  cases x.testBit j <;> cases w.testBit j <;> rfl
theorem dots_un {s l m : Nat} {ws : List Nat} (hs : s < 5) (hm : m < 8) (hl : ws.length = totF s) : dotsF s (maskG s m (drawF s l m ws)) = (wordsB (bitsF s) ws).map some := by
  have hb : 0 < bitsF s := by rcases bits_wd hs with h | h <;> omega
  have ht := tot_pt hs
  have lw : (wordsB (bitsF s) ws).length = ptF s := by rw [wordsB_len, hl, ht]
  refine List.ext_getElem? fun k => ?_
  by_cases hk : k < ptF s
  · obtain ⟨⟨x, y⟩, eq, ep⟩ := pl_way hs hk
    obtain ⟨hx, hy⟩ := way_in hs (List.mem_of_getElem? eq)
    have hx : x < sdF s := hx
    have hy : y < sdF s := hy
    have ep : plF s x y = k := ep
    have hd : k / bitsF s < totF s := Nat.div_lt_of_lt_mul (by rw [ht]; exact hk)
    have ml := mw_len hs hm
    have eh := mbit_at hs hm hx hy
    rw [ep, List.getElem?_append_left (by rw [wordsB_len, ml, ht]; exact hk), wordsB_at hb, gd_in (show k / bitsF s < (mwF s m).length by omega)] at eh
    have eh2 : gd (mwF s m) (k / bitsF s) / 2 ^ (bitsF s - 1 - k % bitsF s) % 2 = if hitF s m x y = true then 1 else 0 := Option.some.inj eh
    unfold dotsF
    rw [List.getElem?_map, eq, List.getElem?_map, wordsB_at hb, gd_in (show k / bitsF s < ws.length by omega)]
    refine congrArg some ?_
    show cell (maskG s m (drawF s l m ws)) x y = some (gd ws (k / bitsF s) / 2 ^ (bitsF s - 1 - k % bitsF s) % 2)
    unfold maskG
    rw [cell_turn (draw_sq hs hm hl) hx hy, cell_draw hx hy, ep, shade_at hs hm hl hk, bit_un, eh2]
    have h2 : gd ws (k / bitsF s) / 2 ^ (bitsF s - 1 - k % bitsF s) % 2 < 2 := Nat.mod_lt _ (by decide)
    generalize gd ws (k / bitsF s) / 2 ^ (bitsF s - 1 - k % bitsF s) % 2 = v at h2
    by_cases hh : hitF s m x y = true
    · rw [if_pos hh, if_pos hh, if_pos rfl]
      show some (1 - (1 - v)) = some v
      exact congrArg some (by omega)
    · rw [if_neg hh, if_neg hh, if_neg (by decide)]
  · rw [List.getElem?_eq_none (by rw [wdots_len hs]; omega), List.getElem?_eq_none (by rw [List.length_map]; omega)]
theorem fold_word {b w : Nat} (hb : Wd b) (hw : w < span b) : foldB (bitsW b w) = w := by
  rcases hb with rfl | rfl
  · have q : ((List.range 16).all fun w => foldB (bitsW 4 w) == w) = true := by decide +kernel
    exact eq_of_beq (List.all_eq_true.mp q w (List.mem_range.mpr hw))
  · have q : ((List.range 256).all fun w => foldB (bitsW 8 w) == w) = true := by decide +kernel
    exact eq_of_beq (List.all_eq_true.mp q w (List.mem_range.mpr hw))
theorem heard_whole {b : Nat} {ws : List Nat} (hb : Wd b) (hw : ∀ x ∈ ws, x < span b) : heardF b ((wordsB b ws).map some) = ws.map some := by
  have h0 : 0 < b := by rcases hb with h | h <;> omega
  have hl : ((wordsB b ws).map some).length = b * ws.length := by rw [List.length_map, wordsB_len]
  refine List.ext_getElem? fun i => ?_
  by_cases hi : i < ws.length
  · rw [heard_at h0 hl hi, List.getElem?_map, List.getElem?_eq_getElem hi]
    refine congrArg some ?_
    have ep : partO ((wordsB b ws).map some) b i = (bitsW b ws[i]).map some := by
      refine List.ext_getElem? fun j => ?_
      by_cases hj : j < b
      · rw [part_at hj, List.getElem?_map, wordsB_at h0, Nat.mul_add_div h0, Nat.div_eq_of_lt hj, Nat.add_zero, List.getElem?_eq_getElem hi, Nat.mul_add_mod, Nat.mod_eq_of_lt hj, List.getElem?_map]
        unfold bitsW
        rw [List.getElem?_map, List.getElem?_range hj]
        rfl
      · rw [List.getElem?_eq_none (by rw [part_len hl hi]; omega), List.getElem?_eq_none (by rw [List.length_map, bitsW_len]; omega)]
    rw [ep]
    unfold wordO
    have ea : ((bitsW b ws[i]).map some).all Option.isSome = true := by
      rw [List.all_map]
      exact List.all_eq_true.mpr fun x _ => rfl
    rw [if_pos ea, List.map_map]
    have em : (bitsW b ws[i]).map ((fun o : Option Nat => o.getD 0) ∘ some) = bitsW b ws[i] := List.map_id' _
    rw [em, fold_word hb (hw _ (List.getElem_mem hi))]
  · rw [List.getElem?_eq_none (by rw [heard_len h0 hl]; omega), List.getElem?_eq_none (by rw [List.length_map]; omega)]
/-! CUT -/
/-! ### the border -/
def sp_side : Sp := fun vs H Q _ => ∃ s : Nat, vs = [.int ((s : Int) + 1)] ∧ s < 5 ∧ Q (vN (sdF s)) H
theorem ok_side (T : Txt K mg) : FnOk P w K mg base CX0 3 T.f_side T.d_side ["size"] sp_side := by
  refine T.F_side.ok sc_side (fun vs H Q E h => ?_) (fun cdv A outer s H vs Q E hr h => ?_)
  · obtain ⟨s, rfl, _⟩ := h
    rfl
  · obtain ⟨s0, rfl, hs, q⟩ := h
    refine ⟨_, (pss_cons (ps_expr (pe_call (ok_need_size T) (hr.mono (by decide)) (by rfl) T.g_need_size T.F_need_size.kp T.b_need_size .nil pass0 (pa_cons (pv 0) pa_nil)))
      (pss_one (ps_ret (pe_ix ix_rowB (pe_glob (v := .ref T.a_SIDES) (by rfl) T.g_SIDES rfl) (pe_op op_sub (pv 0) pe_int) (fun _ _ => rfl))))), ?_⟩
    have one : (s0 : Int) + 1 - 1 = (s0 : Int) := by omega
    exact ⟨_, rfl, s0, rfl, hs, _, rfl, _, _, rfl, rfl, T.a_SIDES, _, _, vN (sdF s0), false, rfl, rfl, tupB_ok (xs := sidesI) T.l_SIDES, (by rw [one]; exact atI_nat (by rw [List.getElem?_map, sd_side hs]; rfl)), q⟩
def bvF (n r c : Nat) : Nat := if c = 0 ∨ r = n then 1 else if r = 0 then 1 - c % 2 else 1 - (n - r) / 2 % 2
def sp_bv : Sp := fun vs H Q _ => ∃ n r c : Nat, vs = [vN n, vN r, vN c] ∧ r ≤ n ∧ n ≤ 100 ∧ c ≤ n ∧ Q (vN (bvF n r c)) H
theorem ok_border_value (T : Txt K mg) : FnOk P w K mg base CX0 1 T.f_border_value T.d_border_value ["last", "row", "column"] sp_bv := by
  refine T.F_border_value.ok sc_border_value (fun vs H Q E h => ?_) (fun cdv A outer s H vs Q E hr h => ?_)
  · obtain ⟨n, r, c, rfl, _⟩ := h
    rfl
  · obtain ⟨n, r, c, rfl, hr1, hn, hc1, q⟩ := h
    refine ⟨_, (pss_cons (ps_if (PW.pt (pw_or (pt_cmpR op_eq (pv 2) pe_int (nomark _)) (pw_or1 (pt_cmpR op_eq (pv 1) (pv 0) (nomark _))))) (pss_one (ps_ret pe_int)) pss_nil)
      (pss_cons (ps_if (pt_cmpR op_eq (pv 1) pe_int (nomark _)) (pss_one (ps_ret (pe_op op_sub pe_int (pe_op op_mod (pv 2) pe_int)))) pss_nil)
      (pss_one (ps_ret (pe_op op_sub pe_int (pe_op op_mod (pe_op op_fdiv (pe_op op_sub (pv 0) (pv 1)) pe_int) pe_int)))))), ?_⟩
    have dv : ∀ x : Nat, decide (vN x = V.int 0) = decide (x = 0) := fun x => by
      by_cases h : x = 0
      · subst h; rfl
      · rw [decide_eq_false h, decide_eq_false fun z => h (by have := V.int.inj z; omega)]
    have dn : decide (vN r = vN n) = decide (r = n) := by
      by_cases h : r = n
      · subst h; rw [decide_eq_true rfl, decide_eq_true rfl]
      · rw [decide_eq_false h, decide_eq_false fun z => h (by have := V.int.inj z; omega)]
    refine ⟨_, rfl, rfl, _, rfl, ?_⟩
    rw [dv]
    by_cases hc0 : c = 0
    · rw [decide_eq_true hc0]
      refine iteT ?_
      rw [show bvF n r c = 1 by unfold bvF; rw [if_pos (.inl hc0)]] at q
      exact iteT q
    rw [decide_eq_false hc0]
    refine iteF ⟨_, rfl, _, rfl, rfl, _, rfl, ?_⟩
    rw [dn]
    by_cases hrn : r = n
    · rw [decide_eq_true hrn]
      rw [show bvF n r c = 1 by unfold bvF; rw [if_pos (.inr hrn)]] at q
      exact iteT q
    rw [decide_eq_false hrn]
    refine iteF ⟨_, rfl, rfl, _, rfl, ?_⟩
    rw [dv]
    by_cases hr0 : r = 0
    · rw [decide_eq_true hr0]
      rw [show bvF n r c = 1 - c % 2 by unfold bvF; rw [if_neg (by omega), if_pos hr0]] at q
      refine iteT ⟨_, rfl, _, _, rfl, rfl, (show (0 : Int) < 2 by decide), _, _, rfl, rfl, ?_⟩
      have e : V.int ((1 : Int) - ((c : Nat) : Int) % 2) = vN (1 - c % 2) := congrArg V.int (by omega)
      show Q (V.int ((1 : Int) - ((c : Nat) : Int) % 2)) H
      rw [e]
      exact q
    · rw [decide_eq_false hr0]
      rw [show bvF n r c = 1 - (n - r) / 2 % 2 by unfold bvF; rw [if_neg (by omega), if_neg hr0]] at q
      refine iteF ⟨_, rfl, _, rfl, _, _, rfl, rfl, _, _, rfl, rfl, ⟨by decide, by decide⟩, _, _, rfl, rfl, (show (0 : Int) < 2 by decide), _, _, rfl, rfl, ?_⟩
      have e : V.int ((1 : Int) - ((((n : Nat) : Int) - ((r : Nat) : Int)) / 2) % 2) = vN (1 - (n - r) / 2 % 2) := congrArg V.int (by omega)
      show Q (V.int ((1 : Int) - ((((n : Nat) : Int) - ((r : Nat) : Int)) / 2) % 2)) H
      rw [e]
      exact q
theorem none_of {H H' : Hp} {x : Addr} (s : Same H H') (h : H' x = none) : H x = none := by
  cases e : H x with
  | none => rfl
  | some o => rw [s _ _ e] at h; cases h
/-- one more dot in a list of dots -/
theorem Spots.push {H2 : Hp} {D p : Addr} {L : List Addr} {w : List (Nat × Nat)} {q : Nat × Nat} (gD : H2 D = some (.lst (L.map V.ref))) (sp : Spots H2 L w) (hp : H2 p = none) :
    upd (upd H2 p (tQ q)) D (.lst (L.map V.ref ++ [V.ref p])) D = some (.lst ((L ++ [p]).map V.ref)) ∧ Spots (upd (upd H2 p (tQ q)) D (.lst (L.map V.ref ++ [V.ref p]))) (L ++ [p]) (w ++ [q]) := by
  have nD : D ≠ p := fun e => by rw [e, hp] at gD; cases gD
  refine ⟨by rw [upd_same, List.map_append]; rfl, Spots.append (sp.keep fun b xs e => ?_) ⟨rfl, fun j l q' e3 e4 => ?_⟩⟩
  · rw [upd_ne (fun z => by rw [z, gD] at e; cases e)]
    exact same_upd hp _ _ e
  · cases j with
    | succ j => simp at e3
    | zero =>
      obtain rfl : p = l := by simpa using e3
      obtain rfl : q = q' := by simpa using e4
      rw [upd_ne nD.symm, upd_same]
def bdL (n : Nat) : List (Nat × Nat) := ((List.range (n + 1)).map fun c => (0, c)) ++ ((List.range (n - 1)).flatMap fun i => [(i + 1, 0), (i + 1, n)]) ++ (List.range (n + 1)).map fun c => (n, c)
def sp_bd : Sp := fun vs H Q _ => ∃ n : Nat, vs = [vN n] ∧ 1 ≤ n ∧ n ≤ 30 ∧ ∀ (D : Addr) (L : List Addr) H', Same H H' → H D = none → H' D = some (.lst (L.map V.ref)) → Spots H' L (bdL n) → Q (.ref D) H'
theorem ok_border_dots (T : Txt K mg) : FnOk P w K mg base CX0 1 T.f_border_dots T.d_border_dots ["last"] sp_bd := by
  refine T.F_border_dots.ok sc_border_dots (fun vs H Q E h => ?_) (fun cdv A outer s H vs Q E hr h => ?_)
  · obtain ⟨n, rfl, _⟩ := h
    rfl
  · obtain ⟨n, rfl, hn1, hn2, q⟩ := h
    refine ⟨_, (pss_cons (ps_set (i := 1) sc_border_dots.nd rfl (.inl rfl) (pe_callTy cr_range1 (by rfl) T.n_range (by decide +kernel) (pa_cons (pe_op op_add (pv 0) pe_int) pa_nil)))
      (pss_cons (ps_setLc2 (i := 2) (g := (gName 3)) (g1 := (gName 4)) (own := [("row", 3), ("column", 4)]) (vs1 := [4]) rfl sc_border_dots.nd rfl rfl (sw_true rfl rfl rfl (by decide +kernel)) (pi_range2 (by rfl) T.n_range (pa_cons pe_int (pa_cons (pv 0) pa_nil))) (blkOk_by (N := ["last", "columns", "edges", "row", "column"]) (sc := defScope s_border_dots) (by decide +kernel)) (by decide) (fun _ _ _ _ _ => by exact (pg_name (i := 3) sc_border_dots.nd rfl (.inl rfl))) (fun _ _ _ _ _ => by exact pts_nil) (fun _ _ _ _ _ => by exact (pi_seqK (K := K) rfl (pe_tup (pa_cons pe_int (pa_cons (pv 0) pa_nil))))) (fun _ _ _ _ _ => by exact (pg_name (i := 4) sc_border_dots.nd rfl (.inl rfl))) (fun _ _ _ _ _ => by exact pts_nil) (fun _ _ _ _ _ => by exact (pe_tup (pa_cons (pv 3) (pa_cons (pv 4) pa_nil)))))
      (pss_one (ps_ret (pe_op op_cat (pe_op op_cat (pe_lc (own := [("column", 4)]) rfl sc_border_dots.nd (pi_rngV (pv 1)) (blkOk_by (N := ["last", "columns", "edges", "row", "column"]) (sc := defScope s_border_dots) (by decide +kernel)) (fun _ _ _ _ _ => by exact (pg_name (i := 4) sc_border_dots.nd rfl (.inl rfl))) (fun _ _ _ _ _ => by exact pts_nil) (fun _ _ _ _ _ => by exact (pe_tup (pa_cons pe_int (pa_cons (pv 4) pa_nil))))) (pv 2)) (pe_lc (own := [("column", 4)]) rfl sc_border_dots.nd (pi_rngV (pv 1)) (blkOk_by (N := ["last", "columns", "edges", "row", "column"]) (sc := defScope s_border_dots) (by decide +kernel)) (fun _ _ _ _ _ => by exact (pg_name (i := 4) sc_border_dots.nd rfl (.inl rfl))) (fun _ _ _ _ _ => by exact pts_nil) (fun _ _ _ _ _ => by exact (pe_tup (pa_cons (pv 0) (pa_cons (pv 4) pa_nil)))))))))), ?_⟩
    refine ⟨_, rfl, _, _, rfl, rfl, _, rfl, fun C hC => ?_⟩
    have sC := same_upd (o := .rng 0 ((n : Int) + 1)) hC
    have edge : ∀ i : Nat, (List.range (i + 1)).flatMap (fun i => [(i + 1, 0), (i + 1, n)]) = (List.range i).flatMap (fun i => [(i + 1, 0), (i + 1, n)]) ++ [(i + 1, 0), (i + 1, n)] := fun i => by
      rw [List.range_succ, List.flatMap_append]
      rfl
    have elen : ∀ i : Nat, ((List.range i).flatMap (fun i => [(i + 1, 0), (i + 1, n)])).length = 2 * i := fun i => by
      induction i with
      | zero => rfl
      | succ i ih => rw [edge, List.length_append, ih]; rfl
    refine ⟨_, rfl, 1, n, rfl, ⟨by decide, by decide, by omega, by omega⟩, fun E1 hE => ?_⟩
    refine lc2_it (walk_range (lo := 1) (n := ((n : Int) - 1).toNat)) (fun i H' => ∃ L : List Addr, Same (upd H C (.rng 0 ((n : Int) + 1))) H' ∧ H' E1 = some (.lst (L.map V.ref)) ∧ Spots H' L ((List.range i).flatMap fun i => [(i + 1, 0), (i + 1, n)])) ⟨[], same_upd hE, upd_same, Spots.nil⟩ (fun i H' _ h => trivial) ?_ ?_
    · rintro i v H1 H2 hi ⟨L, s1, gE, sp⟩ ⟨rfl, rfl⟩
      refine ⟨rfl, ?_⟩
      have hi' : i < n - 1 := by omega
      refine iteT (B := ∃ L : List Addr, Same (upd H C (.rng 0 ((n : Int) + 1))) H2 ∧ H2 E1 = some (.lst (L.map V.ref)) ∧ Spots H2 L ((List.range (i + 1)).flatMap fun i => [(i + 1, 0), (i + 1, n)])) ⟨_, rfl, (by show 2 ≤ sizeLine; decide), fun tp htp => ?_⟩
      have stp := same_upd (o := .tup [V.int 0, vN n]) htp
      refine ⟨tp, _, false, rfl, .inl (.inl upd_same), ?_⟩
      have gT : upd H2 tp (.tup [V.int 0, vN n]) tp = some (.tup [V.int 0, vN n]) := upd_same
      have nE : E1 ≠ tp := fun e => by rw [e, htp] at gE; cases gE
      refine lc_in (walk_seq (b := false) (K := K) (a := tp) (xs := [V.int 0, vN n])) (fun j H' => ∃ L : List Addr, Same (upd H C (.rng 0 ((n : Int) + 1))) H' ∧ H' tp = some (.tup [V.int 0, vN n]) ∧ H' E1 = some (.lst (L.map V.ref)) ∧ Spots H' L ((List.range i).flatMap (fun i => [(i + 1, 0), (i + 1, n)]) ++ [(i + 1, 0), (i + 1, n)].take j)) ⟨L, s1.trans stp, gT, stp _ _ gE, by rw [List.take_zero, List.append_nil]; exact sp.same stp⟩ (fun j H' _ h => ?_) ?_ ?_
      · obtain ⟨_, _, g, _⟩ := h
        exact .inl (.inl g)
      · rintro j v H3 H4 hj ⟨L, s3, gt, gE3, sp3⟩ ⟨rfl, e2⟩
        have hj : j < 2 := hj
        obtain ⟨q, hq, ev⟩ : ∃ q : Nat × Nat, [(i + 1, 0), (i + 1, n)].take (j + 1) = [(i + 1, 0), (i + 1, n)].take j ++ [q] ∧ HO.tup [V.int (1 + (i : Int)), v] = tQ q := by
          have e1 : V.int (1 + (i : Int)) = vN (i + 1) := congrArg V.int (by omega)
          have : j = 0 ∨ j = 1 := by omega
          rcases this with rfl | rfl
          · cases e2
            exact ⟨(i + 1, 0), rfl, by rw [e1]; rfl⟩
          · cases e2
            exact ⟨(i + 1, n), rfl, by rw [e1]; rfl⟩
        refine ⟨rfl, ?_⟩
        refine ⟨_, rfl, _, rfl, (by show 2 ≤ sizeLine; decide), fun p hp => ?_⟩
        have nEp : E1 ≠ p := fun e => by rw [e, hp] at gE3; cases gE3
        have ntp : tp ≠ p := fun e => by rw [e, hp] at gt; cases gt
        have hu := Spots.push (q := q) gE3 sp3 hp
        rw [← ev] at hu
        refine ⟨_, by rw [upd_ne nEp]; exact gE3, ?_, L ++ [p], fun c o hc => ?_, ?_, hu.1, ?_⟩
        · rw [List.length_map, sp3.len, List.length_append, elen, List.length_take]
          refine small1000 ?_
          have : min j [(i + 1, 0), (i + 1, n)].length ≤ 2 := by omega
          omega
        · rw [upd_ne (ne_of_none hc hE), upd_ne (ne_of_none (s3 _ _ hc) hp)]
          exact s3 _ _ hc
        · rw [upd_ne nE.symm, upd_ne ntp]
          exact gt
        · rw [hq, ← List.append_assoc]
          exact hu.2
      · rintro H3 ⟨L, s3, gt, gE3, sp3⟩
        refine ⟨L, s3, gE3, ?_⟩
        rw [edge]
        exact sp3
    · rintro H1 ⟨LE, s1, gE, spE⟩
      rw [show ((n : Int) - 1).toNat = n - 1 by omega] at spE
      have gC1 : H1 C = some (.rng 0 ((n : Int) + 1)) := s1 _ _ upd_same
      have en : (((n : Int) + 1) - 0).toNat = n + 1 := by omega
      refine ⟨_, rfl, C, 0, (n : Int) + 1, rfl, gC1, ⟨by decide, by decide, by omega, by omega⟩, fun D1 hD1 => ?_⟩
      rw [en]
      refine lc_it (walk_range (lo := 0) (n := n + 1)) (fun i H' => ∃ L : List Addr, Same H1 H' ∧ H' D1 = some (.lst (L.map V.ref)) ∧ Spots H' L ((List.range i).map fun c => (0, c))) ⟨[], same_upd hD1, upd_same, Spots.nil⟩ (fun i H' _ h => trivial) ?_ ?_
      · rintro i v H2 H3 hi ⟨L, s2, g2, sp2⟩ ⟨rfl, rfl⟩
        have ev : HO.tup [V.int 0, V.int (0 + (i : Int))] = tQ (0, i) := by
          have e1 : V.int (0 + (i : Int)) = vN i := congrArg V.int (by omega)
          rw [e1]
          rfl
        refine ⟨rfl, ?_⟩
        refine ⟨_, rfl, (by show 2 ≤ sizeLine; decide), fun p hp => ?_⟩
        have nDp : D1 ≠ p := fun e => by rw [e, hp] at g2; cases g2
        have hu := Spots.push (q := (0, i)) g2 sp2 hp
        rw [← ev] at hu
        refine ⟨_, by rw [upd_ne nDp]; exact g2, ?_, L ++ [p], fun c o hc => ?_, hu.1, ?_⟩
        · rw [List.length_map, sp2.len, List.length_map, List.length_range]
          exact small1000 (by omega)
        · rw [upd_ne (ne_of_none hc hD1), upd_ne (ne_of_none (s2 _ _ hc) hp)]
          exact s2 _ _ hc
        · rw [List.range_succ, List.map_append]
          exact hu.2
      · rintro H2 ⟨L1, s2, g2, sp2⟩
        have sC1 : Same H H1 := fun c o hc => s1 _ _ (sC _ _ hc)
        have sH2 : Same H H2 := fun c o hc => s2 _ _ (sC1 _ _ hc)
        have gE2 : H2 E1 = some (.lst (LE.map V.ref)) := s2 _ _ gE
        refine ⟨_, rfl, D1, E1, L1.map V.ref, LE.map V.ref, rfl, rfl, g2, gE2, (by rw [List.length_map, List.length_map, sp2.len, spE.len, elen, List.length_map, List.length_range]; exact Nat.le_trans (m := 1000) (by omega) (by decide)), fun p hp => ?_⟩
        have gp : upd H2 p (.lst (L1.map V.ref ++ LE.map V.ref)) p = some (.lst (L1.map V.ref ++ LE.map V.ref)) := upd_same
        have sp12 : Spots (upd H2 p (.lst (L1.map V.ref ++ LE.map V.ref))) (L1 ++ LE) (((List.range (n + 1)).map fun c => (0, c)) ++ (List.range (n - 1)).flatMap fun i => [(i + 1, 0), (i + 1, n)]) := Spots.append (sp2.same (same_upd hp)) ((spE.same s2).same (same_upd hp))
        have gC2 : upd H2 p (.lst (L1.map V.ref ++ LE.map V.ref)) C = some (.rng 0 ((n : Int) + 1)) := same_upd hp _ _ (s2 _ _ gC1)
        refine ⟨_, rfl, C, 0, (n : Int) + 1, rfl, gC2, ⟨by decide, by decide, by omega, by omega⟩, fun D2 hD2 => ?_⟩
        rw [en]
        refine lc_it (walk_range (lo := 0) (n := n + 1)) (fun i H' => ∃ L : List Addr, Same (upd H2 p (.lst (L1.map V.ref ++ LE.map V.ref))) H' ∧ H' D2 = some (.lst (L.map V.ref)) ∧ Spots H' L ((List.range i).map fun c => (n, c))) ⟨[], same_upd hD2, upd_same, Spots.nil⟩ (fun i H' _ h => trivial) ?_ ?_
        · rintro i v H3 H4 hi ⟨L, s3, g3, sp3⟩ ⟨rfl, rfl⟩
          have ev : HO.tup [vN n, V.int (0 + (i : Int))] = tQ (n, i) := by
            have e1 : V.int (0 + (i : Int)) = vN i := congrArg V.int (by omega)
            rw [e1]
            rfl
          refine ⟨rfl, ?_⟩
          refine ⟨_, rfl, _, rfl, (by show 2 ≤ sizeLine; decide), fun q' hp' => ?_⟩
          have nDp : D2 ≠ q' := fun e => by rw [e, hp'] at g3; cases g3
          have hu := Spots.push (q := (n, i)) g3 sp3 hp'
          rw [← ev] at hu
          refine ⟨_, by rw [upd_ne nDp]; exact g3, ?_, L ++ [q'], fun c o hc => ?_, hu.1, ?_⟩
          · rw [List.length_map, sp3.len, List.length_map, List.length_range]
            exact small1000 (by omega)
          · rw [upd_ne (ne_of_none hc hD2), upd_ne (ne_of_none (s3 _ _ hc) hp')]
            exact s3 _ _ hc
          · rw [List.range_succ, List.map_append]
            exact hu.2
        · rintro H3 ⟨L3, s3, g3, sp3⟩
          have gp3 := s3 _ _ gp
          have lens : (L1.map V.ref ++ LE.map V.ref).length + (L3.map V.ref).length ≤ sizeLine := by
            rw [List.length_append, List.length_map, List.length_map, List.length_map, sp2.len, spE.len, sp3.len, elen, List.length_map, List.length_range, List.length_map, List.length_range]
            exact Nat.le_trans (m := 1000) (by omega) (by decide)
          refine ⟨p, D2, _, _, rfl, rfl, gp3, g3, lens, fun F hF => ?_⟩
          refine q F ((L1 ++ LE) ++ L3) _ (fun c o hc => same_upd hF _ _ (s3 _ _ (same_upd hp _ _ (sH2 _ _ hc)))) (none_of (fun c o hc => s3 _ _ (same_upd hp _ _ (sH2 _ _ hc))) hF) (by rw [upd_same, List.map_append, List.map_append]) ?_
          exact Spots.append ((sp12.same s3).same (same_upd hF)) (sp3.same (same_upd hF))
/-! CUT -/
/-! ### the border as a mapping -/
def kI (q : Nat × Nat) : Int × Int := ((q.1 : Nat), (q.2 : Nat))
def bdM (n : Nat) : List ((Int × Int) × Int) := (bdL n).map fun q => (kI q, ((bvF n q.1 q.2 : Nat) : Int))
theorem kI_inj {a b : Nat × Nat} (h : kI a = kI b) : a = b := by
  have z1 := (Prod.mk.inj h).1
  have z2 := (Prod.mk.inj h).2
  exact Prod.ext (by omega) (by omega)
theorem bdL_nd {s : Nat} (hs : s < 5) : (bdL (sdF s - 1)).Nodup := of_decide_eq_true (all5 (P := fun s => decide ((bdL (sdF s - 1)).Nodup)) (by decide +kernel) hs)
theorem bdL_len {s : Nat} (hs : s < 5) : (bdL (sdF s - 1)).length = 4 * sdF s - 4 := of_decide_eq_true (all5 (P := fun s => decide ((bdL (sdF s - 1)).length = 4 * sdF s - 4)) (by decide +kernel) hs)
theorem bdL_in {s : Nat} (hs : s < 5) {q : Nat × Nat} (h : q ∈ bdL (sdF s - 1)) : q.1 < sdF s ∧ q.2 < sdF s := by
  have a := all5 (P := fun s => (bdL (sdF s - 1)).all fun q => decide (q.1 < sdF s ∧ q.2 < sdF s)) (by decide +kernel) hs
  exact of_decide_eq_true (List.all_eq_true.mp a q h)
theorem bdM_keys (n : Nat) : (bdM n).map (·.1) = (bdL n).map kI := by
  unfold bdM
  rw [List.map_map]
  rfl
theorem bdM_nd {s : Nat} (hs : s < 5) : ((bdM (sdF s - 1)).map (·.1)).Nodup := by
  rw [bdM_keys]
  exact List.Pairwise.map _ (fun a b h z => h (kI_inj z)) (bdL_nd hs)
theorem nd_take {α : Type} : ∀ {l : List α} {i : Nat} {x : α}, l.Nodup → l[i]? = some x → x ∉ l.take i
  | [], _, _, _, e => by cases e
  | a :: l, 0, x, _, _ => by simp
  | a :: l, i + 1, x, nd, e => by
    rw [List.getElem?_cons_succ] at e
    rw [List.take_succ_cons]
    intro h
    rcases List.mem_cons.mp h with rfl | h
    · exact (List.nodup_cons.mp nd).1 (List.mem_of_getElem? e)
    · exact nd_take (List.nodup_cons.mp nd).2 e h
def sp_bo : Sp := fun vs H Q _ => ∃ s : Nat, vs = [.int ((s : Int) + 1)] ∧ s < 5 ∧ ∀ (D : Addr) H', Same H H' → H D = none → H' D = some (.dT (dP (bdM (sdF s - 1)))) → Q (.ref D) H'
theorem ok_border (T : Txt K mg) : FnOk P w K mg base CX0 4 T.f_border T.d_border ["size"] sp_bo := by
  refine T.F_border.ok sc_border (fun vs H Q E h => ?_) (fun cdv A outer s H vs Q E hr h => ?_)
  · obtain ⟨s, rfl, _⟩ := h
    rfl
  · obtain ⟨s0, rfl, hs, q⟩ := h
    refine ⟨_, (pss_cons (ps_set (i := 1) sc_border.nd rfl (.inr rfl) (pe_op op_sub (pe_call (ok_side T) (hr.mono (by decide)) (by rfl) T.g_side T.F_side.kp T.b_side .nil pass0 (pa_cons (pv 0) pa_nil)) pe_int))
      (pss_one (ps_ret (pe_dcT (Nat.lt_of_le_of_lt (Nat.le_add_right _ 64) hr.units) (own := [("dot", 2)]) rfl sc_border.nd (pi_seq (pe_call (ok_border_dots T) (hr.mono (by decide)) (by rfl) T.g_border_dots T.F_border_dots.kp T.b_border_dots .nil pass0 (pa_cons (pv 1) pa_nil))) (blkOk_by (N := ["size", "last", "dot"]) (sc := defScope s_border) (by decide +kernel)) (fun _ _ _ _ _ => by exact (pg_name (i := 2) sc_border.nd rfl (.inl rfl))) (fun _ _ _ _ _ => by exact pts_nil) (fun _ _ _ _ _ => by exact (pv 2)) (fun _ _ _ _ _ => by exact (pe_call (ok_border_value T) (hr.mono (by decide)) (by rfl) T.g_border_value T.F_border_value.kp T.b_border_value .nil pass0 (pa_cons (pv 1) (pa_cons (pe_ix (ix_rowBK (K := K) rfl) (pv 2) pe_int (fun _ _ => rfl)) (pa_cons (pe_ix (ix_rowBK (K := K) rfl) (pv 2) pe_int (fun _ _ => rfl)) pa_nil))))))))), ?_⟩
    have hm : 8 ≤ sdF s0 ∧ sdF s0 ≤ 24 := side_le (sd_ok hs)
    have e1 : V.int (((sdF s0 : Nat) : Int) - 1) = vN (sdF s0 - 1) := congrArg V.int (by omega)
    refine ⟨_, rfl, s0, rfl, hs, _, _, rfl, rfl, _, rfl, sdF s0 - 1, congrArg (fun x => [x]) e1, by omega, by omega, fun B L H1 s1 nB gB sp => ?_⟩
    refine ⟨B, _, true, rfl, .inl (.inl gB), fun D hD => ?_⟩
    have nBD : D ≠ B := fun e => by rw [← e, hD] at gB; cases gB
    have lL : L.length = (bdL (sdF s0 - 1)).length := sp.len
    refine dcT_it (walk_seq (b := true) (K := K) (a := B) (xs := L.map V.ref)) (fun i H' => Same H1 H' ∧ H' D = some (.dT (dP ((bdM (sdF s0 - 1)).take i)))) ⟨same_upd hD, upd_same⟩ (fun i H' _ h => .inl (.inl (h.1 _ _ gB))) ?_ ?_
    · rintro i v H2 H3 hi ⟨s2, gD⟩ ⟨rfl, e2⟩
      rw [List.length_map, lL] at hi
      have eu : (bdL (sdF s0 - 1))[i]? = some ((bdL (sdF s0 - 1))[i]'hi) := List.getElem?_eq_getElem _
      generalize (bdL (sdF s0 - 1))[i]'hi = qq at eu
      obtain ⟨hx, hy⟩ := bdL_in hs (List.mem_of_getElem? eu)
      rw [List.getElem?_map] at e2
      obtain ⟨pp, ep, rfl⟩ : ∃ pp, L[i]? = some pp ∧ V.ref pp = v := by
        cases e : L[i]? with
        | none => rw [e] at e2; cases e2
        | some pp => rw [e] at e2; exact ⟨pp, rfl, Option.some.inj e2⟩
      have gp : H3 pp = some (tQ qq) := s2 _ _ (sp.at' _ _ _ ep eu)
      refine ⟨rfl, ?_⟩
      have e2' : ∀ (a b : Nat), [V.int (((sdF s0 : Nat) : Int) - 1), vN a, vN b] = [vN (sdF s0 - 1), vN a, vN b] := fun a b => congrArg (fun x => [x, vN a, vN b]) e1
      have gpt : SqB false K H3 pp [vN qq.1, vN qq.2] := .inl (.inl gp)
      refine ⟨_, rfl, _, rfl, _, rfl, pp, _, 0, vN qq.1, false, rfl, rfl, gpt, rfl, _, rfl, pp, _, 1, vN qq.2, false, rfl, rfl, gpt, rfl, sdF s0 - 1, qq.1, qq.2, e2' _ _, by omega, by omega, by omega, ?_⟩
      refine ⟨_, kP (kI qq), pp, rfl, gp, gD, ?_, fun c o hc => ?_, ?_⟩
      · rw [dP_length, List.length_take]
        refine Nat.lt_of_le_of_lt (Nat.min_le_right _ _) ?_
        rw [show (bdM (sdF s0 - 1)).length = (bdL (sdF s0 - 1)).length from List.length_map .., bdL_len hs]
        exact Nat.lt_of_le_of_lt (m := 1000) (by omega) (by decide)
      · rw [upd_ne (ne_of_none hc hD)]
        exact s2 _ _ hc
      · have em : (bdM (sdF s0 - 1))[i]? = some (kI qq, ((bvF (sdF s0 - 1) qq.1 qq.2 : Nat) : Int)) := by
          unfold bdM
          rw [List.getElem?_map, eu]
          rfl
        have nk : kI qq ∉ ((bdM (sdF s0 - 1)).take i).map (·.1) := fun hm => by
          rw [show ((bdM (sdF s0 - 1)).take i).map (·.1) = ((bdM (sdF s0 - 1)).map (·.1)).take i from List.map_take ..] at hm
          exact nd_take (bdM_nd hs) (by rw [List.getElem?_map, em]; rfl) hm
        rw [upd_same, show putK (dP ((bdM (sdF s0 - 1)).take i)) (kP (kI qq)) (vN (bvF (sdF s0 - 1) qq.1 qq.2)) = dP (putP ((bdM (sdF s0 - 1)).take i) (kI qq) ((bvF (sdF s0 - 1) qq.1 qq.2 : Nat) : Int)) from putK_dP _ _ _, putP_new _ nk, List.take_add_one, em]
        rfl
    · rintro H2 ⟨s2, gD⟩
      rw [List.length_map, lL, show (bdL (sdF s0 - 1)).length = (bdM (sdF s0 - 1)).length from (List.length_map ..).symm, List.take_length] at gD
      exact q D H2 (fun c o hc => s2 _ _ (s1 _ _ hc)) (none_of s1 hD) gD
/-! CUT -/
/-! ### draws -/
def WellL (a b c : Int) : HO := .lst [.int a, .int b, .int c]
def sp_draw : Sp := fun vs H Q _ => ∃ (p : Addr) (a b c m : Int), vs = [.ref p, .int m] ∧ H p = some (WellL a b c) ∧ 0 < m ∧ m < 1073741824 ∧ ∀ n a' c' : Int, 0 ≤ n → n < m → Q (.int n) (upd H p (WellL a' b c'))
theorem ok__law_draw (T : Txt K mg) : FnOk P w K mg base CX0 1 T.f__law_draw T.d__law_draw ["_law_well", "_law_many"] sp_draw := by
  refine T.F__law_draw.ok sc__law_draw (fun vs H Q E h => ?_) (fun cdv A outer s H vs Q E hr h => ?_)
  · obtain ⟨p, a, b, c, m, rfl, _⟩ := h
    rfl
  · obtain ⟨p, a, b, c, m, rfl, hp, m0, m1, q⟩ := h
    refine ⟨_, (pss_cons (ps_if (pt_cmpR op_gt (pe_ix ix_list (pv 0) pe_int (fun _ _ => rfl)) pe_int (nomark _)) (pss_cons (ps_set (i := 2) sc__law_draw.nd rfl (.inl rfl) (pe_op op_mod (pe_callTy call_int1 (by rfl) T.n_int (by decide +kernel) (pa_cons (pe_ix ix_list (pv 0) pe_int (fun _ _ => rfl)) pa_nil)) (pv 1)))
      (pss_cons (ps_asg (pe_op op_fdiv (pe_ix ix_list (pv 0) pe_int (fun _ _ => rfl)) (pv 1)) (pg_sub (pv 0) pe_int set_list))
      (pss_one (ps_ret (pv 2))))) pss_nil)
      (pss_cons (ps_asg (pe_op op_add (pe_ix ix_list (pv 0) pe_int (fun _ _ => rfl)) pe_int) (pg_sub (pv 0) pe_int set_list))
      (pss_cons (ps_set (i := 3) sc__law_draw.nd rfl (.inl rfl) (pe_op op_mod (pe_callTy call_int1 (by rfl) T.n_int (by decide +kernel) (pa_cons (pe_op op_mul (pe_op op_add (pe_op op_add (pe_ix ix_list (pv 0) pe_int (fun _ _ => rfl)) (pe_op op_mul pe_int (pe_ix ix_list (pv 0) pe_int (fun _ _ => rfl)))) pe_int) pe_int) pa_nil)) pe_int))
      (pss_cons (ps_set (i := 3) sc__law_draw.nd rfl (.inl rfl) (pe_op op_mod (pe_callTy call_int1 (by rfl) T.n_int (by decide +kernel) (pa_cons (pe_op op_mul (pv 3) (pe_op op_add (pe_op op_fdiv (pv 3) pe_int) pe_int)) pa_nil)) pe_int))
      (pss_one (ps_ret (pe_op op_mod (pe_callTy call_int1 (by rfl) T.n_int (by decide +kernel) (pa_cons (pe_op op_mod (pe_callTy call_int1 (by rfl) T.n_int (by decide +kernel) (pa_cons (pe_op op_mul (pv 3) (pe_op op_add (pe_op op_fdiv (pv 3) pe_int) pe_int)) pa_nil)) pe_int) pa_nil)) (pv 1)))))))), ?_⟩
    have hw : ∀ {H' : Hp} {xs : List V}, H' p = some (.lst xs) → SqL K H' p xs := fun h => .inl (.inl h)
    refine ⟨_, rfl, p, _, 0, _, rfl, rfl, hw hp, rfl, _, _, rfl, rfl, _, rfl, ?_⟩
    refine ite2 (fun cc => ?_) (fun cc => ?_)
    · refine ⟨_, rfl, p, _, 0, _, rfl, rfl, hw hp, rfl, .inl ⟨_, rfl, _, rfl, _, _, rfl, rfl, m0, ?_⟩⟩
      refine ⟨_, rfl, p, _, 0, _, rfl, rfl, hw hp, rfl, _, rfl, _, _, rfl, rfl, ⟨m0, m1⟩, ?_⟩
      refine ⟨_, rfl, p, _, 0, 0, rfl, rfl, hp, rfl, ?_⟩
      exact ⟨_, rfl, q _ _ _ (Int.emod_nonneg _ (by omega)) (Int.emod_lt_of_pos _ m0)⟩
    · refine ⟨_, rfl, p, _, 2, _, rfl, rfl, hw hp, rfl, _, _, rfl, rfl, _, rfl, p, _, 2, 2, rfl, rfl, hp, rfl, ?_⟩
      have hs : (upd H p (.lst ([V.int a, V.int b, V.int c].set 2 (.int (c + 1))))) p = some (WellL a b (c + 1)) := upd_same
      refine ⟨_, rfl, p, _, 1, _, rfl, rfl, hw hs, rfl, _, rfl, p, _, 2, _, rfl, rfl, hw hs, rfl, _, _, rfl, rfl, .inl (by decide), _, _, rfl, rfl, _, _, rfl, rfl, _, _, rfl, rfl, .inr (by decide), .inl ⟨_, rfl, _, _, rfl, rfl, (show (0 : Int) < 2147483647 by decide), ?_⟩⟩
      generalize hz : ((b + 104729 * (c + 1) + 1) * 48271) % 2147483647 = z
      have z0 : 0 ≤ z := by rw [← hz]; exact Int.emod_nonneg _ (by decide)
      have z1 : z < 2147483647 := by rw [← hz]; exact Int.emod_lt_of_pos _ (by decide)
      refine ⟨_, rfl, _, rfl, _, _, rfl, rfl, ⟨by decide, by decide⟩, _, _, rfl, rfl, _, _, rfl, rfl, .inl ⟨by omega, by omega⟩, .inl ⟨_, rfl, _, _, rfl, rfl, (show (0 : Int) < 2147483647 by decide), ?_⟩⟩
      generalize hy : (z * (z / 1009 + 69621)) % 2147483647 = y
      have y0 : 0 ≤ y := by rw [← hy]; exact Int.emod_nonneg _ (by decide)
      have y1 : y < 2147483647 := by rw [← hy]; exact Int.emod_lt_of_pos _ (by decide)
      refine ⟨_, rfl, _, rfl, _, _, rfl, rfl, ⟨by decide, by decide⟩, _, _, rfl, rfl, _, _, rfl, rfl, .inl ⟨by omega, by omega⟩, .inl ⟨_, rfl, _, _, rfl, rfl, (show (0 : Int) < 2147483399 by decide), .inl ⟨_, rfl, _, rfl, _, _, rfl, rfl, m0, ?_⟩⟩⟩
      exact q _ _ _ (Int.emod_nonneg _ (by omega)) (Int.emod_lt_of_pos _ m0)
def sp_one : Sp := fun vs H Q _ => ∃ (p l : Addr) (a b c : Int) (xs : List V), vs = [.ref p, .ref l] ∧ p ≠ l ∧ H p = some (WellL a b c) ∧ H l = some (.lst xs) ∧ 0 < xs.length ∧ xs.length ≤ 1000 ∧ ∀ (i : Nat) (v : V) (a' c' : Int), xs[i]? = some v → Q v (upd H p (WellL a' b c'))
theorem ok__law_one (T : Txt K mg) : FnOk P w K mg base CX0 2 T.f__law_one T.d__law_one ["_law_well", "_law_some"] sp_one := by
  refine T.F__law_one.ok sc__law_one (fun vs H Q E h => ?_) (fun cdv A outer s H vs Q E hr h => ?_)
  · obtain ⟨p, l, a, b, c, xs, rfl, _⟩ := h
    rfl
  · obtain ⟨p, l, a, b, c, xs, rfl, hpl, hp, hl, l0, l1, q⟩ := h
    refine ⟨_, (pss_one (ps_ret (pe_ix ix_list (pv 1) (pe_call (ok__law_draw T) (hr.mono (by decide)) (by rfl) T.g__law_draw T.F__law_draw.kp T.b__law_draw .nil pass0 (pa_cons (pv 0) (pa_cons (pe_callB call_len_seq (by rfl) T.n_len (by decide +kernel) (pa_cons (pv 1) pa_nil)) pa_nil))) (fun _ _ => rfl)))), ?_⟩
    refine ⟨_, rfl, _, rfl, _, rfl, l, xs, rfl, .inl (.inl (.inl hl)), p, a, b, c, _, rfl, hp, by omega, by omega, fun n a' c' n0 n1 => ?_⟩
    obtain ⟨k, rfl⟩ := Int.eq_ofNat_of_zero_le n0
    have hk : k < xs.length := by omega
    exact ⟨l, xs, (k : Int), xs[k], rfl, rfl, .inl (.inl (by rw [upd_ne hpl.symm]; exact hl)), atI_nat (List.getElem?_eq_getElem hk), q k _ a' c' (List.getElem?_eq_getElem hk)⟩
/-! CUT -/
/-! ### a grid's number -/
def valG (g : Grid) : List Nat := g.flatMap fun r => r.map fun o => o.getD 0
def numG (g : Grid) : Nat := numF 1 (valG g)
def Full (g : Grid) : Prop := ∀ r ∈ g, ∀ o ∈ r, ∃ v : Nat, o = some v ∧ v < 2
def sp_number (K : PySem.W.Frag) : Sp := fun vs H Q _ => ∃ (a : Addr) (g : Grid), vs = [.ref a] ∧ GrB true K H a g ∧ Full g ∧ Q (vN (numG g)) H
theorem valG_take {g : Grid} {i : Nat} {r : List (Option Nat)} (e : g[i]? = some r) : valG (g.take (i + 1)) = valG (g.take i) ++ r.map fun o => o.getD 0 := by
  unfold valG
  rw [List.take_add_one, e, List.flatMap_append]
  show _ ++ ((r.map fun o => o.getD 0) ++ []) = _
  rw [List.append_nil]
theorem ok__law_number (T : Txt K mg) : FnOk P w K mg base CX0 1 T.f__law_number T.d__law_number ["_law_grid"] (sp_number K) := by
  refine T.F__law_number.ok sc__law_number (fun vs H Q E h => ?_) (fun cdv A outer s H vs Q E hr h => ?_)
  · obtain ⟨a, g, rfl, _⟩ := h
    rfl
  · obtain ⟨a, g, rfl, hg, hf, q⟩ := h
    refine ⟨_, (pss_cons (ps_set (i := 1) sc__law_number.nd rfl (.inl rfl) pe_int)
      (pss_cons (ps_for PassesOwn.never rfl (pi_list (pv 0)) (pg_name (i := 2) sc__law_number.nd rfl (.inl rfl)) (pss_one (ps_for PassesOwn.never rfl (pi_list (pv 2)) (pg_name (i := 3) sc__law_number.nd rfl (.inl rfl)) (pss_one (ps_set (i := 1) sc__law_number.nd rfl (.inl rfl) (pe_op op_add (pe_op op_mul (pv 1) pe_int) (pv 3)))))))
      (pss_one (ps_ret (pv 1))))), ?_⟩
    obtain ⟨L, hL, lL, hrow⟩ := hg.ex
    refine ⟨_, rfl, ?_⟩
    refine ⟨a, rfl, ⟨_, hL⟩, ?_⟩
    refine for_it (walk_list (K := K) (a := a) (xs := L.map V.ref)) (fun i σ H' => ∃ z2 z3 : Option V, σ = [some (.ref a), some (vN (numF 1 (valG (g.take i)))), z2, z3] ∧ H' = H) ⟨_, _, rfl, rfl⟩ (fun i σ H' _ ⟨_, _, _, e⟩ => by rw [e]; exact hL) ?_ ?_
    · rintro i v σ H1 H2 hi ⟨z2, z3, rfl, rfl⟩ ⟨rfl, e2⟩
      rw [List.length_map, lL] at hi
      obtain ⟨lp, e3, rfl⟩ : ∃ lp, L[i]? = some lp ∧ V.ref lp = v := by
        rw [List.getElem?_map] at e2
        cases e : L[i]? with
        | none => rw [e] at e2; cases e2
        | some lp => rw [e] at e2; exact ⟨lp, rfl, Option.some.inj e2⟩
      have eg : g[i]? = some g[i] := List.getElem?_eq_getElem hi
      generalize g[i] = r at eg
      have hrl := hrow i lp r e3 eg
      have hfr := hf r (List.mem_of_getElem? eg)
      refine ⟨_, rfl, lp, rfl, ⟨_, hrl⟩, ?_⟩
      refine for_it (walk_list (K := K) (a := lp) (xs := r.map vG)) (fun j σ H' => ∃ z3 : Option V, σ = [some (.ref a), some (vN (numF 1 (valG (g.take i) ++ (r.take j).map fun o => o.getD 0))), some (.ref lp), z3] ∧ H' = H2) ⟨_, by rw [List.take_zero, List.map_nil, List.append_nil]; rfl, rfl⟩ (fun j σ H' _ ⟨_, _, e⟩ => by rw [e]; exact hrl) ?_ ?_
      · rintro j v σ H3 H4 hj ⟨z3, rfl, rfl⟩ ⟨rfl, e4⟩
        rw [List.length_map] at hj
        have ej : r[j]? = some r[j] := List.getElem?_eq_getElem hj
        generalize r[j] = o at ej
        obtain ⟨b, rfl, hb⟩ := hfr o (List.mem_of_getElem? ej)
        rw [List.getElem?_map, ej] at e4
        cases e4
        refine ⟨_, rfl, _, _, rfl, rfl, .inr (by decide), _, rfl, _, _, rfl, rfl, some (vN b), ?_, rfl⟩
        have e5 : numF 1 (valG (g.take i) ++ (r.take (j + 1)).map fun o => o.getD 0) = numF 1 (valG (g.take i) ++ (r.take j).map fun o => o.getD 0) * 2 + b := by
          rw [List.take_add_one, ej, List.map_append, ← List.append_assoc]
          exact numF_snoc 1 _ b
        rw [e5]
        generalize numF 1 (valG (g.take i) ++ (r.take j).map fun o => o.getD 0) = z
        rfl
      · rintro σ H3 ⟨z3, rfl, rfl⟩
        exact ⟨_, _, by rw [valG_take eg, List.length_map, List.take_length], rfl⟩
    · rintro σ H1 ⟨z2, z3, rfl, rfl⟩
      rw [List.length_map, lL, List.take_length]
      exact ⟨_, rfl, q⟩
/-! CUT -/
/-! ### all the dots -/
def allD (n : Nat) : List (Nat × Nat) := (List.range n).flatMap fun i => (List.range n).map fun j => (i, j)
theorem allD_len (n : Nat) : ∀ i : Nat, ((List.range i).flatMap fun i => (List.range n).map fun j => (i, j)).length = i * n
  | 0 => by simp
  | i + 1 => by
    rw [List.range_succ, List.flatMap_append, List.length_append, allD_len n i, Nat.succ_mul]
    congr 1
    show ((List.range n).map _ ++ []).length = n
    rw [List.append_nil, List.length_map, List.length_range]
def sp_ld : Sp := fun vs H Q _ => ∃ s : Nat, vs = [.int ((s : Int) + 1)] ∧ s < 5 ∧ ∀ (D : Addr) (L : List Addr) H', Same H H' → H D = none → H' D = some (.lst (L.map V.ref)) → Spots H' L (allD (sdF s)) → Q (.ref D) H'
theorem ok__law_dots (T : Txt K mg) : FnOk P w K mg base CX0 4 T.f__law_dots T.d__law_dots ["_law_size"] sp_ld := by
  refine T.F__law_dots.ok sc__law_dots (fun vs H Q E h => ?_) (fun cdv A outer s H vs Q E hr h => ?_)
  · obtain ⟨s, rfl, _⟩ := h
    rfl
  · obtain ⟨s0, rfl, hs, q⟩ := h
    refine ⟨_, (pss_cons (ps_set (i := 1) sc__law_dots.nd rfl (.inl rfl) (pe_lst pa_nil))
      (pss_cons (ps_for PassesOwn.never rfl (pi_range1 (by rfl) T.n_range (pa_cons (pe_call (ok_side T) (hr.mono (by decide)) (by rfl) T.g_side T.F_side.kp T.b_side .nil pass0 (pa_cons (pv 0) pa_nil)) pa_nil)) (by first | exact (pg_name (i := 2) sc__law_dots.nd rfl (.inr rfl)) | exact (pg_name (i := 2) sc__law_dots.nd rfl (.inl rfl))) (pss_one (ps_set (i := 1) sc__law_dots.nd rfl (.inl rfl) (pe_op op_cat (pv 1) (pe_lc (own := [("_law_column", 3)]) rfl sc__law_dots.nd (pi_range1 (by rfl) T.n_range (pa_cons (pe_call (ok_side T) (hr.mono (by decide)) (by rfl) T.g_side T.F_side.kp T.b_side .nil pass0 (pa_cons (pv 0) pa_nil)) pa_nil)) (blkOk_by (N := ["_law_size", "_law_found", "_law_row_here", "_law_column"]) (sc := defScope s__law_dots) (by decide +kernel)) (fun _ _ _ _ _ => by exact (pg_name (i := 3) sc__law_dots.nd rfl (.inl rfl))) (fun _ _ _ _ _ => by exact pts_nil) (fun _ _ _ _ _ => by exact (pe_tup (pa_cons (pv 2) (pa_cons (pv 3) pa_nil)))))))))
      (pss_one (ps_ret (pv 1))))), ?_⟩
    have hm : 8 ≤ sdF s0 ∧ sdF s0 ≤ 24 := side_le (sd_ok hs)
    refine ⟨Nat.zero_le _, fun F0 hF0 => ?_⟩
    have en : ((sdF s0 : Nat) : Int).toNat = sdF s0 := Int.toNat_natCast _
    refine ⟨_, rfl, s0, rfl, hs, ((sdF s0 : Nat) : Int), rfl, by omega, by omega, ?_⟩
    rw [en]
    refine for_range (lo := 0) (n := sdF s0) (fun i σ H' => ∃ (z2 z3 : Option V) (F : Addr) (L : List Addr), σ = [some (.int ((s0 : Int) + 1)), some (.ref F), z2, z3] ∧ Same H H' ∧ H F = none ∧ H' F = some (.lst (L.map V.ref)) ∧ Spots H' L ((List.range i).flatMap fun i => (List.range (sdF s0)).map fun j => (i, j))) ⟨_, _, F0, [], rfl, same_upd hF0, hF0, upd_same, Spots.nil⟩ ?_ ?_
    · rintro i σ H1 hi ⟨z2, z3, F, L, rfl, s1, nF, gF, sp⟩
      refine ⟨_, rfl, ?_⟩
      refine ⟨_, rfl, s0, rfl, hs, ((sdF s0 : Nat) : Int), rfl, by omega, by omega, fun D1 hD1 => ?_⟩
      rw [en]
      refine lc_it (walk_range (lo := 0) (n := sdF s0)) (fun j H' => ∃ L1 : List Addr, Same H1 H' ∧ H' D1 = some (.lst (L1.map V.ref)) ∧ Spots H' L1 ((List.range j).map fun j => (i, j))) ⟨[], same_upd hD1, upd_same, Spots.nil⟩ (fun j H' _ h => trivial) ?_ ?_
      · rintro j v H2 H3 hj ⟨L1, s2, g2, sp2⟩ ⟨rfl, rfl⟩
        have ev : HO.tup [V.int (0 + (i : Int)), V.int (0 + (j : Int))] = tQ (i, j) := by
          have e1 : V.int (0 + (i : Int)) = vN i := congrArg V.int (by omega)
          have e2 : V.int (0 + (j : Int)) = vN j := congrArg V.int (by omega)
          rw [e1, e2]
          rfl
        refine ⟨rfl, ?_⟩
        refine ⟨_, rfl, _, rfl, (by show 2 ≤ sizeLine; decide), fun p hp => ?_⟩
        have nDp : D1 ≠ p := fun e => by rw [e, hp] at g2; cases g2
        have hu := Spots.push (q := (i, j)) g2 sp2 hp
        rw [← ev] at hu
        refine ⟨_, by rw [upd_ne nDp]; exact g2, ?_, L1 ++ [p], fun c o hc => ?_, hu.1, ?_⟩
        · rw [List.length_map, sp2.len, List.length_map, List.length_range]
          exact small1000 (by omega)
        · rw [upd_ne (ne_of_none hc hD1), upd_ne (ne_of_none (s2 _ _ hc) hp)]
          exact s2 _ _ hc
        · rw [List.range_succ, List.map_append]
          exact hu.2
      · rintro H2 ⟨L1, s2, g2, sp2⟩
        have hii : i * sdF s0 ≤ 24 * 24 := Nat.mul_le_mul (by omega) hm.2
        refine ⟨F, D1, L.map V.ref, L1.map V.ref, rfl, rfl, s2 _ _ gF, g2, (by rw [List.length_map, List.length_map, sp.len, sp2.len, allD_len, List.length_map, List.length_range]; exact Nat.le_trans (m := 1000) (by omega) (by decide)), fun p hp => ?_⟩
        refine ⟨_, _, p, L ++ L1, rfl, fun c o hc => same_upd hp _ _ (s2 _ _ (s1 _ _ hc)), none_of (fun c o hc => s2 _ _ (s1 _ _ hc)) hp, by rw [upd_same, List.map_append], ?_⟩
        rw [List.range_succ, List.flatMap_append]
        refine Spots.append ((sp.same s2).same (same_upd hp)) ?_
        show Spots _ L1 (((List.range (sdF s0)).map fun j => (i, j)) ++ [])
        rw [List.append_nil]
        exact sp2.same (same_upd hp)
    · rintro σ H1 ⟨z2, z3, F, L, rfl, s1, nF, gF, sp⟩
      exact ⟨_, rfl, q F L H1 s1 nF gF sp⟩
/-! CUT -/
/-! ### drawn rows -/
def sp_row : Sp := fun vs H Q _ => ∃ (p : Addr) (a b c : Int) (s l : Nat), vs = [.ref p, .int ((s : Int) + 1), vN l] ∧ H p = some (WellL a b c) ∧ s < 5 ∧ l < 4 ∧
  ∀ (D : Addr) (ds : List Nat) (a' c' : Int) H', Kp p H H' → H' p = some (WellL a' b c') → H D = none → H' D = some (.lst (ds.map vN)) → (∀ x ∈ ds, x < span (bitsF s)) → ds.length = dataF s l → Q (.ref D) H'
theorem data_le {s l : Nat} (hs : s < 5) (hl : l < 4) : dataF s l ≤ 200 := by
  have h := all5 (P := fun s => (List.range 4).all fun l => decide (dataF s l ≤ 200)) (by decide +kernel) hs
  exact of_decide_eq_true (List.all_eq_true.mp h l (List.mem_range.mpr hl))
theorem ok__law_row (T : Txt K mg) : FnOk P w K mg base CX0 5 T.f__law_row T.d__law_row ["_law_well", "_law_size", "_law_level"] sp_row := by
  refine T.F__law_row.ok sc__law_row (fun vs H Q E h => ?_) (fun cdv A outer s H vs Q E hr h => ?_)
  · obtain ⟨p, a, b, c, s, l, rfl, _⟩ := h
    rfl
  · obtain ⟨p, a, b, c, s0, l, rfl, hp, hs, hl, q⟩ := h
    refine ⟨_, (pss_cons (ps_set (i := 3) sc__law_row.nd rfl (.inr rfl) (pe_op op_shl pe_int (pe_call (ok_word_bits T) (hr.mono (by decide)) (by rfl) T.g_word_bits T.F_word_bits.kp T.b_word_bits .nil pass0 (pa_cons (pv 1) pa_nil))))
      (pss_one (ps_ret (pe_lc (own := [("_law_turn", 4)]) rfl sc__law_row.nd (pi_range1 (by rfl) T.n_range (pa_cons (pe_call (ok_data_count T) (hr.mono (by decide)) (by rfl) T.g_data_count T.F_data_count.kp T.b_data_count .nil pass0 (pa_cons (pv 1) (pa_cons (pv 2) pa_nil))) pa_nil)) (blkOk_by (N := ["_law_well", "_law_size", "_law_level", "_law_most", "_law_turn"]) (sc := defScope s__law_row) (by decide +kernel)) (fun _ _ _ _ _ => by exact (pg_name (i := 4) sc__law_row.nd rfl (.inl rfl))) (fun _ _ _ _ _ => by exact pts_nil) (fun _ _ _ _ _ => by exact (pe_call (ok__law_one T) (hr.mono (by decide)) (by rfl) T.g__law_one T.F__law_one.kp T.b__law_one .nil pass0 (pa_cons (pv 0) (pa_cons (pe_lst (pa_cons pe_int (pa_cons (pe_op op_sub (pv 3) pe_int) (pa_cons (pe_call (ok__law_draw T) (hr.mono (by decide)) (by rfl) T.g__law_draw T.F__law_draw.kp T.b__law_draw .nil pass0 (pa_cons (pv 0) (pa_cons (pv 3) pa_nil))) pa_nil)))) pa_nil)))))))), ?_⟩
    have hb := bits_wd hs
    have hbn : bitsF s0 ≤ 8 ∧ 0 < bitsF s0 := by rcases hb with h | h <;> omega
    have e0 : (1 : Int) * 2 ^ (((bitsF s0 : Nat) : Int)).toNat = ((span (bitsF s0) : Nat) : Int) := by
      rcases hb with h | h <;> rw [h] <;> rfl
    have hsp : 0 < span (bitsF s0) ∧ span (bitsF s0) ≤ 256 := by rcases hb with h | h <;> rw [h] <;> decide
    refine ⟨_, rfl, s0, rfl, hs, _, _, rfl, rfl, ⟨by omega, by omega⟩, ?_⟩
    rw [show (fun i j : Int => V.int (i * 2 ^ j.toNat)) 1 ((bitsF s0 : Nat) : Int) = vN (span (bitsF s0)) from congrArg V.int e0]
    refine ⟨_, rfl, _, rfl, s0, l, rfl, hs, hl, fun H1 s1 => ⟨_, rfl, by omega, by have := data_le hs hl; omega, fun D hD => ?_⟩⟩
    rw [show (((dataF s0 l : Nat) : Int)).toNat = dataF s0 l from Int.toNat_natCast _]
    have hp1 := s1 _ _ hp
    have nDp : D ≠ p := fun e => by rw [e, hp1] at hD; cases hD
    refine lc_it (walk_range (lo := 0) (n := dataF s0 l)) (fun i H' => ∃ (ds : List Nat) (a' c' : Int), Kp p H1 H' ∧ H' p = some (WellL a' b c') ∧ H' D = some (.lst (ds.map vN)) ∧ (∀ x ∈ ds, x < span (bitsF s0)) ∧ ds.length = i) ⟨[], a, c, fun b o e _ => same_upd hD _ _ e, by rw [upd_ne nDp.symm]; exact hp1, upd_same, (fun x h => by cases h), rfl⟩ (fun i H' _ h => trivial) ?_ ?_
    · rintro i v H2 H3 hi ⟨ds, a', c', kp, hw, gD, hx, hn⟩ ⟨rfl, rfl⟩
      refine ⟨rfl, ?_⟩
      refine ⟨_, rfl, _, rfl, _, _, rfl, rfl, _, rfl, _, rfl, p, a', b, c', _, rfl, hw, by omega, by omega, fun n a2 c2 n0 n1 => ?_⟩
      obtain ⟨n, rfl⟩ := Int.eq_ofNat_of_zero_le n0
      have hns : n < span (bitsF s0) := by omega
      refine ⟨(by show 3 ≤ sizeLine; decide), fun t ht => ?_⟩
      have npt : p ≠ t := fun e => by rw [← e, upd_same] at ht; cases ht
      have ht3 : H3 t = none := by rw [upd_ne npt.symm] at ht; exact ht
      have nDt : D ≠ t := fun e => by rw [e, ht3] at gD; cases gD
      refine ⟨p, t, a2, b, c2, _, rfl, npt, by rw [upd_ne npt]; exact upd_same, upd_same, (by show 0 < 3; decide), (by show 3 ≤ 1000; decide), fun j v a3 c3 ev => ?_⟩
      obtain ⟨d, rfl, hd⟩ : ∃ d : Nat, v = vN d ∧ d < span (bitsF s0) := by
        match j, ev with
        | 0, ev => exact ⟨0, (Option.some.inj ev).symm, hsp.1⟩
        | 1, ev => exact ⟨span (bitsF s0) - 1, (Option.some.inj ev).symm.trans (congrArg V.int (by omega)), by omega⟩
        | 2, ev => exact ⟨n, (Option.some.inj ev).symm, hns⟩
        | j + 3, ev => cases ev
      refine ⟨_, by rw [upd_ne nDp, upd_ne nDt, upd_ne nDp]; exact gD, ?_, ds ++ [d], a3, c3, fun c' o hc hcp => ?_, ?_, ?_, fun x hm => ?_, ?_⟩
      · rw [List.length_map, hn]
        have := data_le hs hl
        exact small1000 (by omega)
      · rw [upd_ne (ne_of_none hc hD), upd_ne hcp, upd_ne (ne_of_none (kp _ _ hc hcp) ht3), upd_ne hcp]
        exact kp _ _ hc hcp
      · rw [upd_ne nDp.symm]
        exact upd_same
      · rw [upd_same, List.map_append]
        rfl
      · rcases List.mem_append.mp hm with h | h
        · exact hx x h
        · rw [List.mem_singleton.mp h]
          exact hd
      · rw [List.length_append, hn]
        rfl
    · rintro H2 ⟨ds, a', c', kp, hw, gD, hx, hn⟩
      exact q D ds a' c' H2 (fun b o e n => kp b o (s1 _ _ e) n) hw (none_of s1 hD) gD hx hn
/-! CUT -/
/-! ### what stands at the fixed dots -/
theorem fix_nd {s : Nat} (hs : s < 5) : (bdL (sdF s - 1) ++ usedF (sdF s)).Nodup := by
  rw [used_at hs]
  exact of_decide_eq_true (all5 (P := fun s => decide ((bdL (sdF s - 1) ++ usedL.getD s []).Nodup)) (by decide +kernel) hs)
theorem bd_pl {s : Nat} (hs : s < 5) {q : Nat × Nat} (h : q ∈ bdL (sdF s - 1)) : plF s q.1 q.2 = ptF s + 20 + bvF (sdF s - 1) q.1 q.2 ∧ bvF (sdF s - 1) q.1 q.2 < 2 := by
  have a := all5 (P := fun s => (bdL (sdF s - 1)).all fun q => decide (plF s q.1 q.2 = ptF s + 20 + bvF (sdF s - 1) q.1 q.2 ∧ bvF (sdF s - 1) q.1 q.2 < 2)) (by decide +kernel) hs
  exact of_decide_eq_true (List.all_eq_true.mp a q h)
theorem fd_pl {s k : Nat} (hs : s < 5) (hk : k < 20) {q : Nat × Nat} (h : (usedF (sdF s))[k]? = some q) : plF s q.1 q.2 = ptF s + k := by
  rw [used_at hs] at h
  have a := all5 (P := fun s => (List.range 20).all fun k => decide (plF s ((usedL.getD s []).getD k (0, 0)).1 ((usedL.getD s []).getD k (0, 0)).2 = ptF s + k)) (by decide +kernel) hs
  have b := of_decide_eq_true (List.all_eq_true.mp a k (List.mem_range.mpr hk))
  rw [List.getD_eq_getElem?_getD (l := usedL.getD s []), h] at b
  exact b
theorem word_pl {s i j : Nat} (hs : s < 5) (hi : i < sdF s) (hj : j < sdF s) (h1 : (i, j) ∉ bdL (sdF s - 1)) (h2 : (i, j) ∉ usedF (sdF s)) : plF s i j < ptF s := by
  rw [used_at hs] at h2
  have a := all5 (P := fun s => (List.range (sdF s)).all fun i => (List.range (sdF s)).all fun j => decide (plF s i j < ptF s) || (bdL (sdF s - 1)).contains (i, j) || (usedL.getD s []).contains (i, j)) (by decide +kernel) hs
  have b := List.all_eq_true.mp (List.all_eq_true.mp a i (List.mem_range.mpr hi)) j (List.mem_range.mpr hj)
  rcases Bool.or_eq_true_iff.mp b with b | b
  · rcases Bool.or_eq_true_iff.mp b with b | b
    · exact of_decide_eq_true b
    · exact absurd (List.elem_iff.mp b) h1
  · exact absurd (List.elem_iff.mp b) h2
/-- the fixed dots and what they show -/
def fixL (s l m : Nat) : List ((Int × Int) × Int) := bdM (sdF s - 1) ++ fdL s l m
theorem strip_st (l m k : Nat) (hk : k < 22) : ((stripL l m).map some ++ [some 0, some 1]).getD k none = some ((stripL l m ++ [0, 1]).getD k 0) := by
  have e : ((stripL l m).map some ++ [some 0, some 1]) = (stripL l m ++ [0, 1]).map some := by rw [List.map_append]; rfl
  have hl : (stripL l m ++ [0, 1]).length = 22 := by rw [List.length_append, stripL_len]; rfl
  rw [e, List.getD_eq_getElem?_getD, List.getElem?_map, List.getD_eq_getElem?_getD, List.getElem?_eq_getElem (by omega)]
  rfl
theorem fix_cell {s l m : Nat} {ds : List Nat} (hs : s < 5) (hm : m < 8) {e : (Int × Int) × Int} (h : e ∈ fixL s l m) : ∃ r c v : Nat, e = (((r : Int), (c : Int)), (v : Int)) ∧ r < sdF s ∧ c < sdF s ∧ cell (symF s l m ds) r c = some v := by
  rcases List.mem_append.mp h with h | h
  · obtain ⟨q, hq, rfl⟩ := List.mem_map.mp h
    obtain ⟨hx, hy⟩ := bdL_in hs hq
    obtain ⟨p1, p2⟩ := bd_pl hs hq
    refine ⟨q.1, q.2, bvF (sdF s - 1) q.1 q.2, rfl, hx, hy, ?_⟩
    rw [cell_sym hx hy, p1, shade_st hs hm (due_len _ _ _) (by omega), show ptF s + 20 + bvF (sdF s - 1) q.1 q.2 - ptF s = 20 + bvF (sdF s - 1) q.1 q.2 by omega, strip_st _ _ _ (by omega)]
    refine congrArg some ?_
    rw [List.getD_eq_getElem?_getD, List.getElem?_append_right (by rw [stripL_len]; omega), stripL_len]
    generalize bvF (sdF s - 1) q.1 q.2 = v at p2
    have : v = 0 ∨ v = 1 := by omega
    rcases this with rfl | rfl <;> rfl
  · obtain ⟨z, hz, rfl⟩ := List.mem_map.mp h
    obtain ⟨k, hk, ez⟩ := List.getElem_of_mem hz
    have hk2 : k < 20 := by rw [List.length_zip, stripL_len] at hk; omega
    have eu : (usedF (sdF s))[k]? = some z.1 := by
      rw [← ez, List.getElem_zip]
      exact List.getElem?_eq_getElem _
    have es : (stripL l m)[k]? = some z.2 := by
      rw [← ez, List.getElem_zip]
      exact List.getElem?_eq_getElem _
    obtain ⟨hx, hy⟩ := strip_in hs (List.mem_of_getElem? eu)
    have hx : z.1.1 < sdF s := hx
    have hy : z.1.2 < sdF s := hy
    have p1 := fd_pl hs hk2 eu
    refine ⟨z.1.1, z.1.2, z.2, rfl, hx, hy, ?_⟩
    rw [cell_sym hx hy, p1, shade_st hs hm (due_len _ _ _) (by omega), show ptF s + k - ptF s = k by omega, strip_st _ _ _ (by omega)]
    refine congrArg some ?_
    rw [List.getD_eq_getElem?_getD, List.getElem?_append_left (by rw [stripL_len]; omega), es]
    rfl
/-! CUT -/
/-! ### the fixed dots, in the program -/
def GrsB (K : PySem.W.Frag) (H : Hp) (L : List Addr) (s l m : Nat) (dss : List (List Nat)) : Prop := L.length = dss.length ∧ ∀ (i : Nat) (lp : Addr) (ds : List Nat), L[i]? = some lp → dss[i]? = some ds → GrB true K H lp (symF s l m ds)
theorem GrsB.same {K : PySem.W.Frag} {H H' : Hp} {L : List Addr} {s l m : Nat} {dss : List (List Nat)} (h : GrsB K H L s l m dss) (sm : Same H H') : GrsB K H' L s l m dss := ⟨h.1, fun i lp ds e1 e2 => (h.2 i lp ds e1 e2).same sm⟩
theorem cell_get {g : Grid} {i j v : Nat} (h : cell g i j = some v) : ∃ row, g[i]? = some row ∧ row[j]? = some (some v) := by
  unfold cell at h
  rw [List.getD_eq_getElem?_getD, List.getD_eq_getElem?_getD] at h
  cases e : g[i]? with
  | none =>
    rw [e] at h
    simp at h
  | some row =>
    rw [e] at h
    have h : (row[j]?).getD none = some v := h
    cases e2 : row[j]? with
    | none => rw [e2] at h; cases h
    | some o =>
      rw [e2] at h
      have h : o = some v := h
      exact ⟨row, rfl, by rw [e2, h]⟩
def sp_fix (K : PySem.W.Frag) : Sp := fun vs H Q _ => ∃ (s l m : Nat) (a : Addr) (L : List Addr) (dss : List (List Nat)), vs = [.int ((s : Int) + 1), vN l, vN m, .ref a] ∧ s < 5 ∧ l < 4 ∧ m < 8 ∧ H a = some (.lst (L.map V.ref)) ∧ GrsB K H L s l m dss ∧ dss.length ≤ 100 ∧ ∀ H', Same H H' → Q (.bl true) H'
theorem ok__law_fixed_right (T : Txt K mg) : FnOk P w K mg base CX0 5 T.f__law_fixed_right T.d__law_fixed_right ["_law_size", "_law_level", "_law_mask", "_law_grids"] (sp_fix K) := by
  refine T.F__law_fixed_right.ok sc__law_fixed_right (fun vs H Q E h => ?_) (fun cdv A outer s H vs Q E hr h => ?_)
  · obtain ⟨s, l, m, a, L, dss, rfl, _⟩ := h
    rfl
  · obtain ⟨s0, l, m, a, L, dss, rfl, hs, hl, hm, ga, gr, hd, q⟩ := h
    refine ⟨_, (pss_cons (ps_set (i := 4) sc__law_fixed_right.nd rfl (.inl rfl) (pe_call (ok_border T) (hr.mono (by decide)) (by rfl) T.g_border T.F_border.kp T.b_border .nil pass0 (pa_cons (pv 0) pa_nil)))
      (pss_cons (ps_expr (pe_updT (Nat.lt_of_le_of_lt (Nat.add_le_add_left (by decide : 1 ≤ 64) _) hr.units) (pv 4) (pe_call (ok_format_dots T) (hr.mono (by decide)) (by rfl) T.g_format_dots T.F_format_dots.kp T.b_format_dots .nil pass0 (pa_cons (pv 0) (pa_cons (pv 1) (pa_cons (pv 2) pa_nil))))))
      (pss_cons (ps_for PassesOwn.never rfl (pi_itemsT (pv 4)) (pg_tup rfl (pgs_cons (pg_tup rfl (pgs_cons (by first | exact (pg_name (i := 5) sc__law_fixed_right.nd rfl (.inr rfl)) | exact (pg_name (i := 5) sc__law_fixed_right.nd rfl (.inl rfl))) (pgs_cons (by first | exact (pg_name (i := 6) sc__law_fixed_right.nd rfl (.inr rfl)) | exact (pg_name (i := 6) sc__law_fixed_right.nd rfl (.inl rfl))) pgs_nil))) (pgs_cons (pg_name (i := 7) sc__law_fixed_right.nd rfl (.inl rfl)) pgs_nil))) (pss_one (ps_if (pt_cmpR (op_neD hr.units) (pe_lc (own := [("_law_grid", 8)]) rfl sc__law_fixed_right.nd (pi_seq (pv 3)) (blkOk_by (N := ["_law_size", "_law_level", "_law_mask", "_law_grids", "_law_fixed", "_law_row_here", "_law_column", "_law_its_own", "_law_grid"]) (sc := defScope s__law_fixed_right) (by decide +kernel)) (fun _ _ _ _ _ => by exact (pg_name (i := 8) sc__law_fixed_right.nd rfl (.inl rfl))) (fun _ _ _ _ _ => by exact pts_nil) (fun _ _ _ _ _ => by exact (pe_ix (ix_rowBK (K := K) rfl) (pe_ix (ix_rowBK (K := K) rfl) (pv 8) (pv 5) (fun _ _ => rfl)) (pv 6) (fun _ _ => rfl)))) (pe_op op_rep (pe_lst (pa_cons (pv 7) pa_nil)) (pe_callB call_len_seq (by rfl) T.n_len (by decide +kernel) (pa_cons (pv 3) pa_nil))) (nomark _)) (pss_one (ps_ret pe_bl)) pss_nil)))
      (pss_one (ps_ret (pe_cmpR (op_eqD hr.units) (pe_callB call_len_dTR (by rfl) T.n_len (by decide +kernel) (pa_cons (pv 4) pa_nil)) (pe_op op_add (pe_op op_sub (pe_op op_mul pe_int (pe_call (ok_side T) (hr.mono (by decide)) (by rfl) T.g_side T.F_side.kp T.b_side .nil pass0 (pa_cons (pv 0) pa_nil))) pe_int) pe_int) (nomark _))))))), ?_⟩
    have hsd : 8 ≤ sdF s0 ∧ sdF s0 ≤ 24 := side_le (sd_ok hs)
    refine ⟨_, rfl, s0, rfl, hs, fun D H1 s1 nD gD => ?_⟩
    refine ⟨_, rfl, .inr (.inr (.inl ⟨rfl, .inr ⟨_, gD⟩⟩)), ?_⟩
    refine ⟨_, rfl, _, rfl, _, rfl, s0, l, m, rfl, hs, hl, hm, fun M mm H2 s2 nM pm gM => ?_⟩
    have gD2 := s2 _ _ gD
    have nDM : D ≠ M := fun e => by rw [← e, gD] at nM; cases nM
    have ek : ((bdM (sdF s0 - 1) ++ mm).map (·.1)).Nodup := by
      have e1 : ((bdM (sdF s0 - 1) ++ fdL s0 l m).map (·.1)) = (bdL (sdF s0 - 1) ++ usedF (sdF s0)).map kI := by
        rw [List.map_append, List.map_append, bdM_keys]
        congr 1
        unfold fdL
        rw [List.map_map]
        have z : usedF (sdF s0) = ((usedF (sdF s0)).zip (stripL l m)).map Prod.fst := (List.map_fst_zip (Nat.le_of_eq (by rw [strip_len hs, stripL_len]))).symm
        conv => rhs; rw [z]
        rw [List.map_map]
        rfl
      have e2 : ((bdM (sdF s0 - 1) ++ fdL s0 l m).map (·.1)).Nodup := by
        rw [e1]
        exact List.Pairwise.map _ (fun a b h z => h (kI_inj z)) (fix_nd hs)
      exact (List.Perm.nodup_iff ((List.Perm.append_left _ pm).map _)).mpr e2
    have lm : mm.length = 20 := by
      rw [pm.length_eq]
      unfold fdL
      rw [List.length_map, List.length_zip, strip_len hs, stripL_len]
      rfl
    have lb : (bdM (sdF s0 - 1)).length = 4 * sdF s0 - 4 := (List.length_map ..).trans (bdL_len hs)
    refine ⟨D, M, dP (bdM (sdF s0 - 1)), dP mm, rfl, rfl, nDM, gD2, .inl gM, .inl (fun z => ?_), ?_, ?_⟩
    · have := congrArg List.length z
      rw [dP_length, lb] at this
      have : 4 * sdF s0 - 4 = 0 := this
      omega
    · rw [dP_length, dP_length, lb, lm]
      exact Nat.le_trans (m := 1000) (by omega) (by decide)
    · rw [mergeT_dP, mergeP_new _ _ ek]
      have dpf : dP (bdM (sdF s0 - 1) ++ mm) = dP (bdM (sdF s0 - 1)) ++ dP mm := List.map_append ..
      refine ⟨_, rfl, D, _, rfl, upd_same, fun o => ?_⟩
      have lF : (bdM (sdF s0 - 1) ++ mm).length = 4 * sdF s0 - 4 + 20 := by rw [List.length_append, lb, lm]
      have hin : ∀ e ∈ bdM (sdF s0 - 1) ++ mm, e ∈ fixL s0 l m := fun e he => by
        rcases List.mem_append.mp he with h | h
        · exact List.mem_append_left _ h
        · exact List.mem_append_right _ (pm.mem_iff.mp h)
      generalize bdM (sdF s0 - 1) ++ mm = FL at hin lF
      rw [show upd (upd H2 D (.dT (dP FL))) D (.frz o (.dT (dP FL))) = upd H2 D (.frz o (.dT (dP FL))) from upd_upd]
      have s3 : Same H (upd H2 D (.frz o (.dT (dP FL)))) := fun c u hc => by
        rw [upd_ne (ne_of_none hc nD)]
        exact s2 _ _ (s1 _ _ hc)
      generalize hH3 : upd H2 D (.frz o (.dT (dP FL))) = H3 at s3
      have g3 : H3 D = some (.frz o (.dT (dP FL))) := by rw [← hH3]; exact upd_same
      refine for_it walk_itemsT (fun i σ H' => ∃ (z5 z6 z7 z8 : Option V), σ = [some (.int ((s0 : Int) + 1)), some (vN l), some (vN m), some (.ref a), some (.ref D), z5, z6, z7, z8] ∧ Same H3 H') ⟨_, _, _, _, rfl, Same.refl _⟩ (fun i σ H' _ ⟨_, _, _, _, _, sm⟩ => sm _ _ g3) ?_ ?_
      · rintro i v σ H4 H5 hi ⟨z5, z6, z7, z8, rfl, sm⟩ ⟨TT, qa, kk, vv, ek, rfl, nT, gq, rfl⟩
        rw [dP_length] at hi
        have ek2 : FL[i]? = some FL[i] := List.getElem?_eq_getElem hi
        generalize FL[i] = ee at ek2
        rw [show (dP FL)[i]? = (FL[i]?).map fun e => (kP e.1, V.int e.2) from List.getElem?_map .., ek2] at ek
        obtain ⟨r0, c0, v0, rfl, hr0, hc0, _⟩ := fix_cell (ds := []) hs hm (hin ee (List.mem_of_getElem? ek2))
        have hcell : ∀ ds : List Nat, cell (symF s0 l m ds) r0 c0 = some v0 := fun ds => by
          obtain ⟨r1, c1, v1, e1, _, _, hc⟩ := fix_cell (ds := ds) hs hm (hin _ (List.mem_of_getElem? ek2))
          have a1 := (Prod.mk.inj (Prod.mk.inj e1).1).1
          have a2 := (Prod.mk.inj (Prod.mk.inj e1).1).2
          have a3 := (Prod.mk.inj e1).2
          obtain rfl : r0 = r1 := by omega
          obtain rfl : c0 = c1 := by omega
          obtain rfl : v0 = v1 := by omega
          exact hc
        obtain ⟨rfl, rfl⟩ := Prod.mk.inj (Option.some.inj ek)
        have gq : H4 qa = some (.tup [vN r0, vN c0]) := gq
        have s4 : Same H3 (upd H4 TT (.tup [V.ref qa, vN v0])) := fun c u hc => same_upd nT _ _ (sm _ _ hc)
        have gq2 : upd H4 TT (.tup [V.ref qa, vN v0]) qa = some (.tup [vN r0, vN c0]) := same_upd nT _ _ gq
        have gT : upd H4 TT (.tup [V.ref qa, vN v0]) TT = some (.tup [V.ref qa, vN v0]) := upd_same
        show gTup K _ _ _ _ (upd H4 TT (.tup [V.ref qa, vN v0])) _
        generalize upd H4 TT (.tup [V.ref qa, vN v0]) = H5 at s4 gq2 gT ⊢
        refine ⟨TT, _, rfl, .inl (.inl gT), rfl, _, _, rfl, ⟨qa, _, rfl, .inl (.inl gq2), rfl, _, _, rfl, _, _, rfl, rfl, _, _, rfl, rfl, ?_⟩⟩
        have ga5 := s4 _ _ (s3 _ _ ga)
        have sqa : SqB true K H5 a (L.map V.ref) := .inl (.inl ga5)
        have gr5 : GrsB K H5 L s0 l m dss := (gr.same s3).same s4
        refine ⟨_, rfl, a, _, true, rfl, sqa, fun C hC => ?_⟩
        refine lc_it (walk_seq (b := true) (K := K) (a := a) (xs := L.map V.ref)) (fun j H' => Same H5 H' ∧ H' C = some (.lst ((List.replicate j v0).map vN))) ⟨same_upd hC, upd_same⟩ (fun j H' _ h => Same.sqb h.1 sqa) ?_ ?_
        · rintro j v H6 H7 hj ⟨s6, gC⟩ ⟨rfl, e2⟩
          rw [List.length_map] at hj
          have hjd : j < dss.length := by rw [← gr5.1]; exact hj
          have eL : L[j]? = some L[j] := List.getElem?_eq_getElem hj
          rw [List.getElem?_map, eL] at e2
          cases e2
          obtain ⟨LL, hLL, lLL, hrow⟩ := (gr5.2 j L[j] dss[j] eL (List.getElem?_eq_getElem hjd)).ex
          obtain ⟨row, er, ec⟩ := cell_get (hcell dss[j])
          have hr1 : r0 < LL.length := by rw [lLL]; exact (List.getElem?_eq_some_iff.mp er).1
          have eLL : LL[r0]? = some LL[r0] := List.getElem?_eq_getElem hr1
          have hrow2 := hrow r0 LL[r0] row eLL er
          refine ⟨rfl, ?_⟩
          refine ⟨_, rfl, _, rfl, L[j], _, (r0 : Int), .ref LL[r0], true, rfl, rfl, Same.sqb s6 hLL, atI_nat (by rw [List.getElem?_map, eLL]; rfl), ?_⟩
          refine ⟨_, rfl, LL[r0], _, (c0 : Int), vN v0, true, rfl, rfl, Same.sqb s6 hrow2, atI_nat (by rw [List.getElem?_map, ec]; rfl), ?_⟩
          refine ⟨_, gC, ?_, fun c u hc => ?_, ?_⟩
          · rw [List.length_map, List.length_replicate]
            have := gr5.1
            exact small1000 (by omega)
          · rw [upd_ne (ne_of_none hc hC)]
            exact s6 _ _ hc
          · rw [upd_same, List.replicate_succ', List.map_append]
            rfl
        · rintro H6 ⟨s6, gC⟩
          rw [List.length_map] at gC
          have ga6 := s6 _ _ ga5
          refine ⟨_, rfl, (by show 1 ≤ sizeLine; decide), fun p1 hp1 => ?_⟩
          have gp1 : upd H6 p1 (.lst [vN v0]) p1 = some (.lst [vN v0]) := upd_same
          have s7 := same_upd (o := .lst [vN v0]) hp1
          refine ⟨_, rfl, a, L.map V.ref, rfl, .inl (.inl (.inl (s7 _ _ ga6))), ?_⟩
          have lL : (L.map V.ref).length = L.length := List.length_map ..
          refine ⟨p1, ((L.map V.ref).length : Int), [vN v0], rfl, rfl, gp1, by omega, (by have := gr5.1; omega), ?_, fun p2 hp2 => ?_⟩
          · rw [lL, Int.toNat_natCast]
            have := gr5.1
            exact Nat.le_trans (m := 1000) (by show 1 * _ ≤ _; omega) (by decide)
          · have er : (List.replicate (((L.map V.ref).length : Nat) : Int).toNat [vN v0]).flatten = (List.replicate L.length v0).map vN := by
              rw [lL, Int.toNat_natCast, List.flatten_replicate_singleton, List.map_replicate]
            rw [er]
            have nCp : C ≠ p1 := fun e => by rw [e, hp1] at gC; cases gC
            have gC7 := s7 _ _ gC
            have gC8 := same_upd (o := .lst ((List.replicate L.length v0).map vN)) hp2 _ _ gC7
            refine ⟨dN (List.replicate L.length v0), dN (List.replicate L.length v0), dN_dp (.inl (.inl gC8)), dN_dp (.inl (.inl upd_same)), dN_shaped _, dN_shaped _, ?_⟩
            rw [dN_eqv, decide_eq_true rfl]
            refine ⟨_, rfl, ?_⟩
            refine iteF ?_
            exact ⟨_, _, _, _, rfl, fun c u hc => same_upd hp2 _ _ (s7 _ _ (s6 _ _ (s4 _ _ hc)))⟩
      · rintro σ H4 ⟨z5, z6, z7, z8, rfl, sm⟩
        refine ⟨_, rfl, D, dP FL, rfl, .inr ⟨o, sm _ _ g3⟩, _, rfl, s0, rfl, hs, _, _, rfl, rfl, .inl ⟨by omega, by omega⟩, _, _, rfl, rfl, _, _, rfl, rfl, ?_⟩
        refine ⟨_, _, .int _, .int _, rfl, rfl, ?_⟩
        have e : (((dP FL).length : Nat) : Int) = 4 * ((sdF s0 : Nat) : Int) - 4 + 20 := by
          rw [dP_length, lF]
          omega
        have e2 : PyData.eqv (.int (((dP FL).length : Nat) : Int)) (.int (4 * ((sdF s0 : Nat) : Int) - 4 + 20)) = true := by
          rw [e]
          exact SeqAt.eqv_refl _ rfl
        show Q (.bl (PyData.eqv (.int (((dP FL).length : Nat) : Int)) (.int (4 * ((sdF s0 : Nat) : Int) - 4 + 20)))) H4
        rw [e2]
        exact q H4 (fun c u hc => sm _ _ (s3 _ _ hc))
/-! CUT -/
/-! ### the numbers of the symbols -/
theorem strip_two (l m : Nat) : ∀ x ∈ stripL l m ++ [0, 1], x < 2 := fun x hx => by
  rcases List.mem_append.mp hx with h | h
  · unfold stripL at h
    rcases List.mem_append.mp h with h | h
    · exact bitsW_lt _ _ _ h
    · exact bitsW_lt _ _ _ h
  · have : x = 0 ∨ x = 1 := by simpa using h
    omega
theorem sym_bit {s l m i j : Nat} {ds : List Nat} (hs : s < 5) (hm : m < 8) (hi : i < sdF s) (hj : j < sdF s) : ∃ v : Nat, cell (symF s l m ds) i j = some v ∧ v < 2 := by
  have hp := (way_pl hs hi hj).1
  rw [cell_sym hi hj]
  generalize plF s i j = k at hp
  by_cases hk : k < ptF s
  · rw [shade_at hs hm (due_len _ _ _) hk]
    exact ⟨_, rfl, Nat.mod_lt _ (by decide)⟩
  · rw [shade_st hs hm (due_len _ _ _) (by omega), strip_st _ _ _ (by omega)]
    refine ⟨_, rfl, ?_⟩
    have hl : (stripL l m ++ [0, 1]).length = 22 := by rw [List.length_append, stripL_len]; rfl
    rw [List.getD_eq_getElem?_getD, List.getElem?_eq_getElem (by omega)]
    exact strip_two l m _ (List.getElem_mem _)
theorem sym_sq {s l m : Nat} {ds : List Nat} (hs : s < 5) (hm : m < 8) : Sq (sdF s) (symF s l m ds) := draw_sq hs hm (due_len _ _ _)
theorem cell_at {g : Grid} {n i j : Nat} (h : Sq n g) (hi : i < n) (hj : j < n) : ∃ row, g[i]? = some row ∧ row[j]? = some (cell g i j) := by
  have h1 : i < g.length := by rw [h.len]; exact hi
  have h2 := h.row _ (List.getElem_mem h1)
  refine ⟨g[i], List.getElem?_eq_getElem h1, ?_⟩
  unfold cell
  rw [getD_in h1, getD_in (by omega)]
  exact List.getElem?_eq_getElem _
theorem sym_full {s l m : Nat} {ds : List Nat} (hs : s < 5) (hm : m < 8) : Full (symF s l m ds) := fun r hr o ho => by
  have sq := sym_sq (l := l) (ds := ds) hs hm
  obtain ⟨i, hi, rfl⟩ := List.getElem_of_mem hr
  obtain ⟨j, hj, rfl⟩ := List.getElem_of_mem ho
  have hr2 := sq.row _ (List.getElem_mem hi)
  have hi2 : i < sdF s := by rw [← sq.len]; exact hi
  have hj2 : j < sdF s := by rw [← hr2]; exact hj
  obtain ⟨v, e, hv⟩ := sym_bit (l := l) (ds := ds) hs hm hi2 hj2
  refine ⟨v, ?_, hv⟩
  obtain ⟨row, e1, e2⟩ := cell_at sq hi2 hj2
  rw [List.getElem?_eq_getElem hi] at e1
  obtain rfl := Option.some.inj e1
  rw [List.getElem?_eq_getElem hj] at e2
  rw [Option.some.inj e2, e]
theorem range_map {α β : Type} (l : List α) (d : α) (f : α → β) : l.map f = (List.range l.length).map fun i => f (l.getD i d) := by
  refine List.ext_getElem? fun i => ?_
  rw [List.getElem?_map, List.getElem?_map]
  by_cases h : i < l.length
  · rw [List.getElem?_range h, List.getElem?_eq_getElem h]
    show some (f l[i]) = some (f (l.getD i d))
    rw [List.getD_eq_getElem?_getD, List.getElem?_eq_getElem h]
    rfl
  · rw [List.getElem?_eq_none (by omega), List.getElem?_eq_none (by rw [List.length_range]; omega)]
    rfl
theorem valG_all {n : Nat} {g : Grid} (h : Sq n g) : valG g = (allD n).map fun q => (cell g q.1 q.2).getD 0 := by
  have e : ∀ i, i < n → (g.getD i []).map (fun o => o.getD 0) = (List.range n).map fun j => (cell g i j).getD 0 := fun i hi => by
    have h1 : i < g.length := by rw [h.len]; exact hi
    have h2 := h.row _ (List.getElem_mem h1)
    rw [range_map _ none, getD_in h1, h2]
    refine List.map_congr_left fun j hj => ?_
    unfold cell
    rw [getD_in h1]
  unfold valG allD
  rw [List.map_flatMap]
  rw [List.flatMap_def, range_map g [], h.len, List.flatMap_def]
  congr 1
  refine List.map_congr_left fun i hi => ?_
  rw [e i (List.mem_range.mp hi), List.map_map]
  rfl
def symV (s l m : Nat) (ds : List Nat) (q : Nat × Nat) : Nat := (cell (symF s l m ds) q.1 q.2).getD 0
theorem num_sym {s l m : Nat} (ds : List Nat) (hs : s < 5) (hm : m < 8) : numG (symF s l m ds) = numF 1 ((allD (sdF s)).map (symV s l m ds)) := by
  unfold numG
  rw [valG_all (sym_sq hs hm)]
  rfl
theorem allD_in {n : Nat} {q : Nat × Nat} (h : q ∈ allD n) : q.1 < n ∧ q.2 < n := by
  unfold allD at h
  obtain ⟨i, hi, h⟩ := List.mem_flatMap.mp h
  obtain ⟨j, hj, rfl⟩ := List.mem_map.mp h
  exact ⟨List.mem_range.mp hi, List.mem_range.mp hj⟩
theorem allD_mem {n i j : Nat} (hi : i < n) (hj : j < n) : (i, j) ∈ allD n := List.mem_flatMap.mpr ⟨i, List.mem_range.mpr hi, List.mem_map.mpr ⟨j, List.mem_range.mpr hj, rfl⟩⟩
theorem symV_two {s l m : Nat} (ds : List Nat) (hs : s < 5) (hm : m < 8) : ∀ x ∈ (allD (sdF s)).map (symV s l m ds), x < 2 ^ 1 := fun x hx => by
  obtain ⟨q, hq, rfl⟩ := List.mem_map.mp hx
  obtain ⟨h1, h2⟩ := allD_in hq
  obtain ⟨v, e, hv⟩ := sym_bit (l := l) (ds := ds) hs hm h1 h2
  unfold symV
  rw [e]
  exact hv
theorem two_xor {a b c d : Nat} (ha : a < 2) (hb : b < 2) (hc : c < 2) (hd : d < 2) (h : (a + b + c + d) % 2 = 0) : d = a ^^^ b ^^^ c := by
  have h1 : a = 0 ∨ a = 1 := by omega
  have h2 : b = 0 ∨ b = 1 := by omega
  have h3 : c = 0 ∨ c = 1 := by omega
  have h4 : d = 0 ∨ d = 1 := by omega
  rcases h1 with rfl | rfl <;> rcases h2 with rfl | rfl <;> rcases h3 with rfl | rfl <;> rcases h4 with rfl | rfl <;> first | rfl | (exfalso; revert h; decide)
theorem symV_xor {s l m : Nat} {xs ys zs : List Nat} (hs : s < 5) (hl : l < 4) (hm : m < 8) (hx : ∀ x ∈ xs, x < span (bitsF s)) (hy : ∀ x ∈ ys, x < span (bitsF s)) (hz : ∀ x ∈ zs, x < span (bitsF s))
    (lx : xs.length = dataF s l) (ly : ys.length = dataF s l) (lz : zs.length = dataF s l) {q : Nat × Nat} (hq : q ∈ allD (sdF s)) :
    symV s l m (x4F xs ys zs) q = symV s l m xs q ^^^ symV s l m ys q ^^^ symV s l m zs q := by
  obtain ⟨h1, h2⟩ := allD_in hq
  obtain ⟨v1, v2, v3, v4, e1, e2, e3, e4, ev⟩ := sym_even hs hl hm hx hy hz lx ly lz h1 h2
  obtain ⟨u1, f1, w1⟩ := sym_bit (l := l) (ds := xs) hs hm h1 h2
  obtain ⟨u2, f2, w2⟩ := sym_bit (l := l) (ds := ys) hs hm h1 h2
  obtain ⟨u3, f3, w3⟩ := sym_bit (l := l) (ds := zs) hs hm h1 h2
  obtain ⟨u4, f4, w4⟩ := sym_bit (l := l) (ds := x4F xs ys zs) hs hm h1 h2
  rw [e1] at f1
  rw [e2] at f2
  rw [e3] at f3
  rw [e4] at f4
  cases f1
  cases f2
  cases f3
  cases f4
  unfold symV
  rw [e1, e2, e3, e4]
  exact two_xor w1 w2 w3 w4 ev
theorem zip_map {α : Type} (f g : α → Nat) : ∀ l : List α, List.zipWith (fun x y => x ^^^ y) (l.map f) (l.map g) = l.map fun q => f q ^^^ g q
  | [] => rfl
  | a :: l => by
    rw [List.map_cons, List.map_cons, List.zipWith_cons_cons, zip_map f g l]
    rfl
theorem num_xor {s l m : Nat} {xs ys zs : List Nat} (hs : s < 5) (hl : l < 4) (hm : m < 8) (hx : ∀ x ∈ xs, x < span (bitsF s)) (hy : ∀ x ∈ ys, x < span (bitsF s)) (hz : ∀ x ∈ zs, x < span (bitsF s))
    (lx : xs.length = dataF s l) (ly : ys.length = dataF s l) (lz : zs.length = dataF s l) :
    numG (symF s l m (x4F xs ys zs)) = numG (symF s l m xs) ^^^ numG (symF s l m ys) ^^^ numG (symF s l m zs) := by
  rw [num_sym _ hs hm, num_sym _ hs hm, num_sym _ hs hm, num_sym _ hs hm]
  have e : (allD (sdF s)).map (symV s l m (x4F xs ys zs)) = List.zipWith (fun x y => x ^^^ y) (List.zipWith (fun x y => x ^^^ y) ((allD (sdF s)).map (symV s l m xs)) ((allD (sdF s)).map (symV s l m ys))) ((allD (sdF s)).map (symV s l m zs)) := by
    rw [zip_map, zip_map]
    exact List.map_congr_left fun q hq => symV_xor hs hl hm hx hy hz lx ly lz hq
  have b12 : ∀ x ∈ List.zipWith (fun x y => x ^^^ y) ((allD (sdF s)).map (symV s l m xs)) ((allD (sdF s)).map (symV s l m ys)), x < 2 ^ 1 := fun x hx => by
    rw [zip_map] at hx
    obtain ⟨q, hq, rfl⟩ := List.mem_map.mp hx
    exact Nat.xor_lt_two_pow (symV_two xs hs hm _ (List.mem_map.mpr ⟨q, hq, rfl⟩)) (symV_two ys hs hm _ (List.mem_map.mpr ⟨q, hq, rfl⟩))
  rw [e, numF_zip (by rw [zip_map, List.length_map, List.length_map]) b12 (symV_two zs hs hm), numF_zip (by rw [List.length_map, List.length_map]) (symV_two xs hs hm) (symV_two ys hs hm)]
/-! CUT -/
/-! ### different words, different symbols -/
theorem numF_inj {b : Nat} {xs ys : List Nat} (h : xs.length = ys.length) (hx : ∀ x ∈ xs, x < 2 ^ b) (hy : ∀ x ∈ ys, x < 2 ^ b) (e : numF b xs = numF b ys) : xs = ys := by
  refine List.ext_getElem? fun i => ?_
  by_cases hi : i < xs.length
  · rw [numF_at hx hi, numF_at hy (by omega), e, h]
  · rw [List.getElem?_eq_none (by omega), List.getElem?_eq_none (by omega)]
theorem map_back {α β : Type} {f : α → β} (hf : ∀ a b, f a = f b → a = b) : ∀ {l k : List α}, l.map f = k.map f → l = k
  | [], [], _ => rfl
  | [], _ :: _, h => by cases h
  | _ :: _, [], h => by cases h
  | a :: l, b :: k, h => by
    rw [List.map_cons, List.map_cons] at h
    injection h with h1 h2
    rw [hf _ _ h1, map_back hf h2]
theorem part_cons (n : Nat) (ns ds : List Nat) : partF (n :: ns) ds = ds.take n :: partF ns (ds.drop n) := by
  unfold partF
  rw [List.length_cons, List.range_succ_eq_map, List.map_cons, List.map_map]
  congr 1
  refine List.map_congr_left fun i _ => ?_
  show (ds.drop ((n :: ns).take (i + 1)).sum).take ((n :: ns).getD (i + 1) 0) = _
  rw [List.take_succ_cons, List.sum_cons, List.drop_drop]
  rfl
theorem part_flat : ∀ (ns ds : List Nat), ds.length = ns.sum → (partF ns ds).flatten = ds
  | [], ds, h => by
    have : ds = [] := List.eq_nil_of_length_eq_zero h
    rw [this]
    rfl
  | n :: ns, ds, h => by
    rw [List.sum_cons] at h
    rw [part_cons, List.flatten_cons, part_flat ns (ds.drop n) (by rw [List.length_drop]; omega), List.take_append_drop]
theorem right_inj {s l : Nat} {xs ys : List Nat} (hs : s < 5) (lx : xs.length = dataF s l) (ly : ys.length = dataF s l) (e : rightF s l xs = rightF s l ys) : xs = ys := by
  have e2 : partF (ownsF s l) xs = partF (ownsF s l) ys := map_back (f := fun ws => ws ++ chF s l ws) (fun a b h => (List.append_inj' h (by rw [chF_len hs, chF_len hs])).1) e
  rw [← part_flat (ownsF s l) xs lx, ← part_flat (ownsF s l) ys ly, e2]
theorem sym_inj {s l m : Nat} {xs ys : List Nat} (hs : s < 5) (hl : l < 4) (hm : m < 8) (hx : ∀ x ∈ xs, x < span (bitsF s)) (hy : ∀ x ∈ ys, x < span (bitsF s)) (lx : xs.length = dataF s l) (ly : ys.length = dataF s l)
    (e : numG (symF s l m xs) = numG (symF s l m ys)) : xs = ys := by
  rw [num_sym _ hs hm, num_sym _ hs hm] at e
  have e1 := numF_inj (by rw [List.length_map, List.length_map]) (symV_two xs hs hm) (symV_two ys hs hm) e
  have e2 : symF s l m xs = symF s l m ys := grid_ext (sym_sq hs hm) (sym_sq hs hm) fun i j hi hj => by
    obtain ⟨u1, f1, w1⟩ := sym_bit (l := l) (ds := xs) hs hm hi hj
    obtain ⟨u2, f2, w2⟩ := sym_bit (l := l) (ds := ys) hs hm hi hj
    have z := List.map_inj_left.mp e1 (i, j) (allD_mem hi hj)
    unfold symV at z
    have z : (cell (symF s l m xs) i j).getD 0 = (cell (symF s l m ys) i j).getD 0 := z
    rw [f1, f2] at z
    have z : u1 = u2 := z
    rw [f1, f2, z]
  have rx := right_ok hs hl lx hx
  have ry := right_ok hs hl ly hy
  have d1 := dots_un (s := s) (l := l) (m := m) hs hm (due_len s l (rightF s l xs))
  have d2 := dots_un (s := s) (l := l) (m := m) hs hm (due_len s l (rightF s l ys))
  have e3 : drawF s l m (dueF s l (rightF s l xs)) = drawF s l m (dueF s l (rightF s l ys)) := e2
  rw [e3] at d1
  have e4 := d1.symm.trans d2
  have h1 := heard_whole (bits_wd hs) (ws := dueF s l (rightF s l xs)) fun x h => due_words hs hl rx h
  have h2 := heard_whole (bits_wd hs) (ws := dueF s l (rightF s l ys)) fun x h => due_words hs hl ry h
  rw [e4] at h1
  have e5 : ofN (dueF s l (rightF s l xs)) = ofN (dueF s l (rightF s l ys)) := h1.symm.trans h2
  have b1 := back_due hs hl rx
  have b2 := back_due hs hl ry
  rw [e5] at b1
  have e6 : gridN (rightF s l xs) = gridN (rightF s l ys) := b1.symm.trans b2
  exact right_inj hs lx ly (map_back (f := ofN) (fun a b h => map_back (f := some) (fun _ _ z => Option.some.inj z) h) e6)
theorem zx_noughts {n : Nat} {xs : List Nat} (h : xs.length = n) : zx (List.replicate n 0) xs = xs := by
  refine List.ext_getElem? fun i => ?_
  by_cases hi : i < n
  · rw [gd_in (by rw [zx_len, List.length_replicate]; exact hi), gd_zx (by rw [List.length_replicate, h]), gd_in (show i < xs.length by omega)]
    refine congrArg some ?_
    have : gd (List.replicate n 0) i = 0 := by
      unfold gd
      rw [List.getD_eq_getElem?_getD, List.getElem?_replicate, if_pos hi]
      rfl
    rw [this, Nat.zero_xor]
  · rw [List.getElem?_eq_none (by rw [zx_len, List.length_replicate]; omega), List.getElem?_eq_none (by omega)]
/-! CUT -/
/-! ### a changed mask -/
/-- a grid of rows, none of them one of these -/
def GrP (ps : List Addr) (H : Hp) (D : Addr) (g : Grid) : Prop := (∀ p ∈ ps, D ≠ p) ∧ ∃ L : List Addr, H D = some (.lst (L.map V.ref)) ∧ L.length = g.length ∧ ∀ (j : Nat) (l : Addr) (r : List (Option Nat)), L[j]? = some l → g[j]? = some r → (∀ p ∈ ps, l ≠ p) ∧ H l = some (.lst (r.map vG))
theorem GrP.kp {ps : List Addr} {p : Addr} {H H' : Hp} {D : Addr} {g : Grid} (h : GrP ps H D g) (m : p ∈ ps) (k : Kp p H H') : GrP ps H' D g := by
  obtain ⟨nD, L, gD, lL, hr⟩ := h
  exact ⟨nD, L, k _ _ gD (nD p m), lL, fun j l r e1 e2 => ⟨(hr j l r e1 e2).1, k _ _ (hr j l r e1 e2).2 ((hr j l r e1 e2).1 p m)⟩⟩
theorem GrP.same {ps : List Addr} {H H' : Hp} {D : Addr} {g : Grid} (h : GrP ps H D g) (k : Same H H') : GrP ps H' D g := by
  obtain ⟨nD, L, gD, lL, hr⟩ := h
  exact ⟨nD, L, k _ _ gD, lL, fun j l r e1 e2 => ⟨(hr j l r e1 e2).1, k _ _ (hr j l r e1 e2).2⟩⟩
theorem GrP.gr {K : PySem.W.Frag} {ps : List Addr} {H : Hp} {D : Addr} {g : Grid} (h : GrP ps H D g) : GrB true K H D g := by
  obtain ⟨nD, L, gD, lL, hr⟩ := h
  exact ⟨L, .inl (.inl gD), lL, fun j l r e1 e2 => .inl (.inl (hr j l r e1 e2).2)⟩
theorem GrP.of {ps : List Addr} {H H' : Hp} {D : Addr} {g : Grid} (h : Fr H H' D g) (hp : ∀ p ∈ ps, ∃ o, H p = some o) : GrP ps H' D g := by
  obtain ⟨hD, L, F⟩ := h
  have n : ∀ {a : Addr}, H a = none → ∀ p ∈ ps, a ≠ p := fun h p m e => by
    obtain ⟨o, ho⟩ := hp p m
    rw [e, ho] at h
    cases h
  exact ⟨n hD, L, F.out, F.len, fun j l r e1 e2 => ⟨n (F.row j l r e1 e2).1, (F.row j l r e1 e2).2.2⟩⟩
theorem bit_chg (x y w j : Nat) : ((x ^^^ w) / 2 ^ j % 2) ^^^ ((y ^^^ w) / 2 ^ j % 2) = (y / 2 ^ j % 2) ^^^ (x / 2 ^ j % 2) := by
  have e : ∀ x : Nat, x / 2 ^ j % 2 = (x.testBit j).toNat := fun x => (Nat.toNat_testBit x j).symm
  rw [e, e, e, e, Nat.testBit_xor, Nat.testBit_xor]
  cases x.testBit j <;> cases y.testBit j <;> cases w.testBit j <;> rfl
theorem mw_bit {s m r c : Nat} (hs : s < 5) (hm : m < 8) (hr : r < sdF s) (hc : c < sdF s) (hk : plF s r c < ptF s) : gd (mwF s m) (plF s r c / bitsF s) / 2 ^ (bitsF s - 1 - plF s r c % bitsF s) % 2 = if ruleF m (r : Int) (c : Int) = true then 1 else 0 := by
  have hb : 0 < bitsF s := by rcases bits_wd hs with h | h <;> omega
  have ht := tot_pt hs
  have ml := mw_len hs hm
  have hd : plF s r c / bitsF s < totF s := Nat.div_lt_of_lt_mul (by rw [ht]; exact hk)
  have eh := mbit_at hs hm hr hc
  rw [List.getElem?_append_left (by rw [wordsB_len, ml, ht]; exact hk), wordsB_at hb, gd_in (show plF s r c / bitsF s < (mwF s m).length by omega)] at eh
  have eh2 : gd (mwF s m) (plF s r c / bitsF s) / 2 ^ (bitsF s - 1 - plF s r c % bitsF s) % 2 = if hitF s m r c = true then 1 else 0 := Option.some.inj eh
  rw [eh2]
  unfold hitF
  rw [decide_eq_true hk, Bool.true_and]
/-- what a changed mask changes at a dot of a word -/
theorem chg_word {s l m m2 r c : Nat} {ds : List Nat} (hs : s < 5) (hm : m < 8) (hm2 : m2 < 8) (hr : r < sdF s) (hc : c < sdF s) (hk : plF s r c < ptF s) :
    symV s l m2 ds (r, c) ^^^ symV s l m ds (r, c) = (if ruleF m (r : Int) (c : Int) = true then 1 else 0) ^^^ (if ruleF m2 (r : Int) (c : Int) = true then 1 else 0) := by
  unfold symV
  rw [cell_sym hr hc, cell_sym hr hc, shade_at hs hm (due_len _ _ _) hk, shade_at hs hm2 (due_len _ _ _) hk, ← mw_bit hs hm hr hc hk, ← mw_bit hs hm2 hr hc hk]
  exact bit_chg _ _ _ _
theorem fd_has {s l m : Nat} {q : Nat × Nat} (ds : List Nat) (hs : s < 5) (hm : m < 8) (hq : q ∈ usedF (sdF s)) : (kI q, ((symV s l m ds q : Nat) : Int)) ∈ fdL s l m := by
  obtain ⟨k, hk, eq⟩ := List.getElem_of_mem hq
  have hk2 : k < 20 := by rw [strip_len hs] at hk; exact hk
  obtain ⟨hx, hy⟩ := strip_in hs hq
  have eu : (usedF (sdF s))[k]? = some q := by rw [List.getElem?_eq_getElem hk, eq]
  have p1 := fd_pl hs hk2 eu
  have ks : k < (stripL l m).length := by rw [stripL_len]; exact hk2
  have ev : symV s l m ds q = (stripL l m)[k] := by
    unfold symV
    rw [cell_sym hx hy, p1, shade_st hs hm (due_len _ _ _) (by omega), show ptF s + k - ptF s = k by omega, strip_st _ _ _ (by omega)]
    show (stripL l m ++ [0, 1]).getD k 0 = _
    rw [List.getD_eq_getElem?_getD, List.getElem?_append_left ks, List.getElem?_eq_getElem ks]
    rfl
  rw [ev]
  unfold fdL
  refine List.mem_map.mpr ⟨(q, (stripL l m)[k]), ?_, rfl⟩
  refine List.mem_of_getElem? (i := k) ?_
  rw [List.getElem?_zip_eq_some]
  exact ⟨eu, List.getElem?_eq_getElem ks⟩
theorem fd_look {s l m : Nat} {q : Nat × Nat} {mm : List ((Int × Int) × Int)} (ds : List Nat) (hs : s < 5) (hm : m < 8) (pm : mm.Perm (fdL s l m)) (hq : q ∈ usedF (sdF s)) : lkP mm (kI q) = some ((symV s l m ds q : Nat) : Int) := by
  have nd : ((fdL s l m).map (·.1)).Nodup := dotI_keys (by rw [strip_len hs, stripL_len]) (used_nd hs)
  exact lkP_mem ((pm.map _).nodup_iff.mpr nd) (pm.mem_iff.mpr (fd_has ds hs hm hq))
theorem fd_out {s l m : Nat} {q : Nat × Nat} {mm : List ((Int × Int) × Int)} (hs : s < 5) (pm : mm.Perm (fdL s l m)) (hq : q ∉ usedF (sdF s)) : lkP mm (kI q) = none := lkP_none fun h => by
  obtain ⟨e, he, ee⟩ := List.mem_map.mp h
  have h2 := pm.mem_iff.mp he
  unfold fdL at h2
  obtain ⟨z, hz, rfl⟩ := List.mem_map.mp h2
  have : kI z.1 = kI q := ee
  rw [← kI_inj this] at hq
  exact hq (List.of_mem_zip (a := z.1) (b := z.2) hz).1
theorem bd_chg {s l m m2 : Nat} {q : Nat × Nat} (ds : List Nat) (hs : s < 5) (hm : m < 8) (hm2 : m2 < 8) (hq : q ∈ bdL (sdF s - 1)) : symV s l m2 ds q ^^^ symV s l m ds q = 0 := by
  have hin : ∀ m, (kI q, ((bvF (sdF s - 1) q.1 q.2 : Nat) : Int)) ∈ fixL s l m := fun m => List.mem_append_left _ (List.mem_map.mpr ⟨q, hq, rfl⟩)
  have h : ∀ m, m < 8 → symV s l m ds q = bvF (sdF s - 1) q.1 q.2 := fun m hm => by
    obtain ⟨r, c, v, e, _, _, hc⟩ := fix_cell (ds := ds) hs hm (hin m)
    have a1 := (Prod.mk.inj (Prod.mk.inj e).1).1
    have a2 := (Prod.mk.inj (Prod.mk.inj e).1).2
    have a3 := (Prod.mk.inj e).2
    obtain rfl : q.1 = r := by omega
    obtain rfl : q.2 = c := by omega
    unfold symV
    rw [hc]
    show v = _
    omega
  rw [h m hm, h m2 hm2, Nat.xor_self]
theorem bd_look {s : Nat} {q : Nat × Nat} : (lkP (bdM (sdF s - 1)) (kI q)).isSome = decide (q ∈ bdL (sdF s - 1)) := by
  by_cases h : q ∈ bdL (sdF s - 1)
  · rw [decide_eq_true h]
    unfold lkP
    rw [Option.isSome_map, List.find?_isSome]
    exact ⟨_, List.mem_map.mpr ⟨q, h, rfl⟩, decide_eq_true rfl⟩
  · rw [decide_eq_false h, lkP_none]
    · rfl
    · rw [bdM_keys]
      intro z
      obtain ⟨q2, h2, e⟩ := List.mem_map.mp z
      rw [kI_inj e] at h2
      exact h h2
theorem gr_at {K : PySem.W.Frag} {H : Hp} {a : Addr} {s l m r c : Nat} {ds : List Nat} (hs : s < 5) (hm : m < 8) (h : GrB true K H a (symF s l m ds)) (hr : r < sdF s) (hc : c < sdF s) :
    ∃ (LL : List Addr) (rp : Addr) (row : List (Option Nat)), SqL K H a (LL.map V.ref) ∧ atI (LL.map V.ref) (r : Int) = some (.ref rp) ∧ SqL K H rp (row.map vG) ∧ atI (row.map vG) (c : Int) = some (vN (symV s l m ds (r, c))) := by
  obtain ⟨LL, hL, lL, hrow⟩ := h.ex
  obtain ⟨row, e1, e2⟩ := cell_at (sym_sq (l := l) (ds := ds) hs hm) hr hc
  have h1 : r < LL.length := by rw [lL]; exact (List.getElem?_eq_some_iff.mp e1).1
  have eL : LL[r]? = some LL[r] := List.getElem?_eq_getElem h1
  obtain ⟨v, ev, _⟩ := sym_bit (l := l) (ds := ds) hs hm hr hc
  refine ⟨LL, LL[r], row, hL, atI_nat (by rw [List.getElem?_map, eL]; rfl), hrow r _ row eL e1, atI_nat ?_⟩
  rw [List.getElem?_map, e2]
  unfold symV
  rw [ev]
  rfl
theorem rule_xor (b1 b2 : Bool) : Builtin.bitXor (if b1 = true then 1 else 0) (if b2 = true then 1 else 0) = (((if b1 = true then 1 else 0) ^^^ (if b2 = true then 1 else 0) : Nat) : Int) := by
  cases b1 <;> cases b2 <;> rfl
theorem vN_ne (a b : Nat) : (!decide (vN a = vN b)) = !decide (a = b) := by
  by_cases h : a = b
  · subst h
    rw [decide_eq_true rfl, decide_eq_true rfl]
  · rw [decide_eq_false h, decide_eq_false fun z => h (by have := V.int.inj z; omega)]
/-! CUT -/
/-! ### a right symbol -/
def sp_right : Sp := fun vs H Q _ => ∃ (p : Addr) (a b c : Int), vs = [.ref p] ∧ H p = some (WellL a b c) ∧ ∀ H', Kp p H H' → Q (.bl true) H'
theorem ok__law_right (T : Txt K mg) : FnOk P w K mg base CX0 11 T.f__law_right T.d__law_right ["_law_well"] sp_right := by
  refine T.F__law_right.ok sc__law_right (fun vs H Q E h => ?_) (fun cdv A outer s H vs Q E hr h => ?_)
  · obtain ⟨p, a, b, c, rfl, _⟩ := h
    rfl
  · obtain ⟨p, a, b, c, rfl, hp, q⟩ := h
    refine ⟨_, (pss_cons (ps_asg (pe_tup (pa_cons (pe_op op_add pe_int (pe_call (ok__law_draw T) (hr.mono (by decide)) (by rfl) T.g__law_draw T.F__law_draw.kp T.b__law_draw .nil pass0 (pa_cons (pv 0) (pa_cons pe_int pa_nil)))) (pa_cons (pe_call (ok__law_draw T) (hr.mono (by decide)) (by rfl) T.g__law_draw T.F__law_draw.kp T.b__law_draw .nil pass0 (pa_cons (pv 0) (pa_cons pe_int pa_nil))) (pa_cons (pe_call (ok__law_draw T) (hr.mono (by decide)) (by rfl) T.g__law_draw T.F__law_draw.kp T.b__law_draw .nil pass0 (pa_cons (pv 0) (pa_cons pe_int pa_nil))) pa_nil)))) (pg_tup rfl (pgs_cons (by first | exact (pg_name (i := 1) sc__law_right.nd rfl (.inr rfl)) | exact (pg_name (i := 1) sc__law_right.nd rfl (.inl rfl))) (pgs_cons (by first | exact (pg_name (i := 2) sc__law_right.nd rfl (.inr rfl)) | exact (pg_name (i := 2) sc__law_right.nd rfl (.inl rfl))) (pgs_cons (by first | exact (pg_name (i := 3) sc__law_right.nd rfl (.inr rfl)) | exact (pg_name (i := 3) sc__law_right.nd rfl (.inl rfl))) pgs_nil)))))
      (pss_cons (ps_par (i := 4) (j := 5) (by rfl) sc__law_right.nd rfl rfl (by decide) rfl rfl (pa_cons (pe_call (ok__law_row T) (hr.mono (by decide)) (by rfl) T.g__law_row T.F__law_row.kp T.b__law_row .nil pass0 (pa_cons (pv 0) (pa_cons (pv 1) (pa_cons (pv 2) pa_nil)))) (pa_cons (pe_call (ok__law_row T) (hr.mono (by decide)) (by rfl) T.g__law_row T.F__law_row.kp T.b__law_row .nil pass0 (pa_cons (pv 0) (pa_cons (pv 1) (pa_cons (pv 2) pa_nil)))) pa_nil)) (by rfl))
      (pss_cons (ps_setLc (i := 6) (own := [("_law_mine", 16), ("_law_its", 17)]) (g := gTup K 2 (gCons (gName 16) (gCons (gName 17) gNil))) rfl sc__law_right.nd rfl rfl (sw_true rfl rfl rfl (by decide +kernel)) (pi_zip (by rfl) T.n_zip (pa_cons (pv 4) (pa_cons (pv 5) pa_nil))) (blkOk_by (N := ["_law_well", "_law_size", "_law_level", "_law_mask", "_law_one_here", "_law_other", "_law_both", "_law_grids", "_law_numbers", "_law_later", "_law_found", "_law_format_both", "_law_around", "_law_dot", "_law_changed", "_law_due", "_law_mine", "_law_its", "_law_some", "_law_grid"]) (sc := defScope s__law_right) (by decide +kernel)) (fun _ _ _ _ _ => by (refine pg_tup ?_ ?_); (exact rfl); (refine pgs_cons ?_ ?_); (exact (pg_name (i := 16) sc__law_right.nd rfl (.inl rfl))); (refine pgs_cons ?_ ?_); (exact (pg_name (i := 17) sc__law_right.nd rfl (.inl rfl))); (exact pgs_nil)) (fun _ _ _ _ _ => by exact pts_nil) (fun _ _ _ _ _ => by exact (pe_op op_xor (pv 16) (pv 17))))
      (pss_cons (ps_setLc (i := 7) (own := [("_law_some", 18)]) rfl sc__law_right.nd rfl rfl (sw_true rfl rfl rfl (by decide +kernel)) (pi_seq (pe_tup (pa_cons (pe_op op_rep (pe_lst (pa_cons pe_int pa_nil)) (pe_callB call_len_seq (by rfl) T.n_len (by decide +kernel) (pa_cons (pv 4) pa_nil))) (pa_cons (pv 4) (pa_cons (pv 5) (pa_cons (pv 6) pa_nil)))))) (blkOk_by (N := ["_law_well", "_law_size", "_law_level", "_law_mask", "_law_one_here", "_law_other", "_law_both", "_law_grids", "_law_numbers", "_law_later", "_law_found", "_law_format_both", "_law_around", "_law_dot", "_law_changed", "_law_due", "_law_mine", "_law_its", "_law_some", "_law_grid"]) (sc := defScope s__law_right) (by decide +kernel)) (fun _ _ _ _ _ => by exact (pg_name (i := 18) sc__law_right.nd rfl (.inl rfl))) (fun _ _ _ _ _ => by exact pts_nil) (fun _ _ _ _ _ => by exact (pe_call (ok_symbol_of T) (hr.mono (by decide)) (by rfl) T.g_symbol_of T.F_symbol_of.kp T.b_symbol_of .nil pass0 (pa_cons (pv 1) (pa_cons (pv 2) (pa_cons (pv 3) (pa_cons (pv 18) pa_nil)))))))
      (pss_cons (ps_setLc (i := 8) (own := [("_law_grid", 19)]) rfl sc__law_right.nd rfl rfl (sw_true rfl rfl rfl (by decide +kernel)) (pi_seq (pv 7)) (blkOk_by (N := ["_law_well", "_law_size", "_law_level", "_law_mask", "_law_one_here", "_law_other", "_law_both", "_law_grids", "_law_numbers", "_law_later", "_law_found", "_law_format_both", "_law_around", "_law_dot", "_law_changed", "_law_due", "_law_mine", "_law_its", "_law_some", "_law_grid"]) (sc := defScope s__law_right) (by decide +kernel)) (fun _ _ _ _ _ => by exact (pg_name (i := 19) sc__law_right.nd rfl (.inl rfl))) (fun _ _ _ _ _ => by exact pts_nil) (fun _ _ _ _ _ => by exact (pe_call (ok__law_number T) (hr.mono (by decide)) (by rfl) T.g__law_number T.F__law_number.kp T.b__law_number .nil pass0 (pa_cons (pv 19) pa_nil))))
      (pss_cons (ps_if (PW.pt (pw_or (pt_cmpR op_ne (pe_ix ix_list (pv 8) pe_int (fun _ _ => rfl)) (pe_op op_xor (pe_op op_xor (pe_ix ix_list (pv 8) pe_int (fun _ _ => rfl)) (pe_ix ix_list (pv 8) pe_int (fun _ _ => rfl))) (pe_ix ix_list (pv 8) pe_int (fun _ _ => rfl))) (nomark _)) (pw_or1 (pt_cmpR op_ne (pe_cmpR op_eq (pe_ix ix_list (pv 8) pe_int (fun _ _ => rfl)) (pe_ix ix_list (pv 8) pe_int (fun _ _ => rfl)) (nomark _)) (pe_cmpR (op_eqD hr.units) (pv 4) (pv 5) (nomark _)) (nomark _))))) (pss_one (ps_ret pe_bl)) pss_nil)
      (pss_cons (ps_if (pt_not (pt_val (pe_call (ok__law_fixed_right T) (hr.mono (by decide)) (by rfl) T.g__law_fixed_right T.F__law_fixed_right.kp T.b__law_fixed_right .nil pass0 (pa_cons (pv 1) (pa_cons (pv 2) (pa_cons (pv 3) (pa_cons (pv 7) pa_nil))))))) (pss_one (ps_ret pe_bl)) pss_nil)
      (pss_cons (ps_set (i := 9) sc__law_right.nd rfl (.inl rfl) (pe_op op_mod (pe_callTy call_int1 (by rfl) T.n_int (by decide +kernel) (pa_cons (pe_op op_add (pe_op op_add (pv 3) pe_int) (pe_call (ok__law_draw T) (hr.mono (by decide)) (by rfl) T.g__law_draw T.F__law_draw.kp T.b__law_draw .nil pass0 (pa_cons (pv 0) (pa_cons pe_int pa_nil)))) pa_nil)) pe_int))
      (pss_cons (ps_set (i := 10) sc__law_right.nd rfl (.inl rfl) (pe_call (ok_symbol_of T) (hr.mono (by decide)) (by rfl) T.g_symbol_of T.F_symbol_of.kp T.b_symbol_of .nil pass0 (pa_cons (pv 1) (pa_cons (pv 2) (pa_cons (pv 9) (pa_cons (pv 4) pa_nil))))))
      (pss_cons (ps_set (i := 11) sc__law_right.nd rfl (.inl rfl) (pe_lst (pa_cons (pe_call (ok_format_dots T) (hr.mono (by decide)) (by rfl) T.g_format_dots T.F_format_dots.kp T.b_format_dots .nil pass0 (pa_cons (pv 1) (pa_cons (pv 2) (pa_cons (pv 3) pa_nil)))) (pa_cons (pe_call (ok_format_dots T) (hr.mono (by decide)) (by rfl) T.g_format_dots T.F_format_dots.kp T.b_format_dots .nil pass0 (pa_cons (pv 1) (pa_cons (pv 2) (pa_cons (pv 9) pa_nil)))) pa_nil))))
      (pss_cons (ps_set (i := 12) sc__law_right.nd rfl (.inl rfl) (pe_call (ok_border T) (hr.mono (by decide)) (by rfl) T.g_border T.F_border.kp T.b_border .nil pass0 (pa_cons (pv 1) pa_nil)))
      (pss_cons (ps_for PassesOwn.never rfl (pi_list (pe_call (ok__law_dots T) (hr.mono (by decide)) (by rfl) T.g__law_dots T.F__law_dots.kp T.b__law_dots .nil pass0 (pa_cons (pv 1) pa_nil))) (pg_name (i := 13) sc__law_right.nd rfl (.inl rfl)) (pss_cons (ps_set (i := 14) sc__law_right.nd rfl (.inl rfl) (pe_op op_xor (pe_ix ix_list (pe_ix ix_list (pv 10) (pe_ix ix_rowB (pv 13) pe_int (fun _ _ => rfl)) (fun _ _ => rfl)) (pe_ix ix_rowB (pv 13) pe_int (fun _ _ => rfl)) (fun _ _ => rfl)) (pe_ix ix_list (pe_ix ix_list (pe_ix ix_list (pv 7) pe_int (fun _ _ => rfl)) (pe_ix ix_rowB (pv 13) pe_int (fun _ _ => rfl)) (fun _ _ => rfl)) (pe_ix ix_rowB (pv 13) pe_int (fun _ _ => rfl)) (fun _ _ => rfl))))
      (pss_cons (ps_set (i := 15) sc__law_right.nd rfl (.inl rfl) (pe_op op_xor (pe_call (ok_turns T) (hr.mono (by decide)) (by rfl) T.g_turns T.F_turns.kp T.b_turns .nil pass0 (pa_cons (pv 3) (pa_cons (pv 13) pa_nil))) (pe_call (ok_turns T) (hr.mono (by decide)) (by rfl) T.g_turns T.F_turns.kp T.b_turns .nil pass0 (pa_cons (pv 9) (pa_cons (pv 13) pa_nil)))))
      (pss_cons (ps_if (pt_cmp (pc_din (Nat.lt_of_le_of_lt (Nat.add_le_add_left (by decide : 1 ≤ 64) _) hr.units) (pv 13) (pv 12))) (pss_one (ps_set (i := 15) sc__law_right.nd rfl (.inl rfl) pe_int)) (pss_one (ps_if (pt_cmp (pc_din (Nat.lt_of_le_of_lt (Nat.add_le_add_left (by decide : 1 ≤ 64) _) hr.units) (pv 13) (pe_ix ix_list (pv 11) pe_int (fun _ _ => rfl)))) (pss_one (ps_set (i := 15) sc__law_right.nd rfl (.inl rfl) (pe_op op_xor (pe_dget (Nat.lt_of_le_of_lt (Nat.add_le_add_left (by decide : 1 ≤ 64) _) hr.units) (pe_ix ix_list (pv 11) pe_int (fun _ _ => rfl)) (pv 13) (fun _ _ => rfl)) (pe_dget (Nat.lt_of_le_of_lt (Nat.add_le_add_left (by decide : 1 ≤ 64) _) hr.units) (pe_ix ix_list (pv 11) pe_int (fun _ _ => rfl)) (pv 13) (fun _ _ => rfl))))) pss_nil)))
      (pss_one (ps_if (pt_cmpR op_ne (pv 14) (pv 15) (nomark _)) (pss_one (ps_ret pe_bl)) pss_nil))))))
      (pss_one (ps_ret pe_bl)))))))))))))), ?_⟩
    refine ⟨_, rfl, p, a, b, c, 5, rfl, hp, by decide, by decide, fun n1 a1 c1 n10 n11 => ?_⟩
    obtain ⟨s0, rfl⟩ := Int.eq_ofNat_of_zero_le n10
    have hs : s0 < 5 := by omega
    have hp1 : upd H p (WellL a1 b c1) p = some (WellL a1 b c1) := upd_same
    have k1 : Kp p H (upd H p (WellL a1 b c1)) := Kp.upd
    generalize upd H p (WellL a1 b c1) = H1 at hp1 k1 ⊢
    refine ⟨_, _, rfl, rfl, _, rfl, p, a1, b, c1, 4, rfl, hp1, by decide, by decide, fun n2 a2 c2 n20 n21 => ?_⟩
    obtain ⟨l0, rfl⟩ := Int.eq_ofNat_of_zero_le n20
    have hl : l0 < 4 := by omega
    have hp2 : upd H1 p (WellL a2 b c2) p = some (WellL a2 b c2) := upd_same
    have k2 : Kp p H (upd H1 p (WellL a2 b c2)) := k1.trans Kp.upd
    generalize upd H1 p (WellL a2 b c2) = H2 at hp2 k2 ⊢
    refine ⟨_, rfl, p, a2, b, c2, 8, rfl, hp2, by decide, by decide, fun n3 a3 c3 n30 n31 => ?_⟩
    obtain ⟨m0, rfl⟩ := Int.eq_ofNat_of_zero_le n30
    have hm : m0 < 8 := by omega
    have hp3 : upd H2 p (WellL a3 b c3) p = some (WellL a3 b c3) := upd_same
    have k3 : Kp p H (upd H2 p (WellL a3 b c3)) := k2.trans Kp.upd
    generalize upd H2 p (WellL a3 b c3) = H3 at hp3 k3 ⊢
    refine ⟨(by show 3 ≤ sizeLine; decide), fun t ht => ?_⟩
    have npt : t ≠ p := fun e => by rw [e, hp3] at ht; cases ht
    refine ⟨t, _, rfl, .inl (.inl upd_same), rfl, _, _, rfl, _, _, rfl, _, _, rfl, rfl, ?_⟩
    have hp4 : upd H3 t (.tup [V.int (1 + (s0 : Int)), V.int (l0 : Int), V.int (m0 : Int)]) p = some (WellL a3 b c3) := same_upd ht _ _ hp3
    have k4 : Kp p H (upd H3 t (.tup [V.int (1 + (s0 : Int)), V.int (l0 : Int), V.int (m0 : Int)])) := k3.trans fun b o e _ => same_upd ht _ _ e
    have eS : V.int (1 + (s0 : Int)) = V.int ((s0 : Int) + 1) := congrArg V.int (by omega)
    generalize upd H3 t (.tup [V.int (1 + (s0 : Int)), V.int (l0 : Int), V.int (m0 : Int)]) = H4 at hp4 k4 ⊢
    refine ⟨_, rfl, _, rfl, _, rfl, p, a3, b, c3, s0, l0, congrArg (fun x => [V.ref p, x, vN l0]) eS, hp4, hs, hl, fun D1 xs a5 c5 H5 k5 hp5 nD1 gD1 hx lx => ?_⟩
    refine ⟨_, rfl, _, rfl, _, rfl, p, a5, b, c5, s0, l0, congrArg (fun x => [V.ref p, x, vN l0]) eS, hp5, hs, hl, fun D2 ys a6 c6 H6 k6 hp6 nD2 gD2 hy ly => ?_⟩
    have k6' := (k4.trans k5).trans k6
    have nD1p : D1 ≠ p := fun e => by rw [e, hp4] at nD1; cases nD1
    have nD2p : D2 ≠ p := fun e => by rw [e, hp5] at nD2; cases nD2
    have gD1' := k6 _ _ gD1 nD1p
    refine ⟨_, _, rfl, ?_⟩
    refine ⟨_, rfl, _, rfl, D1, D2, _, _, rfl, .inl (.inl gD1'), .inl (.inl gD2), fun D3 hD3 => ?_⟩
    have nD3p : D3 ≠ p := fun e => by rw [e, hp6] at hD3; cases hD3
    refine lc_it (walk_zip (K := K) (a := D1) (b := D2) (xs := xs.map vN) (ys := ys.map vN) (n := xs.length) (by rw [List.length_map, List.length_map]; omega))
      (fun i H' => Same H6 H' ∧ H' D3 = some (.lst (((List.range i).map fun k => gd xs k ^^^ gd ys k).map vN)))
      ⟨same_upd hD3, upd_same⟩ (fun i H' _ h => ⟨.inl (.inl (h.1 _ _ gD1')), .inl (.inl (h.1 _ _ gD2))⟩) ?_ ?_
    · rintro i x H7 H8 hi ⟨sm, g3⟩ ⟨T1, x1, y1, rfl, hT, rfl, e3, e4⟩
      have ex : x1 = vN (gd xs i) := by
        have e5 : (xs.map vN)[i]? = some x1 := e3
        rw [List.getElem?_map, gd_in (by omega)] at e5
        exact (Option.some.inj e5).symm
      have ey : y1 = vN (gd ys i) := by
        have e5 : (ys.map vN)[i]? = some y1 := e4
        rw [List.getElem?_map, gd_in (by omega)] at e5
        exact (Option.some.inj e5).symm
      subst ex
      subst ey
      have sT := same_upd (o := .tup [vN (gd xs i), vN (gd ys i)]) hT
      refine ⟨T1, [_, _], rfl, .inl (.inl upd_same), rfl, _, [_], rfl, _, [], rfl, rfl, rfl, ?_⟩
      refine ⟨_, rfl, _, rfl, _, _, rfl, rfl, _, sT _ _ g3, ?_, fun c o hc => ?_, ?_⟩
      · simp only [List.length_map, List.length_range]
        have := data_le hs hl
        exact small1000 (by omega)
      · rw [upd_ne (ne_of_none hc hD3)]
        exact sT _ _ (sm _ _ hc)
      · rw [upd_same, List.range_succ, List.map_append, List.map_append]
        show some (HO.lst (_ ++ [V.int (Builtin.bitXor _ _)])) = _
        rw [bx]
        rfl
    rintro H7 ⟨s7, g3⟩
    have gD3 : H7 D3 = some (.lst ((zx xs ys).map vN)) := g3
    clear g3
    have hp7 := s7 _ _ hp6
    have gD17 := s7 _ _ gD1'
    have gD27 := s7 _ _ gD2
    have k7 := k6'.trans (fun b o e _ => s7 _ _ e : Kp p H6 H7)
    clear k1 k2 k3 k4 k5 k6 k6' hp1 hp2 hp3 hp4 hp5 gD1 gD1'
    refine ⟨(by show 1 ≤ sizeLine; decide), fun p0 hp0 => ?_⟩
    have s8 := same_upd (o := .lst [V.int 0]) hp0
    have gp0 : upd H7 p0 (.lst [V.int 0]) p0 = some (.lst [V.int 0]) := upd_same
    generalize upd H7 p0 (.lst [V.int 0]) = H8 at s8 gp0 ⊢
    have hdl := data_le hs hl
    have lxv : (xs.map vN).length = dataF s0 l0 := (List.length_map ..).trans lx
    refine ⟨_, rfl, D1, xs.map vN, rfl, .inl (.inl (.inl (s8 _ _ gD17))), ?_⟩
    rw [lxv]
    refine ⟨p0, ((dataF s0 l0 : Nat) : Int), [V.int 0], rfl, rfl, gp0, by omega, by omega, ?_, fun Z hZ => ?_⟩
    · rw [Int.toNat_natCast]
      exact Nat.le_trans (m := 1000) (by show 1 * _ ≤ _; omega) (by decide)
    have er : (List.replicate (((dataF s0 l0 : Nat) : Int)).toNat [V.int 0]).flatten = (List.replicate (dataF s0 l0) 0).map vN := by
      rw [Int.toNat_natCast, List.flatten_replicate_singleton, List.map_replicate]
      rfl
    rw [er]
    have s9 : Same H7 (upd H8 Z (.lst ((List.replicate (dataF s0 l0) 0).map vN))) := fun c o hc => same_upd hZ _ _ (s8 _ _ hc)
    have gZ : upd H8 Z (.lst ((List.replicate (dataF s0 l0) 0).map vN)) Z = some (.lst ((List.replicate (dataF s0 l0) 0).map vN)) := upd_same
    generalize upd H8 Z (.lst ((List.replicate (dataF s0 l0) 0).map vN)) = H9 at s9 gZ ⊢
    clear er gp0 s8 hZ hp0
    refine ⟨_, rfl, _, rfl, _, rfl, (by show 4 ≤ sizeLine; decide), fun t2 ht2 => ?_⟩
    have s10 := same_upd (o := .tup [V.ref Z, V.ref D1, V.ref D2, V.ref D3]) ht2
    have gt2 : upd H9 t2 (.tup [V.ref Z, V.ref D1, V.ref D2, V.ref D3]) t2 = some (.tup [V.ref Z, V.ref D1, V.ref D2, V.ref D3]) := upd_same
    refine ⟨t2, _, false, rfl, .inl (.inl gt2), fun D4 hD4 => ?_⟩
    generalize upd H9 t2 (.tup [V.ref Z, V.ref D1, V.ref D2, V.ref D3]) = H10 at s10 gt2 hD4 ⊢
    have s79 : Same H7 H10 := fun c o hc => s10 _ _ (s9 _ _ hc)
    have hp10 := s79 _ _ hp7
    have nD4p : D4 ≠ p := fun e => by rw [e, hp10] at hD4; cases hD4
    have wz : ∀ x ∈ List.replicate (dataF s0 l0) 0, x < span (bitsF s0) := fun x h => by
      rw [(List.mem_replicate.mp h).2]
      rcases bits_wd hs with h | h <;> rw [h] <;> decide
    have wb : ∀ x ∈ zx xs ys, x < span (bitsF s0) := x4_ws hs hx hy
    have lz : (List.replicate (dataF s0 l0) 0).length = dataF s0 l0 := List.length_replicate ..
    have lb : (zx xs ys).length = dataF s0 l0 := (zx_len _ _).trans lx
    have all4 : ∀ (j : Nat) (v : V), [V.ref Z, V.ref D1, V.ref D2, V.ref D3][j]? = some v → ∃ (A : Addr) (ds : List Nat), v = .ref A ∧ H10 A = some (.lst (ds.map vN)) ∧ [List.replicate (dataF s0 l0) 0, xs, ys, zx xs ys][j]? = some ds ∧ (∀ x ∈ ds, x < span (bitsF s0)) ∧ ds.length = dataF s0 l0 := fun j v e => by
      match j, e with
      | 0, e => exact ⟨Z, _, (Option.some.inj e).symm, s10 _ _ gZ, rfl, wz, lz⟩
      | 1, e => exact ⟨D1, _, (Option.some.inj e).symm, s79 _ _ gD17, rfl, hx, lx⟩
      | 2, e => exact ⟨D2, _, (Option.some.inj e).symm, s79 _ _ gD27, rfl, hy, ly⟩
      | 3, e => exact ⟨D3, _, (Option.some.inj e).symm, s79 _ _ gD3, rfl, wb, lb⟩
      | j + 4, e => cases e
    refine lc_it (walk_seq (b := false) (K := K) (a := t2) (xs := [V.ref Z, V.ref D1, V.ref D2, V.ref D3])) (fun j H' => ∃ Ls : List Addr, Same H10 H' ∧ H' D4 = some (.lst (Ls.map V.ref)) ∧ Ls.length = j ∧ ∀ (i : Nat) (lp : Addr) (ds : List Nat), Ls[i]? = some lp → [List.replicate (dataF s0 l0) 0, xs, ys, zx xs ys][i]? = some ds → GrP [p, D4] H' lp (symF s0 l0 m0 ds)) ⟨[], same_upd hD4, upd_same, rfl, fun i lp ds e => by cases e⟩ (fun j H' _ h => ?_) ?_ ?_
    · obtain ⟨_, s11, _⟩ := h
      exact .inl (.inl (s11 _ _ gt2))
    · rintro j v H11 H12 hj ⟨Ls, s11, gD4, lLs, hgr⟩ ⟨rfl, e2⟩
      obtain ⟨A, ds, rfl, gA, ed, wd, ld⟩ := all4 j v e2
      refine ⟨rfl, ?_⟩
      refine ⟨_, rfl, _, rfl, _, rfl, _, rfl, s0, l0, m0, A, true, ds, congrArg (fun x => [x, vN l0, vN m0, V.ref A]) eS, hs, hl, hm, .inl (.inl (s11 _ _ gA)), wd, ld, fun G H13 fr => ?_⟩
      have s13 := fr.same0
      refine ⟨_, s13 _ _ gD4, ?_, Ls ++ [G], fun c o hc => ?_, ?_, ?_, fun i lp ds' e3 e4 => ?_⟩
      · rw [List.length_map, lLs]
        have hj : j < 4 := hj
        exact small1000 (by omega)
      · rw [upd_ne (ne_of_none hc hD4)]
        exact s13 _ _ (s11 _ _ hc)
      · rw [upd_same, List.map_append]
        rfl
      · rw [List.length_append, lLs]
        rfl
      · have kD : Kp D4 H13 (upd H13 D4 (.lst (Ls.map V.ref ++ [V.ref G]))) := Kp.upd
        by_cases hi : i < j
        · rw [List.getElem?_append_left (by omega)] at e3
          exact ((hgr i lp ds' e3 e4).same s13).kp (by simp) kD
        · have hi2 := (List.getElem?_eq_some_iff.mp e3).1
          rw [List.length_append, lLs] at hi2
          have ei : i = j := by simp at hi2; omega
          subst ei
          rw [List.getElem?_append_right (by omega), lLs, Nat.sub_self] at e3
          cases e3
          rw [ed] at e4
          cases e4
          refine (GrP.of fr fun q hq => ?_).kp (by simp) kD
          rcases List.mem_cons.mp hq with rfl | hq
          · exact ⟨_, s11 _ _ hp10⟩
          · rw [List.mem_singleton.mp hq]
            exact ⟨_, gD4⟩
    rintro H11 ⟨Ls, s11, gD4, lLs, hgr⟩
    clear all4 hD4 gt2 ht2 hD3
    have hp11 := s11 _ _ hp10
    have s711 : Same H7 H11 := fun c o hc => s11 _ _ (s79 _ _ hc)
    refine ⟨_, rfl, D4, _, true, rfl, .inl (.inl gD4), fun D5 hD5 => ?_⟩
    have lLs : Ls.length = 4 := lLs
    refine lc_it (walk_seq (b := true) (K := K) (a := D4) (xs := Ls.map V.ref)) (fun j H' => Same H11 H' ∧ H' D5 = some (.lst ((([List.replicate (dataF s0 l0) 0, xs, ys, zx xs ys].take j).map fun ds => numG (symF s0 l0 m0 ds)).map vN))) ⟨same_upd hD5, upd_same⟩ (fun j H' _ h => .inl (.inl (h.1 _ _ gD4))) ?_ ?_
    · rintro j v H12 H13 hj ⟨s12, gD5⟩ ⟨rfl, e2⟩
      rw [List.length_map, lLs] at hj
      have eL : Ls[j]? = some (Ls[j]'(by omega)) := List.getElem?_eq_getElem _
      rw [List.getElem?_map, eL] at e2
      cases e2
      have ed : [List.replicate (dataF s0 l0) 0, xs, ys, zx xs ys][j]? = some ([List.replicate (dataF s0 l0) 0, xs, ys, zx xs ys][j]'(by show j < 4; exact hj)) := List.getElem?_eq_getElem _
      generalize [List.replicate (dataF s0 l0) 0, xs, ys, zx xs ys][j]'(by show j < 4; exact hj) = ds at ed
      refine ⟨rfl, ?_⟩
      refine ⟨_, rfl, _, _, rfl, ((hgr j _ ds eL ed).same s12).gr, sym_full hs hm, ?_⟩
      refine ⟨_, gD5, ?_, fun c o hc => ?_, ?_⟩
      · rw [List.length_map, List.length_map, List.length_take]
        exact small1000 (by omega)
      · rw [upd_ne (ne_of_none hc hD5)]
        exact s12 _ _ hc
      · rw [upd_same, List.take_add_one, ed, List.map_append, List.map_append]
        rfl
    rintro H12 ⟨s12, gD5⟩
    have gD5 : H12 D5 = some (.lst [vN (numG (symF s0 l0 m0 (List.replicate (dataF s0 l0) 0))), vN (numG (symF s0 l0 m0 xs)), vN (numG (symF s0 l0 m0 ys)), vN (numG (symF s0 l0 m0 (zx xs ys)))]) := by
      rw [List.length_map, lLs] at gD5
      exact gD5
    have nx := num_xor hs hl hm wz hx hy lz lx ly
    have ez : x4F (List.replicate (dataF s0 l0) 0) xs ys = zx xs ys := by
      unfold x4F
      rw [zx_noughts lx]
    rw [ez] at nx
    have ni : numG (symF s0 l0 m0 xs) = numG (symF s0 l0 m0 ys) ↔ xs = ys := ⟨fun e => sym_inj hs hl hm hx hy lx ly e, fun e => by rw [e]⟩
    generalize numG (symF s0 l0 m0 (List.replicate (dataF s0 l0) 0)) = N0 at nx gD5
    generalize numG (symF s0 l0 m0 xs) = N1 at nx gD5 ni
    generalize numG (symF s0 l0 m0 ys) = N2 at nx gD5 ni
    generalize numG (symF s0 l0 m0 (zx xs ys)) = N3 at nx gD5
    have hN : SqL K H12 D5 [vN N0, vN N1, vN N2, vN N3] := .inl (.inl gD5)
    refine ⟨_, rfl, D5, _, 3, vN N3, rfl, rfl, hN, rfl, _, rfl, D5, _, 0, vN N0, rfl, rfl, hN, rfl, _, rfl, D5, _, 1, vN N1, rfl, rfl, hN, rfl, _, _, rfl, rfl, _, rfl, D5, _, 2, vN N2, rfl, rfl, hN, rfl, _, _, rfl, rfl, ?_⟩
    have d1 : (!decide (vN N3 = V.int (Builtin.bitXor (Builtin.bitXor (N0 : Int) (N1 : Int)) (N2 : Int)))) = false := by
      rw [bx, bx, ← nx]
      show (!decide (vN N3 = vN N3)) = false
      rw [decide_eq_true rfl]
      rfl
    refine ⟨rfl, _, rfl, ?_⟩
    rw [show (!decide (vN N3 = (fun i j : Int => V.int (Builtin.bitXor i j)) (Builtin.bitXor (N0 : Int) (N1 : Int)) (N2 : Int))) = false from d1]
    refine iteF ?_
    have s712 : Same H7 H12 := fun c o hc => s12 _ _ (s711 _ _ hc)
    have d2 : decide (vN N1 = vN N2) = decide (xs = ys) := by
      by_cases h : xs = ys
      · rw [decide_eq_true h, ni.mpr h, decide_eq_true rfl]
      · rw [decide_eq_false h, decide_eq_false fun z => h (ni.mp (by have := V.int.inj z; omega))]
    refine ⟨_, rfl, D5, _, 1, vN N1, rfl, rfl, hN, rfl, _, rfl, D5, _, 2, vN N2, rfl, rfl, hN, rfl, rfl, ?_⟩
    rw [d2]
    refine ⟨_, rfl, _, rfl, dN xs, dN ys, dN_dp (.inl (.inl (s712 _ _ gD17))), dN_dp (.inl (.inl (s712 _ _ gD27))), dN_shaped _, dN_shaped _, ?_⟩
    rw [dN_eqv]
    refine ⟨rfl, _, rfl, ?_⟩
    rw [show (!decide (V.bl (decide (xs = ys)) = V.bl (decide (xs = ys)))) = false by rw [decide_eq_true rfl]; rfl]
    refine iteF ?_
    clear d1 d2 ni nx hN gD5 N0 N1 N2 N3
    have hp12 := s12 _ _ hp11
    have gr12 : GrsB K H12 Ls s0 l0 m0 [List.replicate (dataF s0 l0) 0, xs, ys, zx xs ys] := ⟨lLs, fun i lp ds e1 e2 => ((hgr i lp ds e1 e2).same s12).gr⟩
    refine ⟨_, rfl, _, rfl, _, rfl, _, rfl, s0, l0, m0, D4, Ls, _, congrArg (fun x => [x, vN l0, vN m0, V.ref D4]) eS, hs, hl, hm, s12 _ _ gD4, gr12, (by show 4 ≤ 100; decide), fun H13 s13 => ?_⟩
    refine ⟨_, rfl, ?_⟩
    refine iteF ?_
    have hp13 := s13 _ _ hp12
    refine ⟨_, rfl, _, _, rfl, rfl, _, rfl, p, a6, b, c6, 7, rfl, hp13, by decide, by decide, fun n4 a7 c7 n40 n41 => ?_⟩
    obtain ⟨n5, rfl⟩ := Int.eq_ofNat_of_zero_le n40
    have hp14 : upd H13 p (WellL a7 b c7) p = some (WellL a7 b c7) := upd_same
    have k14 : Kp p H13 (upd H13 p (WellL a7 b c7)) := Kp.upd
    generalize upd H13 p (WellL a7 b c7) = H14 at hp14 k14 ⊢
    refine ⟨_, _, rfl, rfl, .inl ⟨_, rfl, _, _, rfl, rfl, (show (0 : Int) < 8 by decide), ?_⟩⟩
    have em : ∃ m1 : Nat, m1 < 8 ∧ V.int (((m0 : Int) + 1 + (n5 : Int)) % 8) = vN m1 := ⟨(m0 + 1 + n5) % 8, Nat.mod_lt _ (by decide), congrArg V.int (by omega)⟩
    obtain ⟨m1, hm1, em⟩ := em
    rw [show (fun i j : Int => V.int (i % j)) ((m0 : Int) + 1 + (n5 : Int)) 8 = vN m1 from em]
    have k713 : Kp p H7 H14 := (fun c o e n => k14 _ _ (s13 _ _ (s712 _ _ e)) n)
    have gD114 := k713 _ _ gD17 nD1p
    have hgr14 : ∀ (i : Nat) (lp : Addr) (ds : List Nat), Ls[i]? = some lp → [List.replicate (dataF s0 l0) 0, xs, ys, zx xs ys][i]? = some ds → GrP [p, D4] H14 lp (symF s0 l0 m0 ds) := fun i lp ds e1 e2 => (((hgr i lp ds e1 e2).same s12).same s13).kp (by simp) k14
    have gD414 := k14 _ _ (s13 _ _ (s12 _ _ gD4)) nD4p
    refine ⟨_, rfl, _, rfl, _, rfl, _, rfl, s0, l0, m1, D1, true, xs, congrArg (fun x => [x, vN l0, vN m1, V.ref D1]) eS, hs, hl, hm1, .inl (.inl gD114), hx, lx, fun G H15 fr => ?_⟩
    have s15 := fr.same0
    have gG := fr.gr (K := K)
    refine ⟨_, rfl, _, rfl, _, rfl, s0, l0, m0, congrArg (fun x => [x, vN l0, vN m0]) eS, hs, hl, hm, fun M1 mm1 H16 s16 nM1 pm1 gM1 => ?_⟩
    refine ⟨_, rfl, _, rfl, _, rfl, s0, l0, m1, congrArg (fun x => [x, vN l0, vN m1]) eS, hs, hl, hm1, fun M2 mm2 H17 s17 nM2 pm2 gM2 => ?_⟩
    refine ⟨(by show 2 ≤ sizeLine; decide), fun FB hFB => ?_⟩
    have s18 := same_upd (o := .lst [V.ref M1, V.ref M2]) hFB
    have gFB : upd H17 FB (.lst [V.ref M1, V.ref M2]) FB = some (.lst [V.ref M1, V.ref M2]) := upd_same
    generalize upd H17 FB (.lst [V.ref M1, V.ref M2]) = H18 at s18 gFB ⊢
    refine ⟨_, rfl, s0, congrArg (fun x => [x]) eS, hs, fun AR H19 s19 nAR gAR => ?_⟩
    refine ⟨_, rfl, s0, congrArg (fun x => [x]) eS, hs, fun DL LD H20 s20 nDL gDL spD => ⟨DL, rfl, ⟨_, .inl (.inl gDL)⟩, ?_⟩⟩
    have s1520 : Same H15 H20 := fun c o hc => s20 _ _ (s19 _ _ (s18 _ _ (s17 _ _ (s16 _ _ hc))))
    have kall : Kp p H H20 := fun c o e n => s1520 _ _ (s15 _ _ (k713 _ _ (k7 _ _ e n) n))
    refine for_it (walk_list (K := K) (a := DL) (xs := LD.map V.ref)) (fun i σ H' => ∃ (z13 z14 z15 z16 z17 z18 z19 : Option V), σ = [some (.ref p), some (V.int (1 + (s0 : Int))), some (vN l0), some (vN m0), some (.ref D1), some (.ref D2), some (.ref D3), some (.ref D4), some (.ref D5), some (vN m1), some (.ref G), some (.ref FB), some (.ref AR), z13, z14, z15, z16, z17, z18, z19] ∧ Same H20 H') ⟨_, _, _, _, _, _, _, rfl, Same.refl _⟩ (fun i σ H' _ ⟨_, _, _, _, _, _, _, _, sm⟩ => .inl (.inl (sm _ _ gDL))) ?_ ?_
    · rintro i v σ H21 H22 hi ⟨z13, z14, z15, z16, z17, z18, z19, rfl, sm⟩ ⟨rfl, e2⟩
      rw [List.length_map] at hi
      have hLd : i < (allD (sdF s0)).length := by rw [← spD.len]; exact hi
      have eu : (allD (sdF s0))[i]? = some ((allD (sdF s0))[i]'hLd) := List.getElem?_eq_getElem _
      generalize (allD (sdF s0))[i]'hLd = qq at eu
      obtain ⟨r0, c0⟩ := qq
      obtain ⟨hr0, hc0⟩ := allD_in (List.mem_of_getElem? eu)
      have hr0 : r0 < sdF s0 := hr0
      have hc0 : c0 < sdF s0 := hc0
      have hsd : 8 ≤ sdF s0 ∧ sdF s0 ≤ 24 := side_le (sd_ok hs)
      have eL : LD[i]? = some LD[i] := List.getElem?_eq_getElem hi
      rw [List.getElem?_map, eL] at e2
      cases e2
      have hpd : H22 LD[i] = some (.tup ((kP (kI (r0, c0))).map kV)) := sm _ _ (spD.at' _ _ _ eL eu)
      generalize LD[i] = pd at hpd
      have hpt : SqB false K H22 pd [vN r0, vN c0] := .inl (.inl hpd)
      have hpT : SqT K H22 pd [vN r0, vN c0] := .inl (.inl hpd)
      have s1522 : Same H15 H22 := fun c o hc => sm _ _ (s1520 _ _ hc)
      have gG22 := gG.same s1522
      have eL1 : Ls[1]? = some (Ls[1]'(by omega)) := List.getElem?_eq_getElem _
      have gr1 := ((hgr14 1 _ xs eL1 rfl).same (fun c o hc => s1522 _ _ (s15 _ _ hc))).gr (K := K)
      generalize Ls[1]'(by omega) = lp1 at eL1 gr1
      have hLs : SqL K H22 D4 (Ls.map V.ref) := .inl (.inl (s1522 _ _ (s15 _ _ gD414)))
      have hat1 : atI (Ls.map V.ref) 1 = some (.ref lp1) := atI_nat (j := 1) (by rw [List.getElem?_map, eL1]; rfl)
      obtain ⟨LLa, rpa, rowa, a1', a2', a3', a4'⟩ := gr_at hs hm1 gG22 hr0 hc0
      obtain ⟨LLb, rpb, rowb, b1', b2', b3', b4'⟩ := gr_at hs hm gr1 hr0 hc0
      have gAR22 := sm _ _ (s20 _ _ gAR)
      have gM122 := sm _ _ (s20 _ _ (s19 _ _ (s18 _ _ (s17 _ _ gM1))))
      have gM222 := sm _ _ (s20 _ _ (s19 _ _ (s18 _ _ gM2)))
      have gFB22 : SqL K H22 FB [V.ref M1, V.ref M2] := .inl (.inl (sm _ _ (s20 _ _ (s19 _ _ gFB))))
      refine ⟨_, rfl, _, rfl, pd, _, 0, vN r0, false, rfl, rfl, hpt, rfl, G, _, (r0 : Int), _, rfl, rfl, a1', a2', _, rfl, pd, _, 1, vN c0, false, rfl, rfl, hpt, rfl, rpa, _, (c0 : Int), _, rfl, rfl, a3', a4', _, rfl, D4, _, 1, _, rfl, rfl, hLs, hat1, _, rfl, pd, _, 0, vN r0, false, rfl, rfl, hpt, rfl, lp1, _, (r0 : Int), _, rfl, rfl, b1', b2', _, rfl, pd, _, 1, vN c0, false, rfl, rfl, hpt, rfl, rpb, _, (c0 : Int), _, rfl, rfl, b3', b4', _, _, rfl, rfl, ?_⟩
      rw [show (fun i j : Int => V.int (Builtin.bitXor i j)) ((symV s0 l0 m1 xs (r0, c0) : Nat) : Int) ((symV s0 l0 m0 xs (r0, c0) : Nat) : Int) = vN (symV s0 l0 m1 xs (r0, c0) ^^^ symV s0 l0 m0 xs (r0, c0)) from congrArg V.int (bx _ _)]
      refine ⟨_, rfl, _, rfl, pd, m0, r0, c0, rfl, hpT, hm, by omega, by omega, _, rfl, _, rfl, pd, m1, r0, c0, rfl, hpT, hm1, by omega, by omega, _, _, rfl, rfl, ?_⟩
      rw [show (fun i j : Int => V.int (Builtin.bitXor i j)) (if ruleF m0 (r0 : Int) (c0 : Int) = true then 1 else 0) (if ruleF m1 (r0 : Int) (c0 : Int) = true then 1 else 0) = vN ((if ruleF m0 (r0 : Int) (c0 : Int) = true then 1 else 0) ^^^ (if ruleF m1 (r0 : Int) (c0 : Int) = true then 1 else 0)) from congrArg V.int (rule_xor _ _)]
      refine ⟨_, rfl, _, rfl, AR, _, rfl, .inr ⟨_, kP (kI (r0, c0)), pd, .inl gAR22, rfl, hpd, rfl⟩, _, rfl, ?_⟩
      rw [valV_dP, Option.isSome_map, bd_look]
      by_cases hbd : (r0, c0) ∈ bdL (sdF s0 - 1)
      · rw [decide_eq_true hbd]
        refine iteT ?_
        refine ⟨_, rfl, _, rfl, rfl, _, rfl, ?_⟩
        rw [show (!decide (vN (symV s0 l0 m1 xs (r0, c0) ^^^ symV s0 l0 m0 xs (r0, c0)) = V.int 0)) = false by
          rw [bd_chg xs hs hm hm1 hbd]
          show (!decide (vN 0 = vN 0)) = false
          rw [decide_eq_true rfl]
          rfl]
        refine iteF ?_
        exact ⟨_, _, _, _, _, _, _, rfl, sm⟩
      rw [decide_eq_false hbd]
      refine iteF ?_
      refine ⟨_, rfl, _, rfl, FB, _, 0, .ref M1, rfl, rfl, gFB22, rfl, M1, _, rfl, .inr ⟨_, kP (kI (r0, c0)), pd, .inl gM122, rfl, hpd, rfl⟩, _, rfl, ?_⟩
      by_cases hus : (r0, c0) ∈ usedF (sdF s0)
      · have lk1 := fd_look xs hs hm pm1 hus
        have lk2 := fd_look xs hs hm1 pm2 hus
        rw [valV_dP, lk1]
        refine iteT ?_
        refine ⟨_, rfl, FB, _, 0, .ref M1, rfl, rfl, gFB22, rfl, _, rfl, M1, vN (symV s0 l0 m0 xs (r0, c0)), rfl, .inr ⟨_, kP (kI (r0, c0)), pd, .inl gM122, rfl, hpd, (by rw [valV_dP, lk1]; rfl)⟩, _, rfl, FB, _, 1, .ref M2, rfl, rfl, gFB22, rfl, _, rfl, M2, vN (symV s0 l0 m1 xs (r0, c0)), rfl, .inr ⟨_, kP (kI (r0, c0)), pd, .inl gM222, rfl, hpd, (by rw [valV_dP, lk2]; rfl)⟩, _, _, rfl, rfl, ?_⟩
        rw [show (fun i j : Int => V.int (Builtin.bitXor i j)) ((symV s0 l0 m0 xs (r0, c0) : Nat) : Int) ((symV s0 l0 m1 xs (r0, c0) : Nat) : Int) = vN (symV s0 l0 m0 xs (r0, c0) ^^^ symV s0 l0 m1 xs (r0, c0)) from congrArg V.int (bx _ _)]
        refine ⟨_, rfl, _, rfl, rfl, _, rfl, ?_⟩
        rw [vN_ne, Nat.xor_comm, decide_eq_true rfl]
        refine iteF ?_
        exact ⟨_, _, _, _, _, _, _, rfl, sm⟩
      · rw [valV_dP, fd_out hs pm1 hus]
        refine iteF ?_
        refine ⟨_, rfl, _, rfl, rfl, _, rfl, ?_⟩
        rw [vN_ne, chg_word hs hm hm1 hr0 hc0 (word_pl hs hr0 hc0 hbd hus), decide_eq_true rfl]
        refine iteF ?_
        exact ⟨_, _, _, _, _, _, _, rfl, sm⟩
    · rintro σ H21 ⟨z13, z14, z15, z16, z17, z18, z19, rfl, sm⟩
      exact q H21 fun c o e n => sm _ _ (kall _ _ e n)
/-! CUT -/
def sp_law (K : PySem.W.Frag) : Sp := fun vs H Q _ => ∃ (a : Addr) (ns : List Int), vs = [.ref a] ∧ SqL K H a (ns.map V.int) ∧ ns.length ≤ 63 ∧ ∀ H', Q (.bl true) H'
theorem ok_law (T : Txt K mg) : FnOk P w K mg base CX0 12 T.f_law T.d_law ["_law_script"] (sp_law K) := by
  refine T.F_law.ok sc_law (fun vs H Q E h => ?_) (fun cdv A outer s H vs Q E hr h => ?_)
  · obtain ⟨a, ns, rfl, _⟩ := h
    rfl
  · obtain ⟨a, ns, rfl, hS, hlen, q⟩ := h
    refine ⟨_, (pss_cons (ps_for PassesOwn.never rfl (pi_enum (by rfl) T.n_enumerate (pa_cons (pe_slice sl_list (pe_op op_catL (pv 0) (pe_lst (pa_cons pe_int pa_nil))) po_none (po_some pe_int)) pa_nil)) (pg_tup rfl (pgs_cons (pg_name (i := 1) sc_law.nd rfl (.inl rfl)) (pgs_cons (pg_name (i := 2) sc_law.nd rfl (.inl rfl)) pgs_nil))) (pss_cons (ps_set (i := 3) sc_law.nd rfl (.inl rfl) (pe_lst (pa_cons (pe_op op_mul (pv 2) (pe_callTy call_int1 (by rfl) T.n_int (by decide +kernel) (pa_cons (pe_cmpR op_ge (pv 2) (pe_op op_pow pe_int pe_int) (nomark _)) pa_nil))) (pa_cons (pe_op op_add (pe_op op_mod (pe_callTy call_int1 (by rfl) T.n_int (by decide +kernel) (pa_cons (pv 2) pa_nil)) pe_int) (pe_op op_mul pe_int (pv 1))) (pa_cons pe_int pa_nil)))))
      (pss_one (ps_if (pt_not (pt_val (pe_call (ok__law_right T) (hr.mono (by decide)) (by rfl) T.g__law_right T.F__law_right.kp T.b__law_right .nil pass0 (pa_cons (pv 3) pa_nil)))) (pss_one (ps_ret pe_bl)) pss_nil))))
      (pss_one (ps_ret pe_bl))), ?_⟩
    refine ⟨_, rfl, (by show 1 ≤ sizeLine; decide), fun p3 hp3 => ?_⟩
    have hS4 : SqL K (upd H p3 (.lst [.int 0])) a (ns.map V.int) := (same_upd hp3).seq hS
    refine ⟨a, p3, _, _, rfl, rfl, hS4, .inl (.inl upd_same), ?_, fun p4 hp4 => ?_⟩
    · rw [List.length_map]
      exact Nat.le_of_lt (small1000 (by show ns.length + 1 ≤ 1000; omega))
    refine ⟨4, rfl, p4, _, rfl, .inl (.inl upd_same), fun p5 hp5 => ?_⟩
    refine ⟨p5, _, rfl, .inl (.inl upd_same), ?_⟩
    refine for_it (walk_enum (K := K) (a := p5) (xs := cutV (ns.map V.int ++ [.int 0]) none (some 4))) (fun i σ H' => ∃ z1 z2 z3 : Option V, σ = [some (.ref a), z1, z2, z3] ∧ H' p5 = some (.lst (cutV (ns.map V.int ++ [.int 0]) none (some 4))))
      ⟨_, _, _, rfl, upd_same⟩ (fun i σ H' _ ⟨_, _, _, _, h5⟩ => .inl (.inl h5)) ?_ ?_
    · rintro i x σ H4 H5 hi ⟨z1, z2, z3, rfl, h54⟩ ⟨T1, x1, y1, rfl, hT, rfl, e1, e2⟩
      have ex1 : x1 = .int (i : Int) := (Option.some.inj e1).symm
      subst ex1
      obtain ⟨cell, rfl⟩ : ∃ c, y1 = V.int c := by
        have hm := List.mem_of_getElem? e2
        have hm2 : y1 ∈ ns.map V.int ++ [.int 0] := List.mem_of_mem_drop (List.mem_of_mem_take hm)
        rcases List.mem_append.mp hm2 with h | h
        · obtain ⟨c, _, rfl⟩ := List.mem_map.mp h
          exact ⟨c, rfl⟩
        · simp at h
          exact ⟨_, h⟩
      refine ⟨T1, [.int (i : Int), .int cell], rfl, .inl (.inl upd_same), rfl, .int (i : Int), [.int cell], rfl, .int cell, [], rfl, rfl, ?_⟩
      refine ⟨_, rfl, _, rfl, _, _, rfl, rfl, ⟨by decide, by decide, by decide⟩, _, _, rfl, rfl, .inr ⟨_, rfl, _, _, rfl, rfl, .inr (by split <;> decide), _, rfl, .inl ⟨_, rfl, _, _, rfl, rfl, (show (0 : Int) < 2147483647 by decide), _, rfl, _, _, rfl, rfl, .inl (by decide), _, _, rfl, rfl, (by show 3 ≤ sizeLine; decide), fun p6 hp6 => ?_⟩⟩⟩
      have h56 := (same_upd (o := .tup [.int (i : Int), .int cell]) hT) _ _ h54
      have n65 : p5 ≠ p6 := ne_of_none h56 hp6
      refine ⟨_, rfl, p6, _, _, _, rfl, upd_same, fun H8 k8 => ⟨_, rfl, iteF ?_⟩⟩
      exact ⟨_, _, _, rfl, k8 _ _ ((same_upd hp6) _ _ h56) n65⟩
    · rintro σ H4 ⟨z1, z2, z3, rfl, h54⟩
      exact q _
end
theorem all_mk {P : Program} {w : World} {K : PySem.W.Frag} {h : Heap} {mg : Str → Option Value} {fa : Addr} (X : K.In h) (G : h.Ns mainGlobals mg) (hfa : mg "law" = some (.ref fa))
    {f0 : Addr} {od0 an0 : Option Addr} {sl0 : Array (Option Value)} {oc0 kV0 dc0 pm0 cd0 ct0 : Value}
    (a0 : PySem.W.nsIn K mainGlobals "is_number_to" = some (some (.ref f0)))
    (l0 : K.lookup f0 = some ⟨oc0, od0, .func (PySem.W.fnOf "is_number_to" "is_number_to" (defArgs s_is_number_to) (defBody s_is_number_to) (defScope s_is_number_to) .none kV0 dc0 pm0 an0 cd0 ct0), sl0⟩) (c0 : PySem.W.codeIn K cd0 "is_number_to" = true) (k0 : PySem.W.keepIn K (.ref f0) = true)
    {f1 : Addr} {od1 an1 : Option Addr} {sl1 : Array (Option Value)} {oc1 kV1 dc1 pm1 cd1 ct1 : Value}
    (a1 : PySem.W.nsIn K mainGlobals "is_word" = some (some (.ref f1)))
    (l1 : K.lookup f1 = some ⟨oc1, od1, .func (PySem.W.fnOf "is_word" "is_word" (defArgs s_is_word) (defBody s_is_word) (defScope s_is_word) .none kV1 dc1 pm1 an1 cd1 ct1), sl1⟩) (c1 : PySem.W.codeIn K cd1 "is_word" = true) (k1 : PySem.W.keepIn K (.ref f1) = true)
    {f2 : Addr} {od2 an2 : Option Addr} {sl2 : Array (Option Value)} {oc2 kV2 dc2 pm2 cd2 ct2 : Value}
    (a2 : PySem.W.nsIn K mainGlobals "is_row" = some (some (.ref f2)))
    (l2 : K.lookup f2 = some ⟨oc2, od2, .func (PySem.W.fnOf "is_row" "is_row" (defArgs s_is_row) (defBody s_is_row) (defScope s_is_row) .none kV2 dc2 pm2 an2 cd2 ct2), sl2⟩) (c2 : PySem.W.codeIn K cd2 "is_row" = true) (k2 : PySem.W.keepIn K (.ref f2) = true)
    {f3 : Addr} {od3 an3 : Option Addr} {sl3 : Array (Option Value)} {oc3 kV3 dc3 pm3 cd3 ct3 : Value}
    (a3 : PySem.W.nsIn K mainGlobals "are_plain_words" = some (some (.ref f3)))
    (l3 : K.lookup f3 = some ⟨oc3, od3, .func (PySem.W.fnOf "are_plain_words" "are_plain_words" (defArgs s_are_plain_words) (defBody s_are_plain_words) (defScope s_are_plain_words) .none kV3 dc3 pm3 an3 cd3 ct3), sl3⟩) (c3 : PySem.W.codeIn K cd3 "are_plain_words" = true) (k3 : PySem.W.keepIn K (.ref f3) = true)
    {f4 : Addr} {od4 an4 : Option Addr} {sl4 : Array (Option Value)} {oc4 kV4 dc4 pm4 cd4 ct4 : Value}
    (a4 : PySem.W.nsIn K mainGlobals "need_words" = some (some (.ref f4)))
    (l4 : K.lookup f4 = some ⟨oc4, od4, .func (PySem.W.fnOf "need_words" "need_words" (defArgs s_need_words) (defBody s_need_words) (defScope s_need_words) .none kV4 dc4 pm4 an4 cd4 ct4), sl4⟩) (c4 : PySem.W.codeIn K cd4 "need_words" = true) (k4 : PySem.W.keepIn K (.ref f4) = true)
    {f5 : Addr} {od5 an5 : Option Addr} {sl5 : Array (Option Value)} {oc5 kV5 dc5 pm5 cd5 ct5 : Value}
    (a5 : PySem.W.nsIn K mainGlobals "need_size" = some (some (.ref f5)))
    (l5 : K.lookup f5 = some ⟨oc5, od5, .func (PySem.W.fnOf "need_size" "need_size" (defArgs s_need_size) (defBody s_need_size) (defScope s_need_size) .none kV5 dc5 pm5 an5 cd5 ct5), sl5⟩) (c5 : PySem.W.codeIn K cd5 "need_size" = true) (k5 : PySem.W.keepIn K (.ref f5) = true)
    {f6 : Addr} {od6 an6 : Option Addr} {sl6 : Array (Option Value)} {oc6 kV6 dc6 pm6 cd6 ct6 : Value}
    (a6 : PySem.W.nsIn K mainGlobals "need_level" = some (some (.ref f6)))
    (l6 : K.lookup f6 = some ⟨oc6, od6, .func (PySem.W.fnOf "need_level" "need_level" (defArgs s_need_level) (defBody s_need_level) (defScope s_need_level) .none kV6 dc6 pm6 an6 cd6 ct6), sl6⟩) (c6 : PySem.W.codeIn K cd6 "need_level" = true) (k6 : PySem.W.keepIn K (.ref f6) = true)
    {f7 : Addr} {od7 an7 : Option Addr} {sl7 : Array (Option Value)} {oc7 kV7 dc7 pm7 cd7 ct7 : Value}
    (a7 : PySem.W.nsIn K mainGlobals "need_mask" = some (some (.ref f7)))
    (l7 : K.lookup f7 = some ⟨oc7, od7, .func (PySem.W.fnOf "need_mask" "need_mask" (defArgs s_need_mask) (defBody s_need_mask) (defScope s_need_mask) .none kV7 dc7 pm7 an7 cd7 ct7), sl7⟩) (c7 : PySem.W.codeIn K cd7 "need_mask" = true) (k7 : PySem.W.keepIn K (.ref f7) = true)
    {f8 : Addr} {od8 an8 : Option Addr} {sl8 : Array (Option Value)} {oc8 kV8 dc8 pm8 cd8 ct8 : Value}
    (a8 : PySem.W.nsIn K mainGlobals "block_sizes" = some (some (.ref f8)))
    (l8 : K.lookup f8 = some ⟨oc8, od8, .func (PySem.W.fnOf "block_sizes" "block_sizes" (defArgs s_block_sizes) (defBody s_block_sizes) (defScope s_block_sizes) .none kV8 dc8 pm8 an8 cd8 ct8), sl8⟩) (c8 : PySem.W.codeIn K cd8 "block_sizes" = true) (k8 : PySem.W.keepIn K (.ref f8) = true)
    {f9 : Addr} {od9 an9 : Option Addr} {sl9 : Array (Option Value)} {oc9 kV9 dc9 pm9 cd9 ct9 : Value}
    (a9 : PySem.W.nsIn K mainGlobals "word_count" = some (some (.ref f9)))
    (l9 : K.lookup f9 = some ⟨oc9, od9, .func (PySem.W.fnOf "word_count" "word_count" (defArgs s_word_count) (defBody s_word_count) (defScope s_word_count) .none kV9 dc9 pm9 an9 cd9 ct9), sl9⟩) (c9 : PySem.W.codeIn K cd9 "word_count" = true) (k9 : PySem.W.keepIn K (.ref f9) = true)
    {f10 : Addr} {od10 an10 : Option Addr} {sl10 : Array (Option Value)} {oc10 kV10 dc10 pm10 cd10 ct10 : Value}
    (a10 : PySem.W.nsIn K mainGlobals "word_bits" = some (some (.ref f10)))
    (l10 : K.lookup f10 = some ⟨oc10, od10, .func (PySem.W.fnOf "word_bits" "word_bits" (defArgs s_word_bits) (defBody s_word_bits) (defScope s_word_bits) .none kV10 dc10 pm10 an10 cd10 ct10), sl10⟩) (c10 : PySem.W.codeIn K cd10 "word_bits" = true) (k10 : PySem.W.keepIn K (.ref f10) = true)
    {f11 : Addr} {od11 an11 : Option Addr} {sl11 : Array (Option Value)} {oc11 kV11 dc11 pm11 cd11 ct11 : Value}
    (a11 : PySem.W.nsIn K mainGlobals "check_count" = some (some (.ref f11)))
    (l11 : K.lookup f11 = some ⟨oc11, od11, .func (PySem.W.fnOf "check_count" "check_count" (defArgs s_check_count) (defBody s_check_count) (defScope s_check_count) .none kV11 dc11 pm11 an11 cd11 ct11), sl11⟩) (c11 : PySem.W.codeIn K cd11 "check_count" = true) (k11 : PySem.W.keepIn K (.ref f11) = true)
    {f12 : Addr} {od12 an12 : Option Addr} {sl12 : Array (Option Value)} {oc12 kV12 dc12 pm12 cd12 ct12 : Value}
    (a12 : PySem.W.nsIn K mainGlobals "data_count" = some (some (.ref f12)))
    (l12 : K.lookup f12 = some ⟨oc12, od12, .func (PySem.W.fnOf "data_count" "data_count" (defArgs s_data_count) (defBody s_data_count) (defScope s_data_count) .none kV12 dc12 pm12 an12 cd12 ct12), sl12⟩) (c12 : PySem.W.codeIn K cd12 "data_count" = true) (k12 : PySem.W.keepIn K (.ref f12) = true)
    {f13 : Addr} {od13 an13 : Option Addr} {sl13 : Array (Option Value)} {oc13 kV13 dc13 pm13 cd13 ct13 : Value}
    (a13 : PySem.W.nsIn K mainGlobals "block_places" = some (some (.ref f13)))
    (l13 : K.lookup f13 = some ⟨oc13, od13, .func (PySem.W.fnOf "block_places" "block_places" (defArgs s_block_places) (defBody s_block_places) (defScope s_block_places) .none kV13 dc13 pm13 an13 cd13 ct13), sl13⟩) (c13 : PySem.W.codeIn K cd13 "block_places" = true) (k13 : PySem.W.keepIn K (.ref f13) = true)
    {f14 : Addr} {od14 an14 : Option Addr} {sl14 : Array (Option Value)} {oc14 kV14 dc14 pm14 cd14 ct14 : Value}
    (a14 : PySem.W.nsIn K mainGlobals "dealt_words" = some (some (.ref f14)))
    (l14 : K.lookup f14 = some ⟨oc14, od14, .func (PySem.W.fnOf "dealt_words" "dealt_words" (defArgs s_dealt_words) (defBody s_dealt_words) (defScope s_dealt_words) .none kV14 dc14 pm14 an14 cd14 ct14), sl14⟩) (c14 : PySem.W.codeIn K cd14 "dealt_words" = true) (k14 : PySem.W.keepIn K (.ref f14) = true)
    {f15 : Addr} {od15 an15 : Option Addr} {sl15 : Array (Option Value)} {oc15 kV15 dc15 pm15 cd15 ct15 : Value}
    (a15 : PySem.W.nsIn K mainGlobals "words_as_bits" = some (some (.ref f15)))
    (l15 : K.lookup f15 = some ⟨oc15, od15, .func (PySem.W.fnOf "words_as_bits" "words_as_bits" (defArgs s_words_as_bits) (defBody s_words_as_bits) (defScope s_words_as_bits) .none kV15 dc15 pm15 an15 cd15 ct15), sl15⟩) (c15 : PySem.W.codeIn K cd15 "words_as_bits" = true) (k15 : PySem.W.keepIn K (.ref f15) = true)
    {f16 : Addr} {od16 an16 : Option Addr} {sl16 : Array (Option Value)} {oc16 kV16 dc16 pm16 cd16 ct16 : Value}
    (a16 : PySem.W.nsIn K mainGlobals "grid_of_words" = some (some (.ref f16)))
    (l16 : K.lookup f16 = some ⟨oc16, od16, .func (PySem.W.fnOf "grid_of_words" "grid_of_words" (defArgs s_grid_of_words) (defBody s_grid_of_words) (defScope s_grid_of_words) .none kV16 dc16 pm16 an16 cd16 ct16), sl16⟩) (c16 : PySem.W.codeIn K cd16 "grid_of_words" = true) (k16 : PySem.W.keepIn K (.ref f16) = true)
    {f17 : Addr} {od17 an17 : Option Addr} {sl17 : Array (Option Value)} {oc17 kV17 dc17 pm17 cd17 ct17 : Value}
    (a17 : PySem.W.nsIn K mainGlobals "word_of_format" = some (some (.ref f17)))
    (l17 : K.lookup f17 = some ⟨oc17, od17, .func (PySem.W.fnOf "word_of_format" "word_of_format" (defArgs s_word_of_format) (defBody s_word_of_format) (defScope s_word_of_format) .none kV17 dc17 pm17 an17 cd17 ct17), sl17⟩) (c17 : PySem.W.codeIn K cd17 "word_of_format" = true) (k17 : PySem.W.keepIn K (.ref f17) = true)
    {f18 : Addr} {od18 an18 : Option Addr} {sl18 : Array (Option Value)} {oc18 kV18 dc18 pm18 cd18 ct18 : Value}
    (a18 : PySem.W.nsIn K mainGlobals "as_bits" = some (some (.ref f18)))
    (l18 : K.lookup f18 = some ⟨oc18, od18, .func (PySem.W.fnOf "as_bits" "as_bits" (defArgs s_as_bits) (defBody s_as_bits) (defScope s_as_bits) .none kV18 dc18 pm18 an18 cd18 ct18), sl18⟩) (c18 : PySem.W.codeIn K cd18 "as_bits" = true) (k18 : PySem.W.keepIn K (.ref f18) = true)
    {f19 : Addr} {od19 an19 : Option Addr} {sl19 : Array (Option Value)} {oc19 kV19 dc19 pm19 cd19 ct19 : Value}
    (a19 : PySem.W.nsIn K mainGlobals "strip_shades" = some (some (.ref f19)))
    (l19 : K.lookup f19 = some ⟨oc19, od19, .func (PySem.W.fnOf "strip_shades" "strip_shades" (defArgs s_strip_shades) (defBody s_strip_shades) (defScope s_strip_shades) .none kV19 dc19 pm19 an19 cd19 ct19), sl19⟩) (c19 : PySem.W.codeIn K cd19 "strip_shades" = true) (k19 : PySem.W.keepIn K (.ref f19) = true)
    {f20 : Addr} {od20 an20 : Option Addr} {sl20 : Array (Option Value)} {oc20 kV20 dc20 pm20 cd20 ct20 : Value}
    (a20 : PySem.W.nsIn K mainGlobals "masked_words" = some (some (.ref f20)))
    (l20 : K.lookup f20 = some ⟨oc20, od20, .func (PySem.W.fnOf "masked_words" "masked_words" (defArgs s_masked_words) (defBody s_masked_words) (defScope s_masked_words) .none kV20 dc20 pm20 an20 cd20 ct20), sl20⟩) (c20 : PySem.W.codeIn K cd20 "masked_words" = true) (k20 : PySem.W.keepIn K (.ref f20) = true)
    {f21 : Addr} {od21 an21 : Option Addr} {sl21 : Array (Option Value)} {oc21 kV21 dc21 pm21 cd21 ct21 : Value}
    (a21 : PySem.W.nsIn K mainGlobals "drawn_grid" = some (some (.ref f21)))
    (l21 : K.lookup f21 = some ⟨oc21, od21, .func (PySem.W.fnOf "drawn_grid" "drawn_grid" (defArgs s_drawn_grid) (defBody s_drawn_grid) (defScope s_drawn_grid) .none kV21 dc21 pm21 an21 cd21 ct21), sl21⟩) (c21 : PySem.W.codeIn K cd21 "drawn_grid" = true) (k21 : PySem.W.keepIn K (.ref f21) = true)
    {f22 : Addr} {od22 an22 : Option Addr} {sl22 : Array (Option Value)} {oc22 kV22 dc22 pm22 cd22 ct22 : Value}
    (a22 : PySem.W.nsIn K mainGlobals "shares_of" = some (some (.ref f22)))
    (l22 : K.lookup f22 = some ⟨oc22, od22, .func (PySem.W.fnOf "shares_of" "shares_of" (defArgs s_shares_of) (defBody s_shares_of) (defScope s_shares_of) .none kV22 dc22 pm22 an22 cd22 ct22), sl22⟩) (c22 : PySem.W.codeIn K cd22 "shares_of" = true) (k22 : PySem.W.keepIn K (.ref f22) = true)
    {f23 : Addr} {od23 an23 : Option Addr} {sl23 : Array (Option Value)} {oc23 kV23 dc23 pm23 cd23 ct23 : Value}
    (a23 : PySem.W.nsIn K mainGlobals "own_counts" = some (some (.ref f23)))
    (l23 : K.lookup f23 = some ⟨oc23, od23, .func (PySem.W.fnOf "own_counts" "own_counts" (defArgs s_own_counts) (defBody s_own_counts) (defScope s_own_counts) .none kV23 dc23 pm23 an23 cd23 ct23), sl23⟩) (c23 : PySem.W.codeIn K cd23 "own_counts" = true) (k23 : PySem.W.keepIn K (.ref f23) = true)
    {f24 : Addr} {od24 an24 : Option Addr} {sl24 : Array (Option Value)} {oc24 kV24 dc24 pm24 cd24 ct24 : Value}
    (a24 : PySem.W.nsIn K mainGlobals "checks_told" = some (some (.ref f24)))
    (l24 : K.lookup f24 = some ⟨oc24, od24, .func (PySem.W.fnOf "checks_told" "checks_told" (defArgs s_checks_told) (defBody s_checks_told) (defScope s_checks_told) .none kV24 dc24 pm24 an24 cd24 ct24), sl24⟩) (c24 : PySem.W.codeIn K cd24 "checks_told" = true) (k24 : PySem.W.keepIn K (.ref f24) = true)
    {f25 : Addr} {od25 an25 : Option Addr} {sl25 : Array (Option Value)} {oc25 kV25 dc25 pm25 cd25 ct25 : Value}
    (a25 : PySem.W.nsIn K mainGlobals "number_as_words" = some (some (.ref f25)))
    (l25 : K.lookup f25 = some ⟨oc25, od25, .func (PySem.W.fnOf "number_as_words" "number_as_words" (defArgs s_number_as_words) (defBody s_number_as_words) (defScope s_number_as_words) .none kV25 dc25 pm25 an25 cd25 ct25), sl25⟩) (c25 : PySem.W.codeIn K cd25 "number_as_words" = true) (k25 : PySem.W.keepIn K (.ref f25) = true)
    {f26 : Addr} {od26 an26 : Option Addr} {sl26 : Array (Option Value)} {oc26 kV26 dc26 pm26 cd26 ct26 : Value}
    (a26 : PySem.W.nsIn K mainGlobals "parted_data" = some (some (.ref f26)))
    (l26 : K.lookup f26 = some ⟨oc26, od26, .func (PySem.W.fnOf "parted_data" "parted_data" (defArgs s_parted_data) (defBody s_parted_data) (defScope s_parted_data) .none kV26 dc26 pm26 an26 cd26 ct26), sl26⟩) (c26 : PySem.W.codeIn K cd26 "parted_data" = true) (k26 : PySem.W.keepIn K (.ref f26) = true)
    {f27 : Addr} {od27 an27 : Option Addr} {sl27 : Array (Option Value)} {oc27 kV27 dc27 pm27 cd27 ct27 : Value}
    (a27 : PySem.W.nsIn K mainGlobals "right_blocks" = some (some (.ref f27)))
    (l27 : K.lookup f27 = some ⟨oc27, od27, .func (PySem.W.fnOf "right_blocks" "right_blocks" (defArgs s_right_blocks) (defBody s_right_blocks) (defScope s_right_blocks) .none kV27 dc27 pm27 an27 cd27 ct27), sl27⟩) (c27 : PySem.W.codeIn K cd27 "right_blocks" = true) (k27 : PySem.W.keepIn K (.ref f27) = true)
    {f28 : Addr} {od28 an28 : Option Addr} {sl28 : Array (Option Value)} {oc28 kV28 dc28 pm28 cd28 ct28 : Value}
    (a28 : PySem.W.nsIn K mainGlobals "need_data" = some (some (.ref f28)))
    (l28 : K.lookup f28 = some ⟨oc28, od28, .func (PySem.W.fnOf "need_data" "need_data" (defArgs s_need_data) (defBody s_need_data) (defScope s_need_data) .none kV28 dc28 pm28 an28 cd28 ct28), sl28⟩) (c28 : PySem.W.codeIn K cd28 "need_data" = true) (k28 : PySem.W.keepIn K (.ref f28) = true)
    {f29 : Addr} {od29 an29 : Option Addr} {sl29 : Array (Option Value)} {oc29 kV29 dc29 pm29 cd29 ct29 : Value}
    (a29 : PySem.W.nsIn K mainGlobals "words_of_data" = some (some (.ref f29)))
    (l29 : K.lookup f29 = some ⟨oc29, od29, .func (PySem.W.fnOf "words_of_data" "words_of_data" (defArgs s_words_of_data) (defBody s_words_of_data) (defScope s_words_of_data) .none kV29 dc29 pm29 an29 cd29 ct29), sl29⟩) (c29 : PySem.W.codeIn K cd29 "words_of_data" = true) (k29 : PySem.W.keepIn K (.ref f29) = true)
    {f30 : Addr} {od30 an30 : Option Addr} {sl30 : Array (Option Value)} {oc30 kV30 dc30 pm30 cd30 ct30 : Value}
    (a30 : PySem.W.nsIn K mainGlobals "symbol_of" = some (some (.ref f30)))
    (l30 : K.lookup f30 = some ⟨oc30, od30, .func (PySem.W.fnOf "symbol_of" "symbol_of" (defArgs s_symbol_of) (defBody s_symbol_of) (defScope s_symbol_of) .none kV30 dc30 pm30 an30 cd30 ct30), sl30⟩) (c30 : PySem.W.codeIn K cd30 "symbol_of" = true) (k30 : PySem.W.keepIn K (.ref f30) = true)
    {f31 : Addr} {od31 an31 : Option Addr} {sl31 : Array (Option Value)} {oc31 kV31 dc31 pm31 cd31 ct31 : Value}
    (a31 : PySem.W.nsIn K mainGlobals "by_sum" = some (some (.ref f31)))
    (l31 : K.lookup f31 = some ⟨oc31, od31, .func (PySem.W.fnOf "by_sum" "by_sum" (defArgs s_by_sum) (defBody s_by_sum) (defScope s_by_sum) .none kV31 dc31 pm31 an31 cd31 ct31), sl31⟩) (c31 : PySem.W.codeIn K cd31 "by_sum" = true) (k31 : PySem.W.keepIn K (.ref f31) = true)
    {f32 : Addr} {od32 an32 : Option Addr} {sl32 : Array (Option Value)} {oc32 kV32 dc32 pm32 cd32 ct32 : Value}
    (a32 : PySem.W.nsIn K mainGlobals "by_three" = some (some (.ref f32)))
    (l32 : K.lookup f32 = some ⟨oc32, od32, .func (PySem.W.fnOf "by_three" "by_three" (defArgs s_by_three) (defBody s_by_three) (defScope s_by_three) .none kV32 dc32 pm32 an32 cd32 ct32), sl32⟩) (c32 : PySem.W.codeIn K cd32 "by_three" = true) (k32 : PySem.W.keepIn K (.ref f32) = true)
    {f33 : Addr} {od33 an33 : Option Addr} {sl33 : Array (Option Value)} {oc33 kV33 dc33 pm33 cd33 ct33 : Value}
    (a33 : PySem.W.nsIn K mainGlobals "by_row" = some (some (.ref f33)))
    (l33 : K.lookup f33 = some ⟨oc33, od33, .func (PySem.W.fnOf "by_row" "by_row" (defArgs s_by_row) (defBody s_by_row) (defScope s_by_row) .none kV33 dc33 pm33 an33 cd33 ct33), sl33⟩) (c33 : PySem.W.codeIn K cd33 "by_row" = true) (k33 : PySem.W.keepIn K (.ref f33) = true)
    {f34 : Addr} {od34 an34 : Option Addr} {sl34 : Array (Option Value)} {oc34 kV34 dc34 pm34 cd34 ct34 : Value}
    (a34 : PySem.W.nsIn K mainGlobals "by_column" = some (some (.ref f34)))
    (l34 : K.lookup f34 = some ⟨oc34, od34, .func (PySem.W.fnOf "by_column" "by_column" (defArgs s_by_column) (defBody s_by_column) (defScope s_by_column) .none kV34 dc34 pm34 an34 cd34 ct34), sl34⟩) (c34 : PySem.W.codeIn K cd34 "by_column" = true) (k34 : PySem.W.keepIn K (.ref f34) = true)
    {f35 : Addr} {od35 an35 : Option Addr} {sl35 : Array (Option Value)} {oc35 kV35 dc35 pm35 cd35 ct35 : Value}
    (a35 : PySem.W.nsIn K mainGlobals "by_squares" = some (some (.ref f35)))
    (l35 : K.lookup f35 = some ⟨oc35, od35, .func (PySem.W.fnOf "by_squares" "by_squares" (defArgs s_by_squares) (defBody s_by_squares) (defScope s_by_squares) .none kV35 dc35 pm35 an35 cd35 ct35), sl35⟩) (c35 : PySem.W.codeIn K cd35 "by_squares" = true) (k35 : PySem.W.keepIn K (.ref f35) = true)
    {f36 : Addr} {od36 an36 : Option Addr} {sl36 : Array (Option Value)} {oc36 kV36 dc36 pm36 cd36 ct36 : Value}
    (a36 : PySem.W.nsIn K mainGlobals "by_product" = some (some (.ref f36)))
    (l36 : K.lookup f36 = some ⟨oc36, od36, .func (PySem.W.fnOf "by_product" "by_product" (defArgs s_by_product) (defBody s_by_product) (defScope s_by_product) .none kV36 dc36 pm36 an36 cd36 ct36), sl36⟩) (c36 : PySem.W.codeIn K cd36 "by_product" = true) (k36 : PySem.W.keepIn K (.ref f36) = true)
    {f37 : Addr} {od37 an37 : Option Addr} {sl37 : Array (Option Value)} {oc37 kV37 dc37 pm37 cd37 ct37 : Value}
    (a37 : PySem.W.nsIn K mainGlobals "by_five" = some (some (.ref f37)))
    (l37 : K.lookup f37 = some ⟨oc37, od37, .func (PySem.W.fnOf "by_five" "by_five" (defArgs s_by_five) (defBody s_by_five) (defScope s_by_five) .none kV37 dc37 pm37 an37 cd37 ct37), sl37⟩) (c37 : PySem.W.codeIn K cd37 "by_five" = true) (k37 : PySem.W.keepIn K (.ref f37) = true)
    {f38 : Addr} {od38 an38 : Option Addr} {sl38 : Array (Option Value)} {oc38 kV38 dc38 pm38 cd38 ct38 : Value}
    (a38 : PySem.W.nsIn K mainGlobals "by_seven" = some (some (.ref f38)))
    (l38 : K.lookup f38 = some ⟨oc38, od38, .func (PySem.W.fnOf "by_seven" "by_seven" (defArgs s_by_seven) (defBody s_by_seven) (defScope s_by_seven) .none kV38 dc38 pm38 an38 cd38 ct38), sl38⟩) (c38 : PySem.W.codeIn K cd38 "by_seven" = true) (k38 : PySem.W.keepIn K (.ref f38) = true)
    {f39 : Addr} {od39 an39 : Option Addr} {sl39 : Array (Option Value)} {oc39 kV39 dc39 pm39 cd39 ct39 : Value}
    (a39 : PySem.W.nsIn K mainGlobals "is_dot" = some (some (.ref f39)))
    (l39 : K.lookup f39 = some ⟨oc39, od39, .func (PySem.W.fnOf "is_dot" "is_dot" (defArgs s_is_dot) (defBody s_is_dot) (defScope s_is_dot) .none kV39 dc39 pm39 an39 cd39 ct39), sl39⟩) (c39 : PySem.W.codeIn K cd39 "is_dot" = true) (k39 : PySem.W.keepIn K (.ref f39) = true)
    {f40 : Addr} {od40 an40 : Option Addr} {sl40 : Array (Option Value)} {oc40 kV40 dc40 pm40 cd40 ct40 : Value}
    (a40 : PySem.W.nsIn K mainGlobals "turns" = some (some (.ref f40)))
    (l40 : K.lookup f40 = some ⟨oc40, od40, .func (PySem.W.fnOf "turns" "turns" (defArgs s_turns) (defBody s_turns) (defScope s_turns) .none kV40 dc40 pm40 an40 cd40 ct40), sl40⟩) (c40 : PySem.W.codeIn K cd40 "turns" = true) (k40 : PySem.W.keepIn K (.ref f40) = true)
    {f41 : Addr} {od41 an41 : Option Addr} {sl41 : Array (Option Value)} {oc41 kV41 dc41 pm41 cd41 ct41 : Value}
    (a41 : PySem.W.nsIn K mainGlobals "strip_dots" = some (some (.ref f41)))
    (l41 : K.lookup f41 = some ⟨oc41, od41, .func (PySem.W.fnOf "strip_dots" "strip_dots" (defArgs s_strip_dots) (defBody s_strip_dots) (defScope s_strip_dots) .none kV41 dc41 pm41 an41 cd41 ct41), sl41⟩) (c41 : PySem.W.codeIn K cd41 "strip_dots" = true) (k41 : PySem.W.keepIn K (.ref f41) = true)
    {f42 : Addr} {od42 an42 : Option Addr} {sl42 : Array (Option Value)} {oc42 kV42 dc42 pm42 cd42 ct42 : Value}
    (a42 : PySem.W.nsIn K mainGlobals "format_dots" = some (some (.ref f42)))
    (l42 : K.lookup f42 = some ⟨oc42, od42, .func (PySem.W.fnOf "format_dots" "format_dots" (defArgs s_format_dots) (defBody s_format_dots) (defScope s_format_dots) .none kV42 dc42 pm42 an42 cd42 ct42), sl42⟩) (c42 : PySem.W.codeIn K cd42 "format_dots" = true) (k42 : PySem.W.keepIn K (.ref f42) = true)
    {f43 : Addr} {od43 an43 : Option Addr} {sl43 : Array (Option Value)} {oc43 kV43 dc43 pm43 cd43 ct43 : Value}
    (a43 : PySem.W.nsIn K mainGlobals "side" = some (some (.ref f43)))
    (l43 : K.lookup f43 = some ⟨oc43, od43, .func (PySem.W.fnOf "side" "side" (defArgs s_side) (defBody s_side) (defScope s_side) .none kV43 dc43 pm43 an43 cd43 ct43), sl43⟩) (c43 : PySem.W.codeIn K cd43 "side" = true) (k43 : PySem.W.keepIn K (.ref f43) = true)
    {f44 : Addr} {od44 an44 : Option Addr} {sl44 : Array (Option Value)} {oc44 kV44 dc44 pm44 cd44 ct44 : Value}
    (a44 : PySem.W.nsIn K mainGlobals "border_value" = some (some (.ref f44)))
    (l44 : K.lookup f44 = some ⟨oc44, od44, .func (PySem.W.fnOf "border_value" "border_value" (defArgs s_border_value) (defBody s_border_value) (defScope s_border_value) .none kV44 dc44 pm44 an44 cd44 ct44), sl44⟩) (c44 : PySem.W.codeIn K cd44 "border_value" = true) (k44 : PySem.W.keepIn K (.ref f44) = true)
    {f45 : Addr} {od45 an45 : Option Addr} {sl45 : Array (Option Value)} {oc45 kV45 dc45 pm45 cd45 ct45 : Value}
    (a45 : PySem.W.nsIn K mainGlobals "border_dots" = some (some (.ref f45)))
    (l45 : K.lookup f45 = some ⟨oc45, od45, .func (PySem.W.fnOf "border_dots" "border_dots" (defArgs s_border_dots) (defBody s_border_dots) (defScope s_border_dots) .none kV45 dc45 pm45 an45 cd45 ct45), sl45⟩) (c45 : PySem.W.codeIn K cd45 "border_dots" = true) (k45 : PySem.W.keepIn K (.ref f45) = true)
    {f46 : Addr} {od46 an46 : Option Addr} {sl46 : Array (Option Value)} {oc46 kV46 dc46 pm46 cd46 ct46 : Value}
    (a46 : PySem.W.nsIn K mainGlobals "border" = some (some (.ref f46)))
    (l46 : K.lookup f46 = some ⟨oc46, od46, .func (PySem.W.fnOf "border" "border" (defArgs s_border) (defBody s_border) (defScope s_border) .none kV46 dc46 pm46 an46 cd46 ct46), sl46⟩) (c46 : PySem.W.codeIn K cd46 "border" = true) (k46 : PySem.W.keepIn K (.ref f46) = true)
    {f47 : Addr} {od47 an47 : Option Addr} {sl47 : Array (Option Value)} {oc47 kV47 dc47 pm47 cd47 ct47 : Value}
    (a47 : PySem.W.nsIn K mainGlobals "_law_draw" = some (some (.ref f47)))
    (l47 : K.lookup f47 = some ⟨oc47, od47, .func (PySem.W.fnOf "_law_draw" "_law_draw" (defArgs s__law_draw) (defBody s__law_draw) (defScope s__law_draw) .none kV47 dc47 pm47 an47 cd47 ct47), sl47⟩) (c47 : PySem.W.codeIn K cd47 "_law_draw" = true) (k47 : PySem.W.keepIn K (.ref f47) = true)
    {f48 : Addr} {od48 an48 : Option Addr} {sl48 : Array (Option Value)} {oc48 kV48 dc48 pm48 cd48 ct48 : Value}
    (a48 : PySem.W.nsIn K mainGlobals "_law_one" = some (some (.ref f48)))
    (l48 : K.lookup f48 = some ⟨oc48, od48, .func (PySem.W.fnOf "_law_one" "_law_one" (defArgs s__law_one) (defBody s__law_one) (defScope s__law_one) .none kV48 dc48 pm48 an48 cd48 ct48), sl48⟩) (c48 : PySem.W.codeIn K cd48 "_law_one" = true) (k48 : PySem.W.keepIn K (.ref f48) = true)
    {f49 : Addr} {od49 an49 : Option Addr} {sl49 : Array (Option Value)} {oc49 kV49 dc49 pm49 cd49 ct49 : Value}
    (a49 : PySem.W.nsIn K mainGlobals "_law_number" = some (some (.ref f49)))
    (l49 : K.lookup f49 = some ⟨oc49, od49, .func (PySem.W.fnOf "_law_number" "_law_number" (defArgs s__law_number) (defBody s__law_number) (defScope s__law_number) .none kV49 dc49 pm49 an49 cd49 ct49), sl49⟩) (c49 : PySem.W.codeIn K cd49 "_law_number" = true) (k49 : PySem.W.keepIn K (.ref f49) = true)
    {f50 : Addr} {od50 an50 : Option Addr} {sl50 : Array (Option Value)} {oc50 kV50 dc50 pm50 cd50 ct50 : Value}
    (a50 : PySem.W.nsIn K mainGlobals "_law_dots" = some (some (.ref f50)))
    (l50 : K.lookup f50 = some ⟨oc50, od50, .func (PySem.W.fnOf "_law_dots" "_law_dots" (defArgs s__law_dots) (defBody s__law_dots) (defScope s__law_dots) .none kV50 dc50 pm50 an50 cd50 ct50), sl50⟩) (c50 : PySem.W.codeIn K cd50 "_law_dots" = true) (k50 : PySem.W.keepIn K (.ref f50) = true)
    {f51 : Addr} {od51 an51 : Option Addr} {sl51 : Array (Option Value)} {oc51 kV51 dc51 pm51 cd51 ct51 : Value}
    (a51 : PySem.W.nsIn K mainGlobals "_law_row" = some (some (.ref f51)))
    (l51 : K.lookup f51 = some ⟨oc51, od51, .func (PySem.W.fnOf "_law_row" "_law_row" (defArgs s__law_row) (defBody s__law_row) (defScope s__law_row) .none kV51 dc51 pm51 an51 cd51 ct51), sl51⟩) (c51 : PySem.W.codeIn K cd51 "_law_row" = true) (k51 : PySem.W.keepIn K (.ref f51) = true)
    {f52 : Addr} {od52 an52 : Option Addr} {sl52 : Array (Option Value)} {oc52 kV52 dc52 pm52 cd52 ct52 : Value}
    (a52 : PySem.W.nsIn K mainGlobals "_law_fixed_right" = some (some (.ref f52)))
    (l52 : K.lookup f52 = some ⟨oc52, od52, .func (PySem.W.fnOf "_law_fixed_right" "_law_fixed_right" (defArgs s__law_fixed_right) (defBody s__law_fixed_right) (defScope s__law_fixed_right) .none kV52 dc52 pm52 an52 cd52 ct52), sl52⟩) (c52 : PySem.W.codeIn K cd52 "_law_fixed_right" = true) (k52 : PySem.W.keepIn K (.ref f52) = true)
    {f53 : Addr} {od53 an53 : Option Addr} {sl53 : Array (Option Value)} {oc53 kV53 dc53 pm53 cd53 ct53 : Value}
    (a53 : PySem.W.nsIn K mainGlobals "_law_right" = some (some (.ref f53)))
    (l53 : K.lookup f53 = some ⟨oc53, od53, .func (PySem.W.fnOf "_law_right" "_law_right" (defArgs s__law_right) (defBody s__law_right) (defScope s__law_right) .none kV53 dc53 pm53 an53 cd53 ct53), sl53⟩) (c53 : PySem.W.codeIn K cd53 "_law_right" = true) (k53 : PySem.W.keepIn K (.ref f53) = true)
    {f54 : Addr} {od54 an54 : Option Addr} {sl54 : Array (Option Value)} {oc54 kV54 dc54 pm54 cd54 ct54 : Value}
    (a54 : PySem.W.nsIn K mainGlobals "law" = some (some (.ref f54)))
    (l54 : K.lookup f54 = some ⟨oc54, od54, .func (PySem.W.fnOf "law" "law" (defArgs s_law) (defBody s_law) (defScope s_law) .none kV54 dc54 pm54 an54 cd54 ct54), sl54⟩) (c54 : PySem.W.codeIn K cd54 "law" = true) (k54 : PySem.W.keepIn K (.ref f54) = true)
    (z_any : PySem.W.nsIn K mainGlobals "any" = some none)
    (z_bool : PySem.W.nsIn K mainGlobals "bool" = some none)
    (z_divmod : PySem.W.nsIn K mainGlobals "divmod" = some none)
    (z_enumerate : PySem.W.nsIn K mainGlobals "enumerate" = some none)
    (z_int : PySem.W.nsIn K mainGlobals "int" = some none)
    (z_isinstance : PySem.W.nsIn K mainGlobals "isinstance" = some none)
    (z_len : PySem.W.nsIn K mainGlobals "len" = some none)
    (z_list : PySem.W.nsIn K mainGlobals "list" = some none)
    (z_min : PySem.W.nsIn K mainGlobals "min" = some none)
    (z_range : PySem.W.nsIn K mainGlobals "range" = some none)
    (z_sorted : PySem.W.nsIn K mainGlobals "sorted" = some none)
    (z_sum : PySem.W.nsIn K mainGlobals "sum" = some none)
    (z_tuple : PySem.W.nsIn K mainGlobals "tuple" = some none)
    (z_type : PySem.W.nsIn K mainGlobals "type" = some none)
    (z_zip : PySem.W.nsIn K mainGlobals "zip" = some none)
    {d_BLOCKS : Addr} {n_BLOCKS : Nat} {s_BLOCKS : Array (Option Value)} {c_BLOCKS0 : Addr} {c_BLOCKS1 : Addr} {c_BLOCKS2 : Addr} {c_BLOCKS3 : Addr} {c_BLOCKS4 : Addr}
    (a_BLOCKS : PySem.W.nsIn K mainGlobals "BLOCKS" = some (some (.ref d_BLOCKS)))
    (l_BLOCKS : K.lookup d_BLOCKS = some ⟨.type "tuple", none, .seq #[.ref c_BLOCKS0, .ref c_BLOCKS1, .ref c_BLOCKS2, .ref c_BLOCKS3, .ref c_BLOCKS4] n_BLOCKS, s_BLOCKS⟩)
    (t_BLOCKS0 : tupB K c_BLOCKS0 [4] = true)
    (t_BLOCKS1 : tupB K c_BLOCKS1 [10, 10] = true)
    (t_BLOCKS2 : tupB K c_BLOCKS2 [22] = true)
    (t_BLOCKS3 : tupB K c_BLOCKS3 [19, 19] = true)
    (t_BLOCKS4 : tupB K c_BLOCKS4 [20, 19, 19] = true)
    {d_CHECKS : Addr} {n_CHECKS : Nat} {s_CHECKS : Array (Option Value)} {c_CHECKS0 : Addr} {c_CHECKS1 : Addr} {c_CHECKS2 : Addr} {c_CHECKS3 : Addr} {c_CHECKS4 : Addr}
    (a_CHECKS : PySem.W.nsIn K mainGlobals "CHECKS" = some (some (.ref d_CHECKS)))
    (l_CHECKS : K.lookup d_CHECKS = some ⟨.type "tuple", none, .seq #[.ref c_CHECKS0, .ref c_CHECKS1, .ref c_CHECKS2, .ref c_CHECKS3, .ref c_CHECKS4] n_CHECKS, s_CHECKS⟩)
    (t_CHECKS0 : tupB K c_CHECKS0 [1, 2, 3, 3] = true)
    (t_CHECKS1 : tupB K c_CHECKS1 [2, 4, 6, 8] = true)
    (t_CHECKS2 : tupB K c_CHECKS2 [4, 8, 10, 12] = true)
    (t_CHECKS3 : tupB K c_CHECKS3 [4, 8, 10, 12] = true)
    (t_CHECKS4 : tupB K c_CHECKS4 [4, 8, 10, 12] = true)
    {d_FORMAT_WORDS : Addr} (a_FORMAT_WORDS : PySem.W.nsIn K mainGlobals "FORMAT_WORDS" = some (some (.ref d_FORMAT_WORDS))) (t_FORMAT_WORDS : tupB K d_FORMAT_WORDS [709, 752, 666, 687, 590, 635, 529, 548, 979, 998, 908, 953, 856, 877, 775, 818, 220, 233, 131, 182, 87, 98, 8, 61, 458, 511, 405, 416, 321, 372, 286, 299] = true)
    {t_LEVELS : Tok} (a_LEVELS : PySem.W.nsIn K mainGlobals "LEVELS" = some (some (.int 4 t_LEVELS)))
    {t_MASKS : Tok} (a_MASKS : PySem.W.nsIn K mainGlobals "MASKS" = some (some (.int 8 t_MASKS)))
    {d_MASK_WORDS : Addr} (a_MASK_WORDS : PySem.W.nsIn K mainGlobals "MASK_WORDS" = some (some (.ref d_MASK_WORDS))) (t_MASK_WORDS : tup3B K d_MASK_WORDS [[[9, 9, 9, 9], [9, 2, 5, 8], [0, 12, 0, 12], [5, 5, 6, 11], [9, 6, 9, 10], [14, 11, 11, 5], [7, 6, 8, 9], [0, 7, 14, 14]], [[9, 9, 9, 9, 10, 6, 6, 6, 6, 9, 9, 9, 9, 10, 6, 6, 6, 6, 5, 5], [9, 2, 4, 9, 2, 1, 8, 6, 1, 2, 4, 9, 2, 4, 6, 1, 8, 6, 4, 9], [12, 3, 0, 12, 0, 3, 0, 12, 3, 12, 3, 0, 12, 0, 3, 0, 12, 3, 2, 4], [5, 5, 5, 5, 6, 10, 10, 10, 10, 5, 5, 5, 5, 6, 10, 10, 10, 10, 0, 0], [9, 6, 9, 6, 9, 6, 9, 6, 9, 9, 6, 9, 6, 9, 6, 9, 6, 9, 3, 3], [7, 5, 13, 7, 4, 12, 3, 0, 12, 11, 10, 14, 11, 9, 13, 7, 5, 13, 9, 2], [11, 0, 14, 12, 1, 4, 0, 5, 0, 13, 10, 7, 6, 8, 2, 2, 0, 8, 6, 3], [0, 1, 15, 8, 1, 0, 2, 15, 4, 15, 8, 0, 7, 12, 11, 13, 0, 2, 3, 8]], [[153, 153, 153, 150, 102, 102, 102, 153, 153, 153, 166, 102, 102, 105, 153, 153, 154, 102, 102, 102, 170, 166], [146, 73, 36, 145, 134, 24, 97, 36, 146, 73, 33, 134, 24, 100, 146, 73, 36, 97, 134, 24, 146, 82], [48, 195, 12, 60, 48, 195, 12, 48, 195, 12, 3, 12, 48, 195, 12, 48, 192, 48, 195, 12, 73, 48], [85, 85, 85, 90, 170, 170, 170, 85, 85, 85, 106, 170, 170, 165, 85, 85, 86, 170, 170, 170, 0, 21], [150, 150, 150, 153, 105, 105, 105, 150, 150, 150, 150, 150, 150, 153, 105, 105, 105, 105, 105, 105, 153, 154], [12, 48, 195, 10, 235, 174, 186, 93, 117, 215, 76, 48, 195, 10, 235, 174, 185, 215, 93, 117, 36, 140], [130, 32, 136, 35, 196, 241, 60, 195, 176, 236, 20, 5, 1, 70, 157, 167, 104, 34, 8, 130, 99, 15], [128, 126, 1, 242, 244, 11, 208, 126, 1, 248, 16, 47, 64, 176, 31, 128, 124, 189, 2, 244, 225, 192]], [[153, 153, 153, 153, 150, 102, 102, 102, 102, 153, 153, 153, 153, 150, 102, 102, 102, 102, 153, 153, 153, 153, 166, 102, 102, 102, 105, 153, 153, 153, 154, 102, 102, 102, 102, 170, 166, 102], [146, 73, 36, 146, 72, 97, 134, 24, 97, 36, 146, 73, 36, 145, 134, 24, 97, 134, 73, 36, 146, 73, 33, 134, 24, 97, 137, 36, 146, 73, 36, 97, 134, 24, 97, 73, 36, 146], [12, 48, 195, 12, 60, 48, 195, 12, 48, 12, 48, 195, 12, 60, 48, 195, 12, 48, 12, 48, 195, 12, 3, 12, 48, 195, 0, 195, 12, 48, 192, 48, 195, 12, 48, 36, 140, 48], [85, 85, 85, 85, 90, 170, 170, 170, 170, 85, 85, 85, 85, 90, 170, 170, 170, 170, 85, 85, 85, 85, 106, 170, 170, 170, 165, 85, 85, 85, 86, 170, 170, 170, 170, 0, 21, 85], [150, 150, 150, 150, 153, 105, 105, 105, 105, 150, 150, 150, 150, 153, 105, 105, 105, 105, 150, 150, 150, 150, 150, 150, 150, 150, 153, 105, 105, 105, 105, 105, 105, 105, 105, 153, 154, 90], [235, 174, 186, 235, 165, 215, 93, 117, 215, 195, 12, 48, 195, 10, 235, 174, 186, 235, 215, 93, 117, 215, 76, 48, 195, 12, 62, 186, 235, 174, 185, 215, 93, 117, 215, 146, 67, 12], [80, 20, 5, 1, 70, 157, 167, 105, 218, 8, 130, 32, 136, 35, 196, 241, 60, 79, 14, 195, 176, 236, 20, 5, 1, 64, 90, 118, 157, 167, 104, 34, 8, 130, 32, 198, 60, 79], [224, 31, 128, 126, 4, 11, 208, 47, 64, 31, 128, 126, 1, 242, 244, 11, 208, 47, 128, 126, 1, 248, 16, 47, 64, 189, 7, 224, 31, 128, 124, 189, 2, 244, 11, 14, 31, 128]], [[153, 153, 153, 153, 153, 150, 102, 102, 102, 102, 102, 153, 153, 153, 153, 153, 150, 102, 102, 102, 102, 102, 153, 153, 153, 153, 153, 150, 102, 102, 102, 102, 102, 153, 153, 153, 153, 153, 166, 102, 102, 102, 102, 105, 153, 153, 153, 153, 154, 102, 102, 102, 102, 102, 170, 166, 102, 102], [146, 73, 36, 146, 73, 38, 24, 97, 134, 24, 97, 36, 146, 73, 36, 146, 72, 97, 134, 24, 97, 134, 73, 36, 146, 73, 36, 145, 134, 24, 97, 134, 24, 146, 73, 36, 146, 73, 33, 134, 24, 97, 134, 18, 73, 36, 146, 73, 36, 97, 134, 24, 97, 134, 36, 137, 36, 146], [195, 12, 48, 195, 12, 60, 48, 195, 12, 48, 195, 195, 12, 48, 195, 12, 60, 48, 195, 12, 48, 195, 195, 12, 48, 195, 12, 60, 48, 195, 12, 48, 195, 195, 12, 48, 195, 12, 3, 12, 48, 195, 12, 60, 48, 195, 12, 48, 192, 48, 195, 12, 48, 195, 146, 67, 12, 48], [85, 85, 85, 85, 85, 90, 170, 170, 170, 170, 170, 85, 85, 85, 85, 85, 90, 170, 170, 170, 170, 170, 85, 85, 85, 85, 85, 90, 170, 170, 170, 170, 170, 85, 85, 85, 85, 85, 106, 170, 170, 170, 170, 165, 85, 85, 85, 85, 86, 170, 170, 170, 170, 170, 0, 21, 85, 85], [150, 150, 150, 150, 150, 153, 105, 105, 105, 105, 105, 150, 150, 150, 150, 150, 153, 105, 105, 105, 105, 105, 150, 150, 150, 150, 150, 153, 105, 105, 105, 105, 105, 150, 150, 150, 150, 150, 150, 150, 150, 150, 150, 153, 105, 105, 105, 105, 105, 105, 105, 105, 105, 105, 153, 154, 90, 90], [117, 215, 93, 117, 215, 80, 195, 12, 48, 195, 12, 186, 235, 174, 186, 235, 165, 215, 93, 117, 215, 93, 48, 195, 12, 48, 195, 10, 235, 174, 186, 235, 174, 117, 215, 93, 117, 215, 76, 48, 195, 12, 48, 203, 174, 186, 235, 174, 185, 215, 93, 117, 215, 93, 73, 48, 195, 12], [196, 241, 60, 79, 19, 204, 59, 14, 195, 176, 236, 64, 80, 20, 5, 1, 70, 157, 167, 105, 218, 118, 34, 8, 130, 32, 136, 35, 196, 241, 60, 79, 19, 59, 14, 195, 176, 236, 20, 5, 1, 64, 80, 25, 218, 118, 157, 167, 104, 34, 8, 130, 32, 136, 140, 113, 60, 79], [248, 7, 224, 31, 128, 123, 208, 47, 64, 189, 2, 7, 224, 31, 128, 126, 4, 11, 208, 47, 64, 189, 224, 31, 128, 126, 1, 242, 244, 11, 208, 47, 64, 31, 128, 126, 1, 248, 16, 47, 64, 189, 2, 248, 7, 224, 31, 128, 124, 189, 2, 244, 11, 208, 112, 224, 31, 128]]] = true)
    {d_PLACES : Addr} (a_PLACES : PySem.W.nsIn K mainGlobals "PLACES" = some (some (.ref d_PLACES))) (t_PLACES : tup3B K d_PLACES [[[37, 36, 37, 36, 37, 36, 37, 36], [37, 16, 17, 18, 19, 20, 21, 36], [37, 22, 23, 24, 25, 9, 8, 37], [37, 29, 33, 11, 10, 7, 6, 37], [37, 28, 32, 13, 12, 5, 4, 36], [37, 27, 31, 35, 14, 3, 2, 36], [37, 26, 30, 34, 15, 1, 0, 37], [37, 37, 37, 37, 37, 37, 37, 37]], [[101, 100, 101, 100, 101, 100, 101, 100, 101, 100, 101, 100], [101, 80, 81, 82, 83, 84, 85, 86, 87, 88, 89, 100], [101, 98, 79, 55, 54, 53, 52, 19, 18, 17, 16, 101], [101, 97, 78, 57, 56, 51, 50, 21, 20, 15, 14, 101], [101, 96, 77, 59, 58, 49, 48, 23, 22, 13, 12, 100], [101, 95, 76, 61, 60, 47, 46, 25, 24, 11, 10, 100], [101, 94, 75, 63, 62, 45, 44, 27, 26, 9, 8, 101], [101, 93, 74, 65, 64, 43, 42, 29, 28, 7, 6, 101], [101, 92, 73, 67, 66, 41, 40, 31, 30, 5, 4, 100], [101, 91, 72, 69, 68, 39, 38, 33, 32, 3, 2, 100], [101, 90, 99, 71, 70, 37, 36, 35, 34, 1, 0, 101], [101, 101, 101, 101, 101, 101, 101, 101, 101, 101, 101, 101]], [[197, 196, 197, 196, 197, 196, 197, 196, 197, 196, 197, 196, 197, 196, 197, 196], [197, 176, 177, 178, 179, 180, 181, 182, 183, 184, 185, 29, 28, 27, 26, 196], [197, 175, 174, 135, 134, 133, 132, 83, 82, 81, 80, 31, 30, 25, 24, 197], [197, 173, 172, 137, 136, 131, 130, 85, 84, 79, 78, 33, 32, 23, 22, 197], [197, 171, 170, 139, 138, 129, 128, 87, 86, 77, 76, 35, 34, 21, 20, 196], [197, 195, 169, 141, 140, 127, 126, 89, 88, 75, 74, 37, 36, 19, 18, 196], [197, 194, 168, 143, 142, 125, 124, 91, 90, 73, 72, 39, 38, 17, 16, 197], [197, 193, 167, 145, 144, 123, 122, 93, 92, 71, 70, 41, 40, 15, 14, 197], [197, 192, 166, 147, 146, 121, 120, 95, 94, 69, 68, 43, 42, 13, 12, 196], [197, 191, 165, 149, 148, 119, 118, 97, 96, 67, 66, 45, 44, 11, 10, 196], [197, 190, 164, 151, 150, 117, 116, 99, 98, 65, 64, 47, 46, 9, 8, 197], [197, 189, 163, 153, 152, 115, 114, 101, 100, 63, 62, 49, 48, 7, 6, 197], [197, 188, 162, 155, 154, 113, 112, 103, 102, 61, 60, 51, 50, 5, 4, 196], [197, 187, 161, 157, 156, 111, 110, 105, 104, 59, 58, 53, 52, 3, 2, 196], [197, 186, 160, 159, 158, 109, 108, 107, 106, 57, 56, 55, 54, 1, 0, 197], [197, 197, 197, 197, 197, 197, 197, 197, 197, 197, 197, 197, 197, 197, 197, 197]], [[325, 324, 325, 324, 325, 324, 325, 324, 325, 324, 325, 324, 325, 324, 325, 324, 325, 324, 325, 324], [325, 304, 305, 306, 307, 308, 309, 310, 311, 312, 313, 109, 108, 107, 106, 37, 36, 35, 34, 324], [325, 303, 302, 247, 246, 245, 244, 179, 178, 177, 176, 111, 110, 105, 104, 39, 38, 33, 32, 325], [325, 301, 300, 249, 248, 243, 242, 181, 180, 175, 174, 113, 112, 103, 102, 41, 40, 31, 30, 325], [325, 299, 298, 251, 250, 241, 240, 183, 182, 173, 172, 115, 114, 101, 100, 43, 42, 29, 28, 324], [325, 297, 296, 253, 252, 239, 238, 185, 184, 171, 170, 117, 116, 99, 98, 45, 44, 27, 26, 324], [325, 295, 294, 255, 254, 237, 236, 187, 186, 169, 168, 119, 118, 97, 96, 47, 46, 25, 24, 325], [325, 293, 292, 257, 256, 235, 234, 189, 188, 167, 166, 121, 120, 95, 94, 49, 48, 23, 22, 325], [325, 291, 290, 259, 258, 233, 232, 191, 190, 165, 164, 123, 122, 93, 92, 51, 50, 21, 20, 324], [325, 323, 289, 261, 260, 231, 230, 193, 192, 163, 162, 125, 124, 91, 90, 53, 52, 19, 18, 324], [325, 322, 288, 263, 262, 229, 228, 195, 194, 161, 160, 127, 126, 89, 88, 55, 54, 17, 16, 325], [325, 321, 287, 265, 264, 227, 226, 197, 196, 159, 158, 129, 128, 87, 86, 57, 56, 15, 14, 325], [325, 320, 286, 267, 266, 225, 224, 199, 198, 157, 156, 131, 130, 85, 84, 59, 58, 13, 12, 324], [325, 319, 285, 269, 268, 223, 222, 201, 200, 155, 154, 133, 132, 83, 82, 61, 60, 11, 10, 324], [325, 318, 284, 271, 270, 221, 220, 203, 202, 153, 152, 135, 134, 81, 80, 63, 62, 9, 8, 325], [325, 317, 283, 273, 272, 219, 218, 205, 204, 151, 150, 137, 136, 79, 78, 65, 64, 7, 6, 325], [325, 316, 282, 275, 274, 217, 216, 207, 206, 149, 148, 139, 138, 77, 76, 67, 66, 5, 4, 324], [325, 315, 281, 277, 276, 215, 214, 209, 208, 147, 146, 141, 140, 75, 74, 69, 68, 3, 2, 324], [325, 314, 280, 279, 278, 213, 212, 211, 210, 145, 144, 143, 142, 73, 72, 71, 70, 1, 0, 325], [325, 325, 325, 325, 325, 325, 325, 325, 325, 325, 325, 325, 325, 325, 325, 325, 325, 325, 325, 325]], [[485, 484, 485, 484, 485, 484, 485, 484, 485, 484, 485, 484, 485, 484, 485, 484, 485, 484, 485, 484, 485, 484, 485, 484], [485, 464, 465, 466, 467, 468, 469, 470, 471, 472, 473, 221, 220, 219, 218, 133, 132, 131, 130, 45, 44, 43, 42, 484], [485, 463, 462, 391, 390, 389, 388, 307, 306, 305, 304, 223, 222, 217, 216, 135, 134, 129, 128, 47, 46, 41, 40, 485], [485, 461, 460, 393, 392, 387, 386, 309, 308, 303, 302, 225, 224, 215, 214, 137, 136, 127, 126, 49, 48, 39, 38, 485], [485, 459, 458, 395, 394, 385, 384, 311, 310, 301, 300, 227, 226, 213, 212, 139, 138, 125, 124, 51, 50, 37, 36, 484], [485, 457, 456, 397, 396, 383, 382, 313, 312, 299, 298, 229, 228, 211, 210, 141, 140, 123, 122, 53, 52, 35, 34, 484], [485, 455, 454, 399, 398, 381, 380, 315, 314, 297, 296, 231, 230, 209, 208, 143, 142, 121, 120, 55, 54, 33, 32, 485], [485, 453, 452, 401, 400, 379, 378, 317, 316, 295, 294, 233, 232, 207, 206, 145, 144, 119, 118, 57, 56, 31, 30, 485], [485, 451, 450, 403, 402, 377, 376, 319, 318, 293, 292, 235, 234, 205, 204, 147, 146, 117, 116, 59, 58, 29, 28, 484], [485, 449, 448, 405, 404, 375, 374, 321, 320, 291, 290, 237, 236, 203, 202, 149, 148, 115, 114, 61, 60, 27, 26, 484], [485, 447, 446, 407, 406, 373, 372, 323, 322, 289, 288, 239, 238, 201, 200, 151, 150, 113, 112, 63, 62, 25, 24, 485], [485, 445, 444, 409, 408, 371, 370, 325, 324, 287, 286, 241, 240, 199, 198, 153, 152, 111, 110, 65, 64, 23, 22, 485], [485, 443, 442, 411, 410, 369, 368, 327, 326, 285, 284, 243, 242, 197, 196, 155, 154, 109, 108, 67, 66, 21, 20, 484], [485, 483, 441, 413, 412, 367, 366, 329, 328, 283, 282, 245, 244, 195, 194, 157, 156, 107, 106, 69, 68, 19, 18, 484], [485, 482, 440, 415, 414, 365, 364, 331, 330, 281, 280, 247, 246, 193, 192, 159, 158, 105, 104, 71, 70, 17, 16, 485], [485, 481, 439, 417, 416, 363, 362, 333, 332, 279, 278, 249, 248, 191, 190, 161, 160, 103, 102, 73, 72, 15, 14, 485], [485, 480, 438, 419, 418, 361, 360, 335, 334, 277, 276, 251, 250, 189, 188, 163, 162, 101, 100, 75, 74, 13, 12, 484], [485, 479, 437, 421, 420, 359, 358, 337, 336, 275, 274, 253, 252, 187, 186, 165, 164, 99, 98, 77, 76, 11, 10, 484], [485, 478, 436, 423, 422, 357, 356, 339, 338, 273, 272, 255, 254, 185, 184, 167, 166, 97, 96, 79, 78, 9, 8, 485], [485, 477, 435, 425, 424, 355, 354, 341, 340, 271, 270, 257, 256, 183, 182, 169, 168, 95, 94, 81, 80, 7, 6, 485], [485, 476, 434, 427, 426, 353, 352, 343, 342, 269, 268, 259, 258, 181, 180, 171, 170, 93, 92, 83, 82, 5, 4, 484], [485, 475, 433, 429, 428, 351, 350, 345, 344, 267, 266, 261, 260, 179, 178, 173, 172, 91, 90, 85, 84, 3, 2, 484], [485, 474, 432, 431, 430, 349, 348, 347, 346, 265, 264, 263, 262, 177, 176, 175, 174, 89, 88, 87, 86, 1, 0, 485], [485, 485, 485, 485, 485, 485, 485, 485, 485, 485, 485, 485, 485, 485, 485, 485, 485, 485, 485, 485, 485, 485, 485, 485]]] = true)
    {d_QUADS : Addr} {n_QUADS : Nat} {s_QUADS : Array (Option Value)} {c_QUADS0 : Addr} {c_QUADS1 : Addr} {c_QUADS2 : Addr} {c_QUADS3 : Addr} {c_QUADS4 : Addr} {c_QUADS5 : Addr} {c_QUADS6 : Addr} {c_QUADS7 : Addr} {c_QUADS8 : Addr} {c_QUADS9 : Addr} {c_QUADS10 : Addr} {c_QUADS11 : Addr} {c_QUADS12 : Addr} {c_QUADS13 : Addr} {c_QUADS14 : Addr} {c_QUADS15 : Addr}
    (a_QUADS : PySem.W.nsIn K mainGlobals "QUADS" = some (some (.ref d_QUADS)))
    (l_QUADS : K.lookup d_QUADS = some ⟨.type "tuple", none, .seq #[.ref c_QUADS0, .ref c_QUADS1, .ref c_QUADS2, .ref c_QUADS3, .ref c_QUADS4, .ref c_QUADS5, .ref c_QUADS6, .ref c_QUADS7, .ref c_QUADS8, .ref c_QUADS9, .ref c_QUADS10, .ref c_QUADS11, .ref c_QUADS12, .ref c_QUADS13, .ref c_QUADS14, .ref c_QUADS15] n_QUADS, s_QUADS⟩)
    (t_QUADS0 : tupB K c_QUADS0 [0, 0, 0, 0] = true)
    (t_QUADS1 : tupB K c_QUADS1 [0, 0, 0, 1] = true)
    (t_QUADS2 : tupB K c_QUADS2 [0, 0, 1, 0] = true)
    (t_QUADS3 : tupB K c_QUADS3 [0, 0, 1, 1] = true)
    (t_QUADS4 : tupB K c_QUADS4 [0, 1, 0, 0] = true)
    (t_QUADS5 : tupB K c_QUADS5 [0, 1, 0, 1] = true)
    (t_QUADS6 : tupB K c_QUADS6 [0, 1, 1, 0] = true)
    (t_QUADS7 : tupB K c_QUADS7 [0, 1, 1, 1] = true)
    (t_QUADS8 : tupB K c_QUADS8 [1, 0, 0, 0] = true)
    (t_QUADS9 : tupB K c_QUADS9 [1, 0, 0, 1] = true)
    (t_QUADS10 : tupB K c_QUADS10 [1, 0, 1, 0] = true)
    (t_QUADS11 : tupB K c_QUADS11 [1, 0, 1, 1] = true)
    (t_QUADS12 : tupB K c_QUADS12 [1, 1, 0, 0] = true)
    (t_QUADS13 : tupB K c_QUADS13 [1, 1, 0, 1] = true)
    (t_QUADS14 : tupB K c_QUADS14 [1, 1, 1, 0] = true)
    (t_QUADS15 : tupB K c_QUADS15 [1, 1, 1, 1] = true)
    {d_RULES : Addr} (a_RULES : PySem.W.nsIn K mainGlobals "RULES" = some (some (.ref d_RULES))) (t_RULES : tupRefs K d_RULES = some [f31, f32, f33, f34, f35, f36, f37, f38] ∧ ([f31, f32, f33, f34, f35, f36, f37, f38] : List Addr).Nodup)
    {d_SHARES : Addr} (a_SHARES : PySem.W.nsIn K mainGlobals "SHARES" = some (some (.ref d_SHARES))) (t_SHARES : tup3B K d_SHARES [[[8, 4, 2, 1, 8, 4, 2, 1, 8, 4, 2, 1], [57, 216, 164, 82, 47, 27, 201, 104], [1601, 812, 3350, 2755], [741, 382, 3319, 1727]], [[230, 115, 253, 186, 59, 217, 168, 84, 145, 140, 70, 35, 196, 98, 49, 220, 42, 21, 206, 103, 93, 234, 117, 254, 162, 81, 236, 118, 25, 200, 100, 50], [53820, 41430, 23715, 58973, 5074, 52641, 27228, 13798, 19417, 10664, 6228, 50402, 45670, 37171, 36061, 18090, 52378, 26245, 13134, 56615, 54660, 44610, 22305, 61212], [7149884, 3852502, 13984931, 11416157, 15489839, 7792923, 15956169, 12448872, 1728909, 12926026, 7263781, 3646238, 11972949, 9673966, 9274999, 4867071], [3755124567, 2879479791, 1499261819, 3907418617, 507582810, 3341600997, 1863738494, 1002648311]], [[3304254554, 1652127277, 830749614, 2688722263, 1344400019, 682128881, 341082816, 170541408, 3224441698, 1621143857, 810606752, 405303376, 202651688, 101325844, 50662922, 3115976453, 178691248, 89345624, 3130074924, 1576053526, 2524507403, 1262276285, 2636015590, 4128213875, 3863766094, 1931883047, 2165512619, 4172395757, 2095078094, 1047539047, 523808395, 3072088061, 2334746955, 4255943837, 3327543030, 1663771515, 2309859717, 4243516666, 2121758333, 1065565062, 2113027378, 2256119321, 1132745652, 2571276634, 4095864877, 2057861294, 1028930647, 2787778195, 1475599608, 2478927484, 4057478974, 3228345119, 1614211511, 807128291, 414541513, 216151004, 3386238329, 3704801924, 1852400962, 931957281, 2739291560, 3911424596, 3433647402, 1726782997, 708767611, 354406277, 2998394874, 1508104061, 2496254854, 1255985475, 628019353, 2855758068, 2567668886, 4106043979, 2061902237, 1030990070, 2793493627, 1408772741, 2440828410, 4030640765, 4201325362, 2106435865, 2264853684, 1132426842, 2575776557, 4110132654, 2059790935, 1037727123, 1467237862, 2470091379, 4045229441, 3233193720, 1616596860, 815111998, 418576159, 209306551, 536003753, 3078185708, 3817091446, 3376586811, 3693170853, 1856514282, 928257141, 2737441410, 1964910540, 2182064998, 1103097139, 2565328545, 1288398824, 652053364, 332856634, 2976630301, 980604703, 490329015, 3064254947, 1532154057, 2502519004, 4071371886, 2035685943, 2217414051, 930518101, 2738571922, 3919914313, 3437931164, 1718965582, 864195111, 2705410475, 3902315757, 2875835526, 3985400387, 3460706713, 1730388212, 2343129210, 4260112445, 3329627302, 1664813651, 2797532268, 1398766134, 2442607899, 4042499765, 2025935842, 1020825969, 510455936, 255227968], [11631445368222200359, 16757226603236759979, 8430264473103348973, 4215132682286095054, 2127692246514806119, 13185144227365891723, 6612698019052607485, 10798148012564517830, 11286156707044472768, 5643156968611488608, 2821780691498690864, 12327615842502233112, 17080612548063618572, 14845346474573443846, 7474455287152681219, 10042451597182888121, 10639353337785837107, 17389508145544639393, 13876083323396268520, 6985189233553631348, 3492595336183837754, 1746297670633667101, 873148835316833718, 436575001373947483, 14725918171734653040, 7362959087603768376, 3681480057057259036, 11651691798684899086, 16780895730720682759, 8415225909652808123, 4207709540982114533, 2103986162130576586, 12784775150913286762, 16156358658598254901, 8078180051516368034, 4086315699446436433, 2081297710278060432, 1040780828751342664, 540515875210483236, 13492826890641615634, 15693895632876875266, 15338545437432289025, 7698483995361915832, 3849242373501608284, 11713186419122948142, 5908244177151353879, 10412083074042966707, 5226167373665933793, 601442746768626484, 300721682216694042, 150360841108381709, 75180796363829438, 13311810352767907935, 6694045035739225239, 3347022519606054643, 1693839062989604801, 15045864825244261926, 7556569119678353171, 3778399079910252465, 1914013077710043104, 1008657197088228208, 13747022565349710136, 6907147542391804956, 10940667417025866254, 10964401003168060513, 5524843960555694728, 2762422493526439236, 1381211966179156514, 12802896753314517265, 16207896343290089648, 8104150376557856856, 4072349634138874924, 17689354081001786075, 14017069458881996245, 7008534729450949330, 9843056902220301673, 4968675509709216396, 2484338542981107014, 1242169271499464227, 12728871940985999273, 18441550478853928801, 14397522581902771080, 15809644568615180612, 15387578905448076322, 15203567669887592977, 7621909295786440112, 10115994847903261272, 5082776050207445292, 17661694130517478392, 13983043655520025980, 7043172485986436670, 9826626511443288863, 4942446500601498039, 2518370685917920483, 1279311317042364105, 12742939365588156380, 8331638501093071846, 9365180490124875123, 17925285001190953601, 8996374970669427192, 4527521905812671612, 2263840218683098686, 13201567761388806943, 16402824318065224119, 842175138573635872, 13643858282969616400, 16585733578153158664, 8292866790276150276, 9298551368861948418, 17923679016823688449, 9000128354123497144, 4500161172460363612], [15953170217339834914600, 874530834917010197893908, 1077152410060201040269578, 538576252291540552765445, 269288126329940487792826, 774535658523382648550493, 390663723656105412598422, 197831395650040356277579, 411268812698841356545256, 694405642366696607340148, 1141584184732933224082234, 910947134753112213531933, 455486790077105873678006, 229067541009105795577691, 117918748173848054563733, 58965708443746700884466, 462603992718255429742907, 645828005812005161500837, 322914002906004863992042, 163071143359096611479669, 81535609985985134334082, 831777413442883507259457, 415888706722023729530008, 211041679094202757808716, 810187335599123403592467, 1120539672544734968123825, 973488973301854438486240, 486749663398338402482288, 656581950601709510343736, 1198230222737304291188252, 936764315060410342706958, 468382182255848710651655, 1191507474855280717556494, 597967887280414404873479, 302080078496575889342139, 792248250840013244432357, 1113774538730999335454666, 972003574742022022822757, 1050330916246656532530570, 525178727839543512652357, 1049852354028773180849902, 524926177111381984354167, 675670202953843558430595, 1204400267808998430925817, 939860254155178672966084, 1037644247185864810617954, 1007587054570524121001521, 994474030446415501473696, 1063923808221992058118640, 947373357445474288306296, 476776533080658313823292, 238400336187330521866782, 120528907831907866054927, 854645864683686684242111, 427328104663892981143783, 214982994533216728198347, 621580836221128364132323, 1180434517475533231602633, 929190590385403207411164, 466812903678018933541486, 235315689850638405362999, 757543655638707052186275, 378771875133710633354729, 191894120411191046085324, 600202709149728473246168, 640853610415071442209900, 1186981079443966223402550, 931147252859113805652763, 1032703172656144935791029, 516356758571952751111394, 673303347196092097132145, 339741523355853233273728, 1001513588223395066256852, 500767710837707539871338, 250383855567839605062453, 768457563750661051549090, 384239698600828471474769, 682804986665721688784272, 341402493333581987874376, 172910784701880087364388, 783057443745831099492242, 1108887450416103940016969, 554443763462086582132124, 614871085440904370116174, 307435562924974903683879, 718052697463516705099179, 362411326269728584433389, 181213121096292946444238, 264353877831594434844934, 772068565720789124224003, 1102798052256201460566713, 964614733395132976670180, 484511752614377327274610, 245352044817340535035193, 762569950553071752811172, 1096728649663575818193234], [2096219824289145559934226169, 1192914196792046455072319428, 57387520723407546261148568418, 70734760201764109637620923697, 35367380100882055469498025632, 17828160070862627249092780880, 51052584950617469997334890792, 25613372471118572501271182356, 74020786575134952915435671197, 64091198210948580543172126710, 69029395428375847208802298747, 66768798441429432819613822341, 65580395950737416135444451066, 64822385256842535948733605757, 64529329341032928881937058694, 32486919163683255795188563267, 75288055738950484669537928368, 59772696450774227924298834520, 66869809103461906343872303404, 33637401535779044764427464726, 16818702689230817992834504715, 8409353263646357279601536189, 56044284246691135647186884326, 69957360954162454486134229875, 17930252566038664269173710462, 51006128917761246824813834047, 25648097031209380970973147047, 12949963346390333063200042987, 53487423746752892534556774349, 26868839080731394332533907422, 13559957888743404025441277807, 53666957932330188045809275791, 60162378629818582336314453010, 30187685762699377418546796041, 42174496687888708613747780540, 21232128198525201101809036638, 10616067489392369849772600879, 5452916095390228915550451631, 54566065368568087484394275823, 27427836968931517623729256911, 53032205832877072315786177358, 73528205735313311192071138599, 64047329797781355290269896363, 32024307574230982632884037613, 43178530352349434807991110606, 78380102138511867390703435111, 61318229277834494406484936331, 30842269990456636175175934973, 43674236650800276080072294893, 78627955276820597643375147214, 39536682080559190574560869479, 42060328700879004914004082315, 77926785706970390825414172669, 61236040190718271036449798086, 67727166919287008008316511075, 33864375775005222199691364745, 41796317837830395629356911469, 77910496121125578748145417614, 61084295021424485176090551879, 67650730014151238084617270171, 34028348846792195423994085877, 44181344769980992104856418498, 22235479475236500697269697633, 48101764348153796152842010248, 74878651985916392391657059799, 59568221551593558124842042067, 29871264417904119410322727377, 14935632208952226281172994256, 7468153760009307166097097832, 3918095709148524394633634356, 1959388888788961164910989594, 979694449546729947811590157, 78238322470506754468126235636, 39264270260705030897656984954, 19632137925034321675436081725, 51857070421797054786099831206, 73038067525300891568270641235, 63685410318140877971079120017, 68970632967732581131896234736, 34611158539400287051384885624]]] = true)
    {d_SIDES : Addr} (a_SIDES : PySem.W.nsIn K mainGlobals "SIDES" = some (some (.ref d_SIDES))) (t_SIDES : tupB K d_SIDES [8, 12, 16, 20, 24] = true)
    {d_SPANS : Addr} {n_SPANS : Nat} {u_SPANS0 v_SPANS0 : Tok} {u_SPANS1 v_SPANS1 : Tok}
    (a_SPANS : PySem.W.nsIn K mainGlobals "SPANS" = some (some (.ref d_SPANS)))
    (l_SPANS : K.lookup d_SPANS = some ⟨.type "dict", none, .dict #[⟨4, .int 4 u_SPANS0, .int 16 v_SPANS0⟩, ⟨8, .int 8 u_SPANS1, .int 256 v_SPANS1⟩] n_SPANS, #[]⟩)
    (w_SPANS : (d_SPANS == sysModules) = false)
    {t_STRIP : Tok} (a_STRIP : PySem.W.nsIn K mainGlobals "STRIP" = some (some (.int 10 t_STRIP)))
    {d_STRIPS : Addr} {n_STRIPS : Nat} {s_STRIPS : Array (Option Value)} {c_STRIPS0 : Addr} {c_STRIPS1 : Addr} {c_STRIPS2 : Addr} {c_STRIPS3 : Addr} {c_STRIPS4 : Addr}
    (a_STRIPS : PySem.W.nsIn K mainGlobals "STRIPS" = some (some (.ref d_STRIPS)))
    (l_STRIPS : K.lookup d_STRIPS = some ⟨.type "tuple", none, .seq #[.ref c_STRIPS0, .ref c_STRIPS1, .ref c_STRIPS2, .ref c_STRIPS3, .ref c_STRIPS4] n_STRIPS, s_STRIPS⟩)
    (t_STRIPS0 : tupB K c_STRIPS0 [9, 10, 11, 12, 13, 14, 17, 18, 19, 20, 49, 41, 33, 25, 50, 42, 34, 26, 51, 43] = true)
    (t_STRIPS1 : tupB K c_STRIPS1 [13, 14, 15, 16, 17, 18, 19, 20, 21, 22, 121, 109, 97, 85, 73, 61, 49, 37, 25, 122] = true)
    (t_STRIPS2 : tupB K c_STRIPS2 [17, 18, 19, 20, 21, 22, 23, 24, 25, 26, 225, 209, 193, 177, 161, 145, 129, 113, 97, 81] = true)
    (t_STRIPS3 : tupB K c_STRIPS3 [21, 22, 23, 24, 25, 26, 27, 28, 29, 30, 361, 341, 321, 301, 281, 261, 241, 221, 201, 181] = true)
    (t_STRIPS4 : tupB K c_STRIPS4 [25, 26, 27, 28, 29, 30, 31, 32, 33, 34, 529, 505, 481, 457, 433, 409, 385, 361, 337, 313] = true)
    {d_WORD_BITS : Addr} (a_WORD_BITS : PySem.W.nsIn K mainGlobals "WORD_BITS" = some (some (.ref d_WORD_BITS))) (t_WORD_BITS : tupB K d_WORD_BITS [4, 4, 8, 8, 8] = true)
    : ∃ fd : FuncData, (∀ (s : Shared) (v : Value), BindsTo s fd ⟨[v], []⟩ [("_law_script", v)]) ∧ ∀ base : Heap, K.In base → base.Ns mainGlobals mg → FnOk P w K mg base CX0 12 fa fd ["_law_script"] (sp_law K) := by
  have e := hfa.symm.trans (PySem.W.mg_of X G a54)
  cases e
  let T : Txt K mg := {
    f_is_number_to := _
    d_is_number_to := _
    F_is_number_to := fun_mk (st := s_is_number_to) l0 c0 k0
    g_is_number_to := PySem.W.mg_of X G a0
    b_is_number_to := (fun_mk (st := s_is_number_to) l0 c0 k0).binds (ps := ["thing", "least", "most"]) (fun _ _ _ _ _ _ us hl => match us, hl with | [_, _, _], _ => rfl)
    f_is_word := _
    d_is_word := _
    F_is_word := fun_mk (st := s_is_word) l1 c1 k1
    g_is_word := PySem.W.mg_of X G a1
    b_is_word := (fun_mk (st := s_is_word) l1 c1 k1).binds (ps := ["bits", "thing"]) (fun _ _ _ _ _ _ us hl => match us, hl with | [_, _], _ => rfl)
    f_is_row := _
    d_is_row := _
    F_is_row := fun_mk (st := s_is_row) l2 c2 k2
    g_is_row := PySem.W.mg_of X G a2
    b_is_row := (fun_mk (st := s_is_row) l2 c2 k2).binds (ps := ["thing"]) (fun _ _ _ _ _ _ us hl => match us, hl with | [_], _ => rfl)
    f_are_plain_words := _
    d_are_plain_words := _
    F_are_plain_words := fun_mk (st := s_are_plain_words) l3 c3 k3
    g_are_plain_words := PySem.W.mg_of X G a3
    b_are_plain_words := (fun_mk (st := s_are_plain_words) l3 c3 k3).binds (ps := ["bits", "things"]) (fun _ _ _ _ _ _ us hl => match us, hl with | [_, _], _ => rfl)
    f_need_words := _
    d_need_words := _
    F_need_words := fun_mk (st := s_need_words) l4 c4 k4
    g_need_words := PySem.W.mg_of X G a4
    b_need_words := (fun_mk (st := s_need_words) l4 c4 k4).binds (ps := ["bits", "part", "words"]) (fun _ _ _ _ _ _ us hl => match us, hl with | [_, _, _], _ => rfl)
    f_need_size := _
    d_need_size := _
    F_need_size := fun_mk (st := s_need_size) l5 c5 k5
    g_need_size := PySem.W.mg_of X G a5
    b_need_size := (fun_mk (st := s_need_size) l5 c5 k5).binds (ps := ["size"]) (fun _ _ _ _ _ _ us hl => match us, hl with | [_], _ => rfl)
    f_need_level := _
    d_need_level := _
    F_need_level := fun_mk (st := s_need_level) l6 c6 k6
    g_need_level := PySem.W.mg_of X G a6
    b_need_level := (fun_mk (st := s_need_level) l6 c6 k6).binds (ps := ["level"]) (fun _ _ _ _ _ _ us hl => match us, hl with | [_], _ => rfl)
    f_need_mask := _
    d_need_mask := _
    F_need_mask := fun_mk (st := s_need_mask) l7 c7 k7
    g_need_mask := PySem.W.mg_of X G a7
    b_need_mask := (fun_mk (st := s_need_mask) l7 c7 k7).binds (ps := ["mask"]) (fun _ _ _ _ _ _ us hl => match us, hl with | [_], _ => rfl)
    f_block_sizes := _
    d_block_sizes := _
    F_block_sizes := fun_mk (st := s_block_sizes) l8 c8 k8
    g_block_sizes := PySem.W.mg_of X G a8
    b_block_sizes := (fun_mk (st := s_block_sizes) l8 c8 k8).binds (ps := ["size"]) (fun _ _ _ _ _ _ us hl => match us, hl with | [_], _ => rfl)
    f_word_count := _
    d_word_count := _
    F_word_count := fun_mk (st := s_word_count) l9 c9 k9
    g_word_count := PySem.W.mg_of X G a9
    b_word_count := (fun_mk (st := s_word_count) l9 c9 k9).binds (ps := ["size"]) (fun _ _ _ _ _ _ us hl => match us, hl with | [_], _ => rfl)
    f_word_bits := _
    d_word_bits := _
    F_word_bits := fun_mk (st := s_word_bits) l10 c10 k10
    g_word_bits := PySem.W.mg_of X G a10
    b_word_bits := (fun_mk (st := s_word_bits) l10 c10 k10).binds (ps := ["size"]) (fun _ _ _ _ _ _ us hl => match us, hl with | [_], _ => rfl)
    f_check_count := _
    d_check_count := _
    F_check_count := fun_mk (st := s_check_count) l11 c11 k11
    g_check_count := PySem.W.mg_of X G a11
    b_check_count := (fun_mk (st := s_check_count) l11 c11 k11).binds (ps := ["size", "level"]) (fun _ _ _ _ _ _ us hl => match us, hl with | [_, _], _ => rfl)
    f_data_count := _
    d_data_count := _
    F_data_count := fun_mk (st := s_data_count) l12 c12 k12
    g_data_count := PySem.W.mg_of X G a12
    b_data_count := (fun_mk (st := s_data_count) l12 c12 k12).binds (ps := ["size", "level"]) (fun _ _ _ _ _ _ us hl => match us, hl with | [_, _], _ => rfl)
    f_block_places := _
    d_block_places := _
    F_block_places := fun_mk (st := s_block_places) l13 c13 k13
    g_block_places := PySem.W.mg_of X G a13
    b_block_places := (fun_mk (st := s_block_places) l13 c13 k13).binds (ps := ["size", "level"]) (fun _ _ _ _ _ _ us hl => match us, hl with | [_, _], _ => rfl)
    f_dealt_words := _
    d_dealt_words := _
    F_dealt_words := fun_mk (st := s_dealt_words) l14 c14 k14
    g_dealt_words := PySem.W.mg_of X G a14
    b_dealt_words := (fun_mk (st := s_dealt_words) l14 c14 k14).binds (ps := ["size", "level", "blocks"]) (fun _ _ _ _ _ _ us hl => match us, hl with | [_, _, _], _ => rfl)
    f_words_as_bits := _
    d_words_as_bits := _
    F_words_as_bits := fun_mk (st := s_words_as_bits) l15 c15 k15
    g_words_as_bits := PySem.W.mg_of X G a15
    b_words_as_bits := (fun_mk (st := s_words_as_bits) l15 c15 k15).binds (ps := ["words", "many"]) (fun _ _ _ _ _ _ us hl => match us, hl with | [_, _], _ => rfl)
    f_grid_of_words := _
    d_grid_of_words := _
    F_grid_of_words := fun_mk (st := s_grid_of_words) l16 c16 k16
    g_grid_of_words := PySem.W.mg_of X G a16
    b_grid_of_words := (fun_mk (st := s_grid_of_words) l16 c16 k16).binds (ps := ["size", "words", "strip_shades"]) (fun _ _ _ _ _ _ us hl => match us, hl with | [_, _, _], _ => rfl)
    f_word_of_format := _
    d_word_of_format := _
    F_word_of_format := fun_mk (st := s_word_of_format) l17 c17 k17
    g_word_of_format := PySem.W.mg_of X G a17
    b_word_of_format := (fun_mk (st := s_word_of_format) l17 c17 k17).binds (ps := ["level", "mask"]) (fun _ _ _ _ _ _ us hl => match us, hl with | [_, _], _ => rfl)
    f_as_bits := _
    d_as_bits := _
    F_as_bits := fun_mk (st := s_as_bits) l18 c18 k18
    g_as_bits := PySem.W.mg_of X G a18
    b_as_bits := (fun_mk (st := s_as_bits) l18 c18 k18).binds (ps := ["number", "many"]) (fun _ _ _ _ _ _ us hl => match us, hl with | [_, _], _ => rfl)
    f_strip_shades := _
    d_strip_shades := _
    F_strip_shades := fun_mk (st := s_strip_shades) l19 c19 k19
    g_strip_shades := PySem.W.mg_of X G a19
    b_strip_shades := (fun_mk (st := s_strip_shades) l19 c19 k19).binds (ps := ["level", "mask"]) (fun _ _ _ _ _ _ us hl => match us, hl with | [_, _], _ => rfl)
    f_masked_words := _
    d_masked_words := _
    F_masked_words := fun_mk (st := s_masked_words) l20 c20 k20
    g_masked_words := PySem.W.mg_of X G a20
    b_masked_words := (fun_mk (st := s_masked_words) l20 c20 k20).binds (ps := ["size", "mask", "words"]) (fun _ _ _ _ _ _ us hl => match us, hl with | [_, _, _], _ => rfl)
    f_drawn_grid := _
    d_drawn_grid := _
    F_drawn_grid := fun_mk (st := s_drawn_grid) l21 c21 k21
    g_drawn_grid := PySem.W.mg_of X G a21
    b_drawn_grid := (fun_mk (st := s_drawn_grid) l21 c21 k21).binds (ps := ["size", "level", "mask", "words"]) (fun _ _ _ _ _ _ us hl => match us, hl with | [_, _, _, _], _ => rfl)
    f_shares_of := _
    d_shares_of := _
    F_shares_of := fun_mk (st := s_shares_of) l22 c22 k22
    g_shares_of := PySem.W.mg_of X G a22
    b_shares_of := (fun_mk (st := s_shares_of) l22 c22 k22).binds (ps := ["size", "level", "own"]) (fun _ _ _ _ _ _ us hl => match us, hl with | [_, _, _], _ => rfl)
    f_own_counts := _
    d_own_counts := _
    F_own_counts := fun_mk (st := s_own_counts) l23 c23 k23
    g_own_counts := PySem.W.mg_of X G a23
    b_own_counts := (fun_mk (st := s_own_counts) l23 c23 k23).binds (ps := ["size", "level"]) (fun _ _ _ _ _ _ us hl => match us, hl with | [_, _], _ => rfl)
    f_checks_told := _
    d_checks_told := _
    F_checks_told := fun_mk (st := s_checks_told) l24 c24 k24
    g_checks_told := PySem.W.mg_of X G a24
    b_checks_told := (fun_mk (st := s_checks_told) l24 c24 k24).binds (ps := ["size", "level", "words"]) (fun _ _ _ _ _ _ us hl => match us, hl with | [_, _, _], _ => rfl)
    f_number_as_words := _
    d_number_as_words := _
    F_number_as_words := fun_mk (st := s_number_as_words) l25 c25 k25
    g_number_as_words := PySem.W.mg_of X G a25
    b_number_as_words := (fun_mk (st := s_number_as_words) l25 c25 k25).binds (ps := ["number", "many", "bits"]) (fun _ _ _ _ _ _ us hl => match us, hl with | [_, _, _], _ => rfl)
    f_parted_data := _
    d_parted_data := _
    F_parted_data := fun_mk (st := s_parted_data) l26 c26 k26
    g_parted_data := PySem.W.mg_of X G a26
    b_parted_data := (fun_mk (st := s_parted_data) l26 c26 k26).binds (ps := ["size", "level", "data"]) (fun _ _ _ _ _ _ us hl => match us, hl with | [_, _, _], _ => rfl)
    f_right_blocks := _
    d_right_blocks := _
    F_right_blocks := fun_mk (st := s_right_blocks) l27 c27 k27
    g_right_blocks := PySem.W.mg_of X G a27
    b_right_blocks := (fun_mk (st := s_right_blocks) l27 c27 k27).binds (ps := ["size", "level", "data"]) (fun _ _ _ _ _ _ us hl => match us, hl with | [_, _, _], _ => rfl)
    f_need_data := _
    d_need_data := _
    F_need_data := fun_mk (st := s_need_data) l28 c28 k28
    g_need_data := PySem.W.mg_of X G a28
    b_need_data := (fun_mk (st := s_need_data) l28 c28 k28).binds (ps := ["size", "level", "data"]) (fun _ _ _ _ _ _ us hl => match us, hl with | [_, _, _], _ => rfl)
    f_words_of_data := _
    d_words_of_data := _
    F_words_of_data := fun_mk (st := s_words_of_data) l29 c29 k29
    g_words_of_data := PySem.W.mg_of X G a29
    b_words_of_data := (fun_mk (st := s_words_of_data) l29 c29 k29).binds (ps := ["size", "level", "data"]) (fun _ _ _ _ _ _ us hl => match us, hl with | [_, _, _], _ => rfl)
    f_symbol_of := _
    d_symbol_of := _
    F_symbol_of := fun_mk (st := s_symbol_of) l30 c30 k30
    g_symbol_of := PySem.W.mg_of X G a30
    b_symbol_of := (fun_mk (st := s_symbol_of) l30 c30 k30).binds (ps := ["size", "level", "mask", "data"]) (fun _ _ _ _ _ _ us hl => match us, hl with | [_, _, _, _], _ => rfl)
    f_by_sum := _
    d_by_sum := _
    F_by_sum := fun_mk (st := s_by_sum) l31 c31 k31
    g_by_sum := PySem.W.mg_of X G a31
    b_by_sum := (fun_mk (st := s_by_sum) l31 c31 k31).binds (ps := ["row", "column"]) (fun _ _ _ _ _ _ us hl => match us, hl with | [_, _], _ => rfl)
    f_by_three := _
    d_by_three := _
    F_by_three := fun_mk (st := s_by_three) l32 c32 k32
    g_by_three := PySem.W.mg_of X G a32
    b_by_three := (fun_mk (st := s_by_three) l32 c32 k32).binds (ps := ["row", "column"]) (fun _ _ _ _ _ _ us hl => match us, hl with | [_, _], _ => rfl)
    f_by_row := _
    d_by_row := _
    F_by_row := fun_mk (st := s_by_row) l33 c33 k33
    g_by_row := PySem.W.mg_of X G a33
    b_by_row := (fun_mk (st := s_by_row) l33 c33 k33).binds (ps := ["row", "_"]) (fun _ _ _ _ _ _ us hl => match us, hl with | [_, _], _ => rfl)
    f_by_column := _
    d_by_column := _
    F_by_column := fun_mk (st := s_by_column) l34 c34 k34
    g_by_column := PySem.W.mg_of X G a34
    b_by_column := (fun_mk (st := s_by_column) l34 c34 k34).binds (ps := ["_", "column"]) (fun _ _ _ _ _ _ us hl => match us, hl with | [_, _], _ => rfl)
    f_by_squares := _
    d_by_squares := _
    F_by_squares := fun_mk (st := s_by_squares) l35 c35 k35
    g_by_squares := PySem.W.mg_of X G a35
    b_by_squares := (fun_mk (st := s_by_squares) l35 c35 k35).binds (ps := ["row", "column"]) (fun _ _ _ _ _ _ us hl => match us, hl with | [_, _], _ => rfl)
    f_by_product := _
    d_by_product := _
    F_by_product := fun_mk (st := s_by_product) l36 c36 k36
    g_by_product := PySem.W.mg_of X G a36
    b_by_product := (fun_mk (st := s_by_product) l36 c36 k36).binds (ps := ["row", "column"]) (fun _ _ _ _ _ _ us hl => match us, hl with | [_, _], _ => rfl)
    f_by_five := _
    d_by_five := _
    F_by_five := fun_mk (st := s_by_five) l37 c37 k37
    g_by_five := PySem.W.mg_of X G a37
    b_by_five := (fun_mk (st := s_by_five) l37 c37 k37).binds (ps := ["row", "column"]) (fun _ _ _ _ _ _ us hl => match us, hl with | [_, _], _ => rfl)
    f_by_seven := _
    d_by_seven := _
    F_by_seven := fun_mk (st := s_by_seven) l38 c38 k38
    g_by_seven := PySem.W.mg_of X G a38
    b_by_seven := (fun_mk (st := s_by_seven) l38 c38 k38).binds (ps := ["row", "column"]) (fun _ _ _ _ _ _ us hl => match us, hl with | [_, _], _ => rfl)
    f_is_dot := _
    d_is_dot := _
    F_is_dot := fun_mk (st := s_is_dot) l39 c39 k39
    g_is_dot := PySem.W.mg_of X G a39
    b_is_dot := (fun_mk (st := s_is_dot) l39 c39 k39).binds (ps := ["thing", "many"]) (fun _ _ _ _ _ _ us hl => match us, hl with | [_, _], _ => rfl)
    f_turns := _
    d_turns := _
    F_turns := fun_mk (st := s_turns) l40 c40 k40
    g_turns := PySem.W.mg_of X G a40
    b_turns := (fun_mk (st := s_turns) l40 c40 k40).binds (ps := ["mask", "dot"]) (fun _ _ _ _ _ _ us hl => match us, hl with | [_, _], _ => rfl)
    f_strip_dots := _
    d_strip_dots := _
    F_strip_dots := fun_mk (st := s_strip_dots) l41 c41 k41
    g_strip_dots := PySem.W.mg_of X G a41
    b_strip_dots := (fun_mk (st := s_strip_dots) l41 c41 k41).binds (ps := ["size"]) (fun _ _ _ _ _ _ us hl => match us, hl with | [_], _ => rfl)
    f_format_dots := _
    d_format_dots := _
    F_format_dots := fun_mk (st := s_format_dots) l42 c42 k42
    g_format_dots := PySem.W.mg_of X G a42
    b_format_dots := (fun_mk (st := s_format_dots) l42 c42 k42).binds (ps := ["size", "level", "mask"]) (fun _ _ _ _ _ _ us hl => match us, hl with | [_, _, _], _ => rfl)
    f_side := _
    d_side := _
    F_side := fun_mk (st := s_side) l43 c43 k43
    g_side := PySem.W.mg_of X G a43
    b_side := (fun_mk (st := s_side) l43 c43 k43).binds (ps := ["size"]) (fun _ _ _ _ _ _ us hl => match us, hl with | [_], _ => rfl)
    f_border_value := _
    d_border_value := _
    F_border_value := fun_mk (st := s_border_value) l44 c44 k44
    g_border_value := PySem.W.mg_of X G a44
    b_border_value := (fun_mk (st := s_border_value) l44 c44 k44).binds (ps := ["last", "row", "column"]) (fun _ _ _ _ _ _ us hl => match us, hl with | [_, _, _], _ => rfl)
    f_border_dots := _
    d_border_dots := _
    F_border_dots := fun_mk (st := s_border_dots) l45 c45 k45
    g_border_dots := PySem.W.mg_of X G a45
    b_border_dots := (fun_mk (st := s_border_dots) l45 c45 k45).binds (ps := ["last"]) (fun _ _ _ _ _ _ us hl => match us, hl with | [_], _ => rfl)
    f_border := _
    d_border := _
    F_border := fun_mk (st := s_border) l46 c46 k46
    g_border := PySem.W.mg_of X G a46
    b_border := (fun_mk (st := s_border) l46 c46 k46).binds (ps := ["size"]) (fun _ _ _ _ _ _ us hl => match us, hl with | [_], _ => rfl)
    f__law_draw := _
    d__law_draw := _
    F__law_draw := fun_mk (st := s__law_draw) l47 c47 k47
    g__law_draw := PySem.W.mg_of X G a47
    b__law_draw := (fun_mk (st := s__law_draw) l47 c47 k47).binds (ps := ["_law_well", "_law_many"]) (fun _ _ _ _ _ _ us hl => match us, hl with | [_, _], _ => rfl)
    f__law_one := _
    d__law_one := _
    F__law_one := fun_mk (st := s__law_one) l48 c48 k48
    g__law_one := PySem.W.mg_of X G a48
    b__law_one := (fun_mk (st := s__law_one) l48 c48 k48).binds (ps := ["_law_well", "_law_some"]) (fun _ _ _ _ _ _ us hl => match us, hl with | [_, _], _ => rfl)
    f__law_number := _
    d__law_number := _
    F__law_number := fun_mk (st := s__law_number) l49 c49 k49
    g__law_number := PySem.W.mg_of X G a49
    b__law_number := (fun_mk (st := s__law_number) l49 c49 k49).binds (ps := ["_law_grid"]) (fun _ _ _ _ _ _ us hl => match us, hl with | [_], _ => rfl)
    f__law_dots := _
    d__law_dots := _
    F__law_dots := fun_mk (st := s__law_dots) l50 c50 k50
    g__law_dots := PySem.W.mg_of X G a50
    b__law_dots := (fun_mk (st := s__law_dots) l50 c50 k50).binds (ps := ["_law_size"]) (fun _ _ _ _ _ _ us hl => match us, hl with | [_], _ => rfl)
    f__law_row := _
    d__law_row := _
    F__law_row := fun_mk (st := s__law_row) l51 c51 k51
    g__law_row := PySem.W.mg_of X G a51
    b__law_row := (fun_mk (st := s__law_row) l51 c51 k51).binds (ps := ["_law_well", "_law_size", "_law_level"]) (fun _ _ _ _ _ _ us hl => match us, hl with | [_, _, _], _ => rfl)
    f__law_fixed_right := _
    d__law_fixed_right := _
    F__law_fixed_right := fun_mk (st := s__law_fixed_right) l52 c52 k52
    g__law_fixed_right := PySem.W.mg_of X G a52
    b__law_fixed_right := (fun_mk (st := s__law_fixed_right) l52 c52 k52).binds (ps := ["_law_size", "_law_level", "_law_mask", "_law_grids"]) (fun _ _ _ _ _ _ us hl => match us, hl with | [_, _, _, _], _ => rfl)
    f__law_right := _
    d__law_right := _
    F__law_right := fun_mk (st := s__law_right) l53 c53 k53
    g__law_right := PySem.W.mg_of X G a53
    b__law_right := (fun_mk (st := s__law_right) l53 c53 k53).binds (ps := ["_law_well"]) (fun _ _ _ _ _ _ us hl => match us, hl with | [_], _ => rfl)
    f_law := _
    d_law := _
    F_law := fun_mk (st := s_law) l54 c54 k54
    g_law := PySem.W.mg_of X G a54
    b_law := (fun_mk (st := s_law) l54 c54 k54).binds (ps := ["_law_script"]) (fun _ _ _ _ _ _ us hl => match us, hl with | [_], _ => rfl)
    n_any := PySem.W.mg_none_of X G z_any
    n_bool := PySem.W.mg_none_of X G z_bool
    n_divmod := PySem.W.mg_none_of X G z_divmod
    n_enumerate := PySem.W.mg_none_of X G z_enumerate
    n_int := PySem.W.mg_none_of X G z_int
    n_isinstance := PySem.W.mg_none_of X G z_isinstance
    n_len := PySem.W.mg_none_of X G z_len
    n_list := PySem.W.mg_none_of X G z_list
    n_min := PySem.W.mg_none_of X G z_min
    n_range := PySem.W.mg_none_of X G z_range
    n_sorted := PySem.W.mg_none_of X G z_sorted
    n_sum := PySem.W.mg_none_of X G z_sum
    n_tuple := PySem.W.mg_none_of X G z_tuple
    n_type := PySem.W.mg_none_of X G z_type
    n_zip := PySem.W.mg_none_of X G z_zip
    c_BLOCKS0 := c_BLOCKS0
    t_BLOCKS0 := t_BLOCKS0
    c_BLOCKS1 := c_BLOCKS1
    t_BLOCKS1 := t_BLOCKS1
    c_BLOCKS2 := c_BLOCKS2
    t_BLOCKS2 := t_BLOCKS2
    c_BLOCKS3 := c_BLOCKS3
    t_BLOCKS3 := t_BLOCKS3
    c_BLOCKS4 := c_BLOCKS4
    t_BLOCKS4 := t_BLOCKS4
    a_BLOCKS := d_BLOCKS
    g_BLOCKS := PySem.W.mg_of X G a_BLOCKS
    l_BLOCKS := ⟨_, _, l_BLOCKS⟩
    c_CHECKS0 := c_CHECKS0
    t_CHECKS0 := t_CHECKS0
    c_CHECKS1 := c_CHECKS1
    t_CHECKS1 := t_CHECKS1
    c_CHECKS2 := c_CHECKS2
    t_CHECKS2 := t_CHECKS2
    c_CHECKS3 := c_CHECKS3
    t_CHECKS3 := t_CHECKS3
    c_CHECKS4 := c_CHECKS4
    t_CHECKS4 := t_CHECKS4
    a_CHECKS := d_CHECKS
    g_CHECKS := PySem.W.mg_of X G a_CHECKS
    l_CHECKS := ⟨_, _, l_CHECKS⟩
    a_FORMAT_WORDS := d_FORMAT_WORDS
    g_FORMAT_WORDS := PySem.W.mg_of X G a_FORMAT_WORDS
    l_FORMAT_WORDS := t_FORMAT_WORDS
    g_LEVELS := ⟨_, PySem.W.mg_of X G a_LEVELS⟩
    g_MASKS := ⟨_, PySem.W.mg_of X G a_MASKS⟩
    a_MASK_WORDS := d_MASK_WORDS
    g_MASK_WORDS := PySem.W.mg_of X G a_MASK_WORDS
    l_MASK_WORDS := t_MASK_WORDS
    a_PLACES := d_PLACES
    g_PLACES := PySem.W.mg_of X G a_PLACES
    l_PLACES := t_PLACES
    c_QUADS0 := c_QUADS0
    t_QUADS0 := t_QUADS0
    c_QUADS1 := c_QUADS1
    t_QUADS1 := t_QUADS1
    c_QUADS2 := c_QUADS2
    t_QUADS2 := t_QUADS2
    c_QUADS3 := c_QUADS3
    t_QUADS3 := t_QUADS3
    c_QUADS4 := c_QUADS4
    t_QUADS4 := t_QUADS4
    c_QUADS5 := c_QUADS5
    t_QUADS5 := t_QUADS5
    c_QUADS6 := c_QUADS6
    t_QUADS6 := t_QUADS6
    c_QUADS7 := c_QUADS7
    t_QUADS7 := t_QUADS7
    c_QUADS8 := c_QUADS8
    t_QUADS8 := t_QUADS8
    c_QUADS9 := c_QUADS9
    t_QUADS9 := t_QUADS9
    c_QUADS10 := c_QUADS10
    t_QUADS10 := t_QUADS10
    c_QUADS11 := c_QUADS11
    t_QUADS11 := t_QUADS11
    c_QUADS12 := c_QUADS12
    t_QUADS12 := t_QUADS12
    c_QUADS13 := c_QUADS13
    t_QUADS13 := t_QUADS13
    c_QUADS14 := c_QUADS14
    t_QUADS14 := t_QUADS14
    c_QUADS15 := c_QUADS15
    t_QUADS15 := t_QUADS15
    a_QUADS := d_QUADS
    g_QUADS := PySem.W.mg_of X G a_QUADS
    l_QUADS := ⟨_, _, l_QUADS⟩
    a_RULES := d_RULES
    g_RULES := PySem.W.mg_of X G a_RULES
    l_RULES := t_RULES
    a_SHARES := d_SHARES
    g_SHARES := PySem.W.mg_of X G a_SHARES
    l_SHARES := t_SHARES
    a_SIDES := d_SIDES
    g_SIDES := PySem.W.mg_of X G a_SIDES
    l_SIDES := t_SIDES
    a_SPANS := d_SPANS
    g_SPANS := PySem.W.mg_of X G a_SPANS
    l_SPANS := ⟨_, _, l_SPANS, (.cons (.cons .nil)), w_SPANS⟩
    g_STRIP := ⟨_, PySem.W.mg_of X G a_STRIP⟩
    c_STRIPS0 := c_STRIPS0
    t_STRIPS0 := t_STRIPS0
    c_STRIPS1 := c_STRIPS1
    t_STRIPS1 := t_STRIPS1
    c_STRIPS2 := c_STRIPS2
    t_STRIPS2 := t_STRIPS2
    c_STRIPS3 := c_STRIPS3
    t_STRIPS3 := t_STRIPS3
    c_STRIPS4 := c_STRIPS4
    t_STRIPS4 := t_STRIPS4
    a_STRIPS := d_STRIPS
    g_STRIPS := PySem.W.mg_of X G a_STRIPS
    l_STRIPS := ⟨_, _, l_STRIPS⟩
    a_WORD_BITS := d_WORD_BITS
    g_WORD_BITS := PySem.W.mg_of X G a_WORD_BITS
    l_WORD_BITS := t_WORD_BITS }
  exact ⟨T.d_law, fun s v => .of_eq rfl, fun base _ _ => ok_law T⟩
end My
open PySem PySem.W PyProof.Rows
set_option maxHeartbeats 0 in
theorem PySem.Challenge.cw_dotquilts_k55_whole_symbols_are_one_spac_holds : PySem.Challenge.rw_dotquilts_k55_whole_symbols_are_one_spac.Holds := by
  w_on; o_law; k_head; (case hw => w_witness2)
  k_fill
  refine L2.walk_of (l := PySem.Challenge.rw_dotquilts_k55_whole_symbols_are_one_spac) (n := 63) (k := 12) (x := "_law_script") (CX := fun _ => L2.CX0) (sp := fun w => My.sp_law _) rfl (by decide) rfl ⟨rfl, by decide, by decide⟩ (fun w h Y => PySem.W.kIn_of Y) ?F (fun _ _ a ns hl _ hS => ⟨a, ns, rfl, hS, hl, fun _ => rfl⟩) (fun _ _ _ _ _ h => h)
  case F =>
    intro w mg fa h KX G hmg
    refine' My.all_mk KX G hmg ?a0 ?l0 ?c0 ?k0 ?a1 ?l1 ?c1 ?k1 ?a2 ?l2 ?c2 ?k2 ?a3 ?l3 ?c3 ?k3 ?a4 ?l4 ?c4 ?k4 ?a5 ?l5 ?c5 ?k5 ?a6 ?l6 ?c6 ?k6 ?a7 ?l7 ?c7 ?k7 ?a8 ?l8 ?c8 ?k8 ?a9 ?l9 ?c9 ?k9 ?a10 ?l10 ?c10 ?k10 ?a11 ?l11 ?c11 ?k11 ?a12 ?l12 ?c12 ?k12 ?a13 ?l13 ?c13 ?k13 ?a14 ?l14 ?c14 ?k14 ?a15 ?l15 ?c15 ?k15 ?a16 ?l16 ?c16 ?k16 ?a17 ?l17 ?c17 ?k17 ?a18 ?l18 ?c18 ?k18 ?a19 ?l19 ?c19 ?k19 ?a20 ?l20 ?c20 ?k20 ?a21 ?l21 ?c21 ?k21 ?a22 ?l22 ?c22 ?k22 ?a23 ?l23 ?c23 ?k23 ?a24 ?l24 ?c24 ?k24 ?a25 ?l25 ?c25 ?k25 ?a26 ?l26 ?c26 ?k26 ?a27 ?l27 ?c27 ?k27 ?a28 ?l28 ?c28 ?k28 ?a29 ?l29 ?c29 ?k29 ?a30 ?l30 ?c30 ?k30 ?a31 ?l31 ?c31 ?k31 ?a32 ?l32 ?c32 ?k32 ?a33 ?l33 ?c33 ?k33 ?a34 ?l34 ?c34 ?k34 ?a35 ?l35 ?c35 ?k35 ?a36 ?l36 ?c36 ?k36 ?a37 ?l37 ?c37 ?k37 ?a38 ?l38 ?c38 ?k38 ?a39 ?l39 ?c39 ?k39 ?a40 ?l40 ?c40 ?k40 ?a41 ?l41 ?c41 ?k41 ?a42 ?l42 ?c42 ?k42 ?a43 ?l43 ?c43 ?k43 ?a44 ?l44 ?c44 ?k44 ?a45 ?l45 ?c45 ?k45 ?a46 ?l46 ?c46 ?k46 ?a47 ?l47 ?c47 ?k47 ?a48 ?l48 ?c48 ?k48 ?a49 ?l49 ?c49 ?k49 ?a50 ?l50 ?c50 ?k50 ?a51 ?l51 ?c51 ?k51 ?a52 ?l52 ?c52 ?k52 ?a53 ?l53 ?c53 ?k53 ?a54 ?l54 ?c54 ?k54 ?z_any ?z_bool ?z_divmod ?z_enumerate ?z_int ?z_isinstance ?z_len ?z_list ?z_min ?z_range ?z_sorted ?z_sum ?z_tuple ?z_type ?z_zip ?a_BLOCKS ?l_BLOCKS ?t_BLOCKS0 ?t_BLOCKS1 ?t_BLOCKS2 ?t_BLOCKS3 ?t_BLOCKS4 ?a_CHECKS ?l_CHECKS ?t_CHECKS0 ?t_CHECKS1 ?t_CHECKS2 ?t_CHECKS3 ?t_CHECKS4 ?a_FORMAT_WORDS ?t_FORMAT_WORDS ?a_LEVELS ?a_MASKS ?a_MASK_WORDS ?t_MASK_WORDS ?a_PLACES ?t_PLACES ?a_QUADS ?l_QUADS ?t_QUADS0 ?t_QUADS1 ?t_QUADS2 ?t_QUADS3 ?t_QUADS4 ?t_QUADS5 ?t_QUADS6 ?t_QUADS7 ?t_QUADS8 ?t_QUADS9 ?t_QUADS10 ?t_QUADS11 ?t_QUADS12 ?t_QUADS13 ?t_QUADS14 ?t_QUADS15 ?a_RULES ?t_RULES ?a_SHARES ?t_SHARES ?a_SIDES ?t_SIDES ?a_SPANS ?l_SPANS ?w_SPANS ?a_STRIP ?a_STRIPS ?l_STRIPS ?t_STRIPS0 ?t_STRIPS1 ?t_STRIPS2 ?t_STRIPS3 ?t_STRIPS4 ?a_WORD_BITS ?t_WORD_BITS
    (case a0 => k_is)
    (case l0 => k_is)
    (case c0 => k_is)
    (case k0 => k_is)
    (case a1 => k_is)
    (case l1 => k_is)
    (case c1 => k_is)
    (case k1 => k_is)
    (case a2 => k_is)
    (case l2 => k_is)
    (case c2 => k_is)
    (case k2 => k_is)
    (case a3 => k_is)
    (case l3 => k_is)
    (case c3 => k_is)
    (case k3 => k_is)
    (case a4 => k_is)
    (case l4 => k_is)
    (case c4 => k_is)
    (case k4 => k_is)
    (case a5 => k_is)
    (case l5 => k_is)
    (case c5 => k_is)
    (case k5 => k_is)
    (case a6 => k_is)
    (case l6 => k_is)
    (case c6 => k_is)
    (case k6 => k_is)
    (case a7 => k_is)
    (case l7 => k_is)
    (case c7 => k_is)
    (case k7 => k_is)
    (case a8 => k_is)
    (case l8 => k_is)
    (case c8 => k_is)
    (case k8 => k_is)
    (case a9 => k_is)
    (case l9 => k_is)
    (case c9 => k_is)
    (case k9 => k_is)
    (case a10 => k_is)
    (case l10 => k_is)
    (case c10 => k_is)
    (case k10 => k_is)
    (case a11 => k_is)
    (case l11 => k_is)
    (case c11 => k_is)
    (case k11 => k_is)
    (case a12 => k_is)
    (case l12 => k_is)
    (case c12 => k_is)
    (case k12 => k_is)
    (case a13 => k_is)
    (case l13 => k_is)
    (case c13 => k_is)
    (case k13 => k_is)
    (case a14 => k_is)
    (case l14 => k_is)
    (case c14 => k_is)
    (case k14 => k_is)
    (case a15 => k_is)
    (case l15 => k_is)
    (case c15 => k_is)
    (case k15 => k_is)
    (case a16 => k_is)
    (case l16 => k_is)
    (case c16 => k_is)
    (case k16 => k_is)
    (case a17 => k_is)
    (case l17 => k_is)
    (case c17 => k_is)
    (case k17 => k_is)
    (case a18 => k_is)
    (case l18 => k_is)
    (case c18 => k_is)
    (case k18 => k_is)
    (case a19 => k_is)
    (case l19 => k_is)
    (case c19 => k_is)
    (case k19 => k_is)
    (case a20 => k_is)
    (case l20 => k_is)
    (case c20 => k_is)
    (case k20 => k_is)
    (case a21 => k_is)
    (case l21 => k_is)
    (case c21 => k_is)
    (case k21 => k_is)
    (case a22 => k_is)
    (case l22 => k_is)
    (case c22 => k_is)
    (case k22 => k_is)
    (case a23 => k_is)
    (case l23 => k_is)
    (case c23 => k_is)
    (case k23 => k_is)
    (case a24 => k_is)
    (case l24 => k_is)
    (case c24 => k_is)
    (case k24 => k_is)
    (case a25 => k_is)
    (case l25 => k_is)
    (case c25 => k_is)
    (case k25 => k_is)
    (case a26 => k_is)
    (case l26 => k_is)
    (case c26 => k_is)
    (case k26 => k_is)
    (case a27 => k_is)
    (case l27 => k_is)
    (case c27 => k_is)
    (case k27 => k_is)
    (case a28 => k_is)
    (case l28 => k_is)
    (case c28 => k_is)
    (case k28 => k_is)
    (case a29 => k_is)
    (case l29 => k_is)
    (case c29 => k_is)
    (case k29 => k_is)
    (case a30 => k_is)
    (case l30 => k_is)
    (case c30 => k_is)
    (case k30 => k_is)
    (case a31 => k_is)
    (case l31 => k_is)
    (case c31 => k_is)
    (case k31 => k_is)
    (case a32 => k_is)
    (case l32 => k_is)
    (case c32 => k_is)
    (case k32 => k_is)
    (case a33 => k_is)
    (case l33 => k_is)
    (case c33 => k_is)
    (case k33 => k_is)
    (case a34 => k_is)
    (case l34 => k_is)
    (case c34 => k_is)
    (case k34 => k_is)
    (case a35 => k_is)
    (case l35 => k_is)
    (case c35 => k_is)
    (case k35 => k_is)
    (case a36 => k_is)
    (case l36 => k_is)
    (case c36 => k_is)
    (case k36 => k_is)
    (case a37 => k_is)
    (case l37 => k_is)
    (case c37 => k_is)
    (case k37 => k_is)
    (case a38 => k_is)
    (case l38 => k_is)
    (case c38 => k_is)
    (case k38 => k_is)
    (case a39 => k_is)
    (case l39 => k_is)
    (case c39 => k_is)
    (case k39 => k_is)
    (case a40 => k_is)
    (case l40 => k_is)
    (case c40 => k_is)
    (case k40 => k_is)
    (case a41 => k_is)
    (case l41 => k_is)
    (case c41 => k_is)
    (case k41 => k_is)
    (case a42 => k_is)
    (case l42 => k_is)
    (case c42 => k_is)
    (case k42 => k_is)
    (case a43 => k_is)
    (case l43 => k_is)
    (case c43 => k_is)
    (case k43 => k_is)
    (case a44 => k_is)
    (case l44 => k_is)
    (case c44 => k_is)
    (case k44 => k_is)
    (case a45 => k_is)
    (case l45 => k_is)
    (case c45 => k_is)
    (case k45 => k_is)
    (case a46 => k_is)
    (case l46 => k_is)
    (case c46 => k_is)
    (case k46 => k_is)
    (case a47 => k_is)
    (case l47 => k_is)
    (case c47 => k_is)
    (case k47 => k_is)
    (case a48 => k_is)
    (case l48 => k_is)
    (case c48 => k_is)
    (case k48 => k_is)
    (case a49 => k_is)
    (case l49 => k_is)
    (case c49 => k_is)
    (case k49 => k_is)
    (case a50 => k_is)
    (case l50 => k_is)
    (case c50 => k_is)
    (case k50 => k_is)
    (case a51 => k_is)
    (case l51 => k_is)
    (case c51 => k_is)
    (case k51 => k_is)
    (case a52 => k_is)
    (case l52 => k_is)
    (case c52 => k_is)
    (case k52 => k_is)
    (case a53 => k_is)
    (case l53 => k_is)
    (case c53 => k_is)
    (case k53 => k_is)
    (case a54 => k_is)
    (case l54 => k_is)
    (case c54 => k_is)
    (case k54 => k_is)
    (case z_any => k_is)
    (case z_bool => k_is)
    (case z_divmod => k_is)
    (case z_enumerate => k_is)
    (case z_int => k_is)
    (case z_isinstance => k_is)
    (case z_len => k_is)
    (case z_list => k_is)
    (case z_min => k_is)
    (case z_range => k_is)
    (case z_sorted => k_is)
    (case z_sum => k_is)
    (case z_tuple => k_is)
    (case z_type => k_is)
    (case z_zip => k_is)
    (case a_BLOCKS => k_is)
    (case l_BLOCKS => k_is)
    (case t_BLOCKS0 => first | rfl | decide +kernel | k_is)
    (case t_BLOCKS1 => first | rfl | decide +kernel | k_is)
    (case t_BLOCKS2 => first | rfl | decide +kernel | k_is)
    (case t_BLOCKS3 => first | rfl | decide +kernel | k_is)
    (case t_BLOCKS4 => first | rfl | decide +kernel | k_is)
    (case a_CHECKS => k_is)
    (case l_CHECKS => k_is)
    (case t_CHECKS0 => first | rfl | decide +kernel | k_is)
    (case t_CHECKS1 => first | rfl | decide +kernel | k_is)
    (case t_CHECKS2 => first | rfl | decide +kernel | k_is)
    (case t_CHECKS3 => first | rfl | decide +kernel | k_is)
    (case t_CHECKS4 => first | rfl | decide +kernel | k_is)
    (case a_FORMAT_WORDS => k_is)
    (case t_FORMAT_WORDS => first | rfl | decide +kernel | k_is)
    (case a_LEVELS => k_is)
    (case a_MASKS => k_is)
    (case a_MASK_WORDS => k_is)
    (case t_MASK_WORDS => first | rfl | decide +kernel | k_is)
    (case a_PLACES => k_is)
    (case t_PLACES => first | rfl | decide +kernel | k_is)
    (case a_QUADS => k_is)
    (case l_QUADS => k_is)
    (case t_QUADS0 => first | rfl | decide +kernel | k_is)
    (case t_QUADS1 => first | rfl | decide +kernel | k_is)
    (case t_QUADS2 => first | rfl | decide +kernel | k_is)
    (case t_QUADS3 => first | rfl | decide +kernel | k_is)
    (case t_QUADS4 => first | rfl | decide +kernel | k_is)
    (case t_QUADS5 => first | rfl | decide +kernel | k_is)
    (case t_QUADS6 => first | rfl | decide +kernel | k_is)
    (case t_QUADS7 => first | rfl | decide +kernel | k_is)
    (case t_QUADS8 => first | rfl | decide +kernel | k_is)
    (case t_QUADS9 => first | rfl | decide +kernel | k_is)
    (case t_QUADS10 => first | rfl | decide +kernel | k_is)
    (case t_QUADS11 => first | rfl | decide +kernel | k_is)
    (case t_QUADS12 => first | rfl | decide +kernel | k_is)
    (case t_QUADS13 => first | rfl | decide +kernel | k_is)
    (case t_QUADS14 => first | rfl | decide +kernel | k_is)
    (case t_QUADS15 => first | rfl | decide +kernel | k_is)
    (case a_RULES => k_is)
    (case t_RULES => exact ⟨by first | rfl | decide +kernel, by decide⟩)
    (case a_SHARES => k_is)
    (case t_SHARES => first | rfl | decide +kernel | k_is)
    (case a_SIDES => k_is)
    (case t_SIDES => first | rfl | decide +kernel | k_is)
    (case a_SPANS => k_is)
    (case l_SPANS => k_is)
    (case w_SPANS => first | rfl | decide)
    (case a_STRIP => k_is)
    (case a_STRIPS => k_is)
    (case l_STRIPS => k_is)
    (case t_STRIPS0 => first | rfl | decide +kernel | k_is)
    (case t_STRIPS1 => first | rfl | decide +kernel | k_is)
    (case t_STRIPS2 => first | rfl | decide +kernel | k_is)
    (case t_STRIPS3 => first | rfl | decide +kernel | k_is)
    (case t_STRIPS4 => first | rfl | decide +kernel | k_is)
    (case a_WORD_BITS => k_is)
    (case t_WORD_BITS => first | rfl | decide +kernel | k_is)

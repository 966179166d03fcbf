import PyProof.Rows.All
import Wide.All
import PyProof.ZipIter
import PyProof.Draws
import KE.KStar
import OpenK.AllK
import Wide.FinOn
import HandS.ForMost
import HandS.IsInst
import HandS.SortInts
import HandS.Evl
import HandS.Conv
import HandS.Walk
import KE.GoesEnum
import KE.GoesMore
import HandS.Defaults
import HandS.Rev
import HandS.TupAny
import HandS.TupMul
import HandS.Star
import HandS.Style
import HandS.Strs
import HandS.List
import HandS.Flow
import HandS.More
import HandS.Zip
import HandS.TupLe
import HandS.Wide
import PyProof.ListRange
import PyProof.WalkInts
import PyProof.SumWalk
import HandS.ExcValue
import HandS.ExcOwn
import HandS.TupSets
import HandS.SortOrd
import HandS.SortRule
import PyProof.ReprRoads
import HandS.Ends
import HandS.Deep
import HandS.DictTup
import HandS.Iter
import HandS.Sort
import HandS.DictSubView
import HandS.NoneIn
import HandS.Dict
import HandS.FStr
import PyProof.Rows.StrIntSpec
import HandS.IntHex
import PyProof.StrLawsIn
import HandS.ReplaceList
import HandS.Codes
import HandS.CallLocal
import HandS.Small
import PySem.Challenge.RW_dotquilts_k28_whole_words_in_grids
set_option Elab.async false
set_option linter.all false
set_option maxRecDepth 100000
set_option maxHeartbeats 1000000
/-! ### zip of any number of lists -/
namespace My
open PySem
open PySem.Sem (wp)
section
variable {prog : Program} {w : World} {A : Around} {E : Value → Shared → Prop}
/-- a for over a list, with a word for each turn -/
theorem wp_for {α β : Type} {f : α → β → Sem (ForInStep β)} {Q : β → Shared → Prop} (W : Nat → β → Shared → Prop) : ∀ (l : List α) (k : Nat) (b : β) (s : Shared),
    (∀ j x b s, l[j]? = some x → W (k + j) b s → wpAny (model prog w) A (f x b) (fun r s' => ∃ b', r = .yield b' ∧ W (k + j + 1) b' s') E s) → W k b s → (∀ b s, W (k + l.length) b s → Q b s) → wpAny (model prog w) A (forIn l b f) Q E s
  | [], k, b, s, _, h0, hq => by
    rw [List.forIn_nil]
    exact wpAny_pure (hq b s h0)
  | x :: l, k, b, s, hs, h0, hq => by
    rw [List.forIn_cons]
    refine wpAny_bind (wpAny_mono (hs 0 x b s rfl h0) (fun r s' h => ?_) fun _ _ h => h)
    obtain ⟨b', e, h1⟩ := h
    subst e
    refine wp_for W l (k + 1) b' s' (fun j y b2 s2 hy h2 => ?_) h1 (fun b2 s2 h2 => hq b2 s2 ?_)
    · have e : k + 1 + j = k + (j + 1) := by omega
      rw [e] at h2 ⊢
      exact hs (j + 1) y b2 s2 (by simpa using hy) h2
    · have e : k + 1 + l.length = k + (x :: l).length := by rw [List.length_cons]; omega
      rw [← e]
      exact h2
/-- the iterators of a zip, made one behind the other -/
theorem wp_iterAll {L : List Addr} {s : Shared} {Q : List Value → Shared → Prop} (hl : ∀ l ∈ L, ∃ xs, s.heap.IsList l xs)
    (hq : ∀ h', h'.objs.size = s.heap.objs.size + L.length → (∀ j l, L[j]? = some l → h'.IsListIter (s.heap.objs.size + j) l 0) → (∀ c o, s.heap.get? c = some o → h'.get? c = some o) →
      Q ((List.range L.length).map fun j => .ref (s.heap.objs.size + j)) { s with heap := h' }) :
    wpAny (model prog w) A (Builtin.SmallTypes.iterAll (L.map .ref)) Q E s := by
  unfold Builtin.SmallTypes.iterAll
  refine wpAny_bind (wp_for (fun k (b : Array Value) s' => ∃ h', s' = { s with heap := h' } ∧ b.toList = (List.range k).map (fun j => Value.ref (s.heap.objs.size + j)) ∧ h'.objs.size = s.heap.objs.size + k ∧ (∀ j l, j < k → L[j]? = some l → h'.IsListIter (s.heap.objs.size + j) l 0) ∧ (∀ c o, s.heap.get? c = some o → h'.get? c = some o)) _ 0 _ _ ?_ ⟨s.heap, rfl, rfl, rfl, fun j l z _ => absurd z (Nat.not_lt_zero _), fun _ _ e => e⟩ ?_)
  · rintro j x b s' hx ⟨h', rfl, hb, hsz, hi, hk⟩
    rw [Nat.zero_add] at hb hsz hi ⊢
    rw [List.getElem?_map] at hx
    cases hL : L[j]? with
    | none => rw [hL] at hx; cases hx
    | some l =>
      rw [hL] at hx
      cases hx
      obtain ⟨xs, o, ho, hc, hd⟩ := hl l (List.mem_of_getElem? hL)
      have hl' : Heap.IsList h' l xs := ⟨o, hk _ _ ho, hc, hd⟩
      refine wpAny_bind (wpAny_holding (wpAny_pyIter_list (s := { s with heap := h' }) hl' (wpAny_pure ⟨_, rfl, _, rfl, ?_, ?_, ?_, ?_⟩)))
      · show (b.push _).toList = _
        rw [Array.toList_push, hb, List.range_succ, List.map_append, hsz]
        rfl
      · show (Heap.push h' _).objs.size = _
        rw [Heap.size_push, hsz]
        omega
      · intro j2 l2 hj h2
        by_cases e : j2 = j
        · subst e
          rw [hL] at h2
          cases h2
          rw [← hsz]
          exact ⟨_, Heap.get?_push_size _ rfl, rfl, rfl⟩
        · exact (hi j2 l2 (by omega) h2).at fun o q => Heap.get?_push_of_some _ q
      · exact fun c o q => Heap.get?_push_of_some _ (hk c o q)
  · rintro b s' ⟨h', rfl, hb, hsz, hi, hk⟩
    rw [List.length_map, Nat.zero_add] at hb hsz hi
    refine wpAny_pure ?_
    rw [hb]
    exact hq h' hsz (fun j l h => hi j l (List.getElem?_eq_some_iff.mp h).1 h) hk
theorem typeCall_zip (l : List Value) : checkTypeCall "zip" ⟨l, []⟩ = pure () := by kernel_rfl
theorem newCall_zip (a : Value) (l : List Value) : checkBuiltinCall "zip.__new__" ⟨.type "zip" :: a :: l, []⟩ = pure () := by kernel_rfl
theorem args_init_any (a : Value) (l : List Value) : argsOk "object.__init__" ⟨a :: l, []⟩ := by unfold argsOk; kernel_rfl
/-- a zip object, its parts in the two cells behind the iterators -/
abbrev ZRec (h : Heap) (z TI TO : Addr) (f0 : Value) (b : Bool) : Prop :=
  h.get? z = some { cls := .type "zip", dict := none, data := .fields #[f0, .bool b, .bool false, .ref TI, .ref TO], slots := #[] }
abbrev STup (h : Heap) (T : Addr) (a : Array Value) : Prop := h.get? T = some { cls := .type "tuple", data := .seq a }
def refsOf (b n : Nat) : List Value := (List.range n).map fun j => .ref (b + j)
theorem meets_zip_n (L : List Addr) (hn : L.length ≤ sizeLine) :
    Meets (Builtin.«zip.__new__» ⟨.type "zip" :: L.map .ref, []⟩) (fun _ R s => (∀ l ∈ L, ∃ xs, s.heap.IsList l xs) ∧
      ∀ h', ZRec h' (s.heap.objs.size + L.length + 2) (s.heap.objs.size + L.length) (s.heap.objs.size + L.length + 1) .none false → STup h' (s.heap.objs.size + L.length) (refsOf s.heap.objs.size L.length).toArray →
        (∃ a, STup h' (s.heap.objs.size + L.length + 1) a ∧ a.size = L.length) → (∀ j l, L[j]? = some l → h'.IsListIter (s.heap.objs.size + j) l 0) → (∀ c o, s.heap.get? c = some o → h'.get? c = some o) →
        R (.ok (.ret (.ref (s.heap.objs.size + L.length + 2)))) { s with heap := h' }) :=
  .of_wp fun prog w A R s h => by
    obtain ⟨hp, g, d, tk, os⟩ := s
    obtain ⟨hl, h⟩ := h
    have hsub := sub_zip
    wp_walk using wp_iterAll hl
    intro h1 hsz hi hk
    refine wpAny_bind (wpAny_newTuple ?_ (by simpa using hn))
    refine wpAny_bind (wpAny_newTuple ?_ (by simpa using hn))
    have n2 : (h1.push { cls := .type "tuple", data := .seq (refsOf hp.objs.size L.length).toArray }).objs.size = hp.objs.size + L.length + 1 := by rw [Heap.size_push, hsz]
    generalize ea : (List.map (fun _ => Value.none) (List.map (fun j => Value.ref (hp.objs.size + j)) (List.range L.length))).toArray = a0
    have la : a0.size = L.length := by rw [← ea]; simp
    have n3 : ((h1.push { cls := .type "tuple", data := .seq (refsOf hp.objs.size L.length).toArray }).push { cls := .type "tuple", data := .seq a0 }).objs.size = hp.objs.size + L.length + 2 := by rw [Heap.size_push, n2]
    unfold Builtin.SmallTypes.newRecord
    wp_walk
    refine ⟨_, rfl, ?_⟩
    have ev : (Shared.heap ⟨hp, g, d, tk, os⟩) = hp := rfl
    rw [ev] at h
    have key := h (((h1.push { cls := .type "tuple", data := .seq (refsOf hp.objs.size L.length).toArray }).push { cls := .type "tuple", data := .seq a0 }).push { cls := .type "zip", data := .fields #[.none, .bool false, .bool false, .ref (hp.objs.size + L.length), .ref (hp.objs.size + L.length + 1)] })
      (by rw [← n3]; exact Heap.get?_push_size _ rfl) (Heap.get?_push_of_some _ (Heap.get?_push_of_some _ (by rw [← hsz]; exact Heap.get?_push_size _ rfl))) ⟨a0, Heap.get?_push_of_some _ (by rw [← n2]; exact Heap.get?_push_size _ rfl), la⟩
      (fun j l e => (hi j l e).at fun o q => Heap.get?_push_of_some _ (Heap.get?_push_of_some _ (Heap.get?_push_of_some _ q))) (fun c o q => Heap.get?_push_of_some _ (Heap.get?_push_of_some _ (Heap.get?_push_of_some _ (hk c o q))))
    have hsz' : h1.objs.size = hp.objs.size + L.length := hsz
    show R (.ok (.ret (.ref (((h1.push { cls := .type "tuple", data := .seq (refsOf hp.objs.size L.length).toArray }).push { cls := .type "tuple", data := .seq a0 }).objs.size)))) ⟨((h1.push { cls := .type "tuple", data := .seq (refsOf hp.objs.size L.length).toArray }).push { cls := .type "tuple", data := .seq a0 }).push { cls := .type "zip", data := .fields #[.none, .bool false, .bool false, .ref h1.objs.size, .ref (h1.push { cls := .type "tuple", data := .seq (refsOf hp.objs.size L.length).toArray }).objs.size] }, g, d, tk, os⟩
    rw [n3, n2, hsz']
    exact key
end
section
variable {prog : Program} {w : World} {A : Around} {E : Value → Shared → Prop} {s : Shared}
/-- the parts of a zip of the lists L, all iterators at i -/
structure ZAt (L : List Addr) (b i : Nat) (h : Heap) : Prop where
  z : ∃ f0 c, ZRec h (b + L.length + 2) (b + L.length) (b + L.length + 1) f0 c ∧ (f0 = .none ∨ ∃ T : Nat, f0 = rawInt T)
  ti : STup h (b + L.length) (refsOf b L.length).toArray
  to : ∃ a, STup h (b + L.length + 1) a ∧ a.size = L.length
  its : ∀ j l, L[j]? = some l → h.IsListIter (b + j) l i
def Zpart (L : List Addr) (b : Nat) (c : Addr) : Prop := c = b + L.length + 2 ∨ c = b + L.length + 1 ∨ ∃ j, j < L.length ∧ c = b + j
theorem za1 (b n : Nat) : b + n ≠ b + n + 2 := by omega
theorem za2 (b n : Nat) : b + n + 1 ≠ b + n + 2 := by omega
theorem za3 {b n j : Nat} (h : j < n) : b + j ≠ b + n + 2 := by omega
theorem za4 {b n j : Nat} (h : j < n) : b + j ≠ b + n + 1 := by omega
theorem za5 {b n l : Nat} (h : l < b) : l ≠ b + n + 2 := by omega
theorem za6 {b n l : Nat} (h : l < b) : l ≠ b + n + 1 := by omega
theorem za7 {b j l : Nat} (h : l < b) : l ≠ b + j := by omega
theorem za8 (b n : Nat) : b + n ≠ b + n + 1 := by omega
theorem za9 {b n j : Nat} (h : j < n) : b + n ≠ b + j := by omega
theorem zb1 {b n j : Nat} (h : j < n) : b + n + 1 ≠ b + j := by omega
theorem zb2 {b n j : Nat} (h : j < n) : b + n + 2 ≠ b + j := by omega
theorem zb3 {b j k : Nat} (h : j ≠ k) : b + j ≠ b + k := by omega
theorem low_not {L : List Addr} {b c : Nat} (h : c < b) : ¬ Zpart L b c := by
  rintro (e | e | ⟨j, _, e⟩)
  · exact za5 h e
  · exact za6 h e
  · exact za7 h e
theorem ti_not {L : List Addr} {b : Nat} : ¬ Zpart L b (b + L.length) := by
  rintro (e | e | ⟨j, h, e⟩)
  · exact za1 _ _ e
  · exact za8 _ _ e
  · exact za9 h e
theorem alive_any {a : Addr} {Q : Option Obj → Shared → Prop} (h : Q (s.heap.get? a) s) : wpAny (model prog w) A (loadIfAlive a) Q E s := fun _ _ _ => h
theorem owned_ask {z TI TO : Addr} {f0 : Value} {c0 : Bool} {Q : Bool → Shared → Prop} (hz : ZRec s.heap z TI TO f0 c0) (hf : f0 = .none ∨ ∃ T : Nat, f0 = rawInt T)
    (hQ : ∀ r h' c', ZRec h' z TI TO f0 c' → Heap.SameBut z s.heap h' → Q r { s with heap := h' }) : wpAny (model prog w) A (Builtin.SmallTypes.ownedTupleIsFree (.ref z)) Q E s := by
  unfold Builtin.SmallTypes.ownedTupleIsFree
  rcases hf with rfl | ⟨T, rfl⟩
  · exact wpAny_bind (wpAny_field hz rfl (x := .none) rfl (wpAny_pure (hQ true s.heap c0 hz (Heap.SameBut.refl _ _))))
  · refine wpAny_bind (wpAny_field hz rfl (x := rawInt T) rfl ?_)
    show wpAny _ _ (loadIfAlive ((T : Int).toNat) >>= _) _ _ _
    rw [Int.toNat_natCast]
    refine wpAny_bind (alive_any ?_)
    cases s.heap.get? T with
    | none =>
      simp only [Option.isNone_none, if_true]
      exact wpAny_pure (hQ true s.heap c0 hz (Heap.SameBut.refl _ _))
    | some oT =>
      simp only [Option.isNone_some, Bool.false_eq_true, if_false]
      refine wpAny_bind (wpAny_field hz rfl (x := .bool c0) rfl ?_)
      cases c0 with
      | true =>
        rw [if_neg (show ¬ ((Value.bool true != Value.bool true) = true) from Bool.false_ne_true)]
        exact wpAny_pure (hQ false s.heap true hz (Heap.SameBut.refl _ _))
      | false =>
        rw [if_pos (show (Value.bool false != Value.bool true) = true from rfl)]
        exact wpAny_bind (wpAny_setField_rec hz (by simp) fun h₁ hz₁ hs₁ => wpAny_pure (hQ false h₁ true hz₁ hs₁))
theorem refs_at {b n j : Nat} {x : Value} (h : (refsOf b n)[j]? = some x) : j < n ∧ x = .ref (b + j) := by
  unfold refsOf at h
  rw [List.getElem?_map] at h
  by_cases c : j < n
  · rw [List.getElem?_range c] at h
    exact ⟨c, (Option.some.inj h).symm⟩
  · rw [List.getElem?_eq_none (by rw [List.length_range]; omega)] at h
    cases h
theorem zipN_next {L : List Addr} {b i : Nat} {col : Nat → Value} {Q : Value → Shared → Prop} (hn : L.length ≤ sizeLine) (h0 : L ≠ []) (hlow : ∀ l ∈ L, l < b) (Z : ZAt L b i s.heap)
    (hl : ∀ j l, L[j]? = some l → ∃ xs, s.heap.IsList l xs ∧ xs[i]? = some (col j))
    (hQ : ∀ h', ZAt L b (i + 1) h' → STup h' s.heap.objs.size ((List.range L.length).map col).toArray → (∀ c o, ¬ Zpart L b c → s.heap.get? c = some o → h'.get? c = some o) → Q (.ref s.heap.objs.size) { s with heap := h' }) :
    wpAny (model prog w) A (Builtin.«zip.__next__» ⟨[.ref (b + L.length + 2)], []⟩) (fun fin s' => ∃ v, fin = .done (.ret v) ∧ Q v s') E s := by
  obtain ⟨⟨f0, c0, hz, hf⟩, ti, to, its⟩ := Z
  have n0 : 0 < L.length := List.length_pos_iff.mpr h0
  show wpAny _ _ (field (.ref _) 2 >>= _) _ _ _
  refine wpAny_bind (wpAny_field hz rfl (x := .bool false) rfl ?_)
  show wpAny _ _ (field (.ref _) 3 >>= _) _ _ _
  refine wpAny_bind (wpAny_field hz rfl (x := .ref (b + L.length)) rfl (wpAny_bind (wpAny_seqItems ti rfl ?_)))
  have he : (refsOf b L.length).toArray.isEmpty = false := by
    unfold refsOf
    simp
    omega
  show wpAny (model prog w) A (if (refsOf b L.length).toArray.isEmpty = true then _ else _) _ E s
  rw [if_neg (by rw [he]; exact Bool.false_ne_true)]
  refine wpAny_bind (owned_ask hz hf fun r h1 c1 hz1 sb1 => ?_)
  have e1 := sb1.extBut
  have ti1 : STup h1 (b + L.length) (refsOf b L.length).toArray := e1 _ _ (za1 _ _) ti
  obtain ⟨a0, to0, la0⟩ := to
  have to1 : STup h1 (b + L.length + 1) a0 := e1 _ _ (za2 _ _) to0
  have its1 : ∀ j l, L[j]? = some l → h1.IsListIter (b + j) l i := fun j l h => (its j l h).extBut e1 (za3 (List.getElem?_eq_some_iff.mp h).1)
  have k1 : ∀ c o, ¬ Zpart L b c → s.heap.get? c = some o → h1.get? c = some o := fun c o n q => e1 _ _ (fun e => n (.inl e)) q
  cases r with
  | true =>
    rw [if_pos rfl]
    refine wpAny_bind (wpAny_rule (wpAny_bind (wpAny_field (s := { s with heap := h1 }) hz1 rfl (x := .ref (b + L.length + 1)) rfl (wpAny_bind (wpAny_setField_rec (s := { s with heap := h1 }) hz1 (by simp) fun h2 hz2 sb2 => ?_)))))
    replace hz2 : ZRec h2 (b + L.length + 2) (b + L.length) (b + L.length + 1) .ellipsis c1 := hz2
    replace sb2 : Heap.SameBut (b + L.length + 2) h1 h2 := sb2
    have e2 := sb2.extBut
    have nsz : h2.objs.size = s.heap.objs.size := by rw [sb2.1, sb1.1]
    refine wpAny_bind (wp_for (fun k (bb : Option PySem.Fin × Unit) s' => ∃ h' a, s' = { s with heap := h' } ∧ bb = (none, ()) ∧ h'.objs.size = s.heap.objs.size ∧ ZRec h' (b + L.length + 2) (b + L.length) (b + L.length + 1) .ellipsis c1 ∧ STup h' (b + L.length + 1) a ∧ a.size = L.length ∧ (∀ j, j < k → a[j]? = some (col j)) ∧
      (∀ (j : Nat) (l : Addr), L[j]? = some l → h'.IsListIter (b + j) l (if j < k then i + 1 else i)) ∧ (∀ c o, ¬ Zpart L b c → s.heap.get? c = some o → h'.get? c = some o)) _ 0 _ _ ?_ ?_ ?_)
    · rintro j ⟨it, kk⟩ bb s' hx ⟨h', a, rfl, rfl, hsz, hzz, hto, la, hc, hit, hkp⟩
      rw [Nat.zero_add] at hc hit ⊢
      rw [List.getElem?_zipIdx] at hx
      obtain ⟨it2, hx1, hx2⟩ := Option.map_eq_some_iff.mp hx
      cases hx2
      obtain ⟨hj, rfl⟩ := refs_at hx1
      have hL : L[j]? = some (L[j]) := List.getElem?_eq_getElem hj
      obtain ⟨xs, hls, hxs⟩ := hl j _ hL
      have hls' : h'.IsList L[j] xs := by
        obtain ⟨o, ho, r⟩ := hls
        exact ⟨o, hkp _ _ (low_not (hlow _ (List.getElem_mem hj))) ho, r⟩
      have hi' := hit j _ hL
      rw [if_neg (Nat.lt_irrefl j)] at hi'
      refine wpAny_bind (wpAny_onRaise ?_)
      show wpAny _ _ (Builtin.SmallTypes.nextOf (.ref (b + j)) >>= _) _ _ _
      refine wpAny_bind (wpAny_nextOf_list_item (s := { s with heap := h' }) hi' hls' hxs fun g2 p2 s2 => wpAny_pure ?_)
      replace s2 : Heap.SameBut (b + j) h' g2 := s2
      have c2 := s2.extBut
      have t2 : STup g2 (b + L.length + 1) a := c2 _ _ (zb1 hj) hto
      refine wpAny_bind (wpAny_seqItems (s := { s with heap := g2 }) t2 rfl (wpAny_bind (wpAny_updateSeq (s := { s with heap := g2 }) t2 rfl ?_ (by rw [la]; exact hn) (by rw [Array.size_setIfInBounds, la]; omega))))
      have s3 : Heap.SameBut (b + L.length + 1) g2 (g2.update (b + L.length + 1) (Obj.mapSeq fun x => x.setIfInBounds (0 + j) (col j))) := Heap.SameBut.update ..
      have t3 : STup (g2.update (b + L.length + 1) (Obj.mapSeq fun x => x.setIfInBounds (0 + j) (col j))) (b + L.length + 1) (a.setIfInBounds (0 + j) (col j)) := by
        show Heap.get? _ _ = _
        rw [Heap.get?_update_self _ t2 rfl]
        simp [Obj.mapSeq]
      have c3 := s3.extBut
      refine wpAny_bind (wpAny_letGo (wpAny_pure ⟨_, rfl, _, (a.setIfInBounds (0 + j) (col j)), rfl, rfl, ?_, ?_, t3, ?_, ?_, ?_, ?_⟩))
      · show (Heap.objs _).size = _
        rw [s3.1, s2.1, hsz]
      · exact c3 _ _ (za2 _ _).symm (c2 _ _ (zb2 hj) hzz)
      · rw [Array.size_setIfInBounds, la]
      · intro j2 h2
        rw [Nat.zero_add, Array.getElem?_setIfInBounds]
        by_cases e : j = j2
        · subst e
          rw [if_pos rfl, if_pos (by rw [la]; exact hj)]
        · rw [if_neg e]
          exact hc j2 (by omega)
      · intro j2 l2 h2
        by_cases e : j2 = j
        · subst e
          rw [if_pos (Nat.lt_succ_self _)]
          rw [hL] at h2
          cases h2
          exact p2.extBut c3 (za4 hj)
        · have q := ((hit j2 l2 h2).extBut c2 (zb3 e)).extBut c3 (za4 (List.getElem?_eq_some_iff.mp h2).1)
          by_cases e2 : j2 < j
          · rw [if_pos e2] at q
            rw [if_pos (by omega)]
            exact q
          · rw [if_neg e2] at q
            rw [if_neg (by omega)]
            exact q
      · intro c o n q
        exact c3 _ _ (fun e => n (.inr (.inl e))) (c2 _ _ (fun e => n (.inr (.inr ⟨j, hj, e⟩))) (hkp c o n q))
    · refine ⟨h2, a0, rfl, rfl, nsz, hz2, e2 _ _ (za2 _ _) to1, la0, fun j z => absurd z (Nat.not_lt_zero _), fun j l h => ?_, fun c o n q => e2 _ _ (fun e => n (.inl e)) (k1 c o n q)⟩
      rw [if_neg (Nat.not_lt_zero _)]
      exact (its1 j l h).extBut e2 (za3 (List.getElem?_eq_some_iff.mp h).1)
    · rintro bb s' ⟨h', a, rfl, rfl, hsz, hzz, hto, la, hc, hit, hkp⟩
      have ll : (refsOf b L.length).toArray.toList.zipIdx.length = L.length := by
        unfold refsOf
        simp
      rw [ll, Nat.zero_add] at hc hit
      have ea : a = ((List.range L.length).map col).toArray := by
        refine Array.ext_getElem? fun j => ?_
        by_cases c : j < L.length
        · rw [hc j c]
          simp [c]
        · rw [Array.getElem?_eq_none (by rw [la]; omega), Array.getElem?_eq_none (by simp; omega)]
      subst ea
      refine wpAny_bind (wpAny_seqItems (s := { s with heap := h' }) hto rfl (wpAny_bind (wpAny_newTuple ?_ (by simpa using hn))))
      show wpAny _ _ (Builtin.SmallTypes.ownedTupleHandOut (.ref _) (.ref h'.objs.size) >>= _) _ _ ⟨h'.push { cls := .type "tuple", data := .seq ((List.range L.length).map col).toArray }, s.gens, s.drawn, s.toks, s.os⟩
      unfold Builtin.SmallTypes.ownedTupleHandOut
      have y6 : ZRec (h'.push { cls := .type "tuple", data := .seq ((List.range L.length).map col).toArray }) (b + L.length + 2) (b + L.length) (b + L.length + 1) .ellipsis c1 := Heap.get?_push_of_some _ hzz
      refine wpAny_bind (wpAny_bind (wpAny_setField_rec (s := ⟨h'.push { cls := .type "tuple", data := .seq ((List.range L.length).map col).toArray }, s.gens, s.drawn, s.toks, s.os⟩) y6 (by simp) fun g7 y7 s7 => ?_))
      replace y7 : ZRec g7 (b + L.length + 2) (b + L.length) (b + L.length + 1) (rawInt h'.objs.size) c1 := y7
      refine wpAny_setField_rec (s := ⟨g7, s.gens, s.drawn, s.toks, s.os⟩) y7 (by simp) fun g8 y8 s8 => ?_
      replace y8 : ZRec g8 (b + L.length + 2) (b + L.length) (b + L.length + 1) (rawInt h'.objs.size) false := y8
      have up : ∀ c o, c ≠ b + L.length + 2 → h'.get? c = some o → g8.get? c = some o := fun c o n p => s8.extBut _ _ n (s7.extBut _ _ n (Heap.get?_push_of_some _ p))
      have zl : b + L.length + 2 < h'.objs.size := Heap.lt_size hzz
      have new : STup g8 h'.objs.size ((List.range L.length).map col).toArray := s8.extBut _ _ (Nat.ne_of_gt zl) (s7.extBut _ _ (Nat.ne_of_gt zl) (Heap.get?_push_size _ rfl))
      rw [hsz] at new
      refine wpAny_pure ⟨_, rfl, ?_⟩
      show Q (.ref h'.objs.size) _
      rw [hsz]
      refine hQ g8 ⟨⟨_, _, y8, .inr ⟨_, rfl⟩⟩, up _ _ (za1 _ _) (hkp _ _ ti_not ti), ⟨_, up _ _ (za2 _ _) hto, by simp⟩, fun j l h => ?_⟩ new fun c o n q => up _ _ (fun e => n (.inl e)) (hkp c o n q)
      have q := hit j l h
      rw [if_pos (List.getElem?_eq_some_iff.mp h).1] at q
      exact q.at fun o e => up _ o (za3 (List.getElem?_eq_some_iff.mp h).1) e
  | false =>
    rw [if_neg Bool.false_ne_true]
    dsimp only
    rw [← Array.forIn_toList]
    refine wpAny_bind (wp_for (fun k (bb : Option PySem.Fin × Array Value) s' => ∃ h' a, s' = { s with heap := h' } ∧ bb = (none, a) ∧ h'.objs.size = s.heap.objs.size ∧ ZRec h' (b + L.length + 2) (b + L.length) (b + L.length + 1) f0 c1 ∧ a.toList = (List.range k).map col ∧
      (∀ (j : Nat) (l : Addr), L[j]? = some l → h'.IsListIter (b + j) l (if j < k then i + 1 else i)) ∧ (∀ c o, (¬ Zpart L b c ∨ c = b + L.length + 1) → s.heap.get? c = some o → h'.get? c = some o)) _ 0 _ _ ?_ ?_ ?_)
    · rintro j it bb s' hx ⟨h', a, rfl, rfl, hsz, hzz, hto, hit, hkp⟩
      rw [Nat.zero_add] at hto hit ⊢
      have hx1 : (refsOf b L.length)[j]? = some it := by simpa using hx
      obtain ⟨hj, rfl⟩ := refs_at hx1
      have hL : L[j]? = some (L[j]) := List.getElem?_eq_getElem hj
      obtain ⟨xs, hls, hxs⟩ := hl j _ hL
      have hls' : h'.IsList L[j] xs := by
        obtain ⟨o, ho, r⟩ := hls
        exact ⟨o, hkp _ _ (.inl (low_not (hlow _ (List.getElem_mem hj)))) ho, r⟩
      have hi' := hit j _ hL
      rw [if_neg (Nat.lt_irrefl j)] at hi'
      refine wpAny_bind (wpAny_holding ?_)
      show wpAny _ _ (Builtin.SmallTypes.nextOf (.ref (b + j)) >>= _) _ _ _
      refine wpAny_bind (wpAny_nextOf_list_item (s := { s with heap := h' }) hi' hls' hxs fun g2 p2 s2 => wpAny_pure (wpAny_pure ?_))
      replace s2 : Heap.SameBut (b + j) h' g2 := s2
      have c2 := s2.extBut
      refine ⟨_, rfl, _, _, rfl, rfl, ?_, c2 _ _ (zb2 hj) hzz, ?_, ?_, ?_⟩
      · rw [s2.1, hsz]
      · rw [Array.toList_push, hto, List.range_succ, List.map_append]
        rfl
      · intro j2 l2 h2
        by_cases e : j2 = j
        · subst e
          rw [if_pos (Nat.lt_succ_self _)]
          rw [hL] at h2
          cases h2
          exact p2
        · have q := (hit j2 l2 h2).extBut c2 (zb3 e)
          by_cases e2 : j2 < j
          · rw [if_pos e2] at q
            rw [if_pos (by omega)]
            exact q
          · rw [if_neg e2] at q
            rw [if_neg (by omega)]
            exact q
      · intro c o n q
        refine c2 _ _ (fun e => ?_) (hkp c o n q)
        rcases n with n | n
        · exact n (.inr (.inr ⟨j, hj, e⟩))
        · exact zb1 hj (n.symm.trans e)
    · refine ⟨h1, #[], rfl, rfl, sb1.1, hz1, rfl, fun j l h => ?_, fun c o n q => e1 _ _ (fun e => ?_) q⟩
      · rw [if_neg (Nat.not_lt_zero _)]
        exact its1 j l h
      · rcases n with n | n
        · exact n (.inl e)
        · exact za2 _ _ (n.symm.trans e)
    · rintro bb s' ⟨h', a, rfl, rfl, hsz, hzz, hto, hit, hkp⟩
      have ll : (refsOf b L.length).toArray.toList.length = L.length := by
        unfold refsOf
        simp
      rw [ll, Nat.zero_add] at hto hit
      have ea : a = ((List.range L.length).map col).toArray := by rw [← hto]
      subst ea
      refine wpAny_bind (wpAny_newTuple ?_ (by simpa using hn))
      have zl : b + L.length + 2 < h'.objs.size := Heap.lt_size hzz
      have up : ∀ c o, h'.get? c = some o → (h'.push { cls := .type "tuple", data := .seq ((List.range L.length).map col).toArray }).get? c = some o := fun c o p => Heap.get?_push_of_some _ p
      have new : STup (h'.push { cls := .type "tuple", data := .seq ((List.range L.length).map col).toArray }) h'.objs.size ((List.range L.length).map col).toArray := Heap.get?_push_size _ rfl
      refine wpAny_pure ⟨_, rfl, ?_⟩
      show Q (.ref h'.objs.size) _
      rw [hsz] at new ⊢
      refine hQ _ ⟨⟨_, _, up _ _ hzz, hf⟩, up _ _ (hkp _ _ (.inl ti_not) ti), ⟨_, up _ _ (hkp _ _ (.inr rfl) to0), la0⟩, fun j l h => ?_⟩ new fun c o n q => up _ _ (hkp c o (.inl n) q)
      have q := hit j l h
      rw [if_pos (List.getElem?_eq_some_iff.mp h).1] at q
      exact q.at fun o e => up _ o e
theorem zipN_end {L : List Addr} {b i : Nat} {l0 : Addr} {xs0 : Array Value} {Q : Value → Shared → Prop} (hh : A.handled = none) (h0 : L[0]? = some l0) (hlow : ∀ l ∈ L, l < b) (Z : ZAt L b i s.heap)
    (hl : s.heap.IsList l0 xs0) (hx : xs0[i]? = none)
    (hE : ∀ h' e, (∀ c o, ¬ Zpart L b c → s.heap.get? c = some o → h'.get? c = some o) → (∃ o, h'.get? e = some o ∧ o.cls = .type "StopIteration") → E (.ref e) { s with heap := h' }) :
    wpAny (model prog w) A (Builtin.«zip.__next__» ⟨[.ref (b + L.length + 2)], []⟩) (fun fin s' => ∃ v, fin = .done (.ret v) ∧ Q v s') E s := by
  obtain ⟨⟨f0, c0, hz, hf⟩, ti, to, its⟩ := Z
  have n0 : 0 < L.length := (List.getElem?_eq_some_iff.mp h0).1
  show wpAny _ _ (field (.ref _) 2 >>= _) _ _ _
  refine wpAny_bind (wpAny_field hz rfl (x := .bool false) rfl ?_)
  show wpAny _ _ (field (.ref _) 3 >>= _) _ _ _
  refine wpAny_bind (wpAny_field hz rfl (x := .ref (b + L.length)) rfl (wpAny_bind (wpAny_seqItems ti rfl ?_)))
  have he : (refsOf b L.length).toArray.isEmpty = false := by
    unfold refsOf
    simp
    intro e
    subst e
    exact absurd n0 (Nat.lt_irrefl 0)
  have hr : ∃ r, refsOf b L.length = .ref (b + 0) :: r := by
    unfold refsOf
    obtain ⟨m, e⟩ : ∃ m, L.length = m + 1 := ⟨L.length - 1, by omega⟩
    rw [e, List.range_succ_eq_map]
    exact ⟨_, rfl⟩
  obtain ⟨rr, er⟩ := hr
  have l0b : l0 < b := hlow l0 (List.mem_of_getElem? h0)
  show wpAny (model prog w) A (if (refsOf b L.length).toArray.isEmpty = true then _ else _) _ E s
  rw [if_neg (by rw [he]; exact Bool.false_ne_true)]
  refine wpAny_bind (owned_ask hz hf fun r h1 c1 hz1 sb1 => ?_)
  have e1 := sb1.extBut
  have it1 : h1.IsListIter (b + 0) l0 i := (its 0 l0 h0).extBut e1 (za3 n0)
  have hl1 : h1.IsList l0 xs0 := hl.extBut e1 (za5 l0b)
  cases r with
  | true =>
    rw [if_pos rfl]
    refine wpAny_bind (wpAny_rule (wpAny_bind (wpAny_field (s := { s with heap := h1 }) hz1 rfl (x := .ref (b + L.length + 1)) rfl (wpAny_bind (wpAny_setField_rec (s := { s with heap := h1 }) hz1 (by simp) fun h2 hz2 sb2 => ?_)))))
    replace hz2 : ZRec h2 (b + L.length + 2) (b + L.length) (b + L.length + 1) .ellipsis c1 := hz2
    replace sb2 : Heap.SameBut (b + L.length + 2) h1 h2 := sb2
    have e2 := sb2.extBut
    have eL : (refsOf b L.length).toArray.toList.zipIdx = (.ref (b + 0), 0) :: rr.zipIdx 1 := by
      rw [List.toList_toArray, er]
      rfl
    rw [eL, List.forIn_cons]
    refine wpAny_bind (wpAny_bind (wpAny_bind (wpAny_onRaise ?_)))
    show wpAny _ _ (Builtin.SmallTypes.nextOf (.ref (b + 0)) >>= _) _ _ _
    refine wpAny_bind (wpAny_nextOf_list_end (s := { s with heap := h2 }) hh (it1.extBut e2 (za3 n0)) (hl1.extBut e2 (za5 l0b)) hx fun g2 e s2 he => ?_)
    replace s2 : Heap.ExtBut (b + 0) h2 g2 := s2
    have z2 : ZRec g2 (b + L.length + 2) (b + L.length) (b + L.length + 1) .ellipsis c1 := s2 _ _ (zb2 n0) hz2
    obtain ⟨o, ho, hc⟩ := he
    have n : e ≠ b + L.length + 2 := fun x => by subst x; rw [z2] at ho; cases ho; simp at hc
    refine wpAny_setField_rec (s := { s with heap := g2 }) z2 (by simp) fun h' _ sb => ?_
    replace sb : Heap.SameBut (b + L.length + 2) g2 h' := sb
    exact hE h' e (fun c o n q => sb.extBut _ _ (fun e => n (.inl e)) (s2 _ _ (fun e => n (.inr (.inr ⟨0, n0, e⟩))) (e2 _ _ (fun e => n (.inl e)) (e1 _ _ (fun e => n (.inl e)) q)))) ⟨o, sb.extBut _ _ n ho, hc⟩
  | false =>
    rw [if_neg Bool.false_ne_true]
    dsimp only
    rw [← Array.forIn_toList]
    have eL : (refsOf b L.length).toArray.toList = .ref (b + 0) :: rr := by rw [List.toList_toArray, er]
    rw [eL, List.forIn_cons]
    refine wpAny_bind (wpAny_bind (wpAny_bind (wpAny_holding ?_)))
    show wpAny _ _ (Builtin.SmallTypes.nextOf (.ref (b + 0)) >>= _) _ _ _
    refine wpAny_bind (wpAny_nextOf_list_end (s := { s with heap := h1 }) hh it1 hl1 hx fun g2 e s2 he => ?_)
    exact hE g2 e (fun c o n q => s2 _ _ (fun e => n (.inr (.inr ⟨0, n0, e⟩))) (e1 _ _ (fun e => n (.inl e)) q)) he
theorem zipN_ask {L : List Addr} {b i : Nat} {col : Nat → Value} {Q : Option Value → Shared → Prop} (hn : L.length ≤ sizeLine) (h0 : L ≠ []) (hlow : ∀ l ∈ L, l < b) (Z : ZAt L b i s.heap)
    (hl : ∀ j l, L[j]? = some l → ∃ xs, s.heap.IsList l xs ∧ xs[i]? = some (col j))
    (hQ : ∀ h', ZAt L b (i + 1) h' → STup h' s.heap.objs.size ((List.range L.length).map col).toArray → (∀ c o, ¬ Zpart L b c → s.heap.get? c = some o → h'.get? c = some o) → Q (some (.ref s.heap.objs.size)) { s with heap := h' }) :
    wpAny (model prog w) A (pyNext (.ref (b + L.length + 2))) Q E s := by
  obtain ⟨f0, c0, hz, _⟩ := Z.z
  have hT : s.TypeIs (.ref (b + L.length + 2)) "zip" := ⟨_, hz, rfl⟩
  unfold pyNext
  exact wpAny_bind (wpAny_attempt (wpAny_callSpecial?_slot (name := Str.ofString "__next__") hT F.slot_zip_next (wpAny_call_entry F.slot_zip_next hT F.entry_zip_next
    (zipN_next hn h0 hlow Z hl fun h' a1 a2 a3 => wpAny_pure (hQ h' a1 a2 a3)) (F.args_zip_next_1 _))))
theorem zipN_stop {L : List Addr} {b i : Nat} {l0 : Addr} {xs0 : Array Value} {Q : Option Value → Shared → Prop} (hh : A.handled = none) (h0 : L[0]? = some l0) (hlow : ∀ l ∈ L, l < b) (Z : ZAt L b i s.heap)
    (hl : s.heap.IsList l0 xs0) (hx : xs0[i]? = none) (hE : ∀ h', (∀ c o, ¬ Zpart L b c → s.heap.get? c = some o → h'.get? c = some o) → Q none { s with heap := h' }) :
    wpAny (model prog w) A (pyNext (.ref (b + L.length + 2))) Q E s := by
  obtain ⟨f0, c0, hz, _⟩ := Z.z
  have hT : s.TypeIs (.ref (b + L.length + 2)) "zip" := ⟨_, hz, rfl⟩
  unfold pyNext
  refine wpAny_bind (wpAny_attempt (wpAny_callSpecial?_slot (name := Str.ofString "__next__") hT F.slot_zip_next (wpAny_call_entry F.slot_zip_next hT F.entry_zip_next
    (zipN_end hh h0 hlow Z hl hx fun h' e lf he => ?_) (F.args_zip_next_1 _))))
  obtain ⟨o, ho, hc⟩ := he
  exact wpAny_bind (wpAny_isInstance (T := "StopIteration") (b := true) ⟨o, ho, hc⟩ isSubtype_stop (wpAny_pure (hE h' lf)))
theorem call_zipN {L : List Addr} {Q : Value → Shared → Prop} (hn : L.length ≤ sizeLine) (h0 : L ≠ []) (hl : ∀ l ∈ L, ∃ xs, s.heap.IsList l xs)
    (h : ∀ h', ZAt L s.heap.objs.size 0 h' → (∀ c o, s.heap.get? c = some o → h'.get? c = some o) → Q (.ref (s.heap.objs.size + L.length + 2)) { s with heap := h' }) :
    wpAny (model prog w) A (call (.type "zip") (L.map .ref)) Q E s := by
  cases L with
  | nil => exact absurd rfl h0
  | cons l L =>
    refine callType_new F.called_zip (by decide) (typeCall_zip _) (newCall_zip _ _) (fun obj => args_init_any obj _) F.entry_zip_new (meets_zip_n (l :: L) hn) ⟨hl, fun h' hz ti to hi hk => ?_⟩
    exact ⟨⟨_, hz, rfl⟩, h h' ⟨⟨_, _, hz, .inl rfl⟩, ti, to, hi⟩ hk⟩
end
end My

set_option Elab.async false
set_option linter.all false
set_option maxRecDepth 100000
set_option maxHeartbeats 4000000
namespace My
open PySem PySem.Spec PyProof.Rows L2
/-! ### a dict of the module with int keys -/
inductive EntI : List DictEntry → List (Int × Int) → Prop where
  | nil : EntI [] []
  | cons {k v : Int} {t u : Tok} {es : List DictEntry} {kvs : List (Int × Int)} (h : EntI es kvs) (hk : hashInt k = k := by decide +kernel) : EntI (⟨k, .int k t, .int v u⟩ :: es) ((k, v) :: kvs)
def KInt (K : PySem.W.Frag) (d : Addr) (kvs : List (Int × Int)) : Prop :=
  ∃ (es : Array DictEntry) (n : Nat), K.lookup d = some ⟨.type "dict", none, .dict es n, #[]⟩ ∧ EntI es.toList kvs ∧ (d == sysModules) = false
theorem EntI.all {es : List DictEntry} {kvs : List (Int × Int)} (h : EntI es kvs) : ∀ e ∈ es, ∃ k t, e.key = .int k t ∧ e.hash = hashInt k := by
  induction h with
  | nil => intro e he; cases he
  | cons h hk ih =>
    intro e he
    cases he with
    | head => exact ⟨_, _, rfl, hk.symm⟩
    | tail _ m => exact ih e m
def getI (k : Int) : List (Int × Int) → Option Int
  | [] => none
  | (k', v) :: r => if k' = k then some v else getI k r
theorem EntI.find {es : List DictEntry} {kvs : List (Int × Int)} (h : EntI es kvs) (k : Int) :
    (getI k kvs = none → findBy Value.isInt es.toArray k = none) ∧ (∀ v, getI k kvs = some v → ∃ u, findBy Value.isInt es.toArray k = some (.int v u)) := by
  unfold findBy
  rw [List.find?_toArray]
  induction h with
  | nil => exact ⟨fun _ => rfl, fun v z => by cases z⟩
  | @cons k' v t u es kvs h hk ih =>
    rw [List.find?_cons]
    by_cases e : k' = k
    · have q : Value.isInt k (Value.int k' t) = true := by show (k' == k) = true; simp [e]
      simp only [q]
      refine ⟨fun z => ?_, fun v' z => ?_⟩
      · unfold getI at z; rw [if_pos e] at z; cases z
      · unfold getI at z; rw [if_pos e] at z; cases z; exact ⟨u, rfl⟩
    · have q : Value.isInt k (Value.int k' t) = false := by show (k' == k) = false; simp [e]
      simp only [q]
      unfold getI
      rw [if_neg e]
      exact ih
section
variable {X : Cx} {d : Addr} {kvs : List (Int × Int)}
theorem mapInt_K {prog : Program} {w : World} {K : PySem.W.Frag} {h : Heap} {es : Array DictEntry} {n : Nat} (X : K.In h) (hl : K.lookup d = some ⟨.type "dict", none, .dict es n, #[]⟩) (hk : EntI es.toList kvs) :
    h.MapOf (intKind prog w) d (fun k => findBy Value.isInt es k) :=
  ⟨_, es, n, X _ _ hl, ⟨rfl, rfl, rfl⟩, rfl, fun e he => by
    obtain ⟨x, t, e1, e2⟩ := hk.all e (Array.mem_toList_iff.mpr he)
    exact ⟨x, by rw [e1]; exact intKind_is prog w x t, e2⟩, fun _ => rfl⟩
/-- d[k] -/
def rKI (d : Addr) (kvs : List (Int × Int)) : R2 := fun x y H Q => ∃ k v, x = .ref d ∧ y = .int k ∧ getI k kvs = some v ∧ Q (.int v) H
theorem ix_kint (D : KInt X.K d kvs) : IxR X (rKI d kvs) := by
  intro value slice pins s σ H x y v u Q I rx ry h hs
  obtain ⟨k, r, rfl, rfl, e, q⟩ := h
  obtain ⟨es, n, hl, hk, hd⟩ := D
  obtain rfl : v = Value.ref d := rx
  obtain ⟨t, rfl⟩ := ry
  have hm := mapInt_K (prog := X.prog) (w := X.w) I.kIn hl hk
  obtain ⟨u0, eu⟩ := (hk.find k).2 r e
  exact tail_any hm.typeIs slot_dict_getitem.lookup (wpAny_getItem_of (intKind_is X.prog X.w k t) hm eu ⟨.int r, H, I.tok _, ⟨_, rfl⟩, q⟩) hs
/-- k in d, k not in d -/
def rInKI (d : Addr) (kvs : List (Int × Int)) (neg : Bool) : R2 := fun x y H Q => ∃ k, x = .int k ∧ y = .ref d ∧ Q (.bl (if neg then !(getI k kvs).isSome else (getI k kvs).isSome)) H
theorem find_is {es : Array DictEntry} (hk : EntI es.toList kvs) (k : Int) : (findBy Value.isInt es k).isSome = (getI k kvs).isSome := by
  have q : findBy Value.isInt es k = findBy Value.isInt es.toList.toArray k := by simp
  cases e : getI k kvs with
  | none => rw [q, (hk.find k).1 e] <;> rfl
  | some v =>
    obtain ⟨u, eu⟩ := (hk.find k).2 v e
    rw [q, eu]
    rfl
theorem op_inKI (D : KInt X.K d kvs) : OpR X (compareOp .In) (rInKI d kvs false) := by
  intro pins s σ H x y v u Q I rx ry h
  obtain ⟨k, rfl, rfl, q⟩ := h
  obtain ⟨es, n, hl, hk, hd⟩ := D
  obtain ⟨t, rfl⟩ := rx
  cases ry
  refine wpAny_in_of (intKind_is X.prog X.w k t) hd (mapInt_K (prog := X.prog) (w := X.w) I.kIn hl hk) ?_
  exact ⟨.bl _, H, I.tok _, rfl, by rw [find_is hk]; exact q⟩
theorem op_notInKI (D : KInt X.K d kvs) : OpR X (compareOp .NotIn) (rInKI d kvs true) := by
  intro pins s σ H x y v u Q I rx ry h
  obtain ⟨k, rfl, rfl, q⟩ := h
  obtain ⟨es, n, hl, hk, hd⟩ := D
  obtain ⟨t, rfl⟩ := rx
  cases ry
  refine wpAny_notIn_of (intKind_is X.prog X.w k t) hd (mapInt_K (prog := X.prog) (w := X.w) I.kIn hl hk) ?_
  exact ⟨.bl _, H, I.tok _, rfl, by rw [find_is hk]; exact q⟩
/-- xs + ys, whatever kind of lists stand there (the script, too) -/
def rCatL (K : PySem.W.Frag) : R2 := fun x y H Q => ∃ l b xs zs, x = .ref l ∧ y = .ref b ∧ SqL K H l xs ∧ SqL K H b zs ∧ xs.length + zs.length ≤ sizeLine ∧ ∀ p, H p = none → Q (.ref p) (upd H p (.lst (xs ++ zs)))
theorem op_catL : OpR X (binaryOp .Add) (rCatL X.K) := by
  intro pins s σ H x y v u Q I rx ry h
  obtain ⟨l, b, xs, zs, rfl, rfl, hl, hb, hz, q⟩ := h
  cases rx
  cases ry
  obtain ⟨its, r, ⟨⟨cls, dd, data, sl⟩, n, ho, hc, hd, hs⟩, z1⟩ := I.list hl
  obtain ⟨its2, r2, ⟨⟨cls2, dd2, data2, sl2⟩, n2, ho2, hc2, hd2, hs2⟩, z2⟩ := I.list hb
  have e1 := r.length
  have e2 := r2.length
  simp only at hc hd hs hc2 hd2 hs2
  subst hc hd hs hc2 hd2 hs2
  have e : its.toArray ++ its2.toArray = (its ++ its2).toArray := by simp
  refine concat_meets ⟨_, ho, rfl⟩ ⟨_, ho2, rfl⟩ noFill_list_add seq_list_add PySem.F.slot_list_add PySem.F.entry_list_add (PySem.F.args_list_add_2 _ _) (list_addW l b its.toArray its2.toArray n n2 none none sl sl2 (by simp; omega)) ⟨ho, ho2, ?_⟩
  rw [e]
  exact ⟨.ref _, _, I.lnew (t' := s.toks) (r.append r2) (by rw [List.length_append]; omega), rfl, q _ I.fresh⟩
/-- name op= e, by the in-place operator's rule -/
theorem pip_of {op : Operator} {r : R2} (h : OpR X (inplaceOp op) r) : PIp X op r := h
end
end My

set_option Elab.async false
set_option linter.all false
set_option maxRecDepth 100000
set_option maxHeartbeats 4000000
namespace My
open PySem PySem.Spec PyProof.Rows L2
/-! ### bits of ints that are not negative -/
theorem bx (a b : Nat) : Builtin.bitXor (a : Int) (b : Int) = ((a ^^^ b : Nat) : Int) := by
  have h := Bits.bitXor_pp (x := (a : Int)) (y := (b : Int)) (by omega) (by omega)
  simpa using h
theorem band1 (a : Nat) : Builtin.bitAnd (a : Int) 1 = ((a % 2 : Nat) : Int) := by
  have h := Bits.bitAnd_mask (x := (a : Int)) 1 (by omega)
  simpa using h
/-! ### the field: words as natural numbers -/
def span (b : Nat) : Nat := cond (Nat.beq b 4) 16 256
def foldw (b : Nat) : Nat := cond (Nat.beq b 4) 9 113
def turn (b : Nat) : Nat := cond (Nat.beq b 4) 15 255
def dbl (b x : Nat) : Nat := cond (Nat.blt (2 * x) (span b)) (2 * x) ((2 * x - span b) ^^^ foldw b)
def mulF (b : Nat) : Nat → Nat → Nat → Nat
  | 0, _, _ => 0
  | n + 1, x, y => (cond (Nat.beq (y % 2) 1) x 0) ^^^ mulF b n (dbl b x) (y / 2)
def mul (b x y : Nat) : Nat := mulF b b x y
def pw (b : Nat) : Nat → Nat
  | 0 => 1
  | n + 1 => dbl b (pw b n)
def pws (b : Nat) : List Nat := (List.range (turn b)).map (pw b)
def Wd (b : Nat) : Prop := b = 4 ∨ b = 8
def allB (p : Nat → Nat → Bool) (n : Nat) : Bool := (List.range n).all fun x => (List.range n).all fun y => p x y
theorem allB_ok {p : Nat → Nat → Bool} {n : Nat} (h : allB p n = true) {x y : Nat} (hx : x < n) (hy : y < n) : p x y = true :=
  List.all_eq_true.mp (List.all_eq_true.mp h x (List.mem_range.mpr hx)) y (List.mem_range.mpr hy)
def linB (b : Nat) (x y : Nat) : Bool := Nat.beq (dbl b (x ^^^ y)) (dbl b x ^^^ dbl b y)
theorem lin4 : allB (linB 4) 16 = true := by decide +kernel
theorem lin8 : allB (linB 8) 256 = true := by decide +kernel
theorem dbl_lin {b x y : Nat} (hb : Wd b) (hx : x < span b) (hy : y < span b) : dbl b (x ^^^ y) = dbl b x ^^^ dbl b y := by
  rcases hb with rfl | rfl
  · exact Nat.eq_of_beq_eq_true (allB_ok lin4 hx hy)
  · exact Nat.eq_of_beq_eq_true (allB_ok lin8 hx hy)
theorem dbl_lt {b x : Nat} (hb : Wd b) (hx : x < span b) : dbl b x < span b := by
  rcases hb with rfl | rfl
  · exact (by decide +kernel : ∀ x, x < 16 → dbl 4 x < 16) x hx
  · exact (by decide +kernel : ∀ x, x < 256 → dbl 8 x < 256) x hx
theorem dbl_zero {b : Nat} (hb : Wd b) : dbl b 0 = 0 := by rcases hb with rfl | rfl <;> rfl
theorem span_pow {b : Nat} (hb : Wd b) : span b = 2 ^ b := by rcases hb with rfl | rfl <;> rfl
theorem xor_lt {b x y : Nat} (hb : Wd b) (hx : x < span b) (hy : y < span b) : x ^^^ y < span b := by
  rw [span_pow hb] at *
  exact Nat.xor_lt_two_pow hx hy
theorem mulF_lt {b : Nat} (hb : Wd b) : ∀ (n x y : Nat), x < span b → mulF b n x y < span b
  | 0, _, _, _ => by
    show 0 < span b
    rcases hb with rfl | rfl <;> decide
  | n + 1, x, y, hx => by
    refine xor_lt hb ?_ (mulF_lt hb n _ _ (dbl_lt hb hx))
    cases Nat.beq (y % 2) 1
    · show 0 < span b; rcases hb with rfl | rfl <;> decide
    · exact hx
theorem mulF_zero {b : Nat} (x : Nat) : ∀ n x, mulF b n x 0 = 0
  | 0, _ => rfl
  | n + 1, x => by
    show (0 : Nat) ^^^ mulF b n (dbl b x) 0 = 0
    rw [mulF_zero x n _]
    rfl
theorem zero_mulF {b : Nat} (hb : Wd b) : ∀ n y, mulF b n 0 y = 0
  | 0, _ => rfl
  | n + 1, y => by
    show (cond (Nat.beq (y % 2) 1) 0 0) ^^^ mulF b n (dbl b 0) (y / 2) = 0
    rw [dbl_zero hb, zero_mulF hb n]
    cases Nat.beq (y % 2) 1 <;> rfl
theorem mulF_lin {b : Nat} (hb : Wd b) : ∀ (n x z y : Nat), x < span b → z < span b → mulF b n (x ^^^ z) y = mulF b n x y ^^^ mulF b n z y
  | 0, _, _, _, _, _ => by
    show (0 : Nat) = 0 ^^^ 0
    rfl
  | n + 1, x, z, y, hx, hz => by
    show (cond (Nat.beq (y % 2) 1) (x ^^^ z) 0) ^^^ mulF b n (dbl b (x ^^^ z)) (y / 2) = ((cond (Nat.beq (y % 2) 1) x 0) ^^^ mulF b n (dbl b x) (y / 2)) ^^^ ((cond (Nat.beq (y % 2) 1) z 0) ^^^ mulF b n (dbl b z) (y / 2))
    rw [dbl_lin hb hx hz, mulF_lin hb n _ _ _ (dbl_lt hb hx) (dbl_lt hb hz)]
    cases Nat.beq (y % 2) 1
    · simp
    · show (x ^^^ z) ^^^ (_ ^^^ _) = (x ^^^ _) ^^^ (z ^^^ _)
      ac_rfl
theorem mulF_dbl {b : Nat} (hb : Wd b) : ∀ (n x y : Nat), x < span b → mulF b n (dbl b x) y = dbl b (mulF b n x y)
  | 0, _, _, _ => (dbl_zero hb).symm
  | n + 1, x, y, hx => by
    show (cond (Nat.beq (y % 2) 1) (dbl b x) 0) ^^^ mulF b n (dbl b (dbl b x)) (y / 2) = dbl b ((cond (Nat.beq (y % 2) 1) x 0) ^^^ mulF b n (dbl b x) (y / 2))
    rw [mulF_dbl hb n _ _ (dbl_lt hb hx)]
    cases Nat.beq (y % 2) 1
    · simp
    · show dbl b x ^^^ _ = dbl b (x ^^^ _)
      rw [dbl_lin hb hx (mulF_lt hb _ _ _ (dbl_lt hb hx))]
theorem one_mul {b y : Nat} (hb : Wd b) (hy : y < span b) : mul b 1 y = y := by
  rcases hb with rfl | rfl
  · exact (by decide +kernel : ∀ x, x < 16 → mul 4 1 x = x) y hy
  · exact (by decide +kernel : ∀ x, x < 256 → mul 8 1 x = x) y hy
theorem pw_lt {b : Nat} (hb : Wd b) : ∀ n, pw b n < span b
  | 0 => by rcases hb with rfl | rfl <;> decide
  | n + 1 => dbl_lt hb (pw_lt hb n)
theorem mul_lt {b x y : Nat} (hb : Wd b) (hx : x < span b) : mul b x y < span b := mulF_lt hb _ _ _ hx
theorem pw_mul {b : Nat} (hb : Wd b) (j : Nat) : ∀ i, mul b (pw b i) (pw b j) = pw b (i + j)
  | 0 => by rw [Nat.zero_add]; exact one_mul hb (pw_lt hb j)
  | i + 1 => by
    show mulF b b (dbl b (pw b i)) (pw b j) = _
    rw [mulF_dbl hb _ _ _ (pw_lt hb i)]
    have h := pw_mul hb j i
    unfold mul at h
    rw [h, show i + 1 + j = (i + j) + 1 by omega]
    rfl
theorem pw_turn {b : Nat} (hb : Wd b) : pw b (turn b) = 1 := by rcases hb with rfl | rfl <;> decide +kernel
theorem pw_add_turn {b : Nat} (hb : Wd b) (i : Nat) : pw b (i + turn b) = pw b i := by
  rw [← pw_mul hb, pw_turn hb]
  have h := pw_mul hb 0 i
  exact h
theorem pw_add_mul {b : Nat} (hb : Wd b) (i : Nat) : ∀ k, pw b (i + k * turn b) = pw b i
  | 0 => by rw [Nat.zero_mul, Nat.add_zero]
  | k + 1 => by
    rw [Nat.succ_mul, ← Nat.add_assoc, pw_add_turn hb, pw_add_mul hb i k]
theorem pw_mod {b : Nat} (hb : Wd b) (i : Nat) : pw b i = pw b (i % turn b) := by
  have h := pw_add_mul hb (i % turn b) (i / turn b)
  have e : i % turn b + i / turn b * turn b = i := by
    have := Nat.mod_add_div i (turn b)
    rw [Nat.mul_comm] at this
    exact this
  rw [e] at h
  exact h
def lg (b x : Nat) : Nat := (pws b).idxOf x
def memB (b : Nat) (x : Nat) : Bool := Nat.beq x 0 || (pws b).any fun y => Nat.beq x y
theorem mem_pws {b x : Nat} (hb : Wd b) (hx : x < span b) (h0 : x ≠ 0) : x ∈ pws b := by
  have q : memB b x = true := by
    rcases hb with rfl | rfl
    · exact List.all_eq_true.mp (by decide +kernel : ((List.range 16).all fun x => memB 4 x) = true) x (List.mem_range.mpr hx)
    · exact List.all_eq_true.mp (by decide +kernel : ((List.range 256).all fun x => memB 8 x) = true) x (List.mem_range.mpr hx)
  rcases (Bool.or_eq_true _ _).mp q with h | h
  · exact absurd (Nat.eq_of_beq_eq_true h) h0
  · obtain ⟨y, hy, e⟩ := List.any_eq_true.mp h
    rw [Nat.eq_of_beq_eq_true e]
    exact hy
theorem pws_len (b : Nat) : (pws b).length = turn b := by simp [pws]
theorem pws_at {b i : Nat} (h : i < turn b) : (pws b)[i]? = some (pw b i) := by
  simp [pws, h]
theorem lg_lt {b x : Nat} (hb : Wd b) (hx : x < span b) (h0 : x ≠ 0) : lg b x < turn b := by
  rw [← pws_len b]
  exact List.idxOf_lt_length_of_mem (mem_pws hb hx h0)
theorem pw_lg {b x : Nat} (hb : Wd b) (hx : x < span b) (h0 : x ≠ 0) : pw b (lg b x) = x := by
  have h := lg_lt hb hx h0
  have e := pws_at h
  have e2 : (pws b)[lg b x]? = some x := by
    unfold lg
    rw [List.getElem?_eq_getElem (List.idxOf_lt_length_of_mem (mem_pws hb hx h0)), List.getElem_idxOf]
  rw [e] at e2
  exact Option.some.inj e2
theorem pw_ne {b : Nat} (hb : Wd b) (i : Nat) : pw b i ≠ 0 := by
  intro h
  have e := pw_mul hb ((turn b - i % turn b)) (i % turn b)
  rw [← pw_mod hb i, h] at e
  have ht : i % turn b < turn b := Nat.mod_lt _ (by rcases hb with rfl | rfl <;> decide)
  rw [show i % turn b + (turn b - i % turn b) = turn b by omega, pw_turn hb] at e
  unfold mul at e
  rw [zero_mulF hb] at e
  cases e
/-- before its place a word does not stand in the list of powers -/
theorem lg_first {b x m z : Nat} (hm : m < lg b x) (hz : (pws b)[m]? = some z) : z ≠ x := by
  intro e
  subst e
  have := List.not_of_lt_findIdx (xs := pws b) (p := (· == z)) (i := m) hm
  obtain ⟨hl, he⟩ := List.getElem?_eq_some_iff.mp hz
  simp [he] at this
theorem mul_comm {b x y : Nat} (hb : Wd b) (hx : x < span b) (hy : y < span b) : mul b x y = mul b y x := by
  by_cases h1 : x = 0
  · subst h1
    unfold mul
    rw [zero_mulF hb, mulF_zero 0]
  · by_cases h2 : y = 0
    · subst h2
      unfold mul
      rw [zero_mulF hb, mulF_zero 0]
    · rw [← pw_lg hb hx h1, ← pw_lg hb hy h2, pw_mul hb, pw_mul hb, Nat.add_comm]
theorem mulF_more {b : Nat} : ∀ (n x y : Nat), y < 2 ^ n → ∀ m, n ≤ m → mulF b m x y = mulF b n x y
  | 0, x, y, h, m, _ => by
    have : y = 0 := by simpa using h
    subst this
    rw [mulF_zero 0]
    rfl
  | n + 1, x, y, h, m, hm => by
    cases m with
    | zero => omega
    | succ m =>
      show (cond (Nat.beq (y % 2) 1) x 0) ^^^ mulF b m (dbl b x) (y / 2) = (cond (Nat.beq (y % 2) 1) x 0) ^^^ mulF b n (dbl b x) (y / 2)
      rw [mulF_more n _ _ (by rw [Nat.pow_succ] at h; omega) m (by omega)]
end My

set_option Elab.async false
set_option linter.all false
set_option maxRecDepth 100000
set_option maxHeartbeats 4000000
/-! ### enumerate of a tuple -/
namespace EnT
open PySem PySem.Spec PyProof.Rows
theorem meets_enumerate_newT (l : Addr) (items : Array Value) (n : Nat) (dct : Option Addr) (sl : Array (Option Value)) :
    Meets (Builtin.«enumerate.__new__» ⟨[.type "enumerate", .ref l], []⟩) (fun _ R s => s.heap.get? l = some { cls := .type "tuple", dict := dct, data := .seq items n, slots := sl } ∧
      R (.ok (.ret (.ref (s.heap.push { cls := .type "tuple_iterator", data := .fields #[.ref l, .int 0 0] }).objs.size)))
        { s with heap := (s.heap.push { cls := .type "tuple_iterator", data := .fields #[.ref l, .int 0 0] }).push { cls := .type "enumerate", data := .fields #[.none, .bool false, .ref s.heap.objs.size, rawInt 0, .none, .none] } }) :=
  .of_wp fun prog w A R s h => by
    obtain ⟨hp, g, d, tk, os⟩ := s; obtain ⟨hl, h⟩ := h
    have hsub := sub_enumerate
    have hL : Heap.IsTuple (Shared.heap ⟨hp, g, d, tk, os⟩) l items := ⟨_, hl, rfl, n, rfl⟩
    wp_walk using wpAny_loadPart' hl
    refine wpAny_stack_any fun st => wpAny_pure ?_
    split
    · rename_i c _ _ _ _ _
      cases (c == Value.type "enumerate")
      · wp_walk using wpAny_loadPart' hl, wpAny_pyIter_tuple hL
        exact ⟨_, rfl, h⟩
      · wp_walk using wpAny_loadPart' hl, wpAny_pyIter_tuple hL
        exact ⟨_, rfl, h⟩
    · wp_walk using wpAny_loadPart' hl, wpAny_pyIter_tuple hL
      exact ⟨_, rfl, h⟩
theorem call_enumerate_tuple {prog : Program} {w : World} {A : Around} {E : Value → Shared → Prop} {s : Shared} {l : Addr} {items : Array Value} {Q : Value → Shared → Prop} (hL : s.heap.IsTuple l items)
    (h : ∀ h', IsEnum h' (s.heap.objs.size + 1) s.heap.objs.size 0 .none → h'.IsTupleIter s.heap.objs.size l 0 → h'.objs.size = s.heap.objs.size + 2 →
      (∀ b o, s.heap.get? b = some o → h'.get? b = some o) → Q (.ref (s.heap.objs.size + 1)) { s with heap := h' }) :
    wpAny (model prog w) A (call (.type "enumerate") [.ref l]) Q E s := by
  obtain ⟨⟨c, dct, dt, sl⟩, hl, hc, n, hd⟩ := hL
  replace hc : c = .type "tuple" := hc
  replace hd : dt = .seq items n := hd
  subst hc hd
  refine callType_new F.called_enumerate (by decide) (F.typeCall_enumerate_1 _) (F.newCall_enumerate_1 _) (fun obj => F.args_object_init_2 obj _) F.entry_enumerate_new
    (meets_enumerate_newT l items n dct sl) ⟨hl, ?_⟩
  have hz : (s.heap.push { cls := .type "tuple_iterator", data := .fields #[.ref l, .int 0 0] }).objs.size = s.heap.objs.size + 1 := Heap.size_push ..
  show _ ∧ _
  rw [hz]
  have he : IsEnum ((s.heap.push { cls := .type "tuple_iterator", data := .fields #[.ref l, .int 0 0] }).push
      { cls := .type "enumerate", data := .fields #[.none, .bool false, .ref s.heap.objs.size, rawInt 0, .none, .none] }) (s.heap.objs.size + 1) s.heap.objs.size 0 .none := by
    have := Heap.get?_push_size (s.heap.push { cls := .type "tuple_iterator", data := .fields #[.ref l, .int 0 0] })
      (o := { cls := .type "enumerate", data := .fields #[.none, .bool false, .ref s.heap.objs.size, rawInt 0, .none, .none] }) rfl
    rw [hz] at this; exact this
  refine ⟨⟨_, he, rfl⟩, h _ he ⟨_, Heap.get?_push_of_some _ (Heap.get?_push_size _ rfl), rfl, rfl⟩ (by rw [Heap.size_push, hz]) fun b o x => Heap.get?_push_of_some _ (Heap.get?_push_of_some _ x)⟩
open L2
def IteT (K : PySem.W.Frag) (a : Addr) : It :=
  ⟨fun i H => ∃ (xs : List V) (x : V), SqT K H a xs ∧ xs[i]? = some x, fun i H v H' => ∃ T x, v = .ref T ∧ H T = none ∧ H' = upd H T (.tup [.int (i : Nat), x]) ∧ ∀ xs, SqT K H a xs → xs[i]? = some x, fun i H => ∃ xs : List V, SqT K H a xs ∧ xs.length = i⟩
theorem turn_enumT {P : Program} {w : World} {K : PySem.W.Frag} {elts : List Expr} {kk : Nat} {tpos : Pos} (a e it : Addr) :
    Turn P w K (.Tuple elts kk tpos) (IteT K a) [e, it] e (fun i h => (∃ old, IsEnum h e it ((i : Nat) : Int) old) ∧ h.IsTupleIter it a i ∧ e ≠ it ∧ a ≠ it ∧ e ≠ a) where
  mem := by simp
  obj := fun i h st b hb => by
    obtain ⟨⟨old, he⟩, ⟨o, ho, hc, hd⟩, _⟩ := st
    have e' : b = e ∨ b = it := by simpa using hb
    rcases e' with z | z
    · rw [z]; exact ⟨_, he, fun v q => nomatch q⟩
    · rw [z]; exact ⟨o, ho, fun v q => by rw [hd] at q; cases q⟩
  keep := fun i h h' st k => let ⟨⟨old, he⟩, hi, hne⟩ := st; ⟨⟨old, k e (by simp) _ he⟩, hi.at fun o q => k it (by simp) o q, hne⟩
  item := by
    intro X hP hw hK hc i pins s σ H E I hf st hg
    subst hP hw hK
    obtain ⟨⟨old, he⟩, hit, hne, hai, hea⟩ := st
    obtain ⟨xs, x, hq, hx⟩ := hg
    obtain ⟨its, rv, p, hz⟩ := I.tuple hq
    obtain ⟨u, hu, ru⟩ := rv.get hx
    have hel : e < s.heap.objs.size := Heap.lt_size he
    have hil : it < s.heap.objs.size := by obtain ⟨_, q, _⟩ := hit; exact Heap.lt_size q
    have hin : i < its.toArray.size := by
      have := (List.getElem?_eq_some_iff.mp hu).1
      simpa using this
    have hd0 : X.A.in1.handled = none := I.ok.hd hc
    refine wpAny_pyNext_enum_itemC (Draws.tuple hd0 it a hai its.toArray) he ⟨hit, p⟩ hin hne (by simp [hne, hea]) fun y h' tk hy ho hst' hT hsz hk => ?_
    obtain rfl : y = u := by
      have : its.toArray[i]? = some y := hy
      simp at this
      rw [hu] at this
      exact (Option.some.inj this).symm
    have hit' := hst'.1
    refine ⟨_, rfl, wpAny_letOwnedTupleGo_enum (s := { s with heap := h', toks := tk + 1 }) ho fun h'' he' sb => ?_⟩
    have hT2 : h''.get? s.heap.objs.size = some { cls := .type "tuple", data := .seq #[.int i tk, y] } := (sb.2 _ (Nat.ne_of_gt hel)).trans hT
    have new : ObjOk X.prog X.w (upd H s.heap.objs.size (.tup [.int (i : Nat), x])) h'' s.heap.objs.size (.tup [.int (i : Nat), x]) :=
      ⟨by show 2 ≤ sizeLine; decide, [.int i tk, y], .cons ⟨_, rfl⟩ (.cons ru .nil), ⟨_, hT2, rfl, _, rfl⟩⟩
    have I1 : Inv X pins σ (upd H s.heap.objs.size (.tup [.int (i : Nat), x])) { s with heap := h'', toks := tk + 1 } :=
      I.turnedNew (ch := [e, it]) (fun b ob hb q => (sb.2 b (fun z => hb (by simp [z]))).trans (hk b ob (fun z => hb (by simp [z])) (fun z => hb (by simp [z])) q)) hf (Nat.le_refl _) new
    refine ⟨.ref s.heap.objs.size, _, I1, rfl, ⟨_, x, rfl, I.hok.fresh (Nat.le_refl _), rfl, fun ys hy => by rw [I.tuple_inj hy hq]; exact hx⟩, ⟨⟨y, ?_⟩, hit'.at fun o q => (sb.2 it (Ne.symm hne)).trans q, hne, hai, hea⟩, fun b hb => ?_⟩
    · have e1 : ((i + 1 : Nat) : Int) = (i : Int) + 1 := by omega
      rw [e1]; exact he'
    · have hb' : b < s.heap.objs.size := by
        have e' : b = e ∨ b = it := by simpa using hb
        rcases e' with z | z
        · rw [z]; exact hel
        · rw [z]; exact hil
      rw [upd_ne (Nat.ne_of_lt hb')]
      exact (hf b hb).1
  done := by
    intro X hP hw hK hc i pins s σ H E I hf st hg
    subst hP hw hK
    obtain ⟨⟨old, he⟩, hit, hne, hai, hea⟩ := st
    obtain ⟨xs, hq, hx⟩ := hg
    obtain ⟨its, rv, p, hz⟩ := I.tuple hq
    obtain ⟨f0, f1, f2, f3, f4, f5⟩ := hf it (by simp)
    have hl := rv.length
    have hd0 : X.A.in1.handled = none := I.ok.hd hc
    have en : its.toArray.size = i := by simp; omega
    have hst : s.heap.IsTupleIter it a its.toArray.size ∧ s.heap.IsTuple a its.toArray := ⟨by rw [en]; exact hit, p⟩
    exact wpAny_pyNext_enum_endD (Draws.tuple hd0 it a hai its.toArray) he hst fun h' eb => ⟨rfl, I.turned (t' := s.toks) (fun b o hb q => eb b o hb q) f0 f1 f3 f4 f5⟩
  self := fun A i s Q E st h => let ⟨⟨_, he⟩, _⟩ := st; wpAny_pyIter_enum he h
def iEnumT (K : PySem.W.Frag) (ta : TA) : TI := fun σ H R => ta σ H fun vs H1 => ∃ a xs, vs = [.ref a] ∧ SqT K H1 a xs ∧ R (IteT K a) H1
theorem pi_enumT {X : Cx} {e : Expr} {ta : TA} {p pos tpos : Pos} {elts : List Expr} {kk : Nat} (hg : Gl X "enumerate") (hm : X.mg "enumerate" = none) (ha : PA X [e] ta) (hs : starEach [e] X.env = [(false, eval e X.env)] := by rfl) :
    PI X (.Tuple elts kk tpos) (.Call (.Name "enumerate" p) [e] [] pos) (iEnumT X.K ta) := by
  refine ⟨fun pins s σ H R I h => ?_⟩
  refine Call_ (ld_blt I hg hm boot_enumerate (PyProof.Rows.callWith_type1 (thn (ha.run pos pins s σ H _ I h) fun us s1 ⟨vs, H1, I1, r1, q1⟩ => ?_) hs rfl))
  obtain ⟨a, xs, ex, hq, q⟩ := q1
  subst ex
  cases r1 with
  | cons r rr =>
    cases rr
    cases r
    obtain ⟨its, rv, p', hz⟩ := I1.tuple hq
    have hal : a < s1.heap.objs.size := by obtain ⟨_, q, _⟩ := p'; exact Heap.lt_size q
    refine call_enumerate_tuple p' fun h' he hit hsz hk => wpAny_pyIter_enum he ?_
    have I2 : Inv X pins σ H1 { s1 with heap := h' } := I1.kept (t' := s1.toks) hk
    refine ⟨s1.heap.objs.size + 1, [s1.heap.objs.size + 1, s1.heap.objs.size], _, _, H1, rfl, I2, turn_enumT a (s1.heap.objs.size + 1) s1.heap.objs.size, ⟨⟨.none, he⟩, hit, Nat.succ_ne_self _, Nat.ne_of_lt hal, Nat.ne_of_gt (Nat.lt_succ_of_lt hal)⟩, fun b hb => ?_, q⟩
    have e' : b = s1.heap.objs.size + 1 ∨ b = s1.heap.objs.size := by simpa using hb
    have hle : s1.heap.objs.size ≤ b := by
      rcases e' with z | z
      · rw [z]; exact Nat.le_add_right _ _
      · rw [z]; exact Nat.le_refl _
    exact I1.fpOk hle (I1.hok.fresh hle)
theorem walk_enumT {K : PySem.W.Frag} {a : Addr} {xs : List V} : Walk (IteT K a) xs.length (fun H => SqT K H a xs) (YPair (fun i => some (.int (i : Nat))) (fun i => xs[i]?)) where
  goes := fun i H hi h => ⟨xs, xs[i], h, List.getElem?_eq_getElem hi⟩
  stops := fun H h => ⟨xs, h, rfl⟩
  yields := fun i H x H' hi h y => by
    obtain ⟨T, z, e1, e2, e3, e4⟩ := y
    exact ⟨T, _, z, e1, e2, e3, rfl, e4 xs h⟩
end EnT

set_option Elab.async false
set_option linter.all false
set_option maxRecDepth 100000
set_option maxHeartbeats 4000000
/-! ### rows: lists (true) and tuples (false) in one -/
namespace My
open PySem PySem.Spec PyProof.Rows L2
def SqB (b : Bool) (K : PySem.W.Frag) (H : Hp) (a : Addr) (xs : List V) : Prop := if b = true then SqL K H a xs else SqT K H a xs
def ItB (b : Bool) (K : PySem.W.Frag) (a : Addr) : It := if b = true then Itl K a else Itt K a
def IteB (b : Bool) (K : PySem.W.Frag) (a : Addr) : It := if b = true then Ite K a else EnT.IteT K a
section
variable {b : Bool} {K : PySem.W.Frag} {H H' : Hp} {a : Addr} {xs : List V}
theorem SqB.or (h : SqB b K H a xs) : SqL K H a xs ∨ SqT K H a xs := by
  cases b
  · exact .inr h
  · exact .inl h
theorem Same.sqt (e : Same H H') (h : SqT K H a xs) : SqT K H' a xs := by
  rcases h with (h | ⟨o, h⟩) | h
  · exact .inl (.inl (e _ _ h))
  · exact .inl (.inr ⟨o, e _ _ h⟩)
  · exact .inr h
theorem Same.sqb (e : Same H H') (h : SqB b K H a xs) : SqB b K H' a xs := by
  cases b
  · exact Same.sqt e h
  · exact e.seq h
theorem SqB.lst (h : H a = some (.lst xs)) : SqB true K H a xs := .inl (.inl h)
theorem SqB.tup (h : H a = some (.tup xs)) : SqB false K H a xs := .inl (.inl h)
theorem SqB.ty (h : SqB b K H a xs) : TyX K H (.ref a) (.type (if b = true then "list" else "tuple")) := by
  cases b
  · rcases h with (h | ⟨o, h⟩) | ⟨o, its, n, hk, hc, _⟩
    · exact .base (.tup h)
    · exact .fTuple h
    · exact .kTuple hk hc
  · rcases h with (h | ⟨o, h⟩) | ⟨o, its, n, hk, hc, _⟩
    · exact .base (.lst h)
    · exact .base (.frz h)
    · exact .kList hk hc
theorem walk_seq : Walk (ItB b K a) xs.length (fun H => SqB b K H a xs) (YAt xs) := by
  cases b
  · exact walk_tup
  · exact walk_list
theorem walk_enumS : Walk (IteB b K a) xs.length (fun H => SqB b K H a xs) (YPair (fun i => some (.int (i : Nat))) (fun i => xs[i]?)) := by
  cases b
  · exact EnT.walk_enumT
  · exact walk_enum
end
section
variable {X : Cx} {tg : Expr}
def iSeq (K : PySem.W.Frag) (tl : TE) : TI := fun σ H R => tl σ H fun x H1 => ∃ a xs b, x = .ref a ∧ SqB b K H1 a xs ∧ R (ItB b K a) H1
theorem pi_seq {l : Expr} {tl : TE} (hl : PE X l tl) : PI X tg l (iSeq X.K tl) := by
  refine ⟨fun pins s σ H R I h => ?_⟩
  refine thn (hl.run pins s σ H _ I h) fun v s1 ⟨x, H1, I1, r1, q1⟩ => ?_
  obtain ⟨a, xs, b, e, hq, q⟩ := q1
  subst e
  cases r1
  cases b
  · obtain ⟨its, rv, p, hz⟩ := I1.tuple hq
    refine wpAny_pyIter_tuple (show s1.heap.IsTuple a its.toArray from p) ?_
    refine ⟨s1.heap.objs.size, [s1.heap.objs.size], _, _, H1, rfl, I1.kept (t' := s1.toks) fun b o e => Heap.get?_push_of_some _ e, turn_tuple a _, ⟨_, Heap.get?_push_size _ rfl, rfl, rfl⟩, fun b hb => ?_, q⟩
    have e : b = s1.heap.objs.size := by simpa using hb
    subst e
    exact I1.fpOk (Nat.le_refl _) (I1.hok.fresh (Nat.le_refl _))
  · obtain ⟨its, rv, p, hz⟩ := I1.list hq
    refine wpAny_pyIter_list p.isList ?_
    refine ⟨s1.heap.objs.size, [s1.heap.objs.size], _, _, H1, rfl, I1.kept (t' := s1.toks) fun b o e => Heap.get?_push_of_some _ e, turn_list a _, ⟨_, Heap.get?_push_size _ rfl, rfl, rfl⟩, fun b hb => ?_, q⟩
    have e : b = s1.heap.objs.size := by simpa using hb
    subst e
    exact I1.fpOk (Nat.le_refl _) (I1.hok.fresh (Nat.le_refl _))
def iEnumS (K : PySem.W.Frag) (ta : TA) : TI := fun σ H R => ta σ H fun vs H1 => ∃ a xs b, vs = [.ref a] ∧ SqB b K H1 a xs ∧ R (IteB b K a) H1
theorem pi_enumS {e : Expr} {ta : TA} {p pos tpos : Pos} {elts : List Expr} {kk : Nat} (hg : Gl X "enumerate") (hm : X.mg "enumerate" = none) (ha : PA X [e] ta) (hs : starEach [e] X.env = [(false, eval e X.env)] := by rfl) :
    PI X (.Tuple elts kk tpos) (.Call (.Name "enumerate" p) [e] [] pos) (iEnumS X.K ta) := by
  refine ⟨fun pins s σ H R I h => ?_⟩
  refine Call_ (ld_blt I hg hm boot_enumerate (PyProof.Rows.callWith_type1 (thn (ha.run pos pins s σ H _ I h) fun us s1 ⟨vs, H1, I1, r1, q1⟩ => ?_) hs rfl))
  obtain ⟨a, xs, b, ex, hq, q⟩ := q1
  subst ex
  cases r1 with
  | cons r rr =>
    cases rr
    cases r
    cases b
    · obtain ⟨its, rv, p', hz⟩ := I1.tuple hq
      have hal : a < s1.heap.objs.size := by obtain ⟨_, q, _⟩ := p'; exact Heap.lt_size q
      refine EnT.call_enumerate_tuple p' fun h' he hit hsz hk => wpAny_pyIter_enum he ?_
      have I2 : Inv X pins σ H1 { s1 with heap := h' } := I1.kept (t' := s1.toks) hk
      refine ⟨s1.heap.objs.size + 1, [s1.heap.objs.size + 1, s1.heap.objs.size], _, _, H1, rfl, I2, EnT.turn_enumT a (s1.heap.objs.size + 1) s1.heap.objs.size, ⟨⟨.none, he⟩, hit, Nat.succ_ne_self _, Nat.ne_of_lt hal, Nat.ne_of_gt (Nat.lt_succ_of_lt hal)⟩, fun b hb => ?_, q⟩
      have e' : b = s1.heap.objs.size + 1 ∨ b = s1.heap.objs.size := by simpa using hb
      have hle : s1.heap.objs.size ≤ b := by
        rcases e' with z | z
        · rw [z]; exact Nat.le_add_right _ _
        · rw [z]; exact Nat.le_refl _
      exact I1.fpOk hle (I1.hok.fresh hle)
    · obtain ⟨its, rv, p', hz⟩ := I1.list hq
      refine call_enumerate_list p'.isList fun h' he hit hsz hk => wpAny_pyIter_enum he ?_
      have I2 : Inv X pins σ H1 { s1 with heap := h' } := I1.kept (t' := s1.toks) hk
      refine ⟨s1.heap.objs.size + 1, [s1.heap.objs.size + 1, s1.heap.objs.size], _, _, H1, rfl, I2, turn_enum a (s1.heap.objs.size + 1) s1.heap.objs.size, ⟨⟨.none, he⟩, hit, Nat.succ_ne_self _⟩, fun b hb => ?_, q⟩
      have e' : b = s1.heap.objs.size + 1 ∨ b = s1.heap.objs.size := by simpa using hb
      have hle : s1.heap.objs.size ≤ b := by
        rcases e' with z | z
        · rw [z]; exact Nat.le_add_right _ _
        · rw [z]; exact Nat.le_refl _
      exact I1.fpOk hle (I1.hok.fresh hle)
/-- xs[i] of a list or a tuple -/
def rIxB (K : PySem.W.Frag) : R2 := fun x y H Q => ∃ p xs i v b, x = .ref p ∧ y = .int i ∧ SqB b K H p xs ∧ atI xs i = some v ∧ Q v H
theorem ix_rowB : IxR X (rIxB X.K) := by
  intro value slice pins s σ H x y v u Q I rx ry h hs
  obtain ⟨p, xs, i, z, b, rfl, rfl, hq, ha, q⟩ := h
  refine ix_seq value slice pins s σ H _ _ v u Q I rx ry ?_ hs
  cases b
  · exact .inr (.inl ⟨p, xs, i, z, rfl, rfl, hq, ha, q⟩)
  · exact .inl ⟨p, xs, i, z, rfl, rfl, hq, ha, q⟩
end
end My

set_option Elab.async false
set_option linter.all false
set_option maxRecDepth 100000
set_option maxHeartbeats 4000000
namespace My
open PySem PySem.Spec PyProof.Rows L2
section
variable {X : Cx}
/-- xs[i] of a list, by the item's own rule (for xs[i] op= e) -/
def rGetL (K : PySem.W.Frag) : V → V → Hp → VK → Prop := fun x y H Q => ∃ p xs v, ∃ j : Nat, x = .ref p ∧ y = .int (j : Int) ∧ SqL K H p xs ∧ xs[j]? = some v ∧ Q v H
theorem get_list : PGet X (rGetL X.K) := by
  intro pins s σ H x y v u Q I rx ry h
  obtain ⟨p, xs, z, j, rfl, rfl, hq, he, q⟩ := h
  cases rx
  obtain ⟨t, rfl⟩ := ry
  obtain ⟨its, r, pl, hz⟩ := I.list hq
  obtain ⟨w, ew, rw'⟩ := r.get he
  have hl := r.length
  have hn := line63
  have hj : j < xs.length := (List.getElem?_eq_some_iff.mp he).1
  exact wpAny_getItem_list pl.isList (by omega) (by omega) (by simpa using ew) ⟨z, H, I, rw', q⟩
end
end My

set_option Elab.async false
set_option linter.all false
set_option maxRecDepth 100000
set_option maxHeartbeats 4000000
/-! ### written tuples of ints, dicts of the module from ints to objects -/
namespace My
open PySem PySem.Spec PyProof.Rows L2
def intsB : List Value → List Int → Bool
  | [], [] => true
  | .int i _ :: vs, j :: xs => (i == j) && intsB vs xs
  | _, _ => false
def tupB (K : PySem.W.Frag) (a : Addr) (xs : List Int) : Bool :=
  match K.lookup a with
  | some ⟨.type s, none, .seq its _, _⟩ => s == "tuple" && Nat.ble its.size 1000 && intsB its.toList xs
  | _ => false
theorem intsB_ok : ∀ {vs : List Value} {xs : List Int}, intsB vs xs = true → Vals (xs.map V.int) vs
  | [], [], _ => .nil
  | .int i t :: vs, j :: xs, h => by
    have h' : ((i == j) && intsB vs xs) = true := h
    rw [Bool.and_eq_true] at h'
    have e : i = j := by simpa using h'.1
    subst e
    exact .cons ⟨t, rfl⟩ (intsB_ok h'.2)
theorem tupB_ok {K : PySem.W.Frag} {a : Addr} {xs : List Int} {H : Hp} (h : tupB K a xs = true) : SqT K H a (xs.map V.int) := by
  unfold tupB at h
  split at h
  · next s its n _ e =>
    rw [Bool.and_eq_true, Bool.and_eq_true] at h
    have es : s = "tuple" := by simpa using h.1.1
    subst es
    exact .inr ⟨_, its, n, e, rfl, rfl, Nat.le_trans (Nat.le_of_ble_eq_true h.1.2) (by decide), intsB_ok h.2⟩
  · cases h
theorem tupB_ty {K : PySem.W.Frag} {a : Addr} {xs : List Int} (h : tupB K a xs = true) : ∃ o, K.lookup a = some o ∧ o.cls = .type "tuple" ∧ o.dict = none := by
  unfold tupB at h
  split at h
  · next s its n _ e =>
    rw [Bool.and_eq_true, Bool.and_eq_true] at h
    have es : s = "tuple" := by simpa using h.1.1
    subst es
    exact ⟨_, e, rfl, rfl⟩
  · cases h
inductive EntR : List DictEntry → List (Int × Addr) → Prop where
  | nil : EntR [] []
  | cons {k : Int} {v : Addr} {t : Tok} {es : List DictEntry} {kvs : List (Int × Addr)} (h : EntR es kvs) (hk : hashInt k = k := by decide +kernel) : EntR (⟨k, .int k t, .ref v⟩ :: es) ((k, v) :: kvs)
def KRef (K : PySem.W.Frag) (d : Addr) (kvs : List (Int × Addr)) : Prop :=
  ∃ (es : Array DictEntry) (n : Nat), K.lookup d = some ⟨.type "dict", none, .dict es n, #[]⟩ ∧ EntR es.toList kvs ∧ (d == sysModules) = false
theorem EntR.all {es : List DictEntry} {kvs : List (Int × Addr)} (h : EntR es kvs) : ∀ e ∈ es, ∃ k t, e.key = .int k t ∧ e.hash = hashInt k := by
  induction h with
  | nil => intro e he; cases he
  | cons h hk ih =>
    intro e he
    cases he with
    | head => exact ⟨_, _, rfl, hk.symm⟩
    | tail _ m => exact ih e m
def getA (k : Int) : List (Int × Addr) → Option Addr
  | [] => none
  | (k', v) :: r => if k' = k then some v else getA k r
theorem EntR.find {es : List DictEntry} {kvs : List (Int × Addr)} (h : EntR es kvs) (k : Int) :
    (getA k kvs = none → findBy Value.isInt es.toArray k = none) ∧ (∀ v, getA k kvs = some v → findBy Value.isInt es.toArray k = some (.ref v)) := by
  unfold findBy
  rw [List.find?_toArray]
  induction h with
  | nil => exact ⟨fun _ => rfl, fun v z => by cases z⟩
  | @cons k' v t es kvs h hk ih =>
    rw [List.find?_cons]
    by_cases e : k' = k
    · have q : Value.isInt k (Value.int k' t) = true := by show (k' == k) = true; simp [e]
      simp only [q]
      refine ⟨fun z => ?_, fun v' z => ?_⟩
      · unfold getA at z; rw [if_pos e] at z; cases z
      · unfold getA at z; rw [if_pos e] at z; cases z; rfl
    · have q : Value.isInt k (Value.int k' t) = false := by show (k' == k) = false; simp [e]
      simp only [q]
      unfold getA
      rw [if_neg e]
      exact ih
section
variable {X : Cx} {d : Addr} {kvs : List (Int × Addr)}
theorem mapInt_R {prog : Program} {w : World} {K : PySem.W.Frag} {h : Heap} {es : Array DictEntry} {n : Nat} (X : K.In h) (hl : K.lookup d = some ⟨.type "dict", none, .dict es n, #[]⟩) (hk : EntR es.toList kvs) :
    h.MapOf (intKind prog w) d (fun k => findBy Value.isInt es k) :=
  ⟨_, es, n, X _ _ hl, ⟨rfl, rfl, rfl⟩, rfl, fun e he => by
    obtain ⟨x, t, e1, e2⟩ := hk.all e (Array.mem_toList_iff.mpr he)
    exact ⟨x, by rw [e1]; exact intKind_is prog w x t, e2⟩, fun _ => rfl⟩
/-- d[k] -/
def rKR (d : Addr) (kvs : List (Int × Addr)) : R2 := fun x y H Q => ∃ k v, x = .ref d ∧ y = .int k ∧ getA k kvs = some v ∧ Q (.ref v) H
theorem ix_kref (D : KRef X.K d kvs) : IxR X (rKR d kvs) := by
  intro value slice pins s σ H x y v u Q I rx ry h hs
  obtain ⟨k, r, rfl, rfl, e, q⟩ := h
  obtain ⟨es, n, hl, hk, hd⟩ := D
  obtain rfl : v = Value.ref d := rx
  obtain ⟨t, rfl⟩ := ry
  have hm := mapInt_R (prog := X.prog) (w := X.w) I.kIn hl hk
  have eu := (hk.find k).2 r e
  exact tail_any hm.typeIs slot_dict_getitem.lookup (wpAny_getItem_of (intKind_is X.prog X.w k t) hm eu ⟨.ref r, H, I.tok _, rfl, q⟩) hs
end
end My

set_option Elab.async false
set_option linter.all false
set_option maxRecDepth 100000
set_option maxHeartbeats 4000000
/-! ### the program's tables of powers and exponents -/
namespace My
open PySem PySem.Spec PyProof.Rows L2
def E4 : List Int := [0, 0, 1, 12, 2, 9, 13, 7, 3, 4, 10, 5, 14, 11, 8, 6]
def E8 : List Int := [0, 0, 1, 231, 2, 207, 232, 59, 3, 35, 208, 154, 233, 20, 60, 183, 4, 159, 36, 66, 209, 118, 155, 251, 234, 245, 21, 11, 61, 130, 184, 146, 5, 122, 160, 79, 37, 113, 67, 106, 210, 224, 119, 221, 156, 242, 252, 32, 235, 213, 246, 135, 22, 42, 12, 140, 62, 227, 131, 75, 185, 191, 147, 94, 6, 70, 123, 195, 161, 53, 80, 167, 38, 109, 114, 203, 68, 51, 107, 49, 211, 40, 225, 189, 120, 111, 222, 240, 157, 116, 243, 128, 253, 205, 33, 18, 236, 163, 214, 98, 247, 55, 136, 102, 23, 82, 43, 177, 13, 169, 141, 89, 63, 8, 228, 151, 132, 72, 76, 218, 186, 125, 192, 200, 148, 197, 95, 174, 7, 150, 71, 217, 124, 199, 196, 173, 162, 97, 54, 101, 81, 176, 168, 88, 39, 188, 110, 239, 115, 127, 204, 17, 69, 194, 52, 166, 108, 202, 50, 48, 212, 134, 41, 139, 226, 74, 190, 93, 121, 78, 112, 105, 223, 220, 241, 31, 158, 65, 117, 250, 244, 10, 129, 145, 254, 230, 206, 58, 34, 153, 19, 182, 237, 15, 164, 46, 215, 171, 99, 86, 248, 143, 56, 180, 137, 91, 103, 29, 24, 25, 83, 26, 44, 84, 178, 27, 14, 45, 170, 85, 142, 179, 90, 28, 64, 249, 9, 144, 229, 57, 152, 181, 133, 138, 73, 92, 77, 104, 219, 30, 187, 238, 126, 16, 193, 165, 201, 47, 149, 216, 198, 172, 96, 100, 175, 87]
def P4 : List Int := [1, 2, 4, 8, 9, 11, 15, 7, 14, 5, 10, 13, 3, 6, 12]
def P8 : List Int := [1, 2, 4, 8, 16, 32, 64, 128, 113, 226, 181, 27, 54, 108, 216, 193, 243, 151, 95, 190, 13, 26, 52, 104, 208, 209, 211, 215, 223, 207, 239, 175, 47, 94, 188, 9, 18, 36, 72, 144, 81, 162, 53, 106, 212, 217, 195, 247, 159, 79, 158, 77, 154, 69, 138, 101, 202, 229, 187, 7, 14, 28, 56, 112, 224, 177, 19, 38, 76, 152, 65, 130, 117, 234, 165, 59, 118, 236, 169, 35, 70, 140, 105, 210, 213, 219, 199, 255, 143, 111, 222, 205, 235, 167, 63, 126, 252, 137, 99, 198, 253, 139, 103, 206, 237, 171, 39, 78, 156, 73, 146, 85, 170, 37, 74, 148, 89, 178, 21, 42, 84, 168, 33, 66, 132, 121, 242, 149, 91, 182, 29, 58, 116, 232, 161, 51, 102, 204, 233, 163, 55, 110, 220, 201, 227, 183, 31, 62, 124, 248, 129, 115, 230, 189, 11, 22, 44, 88, 176, 17, 34, 68, 136, 97, 194, 245, 155, 71, 142, 109, 218, 197, 251, 135, 127, 254, 141, 107, 214, 221, 203, 231, 191, 15, 30, 60, 120, 240, 145, 83, 166, 61, 122, 244, 153, 67, 134, 125, 250, 133, 123, 246, 157, 75, 150, 93, 186, 5, 10, 20, 40, 80, 160, 49, 98, 196, 249, 131, 119, 238, 173, 43, 86, 172, 41, 82, 164, 57, 114, 228, 185, 3, 6, 12, 24, 48, 96, 192, 241, 147, 87, 174, 45, 90, 180, 25, 50, 100, 200, 225, 179, 23, 46, 92, 184]
def tabE (b : Nat) : List Int := cond (Nat.beq b 4) E4 E8
def tabP (b : Nat) : List Int := cond (Nat.beq b 4) P4 P8
theorem lgpw' {b i : Nat} (hb : Wd b) (h : i < turn b) : lg b (pw b i) = i := by
  have q : ((List.range (turn b)).all fun i => Nat.beq (lg b (pw b i)) i) = true := by rcases hb with rfl | rfl <;> decide +kernel
  exact Nat.eq_of_beq_eq_true (List.all_eq_true.mp q i (List.mem_range.mpr h))
def goodE (b : Nat) (x : Nat) : Bool := match (tabE b)[x]? with
  | some (Int.ofNat e) => Nat.beq x 0 || (Nat.blt e (turn b) && Nat.beq (pw b e) x)
  | _ => false
theorem goodE_all {b : Nat} (hb : Wd b) : ((List.range (span b)).all (goodE b)) = true := by rcases hb with rfl | rfl <;> decide +kernel
theorem tabE_at {b x : Nat} (hb : Wd b) (hx : x < span b) (h0 : x ≠ 0) : (tabE b)[x]? = some (lg b x : Int) := by
  have h := List.all_eq_true.mp (goodE_all hb) x (List.mem_range.mpr hx)
  unfold goodE at h
  split at h
  · next e he =>
    rcases (Bool.or_eq_true _ _).mp h with z | z
    · exact absurd (Nat.eq_of_beq_eq_true z) h0
    · rw [Bool.and_eq_true] at z
      have h1 : e < turn b := by
        have := z.1
        rw [Nat.blt_eq] at this
        exact this
      have h2 := Nat.eq_of_beq_eq_true z.2
      rw [he, ← h2, lgpw' hb h1]
      rfl
  · cases h
theorem tabE_len {b : Nat} (hb : Wd b) : (tabE b).length = span b := by rcases hb with rfl | rfl <;> decide +kernel
theorem tabP_is {b : Nat} (hb : Wd b) : tabP b = (pws b).map (fun n : Nat => (n : Int)) := by rcases hb with rfl | rfl <;> decide +kernel
theorem tabP_len {b : Nat} (hb : Wd b) : (tabP b).length = turn b := by rw [tabP_is hb, List.length_map, pws_len]
theorem tabP_at {b i : Nat} (hb : Wd b) (h : i < turn b) : (tabP b)[i]? = some (pw b i : Int) := by
  rw [tabP_is hb, List.getElem?_map, pws_at h]
  rfl
end My

set_option Elab.async false
set_option linter.all false
set_option maxRecDepth 100000
set_option maxHeartbeats 4000000
/-! ### polynomials over the field -/
namespace My
theorem span_eq' {b : Nat} (hb : Wd b) : span b = turn b + 1 := by rcases hb with rfl | rfl <;> rfl
theorem turn_pos {b : Nat} (hb : Wd b) : 0 < turn b := by rcases hb with rfl | rfl <;> decide
/-- the quotient: the word whose product with y is x -/
def quo (b x y : Nat) : Nat := mul b x (pw b (lg b y * (turn b - 1)))
theorem quo_mul {b x y : Nat} (hb : Wd b) (hx : x < span b) (hy : y < span b) (h1 : y ≠ 0) : quo b (mul b x y) y = x := by
  unfold quo
  by_cases h0 : x = 0
  · subst h0
    have e : mul b 0 y = 0 := zero_mulF hb _ _
    rw [e]
    exact zero_mulF hb _ _
  · have ex := pw_lg hb hx h0
    have ey := pw_lg hb hy h1
    have e : mul b x y = pw b (lg b x + lg b y) := by rw [← pw_mul hb, ex, ey]
    rw [e, pw_mul hb]
    have h := pw_add_mul hb (lg b x) (lg b y)
    have e2 : lg b x + lg b y + lg b y * (turn b - 1) = lg b x + lg b y * turn b := by
      have ht := turn_pos hb
      have : lg b y * turn b = lg b y * (turn b - 1) + lg b y := by
        rw [← Nat.mul_succ]
        rw [show (turn b - 1).succ = turn b by omega]
      omega
    rw [e2, h, ex]
theorem mul_quo {b x y : Nat} (hb : Wd b) (hx : x < span b) (hy : y < span b) (h1 : y ≠ 0) : mul b (quo b x y) y = x := by
  unfold quo
  by_cases h0 : x = 0
  · subst h0
    have e : mul b 0 (pw b (lg b y * (turn b - 1))) = 0 := zero_mulF hb _ _
    rw [e]
    exact zero_mulF hb _ _
  · have ex := pw_lg hb hx h0
    have ey := pw_lg hb hy h1
    have e : mul b x (pw b (lg b y * (turn b - 1))) = pw b (lg b x + lg b y * (turn b - 1)) := by rw [← pw_mul hb, ex]
    have e3 : mul b (pw b (lg b x + lg b y * (turn b - 1))) y = pw b (lg b x + lg b y * (turn b - 1) + lg b y) := by
      rw [← pw_mul hb _ (lg b x + lg b y * (turn b - 1)), ey]
    rw [e, e3]
    have h := pw_add_mul hb (lg b x) (lg b y)
    have e2 : lg b x + lg b y * (turn b - 1) + lg b y = lg b x + lg b y * turn b := by
      have ht := turn_pos hb
      have : lg b y * turn b = lg b y * (turn b - 1) + lg b y := by
        rw [← Nat.mul_succ]
        rw [show (turn b - 1).succ = turn b by omega]
      omega
    rw [e2, h, ex]
theorem mul_zero {b x : Nat} : mul b x 0 = 0 := mulF_zero 0 _ _
theorem zero_mul {b y : Nat} (hb : Wd b) : mul b 0 y = 0 := zero_mulF hb _ _
theorem span_pos {b : Nat} (hb : Wd b) : 1 < span b := by rcases hb with rfl | rfl <;> decide
theorem mul_one {b x : Nat} (hb : Wd b) (hx : x < span b) : mul b x 1 = x := by
  rw [mul_comm hb hx (span_pos hb)]
  exact one_mul hb hx
theorem mul_xor_l {b x z y : Nat} (hb : Wd b) (hx : x < span b) (hz : z < span b) : mul b (x ^^^ z) y = mul b x y ^^^ mul b z y := mulF_lin hb _ _ _ _ hx hz
theorem mul_xor_r {b x z y : Nat} (hb : Wd b) (hx : x < span b) (hz : z < span b) (hy : y < span b) : mul b y (x ^^^ z) = mul b y x ^^^ mul b y z := by
  rw [mul_comm hb hy (xor_lt hb hx hz), mul_xor_l hb hx hz, mul_comm hb hx hy, mul_comm hb hz hy]
theorem mul_assoc {b x y z : Nat} (hb : Wd b) (hx : x < span b) (hy : y < span b) (hz : z < span b) : mul b (mul b x y) z = mul b x (mul b y z) := by
  by_cases h1 : x = 0
  · subst h1
    rw [zero_mul hb, zero_mul hb, zero_mul hb]
  · by_cases h2 : y = 0
    · subst h2
      rw [mul_zero, zero_mul hb, mul_zero]
    · by_cases h3 : z = 0
      · subst h3
        rw [mul_zero, mul_zero, mul_zero]
      · rw [← pw_lg hb hx h1, ← pw_lg hb hy h2, ← pw_lg hb hz h3, pw_mul hb, pw_mul hb, pw_mul hb, pw_mul hb, Nat.add_assoc]
/-- a row of words of so many bits -/
def Ws (b : Nat) (ws : List Nat) : Prop := ∀ w ∈ ws, w < span b
def evF (b t : Nat) (acc : Nat) (ws : List Nat) : Nat := ws.foldl (fun acc w => mul b acc t ^^^ w) acc
def evl (b t : Nat) (ws : List Nat) : Nat := evF b t 0 ws
def powT (b t : Nat) : Nat → Nat
  | 0 => 1
  | n + 1 => mul b (powT b t n) t
theorem powT_lt {b t : Nat} (hb : Wd b) : ∀ n, powT b t n < span b
  | 0 => span_pos hb
  | n + 1 => mul_lt hb (powT_lt hb n)
theorem evF_lt {b t : Nat} (hb : Wd b) : ∀ (ws : List Nat) (acc : Nat), acc < span b → Ws b ws → evF b t acc ws < span b
  | [], _, h, _ => h
  | w :: r, acc, h, hw => evF_lt hb r _ (xor_lt hb (mul_lt hb h) (hw w (List.mem_cons_self ..))) fun x hx => hw x (List.mem_cons_of_mem _ hx)
theorem evl_lt {b t : Nat} {ws : List Nat} (hb : Wd b) (h : Ws b ws) : evl b t ws < span b := evF_lt hb ws 0 (by have := span_pos hb; omega) h
theorem evF_xor {b t : Nat} (hb : Wd b) (ht : t < span b) : ∀ (ws : List Nat) (acc : Nat), acc < span b → Ws b ws → evF b t acc ws = mul b acc (powT b t ws.length) ^^^ evl b t ws
  | [], acc, h, _ => by
    show acc = mul b acc 1 ^^^ 0
    rw [mul_one hb h, Nat.xor_zero]
  | w :: r, acc, h, hw => by
    have hr : Ws b r := fun x hx => hw x (List.mem_cons_of_mem _ hx)
    have hw0 := hw w (List.mem_cons_self ..)
    have hz : (0 : Nat) < span b := by have := span_pos hb; omega
    show evF b t (mul b acc t ^^^ w) r = mul b acc (mul b (powT b t r.length) t) ^^^ evF b t (mul b 0 t ^^^ w) r
    rw [evF_xor hb ht r _ (xor_lt hb (mul_lt hb h) hw0) hr, evF_xor hb ht r _ (xor_lt hb (mul_lt hb hz) hw0) hr, zero_mul hb, Nat.zero_xor, mul_xor_l hb (mul_lt hb h) hw0,
      mul_assoc hb h ht (powT_lt hb _), mul_comm hb ht (powT_lt hb _), Nat.xor_assoc]
theorem evl_cons {b t w : Nat} {r : List Nat} (hb : Wd b) (ht : t < span b) (hw : w < span b) (hr : Ws b r) : evl b t (w :: r) = mul b w (powT b t r.length) ^^^ evl b t r := by
  show evF b t (mul b 0 t ^^^ w) r = _
  rw [zero_mul hb, Nat.zero_xor]
  exact evF_xor hb ht r w hw hr
theorem evl_snoc {b t w : Nat} {r : List Nat} : evl b t (r ++ [w]) = mul b (evl b t r) t ^^^ w := by
  show (r ++ [w]).foldl _ 0 = _
  rw [List.foldl_append]
  rfl
theorem evl_zeros {b t : Nat} (hb : Wd b) : ∀ n, evl b t (List.replicate n 0) = 0
  | 0 => rfl
  | n + 1 => by
    rw [List.replicate_succ', evl_snoc, evl_zeros hb n, zero_mul hb]
    rfl
theorem evl_pad {b t : Nat} (hb : Wd b) (n : Nat) (ws : List Nat) : evl b t (List.replicate n 0 ++ ws) = evl b t ws := by
  show (List.replicate n 0 ++ ws).foldl _ 0 = _
  rw [List.foldl_append]
  have h := evl_zeros (t := t) hb n
  unfold evl evF at h
  rw [h]
  rfl
/-- sums, word by word, by the places below n -/
def xsum (n : Nat) (f : Nat → Nat) : Nat := (List.range n).foldl (fun acc i => acc ^^^ f i) 0
theorem xsum_succ (n : Nat) (f : Nat → Nat) : xsum (n + 1) f = xsum n f ^^^ f n := by
  unfold xsum
  rw [List.range_succ, List.foldl_append]
  rfl
theorem xsum_congr {n : Nat} {f g : Nat → Nat} (h : ∀ i, i < n → f i = g i) : xsum n f = xsum n g := by
  induction n with
  | zero => rfl
  | succ n ih => rw [xsum_succ, xsum_succ, ih fun i hi => h i (by omega), h n (by omega)]
theorem xsum_lt {b n : Nat} {f : Nat → Nat} (hb : Wd b) (h : ∀ i, i < n → f i < span b) : xsum n f < span b := by
  induction n with
  | zero => have := span_pos hb; show 0 < span b; omega
  | succ n ih =>
    rw [xsum_succ]
    exact xor_lt hb (ih fun i hi => h i (by omega)) (h n (by omega))
/-- the i-th word times the (k - i)-th word of the other -/
def term (b : Nat) (f g : Nat → Nat) (k i : Nat) : Nat := if i ≤ k then mul b (f i) (g (k - i)) else 0
def gd (ws : List Nat) (i : Nat) : Nat := ws.getD i 0
theorem gd_lt {b : Nat} {ws : List Nat} (hb : Wd b) (h : Ws b ws) (i : Nat) : gd ws i < span b := by
  unfold gd
  by_cases hi : i < ws.length
  · rw [List.getD_eq_getElem?_getD, List.getElem?_eq_getElem hi]
    exact h _ (List.getElem_mem hi)
  · rw [List.getD_eq_getElem?_getD, List.getElem?_eq_none (by omega)]
    have := span_pos hb
    show 0 < span b
    omega
theorem gd_out {ws : List Nat} {i : Nat} (h : ws.length ≤ i) : gd ws i = 0 := by
  unfold gd
  rw [List.getD_eq_getElem?_getD, List.getElem?_eq_none h]
  rfl
theorem gd_in {ws : List Nat} {i : Nat} (h : i < ws.length) : ws[i]? = some (gd ws i) := by
  unfold gd
  rw [List.getD_eq_getElem?_getD, List.getElem?_eq_getElem h]
  rfl
theorem gd_list (ws : List Nat) : (List.range ws.length).map (gd ws) = ws := by
  refine List.ext_getElem? fun i => ?_
  by_cases h : i < ws.length
  · rw [gd_in h]
    simp [h]
  · rw [List.getElem?_eq_none (by simp; omega), List.getElem?_eq_none (by omega)]
def cf (b : Nat) (xs ys : List Nat) (k : Nat) : Nat := xsum xs.length (term b (gd xs) (gd ys) k)
/-- the product -/
def conv (b : Nat) (xs ys : List Nat) : List Nat := if xs = [] ∨ ys = [] then [] else (List.range (xs.length + ys.length - 1)).map (cf b xs ys)
theorem term_lt {b : Nat} {f g : Nat → Nat} {k i : Nat} (hb : Wd b) (h : f i < span b) : term b f g k i < span b := by
  unfold term
  split
  · exact mul_lt hb h
  · have := span_pos hb; omega
theorem cf_lt {b k : Nat} {xs ys : List Nat} (hb : Wd b) (hx : Ws b xs) : cf b xs ys k < span b := xsum_lt hb fun i _ => term_lt hb (gd_lt hb hx i)
theorem conv_ws {b : Nat} {xs ys : List Nat} (hb : Wd b) (hx : Ws b xs) : Ws b (conv b xs ys) := by
  intro w hw
  unfold conv at hw
  split at hw
  · cases hw
  · obtain ⟨k, _, rfl⟩ := List.mem_map.mp hw
    exact cf_lt hb hx
/-- sums of two rows of one length -/
def zx (xs ys : List Nat) : List Nat := (List.range xs.length).map fun k => gd xs k ^^^ gd ys k
theorem evl_fn {b t : Nat} (hb : Wd b) (ht : t < span b) (f g : Nat → Nat) (hf : ∀ i, f i < span b) (hg : ∀ i, g i < span b) : ∀ n, evl b t ((List.range n).map fun k => f k ^^^ g k) = evl b t ((List.range n).map f) ^^^ evl b t ((List.range n).map g)
  | 0 => by
    show (0 : Nat) = 0 ^^^ 0
    rfl
  | n + 1 => by
    have w1 : Ws b ((List.range n).map f) := fun w hw => by obtain ⟨k, _, rfl⟩ := List.mem_map.mp hw; exact hf k
    have w2 : Ws b ((List.range n).map g) := fun w hw => by obtain ⟨k, _, rfl⟩ := List.mem_map.mp hw; exact hg k
    rw [List.range_succ, List.map_append, List.map_append, List.map_append]
    show evl b t (_ ++ [f n ^^^ g n]) = evl b t (_ ++ [_]) ^^^ evl b t (_ ++ [_])
    rw [evl_snoc, evl_snoc, evl_snoc, evl_fn hb ht f g hf hg n, mul_xor_l hb (evl_lt hb w1) (evl_lt hb w2)]
    generalize mul b (evl b t (List.map f (List.range n))) t = u
    generalize mul b (evl b t (List.map g (List.range n))) t = v
    generalize f n = c
    generalize g n = d
    ac_rfl
theorem evl_scale {b t x : Nat} (hb : Wd b) (ht : t < span b) (hx : x < span b) (g : Nat → Nat) (hg : ∀ i, g i < span b) : ∀ n, evl b t ((List.range n).map fun k => mul b x (g k)) = mul b x (evl b t ((List.range n).map g))
  | 0 => mul_zero.symm
  | n + 1 => by
    have w2 : Ws b ((List.range n).map g) := fun w hw => by obtain ⟨k, _, rfl⟩ := List.mem_map.mp hw; exact hg k
    rw [List.range_succ, List.map_append, List.map_append]
    show evl b t (_ ++ [_]) = mul b x (evl b t (_ ++ [_]))
    rw [evl_snoc, evl_snoc, evl_scale hb ht hx g hg n, mul_xor_r hb (mul_lt hb (evl_lt hb w2)) (hg n) hx, mul_assoc hb hx (evl_lt hb w2) ht]
/-- the value of a product -/
theorem evl_sum {b t : Nat} (hb : Wd b) (ht : t < span b) (f g : Nat → Nat) (hf : ∀ i, f i < span b) (hg : ∀ i, g i < span b) (m : Nat) (hm : 0 < m) (hout : ∀ i, m ≤ i → g i = 0) :
    ∀ n, evl b t ((List.range (n + m - 1)).map fun k => xsum n (term b f g k)) = mul b (evl b t ((List.range n).map f)) (evl b t ((List.range m).map g))
  | 0 => by
    show evl b t ((List.range (0 + m - 1)).map fun k => 0) = mul b 0 _
    rw [zero_mul hb]
    have e : (List.range (0 + m - 1)).map (fun _ => 0) = List.replicate (0 + m - 1) 0 := by
      rw [List.map_const', List.length_range]
    rw [e, evl_zeros hb]
  | n + 1 => by
    have ih := evl_sum hb ht f g hf hg m hm hout n
    have w1 : Ws b ((List.range n).map f) := fun w hw => by obtain ⟨k, _, rfl⟩ := List.mem_map.mp hw; exact hf k
    have w2 : Ws b ((List.range m).map g) := fun w hw => by obtain ⟨k, _, rfl⟩ := List.mem_map.mp hw; exact hg k
    have e1 : (List.range (n + 1 + m - 1)).map (fun k => xsum (n + 1) (term b f g k)) = (List.range (n + 1 + m - 1)).map fun k => xsum n (term b f g k) ^^^ term b f g k n := by
      refine List.map_congr_left fun k _ => xsum_succ _ _
    have t1 : ∀ k, xsum n (term b f g k) < span b := fun k => xsum_lt hb fun i _ => term_lt hb (hf i)
    rw [e1, evl_fn hb ht _ _ t1 (fun k => term_lt hb (hf n))]
    have e2 : evl b t ((List.range (n + 1 + m - 1)).map fun k => xsum n (term b f g k)) = mul b (mul b (evl b t ((List.range n).map f)) (evl b t ((List.range m).map g))) t := by
      rw [show n + 1 + m - 1 = (n + m - 1) + 1 by omega, List.range_succ, List.map_append]
      show evl b t (_ ++ [_]) = _
      rw [evl_snoc, ih]
      show _ ^^^ xsum n (term b f g (n + m - 1)) = _
      have z : xsum n (term b f g (n + m - 1)) = 0 := by
        have : xsum n (term b f g (n + m - 1)) = xsum n fun _ => 0 := by
          refine xsum_congr fun i hi => ?_
          unfold term
          rw [if_pos (by omega), hout _ (by omega), mul_zero]
        rw [this]
        clear this ih e1 w1 t1
        induction n with
        | zero => rfl
        | succ n ih => rw [xsum_succ, ih]; rfl
      rw [z, Nat.xor_zero]
    have e3 : evl b t ((List.range (n + 1 + m - 1)).map fun k => term b f g k n) = mul b (f n) (evl b t ((List.range m).map g)) := by
      rw [show n + 1 + m - 1 = n + m by omega, List.range_add, List.map_append]
      have z : (List.range n).map (fun k => term b f g k n) = List.replicate n 0 := by
        refine List.ext_getElem? fun i => ?_
        by_cases h : i < n
        · simp [h, term]
          omega
        · rw [List.getElem?_eq_none (by simp; omega), List.getElem?_eq_none (by simp; omega)]
      rw [z, evl_pad hb, List.map_map]
      have z2 : (List.range m).map ((fun k => term b f g k n) ∘ (n + ·)) = (List.range m).map fun k => mul b (f n) (g k) := by
        refine List.map_congr_left fun k _ => ?_
        show term b f g (n + k) n = _
        unfold term
        rw [if_pos (by omega), show n + k - n = k by omega]
      rw [z2, evl_scale hb ht (hf n) g hg]
    rw [e2, e3, List.range_succ, List.map_append]
    show _ = mul b (evl b t (_ ++ [f n])) _
    rw [evl_snoc, mul_xor_l hb (mul_lt hb (evl_lt hb w1)) (hf n)]
    congr 1
    rw [mul_assoc hb (evl_lt hb w1) (evl_lt hb w2) ht, mul_comm hb (evl_lt hb w2) ht, ← mul_assoc hb (evl_lt hb w1) ht (evl_lt hb w2)]
theorem evl_conv {b t : Nat} {xs ys : List Nat} (hb : Wd b) (ht : t < span b) (hx : Ws b xs) (hy : Ws b ys) (h0 : xs ≠ []) (h1 : ys ≠ []) : evl b t (conv b xs ys) = mul b (evl b t xs) (evl b t ys) := by
  have hl : 0 < ys.length := by cases ys with | nil => exact absurd rfl h1 | cons _ _ => simp
  unfold conv
  rw [if_neg (by simp [h0, h1])]
  have h := evl_sum hb ht (gd xs) (gd ys) (gd_lt hb hx) (gd_lt hb hy) ys.length hl (fun i hi => gd_out hi) xs.length
  rw [gd_list, gd_list] at h
  exact h
/-! ### the quotient and the remainder -/
def divStep (b : Nat) (c : Nat → Nat) (m : Nat) (r : Nat → Nat) (s : Nat) : Nat → Nat := fun k => if k = s then quo b (r s) (c 0) else if s < k ∧ k < s + m then r k ^^^ mul b (quo b (r s) (c 0)) (c (k - s)) else r k
def dvN (b : Nat) (c : Nat → Nat) (m : Nat) (w : Nat → Nat) : Nat → Nat → Nat
  | 0 => w
  | s + 1 => divStep b c m (dvN b c m w s) s
theorem quo_lt' {b x y : Nat} (hb : Wd b) (hx : x < span b) : quo b x y < span b := mul_lt hb hx
theorem dvN_lt {b : Nat} {c w : Nat → Nat} {m : Nat} (hb : Wd b) (hw : ∀ k, w k < span b) : ∀ s k, dvN b c m w s k < span b
  | 0, k => hw k
  | s + 1, k => by
    show divStep b c m (dvN b c m w s) s k < span b
    unfold divStep
    have h := dvN_lt (c := c) (m := m) hb hw s
    split
    · exact quo_lt' hb (h s)
    · split
      · exact xor_lt hb (h k) (mul_lt hb (quo_lt' hb (h s)))
      · exact h k
theorem dvN_keep {b : Nat} {c w : Nat → Nat} {m : Nat} {i : Nat} : ∀ s j, i < s → dvN b c m w (s + j) i = dvN b c m w s i
  | s, 0, _ => rfl
  | s, j + 1, h => by
    show divStep b c m (dvN b c m w (s + j)) (s + j) i = _
    unfold divStep
    rw [if_neg (by omega), if_neg (by omega)]
    exact dvN_keep s j h
theorem div_spec {b : Nat} {c w : Nat → Nat} {m : Nat} (hb : Wd b) (hw : ∀ k, w k < span b) (hc : ∀ k, c k < span b) (h0 : c 0 ≠ 0) (hout : ∀ k, m ≤ k → c k = 0) :
    ∀ s k, w k = xsum s (term b (dvN b c m w s) c k) ^^^ (if k < s then 0 else dvN b c m w s k)
  | 0, k => by
    show w k = 0 ^^^ w k
    rw [Nat.zero_xor]
  | s + 1, k => by
    have ih := div_spec hb hw hc h0 hout s k
    have e1 : xsum s (term b (dvN b c m w (s + 1)) c k) = xsum s (term b (dvN b c m w s) c k) := by
      refine xsum_congr fun i hi => ?_
      unfold term
      rw [dvN_keep s 1 hi]
    rw [xsum_succ, e1]
    have hr := dvN_lt (c := c) (m := m) hb hw s
    have eq : dvN b c m w (s + 1) s = quo b (dvN b c m w s s) (c 0) := by
      show divStep b c m (dvN b c m w s) s s = _
      unfold divStep
      rw [if_pos rfl]
    by_cases h1 : k < s
    · rw [if_pos h1, Nat.xor_zero] at ih
      rw [if_pos (by omega), Nat.xor_zero, ← ih]
      unfold term
      rw [if_neg (by omega), Nat.xor_zero]
    · rw [if_neg h1] at ih
      by_cases h2 : k = s
      · subst h2
        rw [if_pos (by omega), Nat.xor_zero, ih]
        unfold term
        rw [if_pos (Nat.le_refl _), eq, Nat.sub_self, mul_quo hb (hr _) (hc 0) h0]
      · rw [if_neg (by omega), ih]
        have et : term b (dvN b c m w (s + 1)) c k s = mul b (quo b (dvN b c m w s s) (c 0)) (c (k - s)) := by
          unfold term
          rw [if_pos (by omega), eq]
        have ed : dvN b c m w (s + 1) k = dvN b c m w s k ^^^ mul b (quo b (dvN b c m w s s) (c 0)) (c (k - s)) := by
          show divStep b c m (dvN b c m w s) s k = _
          unfold divStep
          rw [if_neg h2]
          by_cases h3 : k < s + m
          · rw [if_pos ⟨by omega, h3⟩]
          · rw [if_neg (by omega), hout (k - s) (by omega), mul_zero, Nat.xor_zero]
        rw [et, ed]
        generalize xsum s (term b (dvN b c m w s) c k) = u
        generalize dvN b c m w s k = v
        generalize mul b (quo b (dvN b c m w s s) (c 0)) (c (k - s)) = z
        rw [Nat.xor_assoc, ← Nat.xor_assoc z v z, Nat.xor_comm z v, Nat.xor_assoc v z z, Nat.xor_self, Nat.xor_zero]
/-- quotient and remainder, as lists -/
def steps (ws os : List Nat) : Nat := ws.length + 1 - os.length
def quoL (b : Nat) (ws os : List Nat) : List Nat := (List.range (steps ws os)).map (dvN b (gd os) os.length (gd ws) (steps ws os))
def remL (b : Nat) (ws os : List Nat) : List Nat := (List.range (ws.length - steps ws os)).map fun j => dvN b (gd os) os.length (gd ws) (steps ws os) (steps ws os + j)
/-- what lies behind the law's sum: other * quotient and the remainder, padded -/
def pad (n : Nat) (ws : List Nat) : List Nat := List.replicate n 0 ++ ws
theorem gd_pad {n k : Nat} {ws : List Nat} : gd (pad n ws) k = if k < n then 0 else gd ws (k - n) := by
  unfold gd pad
  rw [List.getD_eq_getElem?_getD, List.getD_eq_getElem?_getD, List.getElem?_append]
  by_cases h : k < n
  · simp [h]
  · simp [h]
theorem gd_map {n k : Nat} {f : Nat → Nat} : gd ((List.range n).map f) k = if k < n then f k else 0 := by
  unfold gd
  rw [List.getD_eq_getElem?_getD]
  by_cases h : k < n
  · simp [h]
  · simp [h]
theorem div_lists {b : Nat} {ws os : List Nat} (hb : Wd b) (hw : Ws b ws) (ho : Ws b os) (h0 : gd os 0 ≠ 0) (hl : os.length ≤ ws.length) (hp : 0 < os.length) :
    (List.range ws.length).map (fun k => gd (conv b (quoL b ws os) os) k ^^^ gd (pad (steps ws os) (remL b ws os)) k) = ws := by
  have hs : 0 < steps ws os := by unfold steps; omega
  have hs2 : steps ws os + os.length - 1 = ws.length := by unfold steps; omega
  have hq : quoL b ws os ≠ [] := by
    intro z
    have := congrArg List.length z
    unfold quoL at this
    simp at this
    omega
  have hon : os ≠ [] := by intro z; rw [z] at hp; simp at hp
  have hql : (quoL b ws os).length = steps ws os := by unfold quoL; simp
  refine Eq.trans (List.map_congr_left fun k hk => ?_) (gd_list ws)
  have hk' : k < ws.length := List.mem_range.mp hk
  have spec := div_spec (c := gd os) (w := gd ws) (m := os.length) hb (gd_lt hb hw) (gd_lt hb ho) h0 (fun i hi => gd_out hi) (steps ws os) k
  refine Eq.trans ?_ spec.symm
  have e1 : gd (conv b (quoL b ws os) os) k = xsum (steps ws os) (term b (dvN b (gd os) os.length (gd ws) (steps ws os)) (gd os) k) := by
    unfold conv
    rw [if_neg (by simp [hq, hon]), gd_map, hql, if_pos (by omega)]
    unfold cf
    rw [hql]
    refine xsum_congr fun i hi => ?_
    unfold term
    have : gd (quoL b ws os) i = dvN b (gd os) os.length (gd ws) (steps ws os) i := by
      unfold quoL
      rw [gd_map, if_pos hi]
    rw [this]
  have e2 : gd (pad (steps ws os) (remL b ws os)) k = if k < steps ws os then 0 else dvN b (gd os) os.length (gd ws) (steps ws os) k := by
    rw [gd_pad]
    by_cases h : k < steps ws os
    · rw [if_pos h, if_pos h]
    · rw [if_neg h, if_neg h]
      unfold remL
      rw [gd_map, if_pos (by omega), show steps ws os + (k - steps ws os) = k by omega]
  rw [e1, e2]
end My

set_option Elab.async false
set_option linter.all false
set_option maxRecDepth 100000
set_option maxHeartbeats 4000000
/-! ### f(k = v, ..) without positional arguments -/
namespace My
open PySem PySem.Spec PyProof.Rows L2
def tCallZ (m : Nat) (sp : Sp) (gV : List V → List V) (E : XK) (tk : TA) : TE := fun σ H Q => tk σ H fun zs H2 => zs.length = m ∧ sp (gV zs) H2 Q E
section
variable {X : Cx} {CX : CXT} {k : Nat} {f : Addr} {fd : FuncData} {ps ks : List Str} {sp : Sp} {E : XK} {x : Str} {p pos : Pos} {kws : List Keyword} {tk : TA} {g : List Value → List Value} {gV : List V → List V}
theorem pe_callZ (F : FnOk X.prog X.w X.K X.mg X.base CX k f fd ps sp) (hr : Room k X.A) (hg : Gl X x) (hm : X.mg x = some (.ref f)) (hk : PySem.W.keepIn X.K (.ref f) = true) (hb : KBn X.K fd ps 0 ks (fun _ ws => g ws) (fun _ zs => gV zs)) (hx : Passes CX X E)
    (hkw : PK X kws tk) (hall : (backToKw pos (keywordEach kws X.env)).all (·.1.isSome) = true := by rfl) (hks : (backToKw pos (keywordEach kws X.env)).filterMap (·.1) = ks := by rfl)
    (hdb : (x == ("__debug__" : Str)) = false := by decide)
    (hpl : ((backTo pos (starEach [] X.env)).any (·.1) || (backToKw pos (keywordEach kws X.env)).any (·.1.isNone)) = false := by rfl) :
    PE X (.Call (.Name x p) [] kws pos) (tCallZ ks.length sp gV E tk) := by
  refine ⟨fun pins s σ H Q I h => ?_⟩
  refine wpAny_Call_Name_kw (ld_glob I hg hm ?_ hdb)
  refine PySem.W.callWith_KW0 (h₀ := X.base) I.ok.mod.kin hk hall (thn (hkw.run pos pins s σ H _ I h) fun ws s2 ⟨zs, H2, I2, rz, l2, q2⟩ => ⟨I2.kIn, ?_⟩) hpl
  rw [hks]
  exact run_fnN (us := []) (vs := []) F hr hb hx I2 .nil rz rfl l2 q2
end
theorem kb0 {K : PySem.W.Frag} {x qual : Str} {st : Stmt} {f : Addr} {fd : FuncData} {ps ks : List Str} (F : Fun K x qual st f fd) (g : {α : Type} → List α → List α)
    (hrel : ∀ {zs : List V} {ws : List Value}, Vals zs ws → Vals (g zs) (g ws))
    (h : ∀ (kV doc pm : Value) (an : Option Addr) (cdv ct : Value) (ws : List Value), ws.length = ks.length → bindArgs (PySem.W.fnOf x qual (defArgs st) (defBody st) (defScope st) .none kV doc pm an cdv ct) ⟨[], ks.zip ws⟩ = pure (ps.zip (g ws))) :
    KBn K fd ps 0 ks (fun _ ws => g ws) (fun _ zs => g zs) := by
  obtain ⟨oc, od, kV, doc, pm, an, cdv, ct, osl, rfl, lk, hcd⟩ := F.ex
  refine ⟨fun s us ws X l1 l2 => ?_, fun _ r2 => hrel r2⟩
  have e : us = [] := List.length_eq_zero_iff.mp l1
  subst e
  exact .of_eq (h kV doc pm an cdv ct ws l2)
/-- three values the other way round -/
def rev3 {α : Type} : List α → List α
  | [a, b, c] => [c, b, a]
  | l => l
theorem rev3_rel {zs : List V} {ws : List Value} (r : Vals zs ws) : Vals (rev3 zs) (rev3 ws) := by
  cases r with
  | nil => exact .nil
  | cons r1 r =>
    cases r with
    | nil => exact .cons r1 .nil
    | cons r2 r =>
      cases r with
      | nil => exact .cons r1 (.cons r2 .nil)
      | cons r3 r =>
        cases r with
        | nil => exact .cons r3 (.cons r2 (.cons r1 .nil))
        | cons r4 r => exact .cons r1 (.cons r2 (.cons r3 (.cons r4 r)))
end My

set_option Elab.async false
set_option linter.all false
set_option maxRecDepth 100000
set_option maxHeartbeats 4000000
/-! ### lists of words, compared -/
namespace My
open PySem PySem.Spec PyProof.Rows L2
theorem same_upd {H : Hp} {p : Addr} {o : HO} (h : H p = none) : Same H (upd H p o) := fun b x e => by
  rw [upd_ne (ne_of_none e h)]
  exact e
/-- a word as a value -/
def vN (n : Nat) : V := .int (n : Int)
def dI (n : Nat) : PyData := .int (n : Int)
def dN (ws : List Nat) : PyData := .list (ws.map dI)
theorem lay_all : ∀ ws : List Nat, PyData.canLayAll0 (ws.map dI) = true
  | [] => rfl
  | w :: r => by
    show (PyData.canLay0 (dI w) && PyData.canLayAll0 (r.map dI)) = true
    rw [lay_all r]
    rfl
theorem depth_all : ∀ ws : List Nat, PyData.depthAll (ws.map dI) = 0
  | [] => rfl
  | w :: r => by
    show max (PyData.depth (dI w)) (PyData.depthAll (r.map dI)) = 0
    rw [depth_all r]
    rfl
theorem dN_lay (ws : List Nat) : (dN ws).canLay0 = true := lay_all ws
theorem dN_depth (ws : List Nat) : (dN ws).depth = 1 := by
  show PyData.depthAll (ws.map dI) + 1 = 1
  rw [depth_all]
theorem dN_shaped (ws : List Nat) : SeqAt.shaped (dN ws) = true := by
  unfold SeqAt.shaped
  rw [dN_lay, dN_depth]
  rfl
theorem eqv_all : ∀ xs ys : List Nat, PyData.eqvAll (xs.map dI) (ys.map dI) = decide (xs = ys)
  | [], [] => rfl
  | [], _ :: _ => by simp [PyData.eqvAll]
  | _ :: _, [] => by simp [PyData.eqvAll]
  | x :: r, y :: t => by
    show (PyData.eqv (dI x) (dI y) && PyData.eqvAll (r.map dI) (t.map dI)) = decide (x :: r = y :: t)
    rw [eqv_all r t]
    have e : PyData.eqv (dI x) (dI y) = decide (x = y) := by
      show ((x : Int) == (y : Int)) = decide (x = y)
      by_cases h : x = y
      · subst h; simp
      · simp [h]
        omega
    rw [e]
    by_cases h : x = y
    · by_cases h2 : r = t
      · simp [h, h2]
      · simp [h, h2]
    · simp [h]
theorem dN_eqv (xs ys : List Nat) : PyData.eqv (dN xs) (dN ys) = decide (xs = ys) := eqv_all xs ys
theorem dp_all {K : PySem.W.Frag} {H : Hp} : ∀ ws : List Nat, DpAll K H (ws.map vN) (ws.map dI)
  | [] => .nil
  | w :: r => .cons (.int _) (dp_all r)
theorem dN_dp {K : PySem.W.Frag} {H : Hp} {a : Addr} {ws : List Nat} (h : SqL K H a (ws.map vN)) : Dp K H (.ref a) (dN ws) := .lst h (dp_all ws)
end My

set_option Elab.async false
set_option linter.all false
set_option maxRecDepth 100000
set_option maxHeartbeats 4000000
/-! ### slices of rows, lists (true) or tuples (false); the powers twice -/
namespace My
open PySem PySem.Spec PyProof.Rows L2
section
variable {X : Cx}
def rSlB (K : PySem.W.Frag) : V → Option Int → Option Int → Hp → VK → Prop := fun x lo hi H Q => ∃ a xs k, x = .ref a ∧ SqB k K H a xs ∧ ∀ p H', Same H H' → SqB k K H' p (cutV xs lo hi) → Q (.ref p) H'
theorem sl_rowB : SlR X (rSlB X.K) := by
  intro pins s σ H x v vl vu lo hi sl Q I rx hs pl pu h
  obtain ⟨a, xs, k, rfl, hx, q⟩ := h
  cases k
  · refine sl_tupA pins s σ H _ v vl vu lo hi sl Q I rx hs pl pu ⟨a, xs, rfl, hx, fun hw => q a H (Same.refl _) ?_, fun _ p hp => q p _ (same_upd hp) (.inl (.inl upd_same))⟩
    have e : cutV xs lo hi = xs := by
      unfold cutV
      rw [hw.1, hw.2]
      simp
    rw [e]
    exact hx
  · exact sl_list pins s σ H _ v vl vu lo hi sl Q I rx hs pl pu ⟨a, xs, rfl, hx, fun p hp => q p _ (same_upd hp) (.inl (.inl upd_same))⟩
end
theorem turn_pos' {b : Nat} (hb : Wd b) : 0 < turn b := by rcases hb with rfl | rfl <;> decide
/-- the powers, twice -/
def PP (b : Nat) : List V := (List.replicate (2 : Int).toNat ((tabP b).map V.int)).flatten
theorem PP_is (b : Nat) : PP b = (tabP b).map V.int ++ (tabP b).map V.int := by
  unfold PP
  show (List.replicate 2 _).flatten = _
  simp [List.replicate]
theorem PP_at {b i : Nat} (hb : Wd b) (h : i < 2 * turn b) : (PP b)[i]? = some (V.int (pw b i : Int)) := by
  have hl : ((tabP b).map V.int).length = turn b := by rw [List.length_map, tabP_len hb]
  rw [PP_is]
  by_cases h1 : i < turn b
  · rw [List.getElem?_append_left (by rw [hl]; exact h1), List.getElem?_map, tabP_at hb h1]
    rfl
  · rw [List.getElem?_append_right (by rw [hl]; omega), hl, List.getElem?_map, tabP_at hb (by omega)]
    have e : pw b i = pw b (i - turn b) := by
      rw [← pw_add_turn hb (i - turn b), show i - turn b + turn b = i by omega]
    rw [e]
    rfl
theorem PP_len {b : Nat} (hb : Wd b) : (PP b).length = 2 * turn b := by
  rw [PP_is, List.length_append, List.length_map, tabP_len hb]
  omega
theorem tabP_small {b : Nat} (hb : Wd b) : ((tabP b).map V.int).length ≤ 1000 ∧ (tabP b).map V.int ≠ [] := by
  have e := tabP_len hb
  have t := turn_pos' hb
  refine ⟨?_, fun z => ?_⟩
  · rw [List.length_map, e]
    rcases hb with rfl | rfl <;> decide
  · have := congrArg List.length z
    rw [List.length_map, e] at this
    simp at this
    omega
theorem sum_at {b x y : Nat} (hb : Wd b) (hx : x < span b) (hy : y < span b) (h0 : x ≠ 0) (h1 : y ≠ 0) : atI (PP b) ((lg b x : Int) + (lg b y : Int)) = some (V.int (mul b x y : Int)) := by
  have l1 := lg_lt hb hx h0
  have l2 := lg_lt hb hy h1
  rw [show (lg b x : Int) + (lg b y : Int) = ((lg b x + lg b y : Nat) : Int) by omega]
  refine atI_nat ?_
  rw [PP_at hb (by omega), ← pw_mul hb, pw_lg hb hx h0, pw_lg hb hy h1]
theorem diff_at {b x y : Nat} (hb : Wd b) (hx : x < span b) (hy : y < span b) (h0 : x ≠ 0) (h1 : y ≠ 0) : atI (PP b) ((lg b x : Int) - (lg b y : Int) + (turn b : Int)) = some (V.int (quo b x y : Int)) := by
  have l1 := lg_lt hb hx h0
  have l2 := lg_lt hb hy h1
  rw [show (lg b x : Int) - (lg b y : Int) + (turn b : Int) = ((lg b x + (turn b - lg b y) : Nat) : Int) by omega]
  refine atI_nat ?_
  rw [PP_at hb (by omega)]
  unfold quo
  have e : pw b (lg b y * (turn b - 1)) = pw b (turn b - lg b y) := by
    have h := pw_add_mul hb (turn b - lg b y) (lg b y)
    have h2 := pw_add_turn hb (lg b y * (turn b - 1))
    have h3 : turn b - lg b y + lg b y * turn b = lg b y * (turn b - 1) + turn b := by
      have h4 : lg b y * turn b = lg b y * (turn b - 1) + lg b y := by
        rw [← Nat.mul_succ]
        rw [show (turn b - 1).succ = turn b by omega]
      omega
    rw [h3] at h
    rw [← h2, h]
  rw [e, ← pw_mul hb, pw_lg hb hx h0]
end My
namespace My
open PySem PySem.Spec PyProof.Rows L2
theorem ix_rowBK {X : Cx} {K : PySem.W.Frag} (h : X.K = K) : IxR X (rIxB K) := by
  subst h
  exact ix_rowB
end My
namespace My
open PySem PySem.Spec PyProof.Rows L2
theorem pe_ifName {X : Cx} {K : PySem.W.Frag} {x : Str} {p : Pos} {a b : Expr} {pos : Pos} {tc ta tb : TE} (h : X.K = K) (hc : PE X (.Name x p) tc) (ha : PE X a ta) (hb : PE X b tb) :
    PE X (.IfExp (.Name x p) a b pos) (tIf (fun σ H Q => tc σ H fun x H' => ∃ k, TruV K x H' k ∧ Q k H') ta tb) := by
  subst h
  exact pe_ifExp (pt_truth hc (fun _ => rfl)) ha hb
end My

set_option Elab.async false
set_option linter.all false
set_option maxRecDepth 100000
set_option maxHeartbeats 1000000
/-! ### zip(*rows), in a comprehension -/
namespace My
open PySem PySem.Spec PyProof.Rows L2
/-- the lists of rows -/
def RowsL (K : PySem.W.Frag) (H : Hp) (L : List Addr) (rows : List (List V)) : Prop := L.length = rows.length ∧ ∀ (j : Nat) (l : Addr) (r : List V), L[j]? = some l → rows[j]? = some r → SqL K H l r
theorem Same.rows {K : PySem.W.Frag} {H H' : Hp} {L : List Addr} {rows : List (List V)} (s : Same H H') (h : RowsL K H L rows) : RowsL K H' L rows := ⟨h.1, fun j l r e1 e2 => s.seq (h.2 j l r e1 e2)⟩
def colAt (rows : List (List V)) (i : Nat) : List V := rows.map fun r => r.getD i .non
def ItZs (K : PySem.W.Frag) (L : List Addr) : It :=
  ⟨fun i H => ∃ rows, RowsL K H L rows ∧ ∀ r ∈ rows, i < r.length,
    fun i H v H' => ∃ T, ∃ xs : List V, v = .ref T ∧ H T = none ∧ H' = upd H T (.tup xs) ∧ ∀ rows, RowsL K H L rows → xs = colAt rows i,
    fun i H => ∃ (rows : List (List V)) (r : List V), RowsL K H L rows ∧ rows[0]? = some r ∧ r.length ≤ i⟩
/-- a new tuple of the i-th of each row -/
def YCol (rows : List (List V)) : Nat → Hp → V → Hp → Prop := fun i H v H' => ∃ T, v = .ref T ∧ H T = none ∧ H' = upd H T (.tup (colAt rows i))
theorem walk_zipS {K : PySem.W.Frag} {L : List Addr} {rows : List (List V)} {n : Nat} (h0 : rows ≠ []) (hn : ∀ r ∈ rows, r.length = n) : Walk (ItZs K L) n (fun H => RowsL K H L rows) (YCol rows) where
  goes i _ hi q := ⟨rows, q, fun r hr => by rw [hn r hr]; exact hi⟩
  stops _ q := by
    cases rows with
    | nil => exact absurd rfl h0
    | cons r rs => exact ⟨r :: rs, r, q, rfl, Nat.le_of_eq (hn r (by simp))⟩
  yields i H v H' _ q y := by
    obtain ⟨T, xs, h1, h2, h3, h4⟩ := y
    rw [h4 rows q] at h3
    exact ⟨T, h1, h2, h3⟩
section
variable {prog : Program} {w : World} {A : Around} {E : Value → Shared → Prop} {s : Shared}
theorem iter_zs {L : List Addr} {b i : Nat} {Q : Value → Shared → Prop} (Z : ZAt L b i s.heap) (h : Q (.ref (b + L.length + 2)) s) : wpAny (model prog w) A (pyIter (.ref (b + L.length + 2))) Q E s := by
  obtain ⟨f0, c0, hz, _⟩ := Z.z
  have hT : s.TypeIs (.ref (b + L.length + 2)) "zip" := ⟨_, hz, rfl⟩
  refine wpAny_pyIter_slot hT F.slot_zip_iter (wpAny_call_entry F.slot_zip_iter hT F.entry_zip_iter ?_ (F.args_zip_iter_1 _))
  show wpAny _ _ (ret (.ref _)) _ _ s
  exact wpAny_pure ⟨_, rfl, "zip", _, hT, F.slot_zip_next.lookup, h⟩
end
def zfp (L : List Addr) (b : Nat) : List Addr := (List.range (L.length + 3)).map fun j => b + j
theorem zfp_part {L : List Addr} {b c : Nat} (h : c ∉ zfp L b) : ¬ Zpart L b c := by
  unfold zfp at h
  intro z
  refine h (List.mem_map.mpr ?_)
  rcases z with e | e | ⟨j, hj, e⟩
  · exact ⟨L.length + 2, List.mem_range.mpr (by omega), by rw [e]; rfl⟩
  · exact ⟨L.length + 1, List.mem_range.mpr (by omega), by rw [e]; rfl⟩
  · exact ⟨j, List.mem_range.mpr (by omega), by rw [e]⟩
theorem zfp_in {L : List Addr} {b : Nat} (j : Nat) (h : j < L.length + 3) : b + j ∈ zfp L b := List.mem_map.mpr ⟨j, List.mem_range.mpr h, rfl⟩
theorem zfp_2 {L : List Addr} {b : Nat} : b + L.length + 2 ∈ zfp L b := zfp_in (L.length + 2) (by omega)
theorem zfp_1 {L : List Addr} {b : Nat} : b + L.length + 1 ∈ zfp L b := zfp_in (L.length + 1) (by omega)
theorem zfp_0 {L : List Addr} {b : Nat} : b + L.length ∈ zfp L b := zfp_in (L.length) (by omega)
theorem near4 {j n : Nat} (h : j < n + 3) : j < n ∨ j = n ∨ j = n + 1 ∨ j = n + 2 := by omega
theorem lt3 {j n : Nat} (h : j < n) : j < n + 3 := by omega
theorem ZAt.keep {L : List Addr} {b i : Nat} {h h' : Heap} (Z : ZAt L b i h) (k : ∀ c ∈ zfp L b, ∀ o, h.get? c = some o → h'.get? c = some o) : ZAt L b i h' := by
  obtain ⟨⟨f0, c0, hz, hf⟩, ti, ⟨a, to, la⟩, its⟩ := Z
  exact ⟨⟨f0, c0, k _ zfp_2 _ hz, hf⟩, k _ zfp_0 _ ti, ⟨a, k _ zfp_1 _ to, la⟩, fun j l e => (its j l e).at fun o q => k _ (zfp_in j (lt3 (List.getElem?_eq_some_iff.mp e).1)) o q⟩
theorem ZAt.obj {L : List Addr} {b i : Nat} {h : Heap} (Z : ZAt L b i h) : ∀ c ∈ zfp L b, ∃ o, h.get? c = some o ∧ ∀ v, o.data ≠ .cell v := by
  obtain ⟨⟨f0, c0, hz, hf⟩, ti, ⟨a, to, la⟩, its⟩ := Z
  intro c hc
  obtain ⟨j, hj, rfl⟩ := List.mem_map.mp hc
  rcases near4 (List.mem_range.mp hj) with c1 | rfl | rfl | rfl
  · obtain ⟨o, ho, _, hd⟩ := its j _ (List.getElem?_eq_getElem c1)
    exact ⟨o, ho, fun v q => by rw [hd] at q; cases q⟩
  · exact ⟨_, ti, fun v q => nomatch q⟩
  · exact ⟨_, to, fun v q => nomatch q⟩
  · exact ⟨_, hz, fun v q => nomatch q⟩
theorem vals_from {f : Nat → Value} : ∀ (xs : List V) (k : Nat), (∀ (j : Nat) (x : V), xs[j]? = some x → RelV x (f (k + j))) → Vals xs ((List.range' k xs.length).map f)
  | [], k, _ => .nil
  | x :: xs, k, h => by
    rw [List.length_cons, List.range'_succ, List.map_cons]
    exact .cons (h 0 x rfl) (vals_from xs (k + 1) fun j y e => by
      have q := h (j + 1) y (by simpa using e)
      rwa [show k + (j + 1) = k + 1 + j by omega] at q)
theorem rows_inj {X : Cx} {pins : List (Addr × Obj)} {σ : L2.St} {H : Hp} {s : Shared} {L : List Addr} {r1 r2 : List (List V)} (I : Inv X pins σ H s) (h1 : RowsL X.K H L r1) (h2 : RowsL X.K H L r2) : r1 = r2 := by
  refine List.ext_getElem? fun j => ?_
  have l1 := h1.1
  have l2 := h2.1
  by_cases c : j < L.length
  · have e1 : r1[j]? = some (r1[j]'(by omega)) := List.getElem?_eq_getElem _
    have e2 : r2[j]? = some (r2[j]'(by omega)) := List.getElem?_eq_getElem _
    have q := I.list_inj (h1.2 j _ _ (List.getElem?_eq_getElem c) e1) (h2.2 j _ _ (List.getElem?_eq_getElem c) e2)
    rw [e1, e2, q]
  · rw [List.getElem?_eq_none (by omega), List.getElem?_eq_none (by omega)]
theorem turn_zipS {P : Program} {w : World} {K : PySem.W.Frag} {x : Str} {xp : Pos} {L : List Addr} {b : Nat} (hn : L.length ≤ sizeLine) (h0 : L ≠ []) (hlow : ∀ l ∈ L, l < b) :
    Turn P w K (.Name x xp) (ItZs K L) (zfp L b) (b + L.length + 2) (fun i h => ZAt L b i h) where
  mem := zfp_2
  obj := fun i h st => st.obj
  keep := fun i h h' st k => st.keep k
  item := by
    intro X hP hw hK hc i pins s σ H E I hf st hg
    subst hP hw hK
    obtain ⟨rows, hr, hi⟩ := hg
    have each : ∀ j : Nat, ∃ u : Value, ∀ l, L[j]? = some l → (∃ xs, s.heap.IsList l xs ∧ xs[i]? = some u) ∧ (∀ r, rows[j]? = some r → RelV (r.getD i .non) u) := fun j => by
      cases e1 : L[j]? with
      | none => exact ⟨.none, fun l z => by cases z⟩
      | some l =>
        have hj : j < rows.length := by rw [← hr.1]; exact (List.getElem?_eq_some_iff.mp e1).1
        have e2 : rows[j]? = some rows[j] := List.getElem?_eq_getElem hj
        have hq := hr.2 j l _ e1 e2
        obtain ⟨its, rv, p, hz⟩ := I.list hq
        have hij : i < rows[j].length := hi _ (List.getElem_mem hj)
        obtain ⟨u, hu, ru⟩ := rv.get (List.getElem?_eq_getElem hij)
        refine ⟨u, fun l2 z => ?_⟩
        cases z
        refine ⟨⟨_, p.isList, by simpa using hu⟩, fun r z => ?_⟩
        rw [e2] at z
        cases z
        rw [List.getD_eq_getElem?_getD, List.getElem?_eq_getElem hij]
        exact ru
    let col : Nat → Value := fun j => Classical.choose (each j)
    have hcol : ∀ j l, L[j]? = some l → (∃ xs, s.heap.IsList l xs ∧ xs[i]? = some (col j)) ∧ (∀ r, rows[j]? = some r → RelV (r.getD i .non) (col j)) := fun j => Classical.choose_spec (each j)
    refine zipN_ask hn h0 hlow st (fun j l e => (hcol j l e).1) fun h' Z' hT lf => ?_
    refine ⟨_, rfl, wpAny_pure ?_⟩
    have rel : Vals (colAt rows i) ((List.range L.length).map col) := by
      have q := vals_from (f := col) (colAt rows i) 0 fun j x e => by
        unfold colAt at e
        rw [List.getElem?_map] at e
        obtain ⟨r, e1, e2⟩ := Option.map_eq_some_iff.mp e
        subst e2
        have hj : j < L.length := by rw [hr.1]; exact (List.getElem?_eq_some_iff.mp e1).1
        rw [Nat.zero_add]
        exact (hcol j _ (List.getElem?_eq_getElem hj)).2 r e1
      have el : (colAt rows i).length = L.length := by unfold colAt; rw [List.length_map, hr.1]
      rw [el, ← List.range_eq_range'] at q
      exact q
    have new : ObjOk X.prog X.w (upd H s.heap.objs.size (.tup (colAt rows i))) h' s.heap.objs.size (.tup (colAt rows i)) :=
      ⟨by show (colAt rows i).length ≤ sizeLine; unfold colAt; rw [List.length_map, ← hr.1]; exact hn, _, rel, ⟨_, hT, rfl, _, rfl⟩⟩
    have I1 : Inv X pins σ (upd H s.heap.objs.size (.tup (colAt rows i))) { s with heap := h' } := I.turnedNew (t' := s.toks) (ch := zfp L b) (fun c o hb q => lf c o (zfp_part hb) q) hf (Nat.le_refl _) new
    refine ⟨.ref s.heap.objs.size, _, I1, rfl, ⟨_, _, rfl, I.hok.fresh (Nat.le_refl _), rfl, fun rows2 h2 => ?_⟩, Z', fun c hcm => ?_⟩
    · rw [rows_inj I h2 hr]
    · obtain ⟨o, ho, _⟩ := st.obj c hcm
      rw [upd_ne (Nat.ne_of_lt (Heap.lt_size ho))]
      exact (hf c hcm).1
  done := by
    intro X hP hw hK hc i pins s σ H E I hf st hg
    subst hP hw hK
    obtain ⟨rows, r, hr, e0, hend⟩ := hg
    have n0 : 0 < L.length := by rw [hr.1]; exact (List.getElem?_eq_some_iff.mp e0).1
    have e1 : L[0]? = some L[0] := List.getElem?_eq_getElem n0
    obtain ⟨its, rv, p, hz⟩ := I.list (hr.2 0 _ _ e1 e0)
    have hl := rv.length
    exact zipN_stop (I.ok.hd hc) e1 hlow st p.isList (by simp; omega) fun h' lf => ⟨rfl, I.turnedL (t' := s.toks) (ch := zfp L b) (fun c o hb q => lf c o (zfp_part hb) q) hf⟩
  self := fun A i s Q E st h => iter_zs st h
def iZipS (K : PySem.W.Frag) (te : TE) : TI := fun σ H R => te σ H fun v H1 => ∃ (a : Addr) (L : List Addr) (rows : List (List V)), v = .ref a ∧ SqL K H1 a (L.map V.ref) ∧ RowsL K H1 L rows ∧ L ≠ [] ∧ R (ItZs K L) H1
theorem refs_vals : ∀ {L : List Addr} {us : List Value}, Vals (L.map V.ref) us → us = L.map Value.ref
  | [], _, .nil => rfl
  | l :: L, u :: us, .cons r t => by
    rw [refs_vals t, List.map_cons]
    cases r
    rfl
theorem pi_zipS {X : Cx} {e : Expr} {te : TE} {x : Str} {xp p sp pos : Pos} (hg : Gl X "zip") (hm : X.mg "zip" = none) (he : PE X e te)
    (hst : starEach [.Starred e sp] X.env = [(true, eval e X.env)] := by rfl) :
    PI X (.Name x xp) (.Call (.Name "zip" p) [.Starred e sp] [] pos) (iZipS X.K te) := by
  refine ⟨fun pins s σ H R I h => ?_⟩
  refine Call_ (ld_blt I hg hm PyProof.Rows.boot_zip ?_)
  rw [hst]
  refine PySem.W.ks_call (P := fun _ => True) rfl (fun h _ => ⟨.machine, .inr (.inl rfl), PySem.W.Looks.of_pure rfl⟩) (PySem.W.ks_lone (thn (he.run pins s σ H _ I h) fun v s1 ⟨y, H1, I1, ry, a, L, rows, ey, hq, hr, h0, q⟩ => ?_))
  subst ey
  obtain rfl : v = Value.ref a := ry
  refine StX.star_any I1 (.inr hq) fun us s2 I2 rv => ⟨trivial, ?_⟩
  obtain rfl := refs_vals rv
  have hn : L.length ≤ sizeLine := by
    obtain ⟨its, rv2, p2, hz⟩ := I2.list hq
    rw [List.length_map] at hz
    exact hz
  have each : ∀ l ∈ L, ∃ xs, s2.heap.IsList l xs ∧ l < s2.heap.objs.size := fun l hl => by
    obtain ⟨j, hj, rfl⟩ := List.mem_iff_getElem.mp hl
    obtain ⟨its, rv2, p2, hz⟩ := I2.list (hr.2 j _ _ (List.getElem?_eq_getElem hj) (List.getElem?_eq_getElem (by rw [← hr.1]; exact hj)))
    obtain ⟨o, ho, r⟩ := p2.isList
    exact ⟨_, ⟨o, ho, r⟩, Heap.lt_size ho⟩
  show wpAny _ _ (call (.type "zip") (L.map .ref)) _ _ _
  refine call_zipN hn h0 (fun l hl => let ⟨xs, h1, _⟩ := each l hl; ⟨xs, h1⟩) fun h' Z hk => iter_zs (s := { s2 with heap := h' }) Z ?_
  have I3 : Inv X pins σ H1 { s2 with heap := h' } := I2.kept (t' := s2.toks) hk
  refine ⟨s2.heap.objs.size + L.length + 2, zfp L s2.heap.objs.size, _, _, H1, rfl, I3, turn_zipS hn h0 (fun l hl => (each l hl).choose_spec.2), Z, fun c hcm => ?_, q⟩
  obtain ⟨j, hj, rfl⟩ := List.mem_map.mp hcm
  exact I2.fpOk (Nat.le_add_right _ _) (I2.hok.fresh (Nat.le_add_right _ _))
end My

set_option Elab.async false
set_option linter.all false
set_option maxRecDepth 100000
set_option maxHeartbeats 1000000
/-! ### rows, lists or tuples, from the end to the front; the index of a number in a tuple -/
namespace My
open PySem PyProof.Rows HT
open PySem.Sem (wp)
section
variable {prog : Program} {w : World} {A : Around} {E : Value → Shared → Prop} {s : Shared}
theorem adjust_back (n : Nat) : Builtin.Slice.sliceAdjust none none (-1) (n : Int) = ((n : Int) - 1, -1) := by
  unfold Builtin.Slice.sliceAdjust
  simp
theorem places_back (n : Nat) : Builtin.Slice.slicePlaces ((n : Int) - 1) (-1) (-1) = n := by
  unfold Builtin.Slice.slicePlaces
  rw [if_neg (by decide)]
  by_cases h : (n : Int) - 1 > -1
  · rw [if_pos h, show (- -1 : Int) = 1 by decide, Int.ediv_one]
    omega
  · rw [if_neg h]
    omega
theorem fm_congr {α β : Type} {f g : α → Option β} : ∀ {l : List α}, (∀ x ∈ l, f x = g x) → l.filterMap f = l.filterMap g
  | [], _ => rfl
  | x :: l, h => by
    rw [List.filterMap_cons, List.filterMap_cons, h x (by simp), fm_congr fun y hy => h y (List.mem_cons_of_mem _ hy)]
theorem sliceApplied_back {sl : Addr} {vl vu vs : Value} {n : Nat} {Q : Int × Int × Nat → Shared → Prop} (hs : s.heap.IsSliceOf sl vl vu vs) (pl : IsPart vl none) (pu : IsPart vu none) (ps : IsPart vs (some (-1)))
    (h : Q ((n : Int) - 1, -1, n) s) : wpAny (model prog w) A (Builtin.Slice.sliceApplied (.ref sl) (pure (n : Int))) Q E s := by
  obtain ⟨os, hos, hcs, hds⟩ := id hs
  unfold Builtin.Slice.sliceApplied Builtin.Slice.sliceFields
  refine wpAny_bind (wpAny_bind (wpAny_field hos hds (x := vl) rfl (wpAny_bind (wpAny_field hos hds (x := vu) rfl (wpAny_bind (wpAny_field hos hds (x := vs) rfl (wpAny_pure ?_)))))))
  refine wpAny_bind (slicePart_ ps ?_)
  show wpAny _ _ (if ((-1 : Int) == 0) = true then _ else _) _ _ s
  rw [if_neg (by decide)]
  refine wpAny_bind (slicePart_ pl (wpAny_bind (slicePart_ pu (wpAny_bind (wpAny_pure ?_)))))
  show wpAny _ _ (match Builtin.Slice.sliceAdjust none none (-1) (n : Int) with | (lo, hi) => pure (lo, (-1 : Int), Builtin.Slice.slicePlaces lo hi (-1))) _ _ s
  rw [adjust_back n]
  show wpAny _ _ (pure ((n : Int) - 1, (-1 : Int), Builtin.Slice.slicePlaces ((n : Int) - 1) (-1) (-1))) _ _ s
  rw [places_back]
  exact wpAny_pure h
theorem pick_back (xs : Array Value) : ((List.range xs.size).filterMap fun (m : Nat) => xs[(((xs.size : Int) - 1) + (m : Int) * (-1)).toNat]?).toArray = xs.toList.reverse.toArray := by
  have e : (List.range xs.size).filterMap (fun (m : Nat) => xs[(((xs.size : Int) - 1) + (m : Int) * (-1)).toNat]?) = ((List.range xs.size).map fun k => xs.size - 1 - k).filterMap (xs[·]?) := by
    rw [List.filterMap_map]
    refine fm_congr fun m hm => ?_
    have hm := List.mem_range.mp hm
    have : (((xs.size : Int) - 1) + (m : Int) * (-1)).toNat = xs.size - 1 - m := by omega
    simp only [Function.comp, this]
  rw [e, PySem.W.krv_range, List.filterMap_reverse, PySem.W.krv_all]
theorem getItem_tuple_back {t sl : Addr} {items : Array Value} {vl vu vs : Value} {Q : Value → Shared → Prop} (ht : IsTup s.heap t items) (hs : s.heap.IsSliceOf sl vl vu vs) (pl : IsPart vl none) (pu : IsPart vu none) (ps : IsPart vs (some (-1)))
    (h : Q (.ref s.heap.objs.size) { s with heap := s.heap.push { cls := .type "tuple", data := .seq items.toList.reverse.toArray } })
    (hsz : items.size ≤ sizeLine) : wpAny (model prog w) A (getItem (.ref t) (.ref sl)) Q E s := by
  have htake : sizeOk (.seq items.toList.reverse.toArray) := by
    show (items.toList.reverse.toArray).size ≤ sizeLine
    simpa using hsz
  obtain ⟨os, hos, hcs, hds⟩ := id hs
  have hTs : s.TypeIs (.ref sl) "slice" := ⟨os, hos, hcs⟩
  unfold getItem
  try with_reducible refine wpAny_holding ?_
  first | refine wpAny_bind (wpAny_pure ?_) | skip
  refine wpAny_bind (wpAny_sequenceKey ht.typeIs (by decide) ?_)
  refine wpAny_bind (wpAny_callSpecial?_slot (name := Str.ofString "__getitem__") ht.typeIs PyProof.Rows.slot_tuple_getitem
    (wpAny_call_entry PyProof.Rows.slot_tuple_getitem ht.typeIs entry_tuple_getitem ?_ (args_tuple_getitem _ _)))
  show wpAny _ _ (Builtin.Tuple.tupleItemsOf (.ref t) >>= _) _ _ s
  refine wpAny_bind (tupleItemsOf_ ht ?_)
  refine wpAny_bind (wpAny_typeOf hTs ?_)
  rw [if_pos (by decide)]
  refine wpAny_bind (sliceApplied_back hs pl pu ps ?_)
  have hno : ¬ ((((items.size : Int) - 1) == 0 && (-1 : Int) == 1 && items.size == items.size) = true) := by
    simp
  show wpAny _ _ (if (((items.size : Int) - 1) == 0 && (-1 : Int) == 1 && items.size == items.size) = true then _ else _) _ _ s
  rw [if_neg hno, pick_back]
  first
    | exact wpAny_bind (m := Builtin.Tuple.tupleExact _) (wpAny_newObj_type (wpAny_pure ⟨_, rfl, wpAny_pure h⟩) htake)
    | exact wpAny_bind (m := Builtin.Tuple.tupleExact _) (wpAny_newObj_type (wpAny_bind (wpAny_pure (wpAny_pure ⟨_, rfl, wpAny_pure h⟩))) htake)
    | exact wpAny_bind (wpAny_bind (m := Builtin.Tuple.tupleExact _) (wpAny_newObj_type (wpAny_pure (wpAny_pure ⟨_, rfl, wpAny_pure h⟩)) htake))
    | exact wpAny_bind (wpAny_bind (m := Builtin.Tuple.tupleExact _) (wpAny_newObj_type (wpAny_pure ⟨_, rfl, wpAny_pure h⟩) htake))
end
end My
namespace My
open PySem PySem.Spec PyProof.Rows L2
/-- xs[::-1] of a list or a tuple -/
def tRevB (K : PySem.W.Frag) (te : TE) : TE := fun σ H Q => te σ H fun x H1 => ∃ a xs b, x = .ref a ∧ SqB b K H1 a xs ∧ ∀ p H2, Same H1 H2 → H1 p = none → H2 p = some (if b = true then .lst xs.reverse else .tup xs.reverse) → Q (.ref p) H2
theorem pe_revB {X : Cx} {K : PySem.W.Frag} {e : Expr} {te : TE} {k : Nat} {p1 p2 p3 pos : Pos} (hK : X.K = K) (he : PE X e te) : PE X (.Subscript e (.Slice none none (some (.UnaryOp .USub (.Constant (.int 1) k p1) p2)) p3) pos) (tRevB K te) := by
  subst hK
  refine ⟨fun pins s σ H Q I h => ?_⟩
  refine Subscript_ (thn (he.run pins s σ H _ I h) fun v s1 ⟨x, H1, I1, r1, q1⟩ => ?_)
  obtain ⟨a, xs, b, ex, hx, q⟩ := q1
  subst ex
  cases r1
  have hst : PO X (some (.UnaryOp .USub (.Constant (.int 1) k p1) p2)) (tPart (tUn (rU fun i => .int (-i)) (tC (.int 1)))) := po_some (pe_un un_neg pe_int)
  refine wpAny_Slice (thn (po_none.run pins s1 σ H1 (fun o H2 => o = none ∧ H2 = H1) I1 ⟨rfl, rfl⟩) fun vl s2 ⟨l, H2, I2, pl, el, e2⟩ => ?_)
  subst el e2
  refine thn (po_none.run pins s2 σ H2 (fun o H3 => o = none ∧ H3 = H2) I2 ⟨rfl, rfl⟩) fun vu s3 ⟨u, H3, I3, pu, eu, e3⟩ => ?_
  subst eu e3
  refine thn (hst.run pins s3 σ H3 (fun o H4 => o = some (-1) ∧ H4 = H3) I3 ⟨1, rfl, -1, rfl, rfl, rfl⟩) fun vs s4 ⟨o, H4, I4, ps, eo, e4⟩ => ?_
  subst eo e4
  have I5 : Inv X pins σ H4 { s4 with heap := s4.heap.push { cls := .type "slice", data := .fields #[vl, vu, vs] } } := I4.kept (t' := s4.toks) fun b ob q => Heap.get?_push_of_some _ q
  cases b with
  | true =>
    obtain ⟨its, r, ht, hz⟩ := I5.list hx
    have hlen := r.length
    show wpAny (model X.prog X.w) X.A (subscriptTail e (.Slice none none (some (.UnaryOp .USub (.Constant (.int 1) k p1) p2)) p3) (.ref a) (.ref s4.heap.objs.size)) (EP X pins σ Q) X.xe { s4 with heap := s4.heap.push { cls := .type "slice", data := .fields #[vl, vu, vs] } }
    refine tail_any (ops := [.ref a, .ref s4.heap.objs.size]) ht.isList.typeIs (PySem.slot_list_getitem.lookup) ?_ (by with_unfolding_all rfl)
    refine wpAny_getItem_list_slice ht.isList (Heap.IsSliceOf.new _ vl vu vs) pl pu ps (by decide) ?_ (by rw [List.size_toArray]; omega)
    rw [PySem.W.krv_pick]
    refine ⟨.ref _, _, I5.laid (t' := s4.toks) (o := .lst xs.reverse) (fun b ob q => Heap.get?_push_of_some _ q) (Nat.le_refl _) ?_, rfl, q _ _ (same_upd (I5.hok.fresh (Nat.le_refl _))) (I5.hok.fresh (Nat.le_refl _)) upd_same⟩
    exact ⟨by rw [List.length_reverse]; exact hz, _, 0, r.reverse, Heap.get?_push_size _ rfl⟩
  | false =>
    obtain ⟨its, r, ht, hz⟩ := I5.tuple hx
    have hlen := r.length
    show wpAny (model X.prog X.w) X.A (subscriptTail e (.Slice none none (some (.UnaryOp .USub (.Constant (.int 1) k p1) p2)) p3) (.ref a) (.ref s4.heap.objs.size)) (EP X pins σ Q) X.xe { s4 with heap := s4.heap.push { cls := .type "slice", data := .fields #[vl, vu, vs] } }
    refine tail_any (ops := [.ref a, .ref s4.heap.objs.size]) ht.typeIs (PyProof.Rows.slot_tuple_getitem.lookup) ?_ (by with_unfolding_all rfl)
    refine getItem_tuple_back ht (Heap.IsSliceOf.new _ vl vu vs) pl pu ps ?_ (by rw [List.size_toArray]; omega)
    refine ⟨.ref _, _, I5.laid (t' := s4.toks) (o := .tup xs.reverse) (fun b ob q => Heap.get?_push_of_some _ q) (Nat.le_refl _) ?_, rfl, q _ _ (same_upd (I5.hok.fresh (Nat.le_refl _))) (I5.hok.fresh (Nat.le_refl _)) upd_same⟩
    exact ⟨by rw [List.length_reverse]; exact hz, _, r.reverse, IsTup.new _ _⟩
theorem flat_ints (ys : List Int) : (ys.map V.int).all flatV = true := by
  rw [List.all_map]
  exact List.all_eq_true.mpr fun _ _ => rfl
/-- t.index(n), the first place -/
def rTupIx (K : PySem.W.Frag) : V → List V → Hp → VK → Prop := fun x xs H Q => ∃ (p : Addr) (ys : List Int) (z : Int) (j : Nat), x = V.ref p ∧ xs = [.int z] ∧ SqT K H p (ys.map V.int) ∧ ys[j]? = some z ∧ (∀ m, m < j → ys[m]? ≠ some z) ∧ Q (.int (j : Nat)) H
theorem mt_tup_ixI {X : Cx} : MtR X "tuple.index" (rTupIx X.K) := by
  intro pins s σ H x xs v us Q I rx rs h
  obtain ⟨p, ys, z, j, rfl, rfl, hq, hy, hno, q⟩ := h
  cases rx
  obtain ⟨u, rfl, t, rfl⟩ := vals1 rs
  obtain ⟨its, r, pl, hz⟩ := I.tuple hq
  obtain ⟨⟨cls, dd, dt, sl⟩, ho, hc, n, hd⟩ := pl
  simp only at hc hd
  subst hc
  subst hd
  have hl : its.toArray.size = ys.length := by rw [List.size_toArray, ← r.length, List.length_map]
  have hj : j < its.toArray.size := by rw [hl]; exact (List.getElem?_eq_some_iff.mp hy).1
  have at' : ∀ (m : Nat) (hm : m < its.toArray.size), ∃ y t', ys[m]? = some y ∧ its.toArray[m] = Value.int y t' := fun m hm => by
    have hm' : m < ys.length := by rw [← hl]; exact hm
    obtain ⟨w, hw, t', hw'⟩ := r.get (i := m) (x := .int ys[m]) (by simp [hm'])
    refine ⟨ys[m], t', List.getElem?_eq_getElem hm', ?_⟩
    have e := (List.getElem?_eq_some_iff.mp hw).2
    rw [← hw', ← e]
    simp
  refine call_meets PySem.F.slot_tuple_index ⟨_, ho, rfl⟩ PySem.F.entry_tuple_index (PySem.F.args_tuple_index_2 _ _) (TI.tuple_indexAt p its.toArray n dd sl (.int z t) (eqU (.int z)) j hj ?_ ?_)
    ⟨ho, fun w hw => mem_eqAt (x := .int z) ⟨t, rfl⟩ rfl r (flat_ints ys) w (by simpa using hw), ⟨.int (j : Nat), H, I.tok _, ⟨_, rfl⟩, q⟩⟩
  · obtain ⟨y, t', h1, h2⟩ := at' j hj
    rw [hy] at h1
    cases h1
    rw [h2]
    show (z == z) = true
    exact beq_self_eq_true z
  · intro m hm hmj
    obtain ⟨y, t', h1, h2⟩ := at' m hm
    rw [h2]
    show (y == z) = false
    exact beq_eq_false_iff_ne.mpr fun e => hno m hmj (e ▸ h1)
end My

set_option Elab.async false
set_option linter.all false
set_option maxRecDepth 100000
set_option maxHeartbeats 1000000
/-! ### grids of dots: rows of 0, 1, none; turned, mirrored; as they lie on the heap -/
namespace My
open PySem PySem.Spec PyProof.Rows L2
abbrev Grid := List (List (Option Nat))
def vG : Option Nat → V
  | none => .non
  | some n => vN n
def dG : Option Nat → PyData
  | none => .none
  | some n => dI n
def DotOk (o : Option Nat) : Prop := o = none ∨ o = some 0 ∨ o = some 1
structure Sq (n : Nat) (g : Grid) : Prop where
  len : g.length = n
  row : ∀ r ∈ g, r.length = n
  dot : ∀ r ∈ g, ∀ o ∈ r, DotOk o
def SideOk (n : Nat) : Prop := n = 8 ∨ n = 12 ∨ n = 16 ∨ n = 20 ∨ n = 24
def cell (g : Grid) (i j : Nat) : Option Nat := (g.getD i []).getD j none
def rot (g : Grid) : Grid := (List.range g.length).map fun i => g.reverse.map fun r => r.getD i none
def rotK : Nat → Grid → Grid
  | 0, g => g
  | k + 1, g => rot (rotK k g)
def mir (g : Grid) : Grid := g.map List.reverse
theorem getD_in {α : Type} {l : List α} {i : Nat} {d : α} (h : i < l.length) : l.getD i d = l[i] := by
  rw [List.getD_eq_getElem?_getD, List.getElem?_eq_getElem h]
  rfl
theorem getD_mem {α : Type} {l : List α} {i : Nat} {d : α} (h : i < l.length) : l.getD i d ∈ l := by
  rw [getD_in h]
  exact List.getElem_mem h
theorem dot_getD {r : List (Option Nat)} {i : Nat} (h : ∀ o ∈ r, DotOk o) : DotOk (r.getD i none) := by
  by_cases c : i < r.length
  · exact h _ (getD_mem c)
  · rw [List.getD_eq_getElem?_getD, List.getElem?_eq_none (by omega)]
    exact .inl rfl
theorem rot_sq {n : Nat} {g : Grid} (h : Sq n g) : Sq n (rot g) where
  len := by unfold rot; rw [List.length_map, List.length_range, h.len]
  row r hr := by
    obtain ⟨i, _, rfl⟩ := List.mem_map.mp hr
    rw [List.length_map, List.length_reverse, h.len]
  dot r hr o ho := by
    obtain ⟨i, _, rfl⟩ := List.mem_map.mp hr
    obtain ⟨q, hq, rfl⟩ := List.mem_map.mp ho
    exact dot_getD (h.dot q (List.mem_reverse.mp hq))
theorem mir_sq {n : Nat} {g : Grid} (h : Sq n g) : Sq n (mir g) where
  len := by unfold mir; rw [List.length_map, h.len]
  row r hr := by
    obtain ⟨q, hq, rfl⟩ := List.mem_map.mp hr
    rw [List.length_reverse, h.row q hq]
  dot r hr o ho := by
    obtain ⟨q, hq, rfl⟩ := List.mem_map.mp hr
    exact h.dot q hq o (List.mem_reverse.mp ho)
theorem rotK_sq {n : Nat} {g : Grid} (h : Sq n g) : ∀ k, Sq n (rotK k g)
  | 0 => h
  | k + 1 => rot_sq (rotK_sq h k)
theorem mir_mir (g : Grid) : mir (mir g) = g := by
  unfold mir
  rw [List.map_map]
  have e : (List.reverse ∘ List.reverse : List (Option Nat) → List (Option Nat)) = id := funext fun l => List.reverse_reverse l
  rw [e, List.map_id]
theorem grid_ext {n : Nat} {g h : Grid} (a : Sq n g) (b : Sq n h) (e : ∀ i j, i < n → j < n → cell g i j = cell h i j) : g = h := by
  have l1 := a.len
  have l2 := b.len
  refine List.ext_getElem (by rw [l1, l2]) fun i h1 h2 => ?_
  have r1 := a.row _ (List.getElem_mem h1)
  have r2 := b.row _ (List.getElem_mem h2)
  refine List.ext_getElem (by rw [r1, r2]) fun j h3 h4 => ?_
  have q := e i j (by omega) (by omega)
  unfold cell at q
  rw [getD_in h1, getD_in h2, getD_in h3, getD_in h4] at q
  exact q
theorem cell_rot {n : Nat} {g : Grid} (h : Sq n g) {i j : Nat} (hi : i < n) (hj : j < n) : cell (rot g) i j = cell g (n - 1 - j) i := by
  have l := h.len
  have lr : (rot g).length = n := (rot_sq h).len
  unfold cell
  rw [getD_in (l := rot g) (by omega)]
  have e : (rot g)[i]'(by omega) = g.reverse.map fun r => r.getD i none := by
    unfold rot
    rw [List.getElem_map, List.getElem_range]
  rw [e, getD_in (l := g.reverse.map _) (by rw [List.length_map, List.length_reverse]; omega), List.getElem_map, List.getElem_reverse, getD_in (l := g) (by omega)]
  simp only [l]
theorem rotK_add (a b : Nat) (g : Grid) : rotK (a + b) g = rotK a (rotK b g) := by
  induction a with
  | zero => rw [Nat.zero_add]; rfl
  | succ a ih =>
    rw [show a + 1 + b = (a + b) + 1 by omega]
    show rot (rotK (a + b) g) = rot (rotK a (rotK b g))
    rw [ih]
theorem rot4 {n : Nat} {g : Grid} (h : Sq n g) : rotK 4 g = g := by
  refine grid_ext (rotK_sq h 4) h fun i j hi hj => ?_
  show cell (rot (rotK 3 g)) i j = _
  rw [cell_rot (rotK_sq h 3) hi hj]
  show cell (rot (rotK 2 g)) (n - 1 - j) i = _
  rw [cell_rot (rotK_sq h 2) (by omega) hi]
  show cell (rot (rotK 1 g)) (n - 1 - i) (n - 1 - j) = _
  rw [cell_rot (rotK_sq h 1) (by omega) (by omega)]
  show cell (rot g) (n - 1 - (n - 1 - j)) (n - 1 - i) = _
  rw [cell_rot h (by omega) (by omega)]
  congr 1 <;> omega
def posedG (g : Grid) (t : Nat) (f : Bool) : Grid := rotK t (if f then mir g else g)
def unposedG (g : Grid) (t : Nat) (f : Bool) : Grid := if f then mir (rotK ((4 - t) % 4) g) else rotK ((4 - t) % 4) g
theorem rot_back {n t : Nat} {g : Grid} (h : Sq n g) (ht : t < 4) : rotK ((4 - t) % 4) (rotK t g) = g ∧ rotK t (rotK ((4 - t) % 4) g) = g := by
  rw [← rotK_add, ← rotK_add]
  by_cases c : t = 0
  · subst c
    exact ⟨rfl, rfl⟩
  · have e1 : (4 - t) % 4 + t = 4 := by omega
    have e2 : t + (4 - t) % 4 = 4 := by omega
    rw [e1, e2]
    exact ⟨rot4 h, rot4 h⟩
theorem unposed_posed {n t : Nat} {f : Bool} {g : Grid} (h : Sq n g) (ht : t < 4) : unposedG (posedG g t f) t f = g := by
  unfold unposedG posedG
  cases f
  · exact (rot_back h ht).1
  · simp only [if_true]
    rw [(rot_back (mir_sq h) ht).1, mir_mir]
theorem posed_unposed {n t : Nat} {f : Bool} {g : Grid} (h : Sq n g) (ht : t < 4) : posedG (unposedG g t f) t f = g := by
  unfold unposedG posedG
  cases f
  · exact (rot_back h ht).2
  · simp only [if_true]
    rw [mir_mir, (rot_back h ht).2]
theorem posed_sq {n t : Nat} {f : Bool} {g : Grid} (h : Sq n g) : Sq n (posedG g t f) := by
  unfold posedG
  cases f
  · exact rotK_sq h t
  · exact rotK_sq (mir_sq h) t
theorem unposed_sq {n t : Nat} {f : Bool} {g : Grid} (h : Sq n g) : Sq n (unposedG g t f) := by
  unfold unposedG
  cases f
  · exact rotK_sq h _
  · exact mir_sq (rotK_sq h _)
/-! ### on the heap -/
structure GrB (k : Bool) (K : PySem.W.Frag) (H : Hp) (a : Addr) (g : Grid) : Prop where
  ex : ∃ L : List Addr, SqB k K H a (L.map V.ref) ∧ L.length = g.length ∧ ∀ (j : Nat) (l : Addr) (r : List (Option Nat)), L[j]? = some l → g[j]? = some r → SqB k K H l (r.map vG)
theorem GrB.same {k : Bool} {K : PySem.W.Frag} {H H' : Hp} {a : Addr} {g : Grid} (h : GrB k K H a g) (s : Same H H') : GrB k K H' a g := by
  obtain ⟨L, h1, h2, h3⟩ := h.ex
  exact ⟨L, Same.sqb s h1, h2, fun j l r e1 e2 => Same.sqb s (h3 j l r e1 e2)⟩
structure FrI (H H' : Hp) (D : Addr) (L : List Addr) (g : Grid) (i : Nat) : Prop where
  same : Same H H'
  out : H' D = some (.lst (L.map V.ref))
  len : L.length = i
  row : ∀ (j : Nat) (l : Addr) (r : List (Option Nat)), L[j]? = some l → g[j]? = some r → H l = none ∧ l ≠ D ∧ H' l = some (.lst (r.map vG))
theorem FrI.start {H : Hp} {D : Addr} {g : Grid} (h : H D = none) : FrI H (upd H D (.lst [])) D [] g 0 := ⟨same_upd h, upd_same, rfl, fun j l r e => by cases e⟩
theorem FrI.step {H H' H2 : Hp} {D c : Addr} {L : List Addr} {g : Grid} {i : Nat} {r : List (Option Nat)} (F : FrI H H' D L g i) (hD : H D = none) (hr : g[i]? = some r) (s : Same H' H2) (hc : H' c = none) (e : H2 c = some (.lst (r.map vG))) :
    FrI H (upd H2 D (.lst (L.map V.ref ++ [V.ref c]))) D (L ++ [c]) g (i + 1) := by
  obtain ⟨s0, out, len, row⟩ := F
  have ncD : c ≠ D := fun z => by rw [z, out] at hc; cases hc
  refine ⟨fun b o hb => ?_, ?_, by rw [List.length_append, len]; rfl, fun j l q e1 e2 => ?_⟩
  · rw [upd_ne (ne_of_none hb hD)]
    exact s _ _ (s0 _ _ hb)
  · rw [upd_same, List.map_append]
    rfl
  · by_cases cj : j < i
    · rw [List.getElem?_append_left (by rw [len]; exact cj)] at e1
      obtain ⟨q1, q2, q3⟩ := row j l q e1 e2
      exact ⟨q1, q2, by rw [upd_ne q2]; exact s _ _ q3⟩
    · have hl := (List.getElem?_eq_some_iff.mp e1).1
      rw [List.length_append, len] at hl
      have ej : j = i := by simp at hl; omega
      subst ej
      rw [List.getElem?_append_right (by rw [len]; exact Nat.le_refl _), len, Nat.sub_self] at e1
      cases e1
      rw [hr] at e2
      cases e2
      exact ⟨Same.free s0 hc, ncD, by rw [upd_ne ncD]; exact e⟩
/-- a new grid of new rows -/
def Fr (H H' : Hp) (D : Addr) (g : Grid) : Prop := H D = none ∧ ∃ L, FrI H H' D L g g.length
theorem Fr.same0 {H H' : Hp} {D : Addr} {g : Grid} (h : Fr H H' D g) : Same H H' := let ⟨_, _, F⟩ := h; F.same
theorem Fr.ext {H H' H2 : Hp} {D : Addr} {g : Grid} (h : Fr H H' D g) (s : Same H' H2) : Fr H H2 D g := by
  obtain ⟨hD, L, F⟩ := h
  exact ⟨hD, L, F.same.trans s, s _ _ F.out, F.len, fun j l r e1 e2 => let ⟨q1, q2, q3⟩ := F.row j l r e1 e2; ⟨q1, q2, s _ _ q3⟩⟩
theorem Fr.back {H0 H H' : Hp} {D : Addr} {g : Grid} (h : Fr H H' D g) (s : Same H0 H) : Fr H0 H' D g := by
  obtain ⟨hD, L, F⟩ := h
  exact ⟨Same.free s hD, L, s.trans F.same, F.out, F.len, fun j l r e1 e2 => let ⟨q1, q2, q3⟩ := F.row j l r e1 e2; ⟨Same.free s q1, q2, q3⟩⟩
theorem Fr.gr {K : PySem.W.Frag} {H H' : Hp} {D : Addr} {g : Grid} (h : Fr H H' D g) : GrB true K H' D g := by
  obtain ⟨_, L, F⟩ := h
  exact ⟨L, .lst F.out, F.len, fun j l r e1 e2 => .lst (F.row j l r e1 e2).2.2⟩
/-! ### compared -/
def dRow (r : List (Option Nat)) : PyData := .list (r.map dG)
def dGr (g : Grid) : PyData := .list (g.map dRow)
theorem dG_lay : ∀ row : List (Option Nat), PyData.canLayAll0 (row.map dG) = true
  | [] => rfl
  | o :: r => by
    show (PyData.canLay0 (dG o) && PyData.canLayAll0 (r.map dG)) = true
    rw [dG_lay r]
    cases o <;> rfl
theorem dG_depth : ∀ row : List (Option Nat), PyData.depthAll (row.map dG) = 0
  | [] => rfl
  | o :: r => by
    show max (PyData.depth (dG o)) (PyData.depthAll (r.map dG)) = 0
    rw [dG_depth r]
    cases o <;> rfl
theorem dRow_lay : ∀ g : Grid, PyData.canLayAll0 (g.map dRow) = true
  | [] => rfl
  | r :: g => by
    show (PyData.canLay0 (dRow r) && PyData.canLayAll0 (g.map dRow)) = true
    rw [dRow_lay g, Bool.and_true]
    exact dG_lay r
theorem dRow_depth : ∀ g : Grid, PyData.depthAll (g.map dRow) ≤ 1
  | [] => Nat.zero_le _
  | r :: g => by
    show max (PyData.depthAll (r.map dG) + 1) (PyData.depthAll (g.map dRow)) ≤ 1
    have := dRow_depth g
    rw [dG_depth r]
    omega
theorem dGr_shaped (g : Grid) : SeqAt.shaped (dGr g) = true := by
  unfold SeqAt.shaped
  have h1 : (dGr g).canLay0 = true := dRow_lay g
  have h2 : (dGr g).depth ≤ 64 := by
    show PyData.depthAll (g.map dRow) + 1 ≤ 64
    have := dRow_depth g
    omega
  rw [h1, Bool.true_and]
  exact decide_eq_true h2
theorem dGr_eq (g : Grid) : PyData.eqv (dGr g) (dGr g) = true := SeqAt.eqv_refl _ (dRow_lay g)
theorem dG_all {K : PySem.W.Frag} {H : Hp} : ∀ row : List (Option Nat), DpAll K H (row.map vG) (row.map dG)
  | [] => .nil
  | none :: r => .cons .non (dG_all r)
  | some n :: r => .cons (.int _) (dG_all r)
theorem rows_dp {K : PySem.W.Frag} {H : Hp} : ∀ (L : List Addr) (g : Grid), L.length = g.length → (∀ (j : Nat) (l : Addr) (r : List (Option Nat)), L[j]? = some l → g[j]? = some r → SqL K H l (r.map vG)) → DpAll K H (L.map V.ref) (g.map dRow)
  | [], [], _, _ => .nil
  | [], _ :: _, h, _ => by cases h
  | _ :: _, [], h, _ => by cases h
  | l :: L, r :: g, h, f => .cons (.lst (f 0 l r rfl rfl) (dG_all r)) (rows_dp L g (Nat.succ.inj h) fun j l' r' e1 e2 => f (j + 1) l' r' e1 e2)
theorem GrB.dp {K : PySem.W.Frag} {H : Hp} {a : Addr} {g : Grid} (h : GrB true K H a g) : Dp K H (.ref a) (dGr g) := by
  obtain ⟨L, h1, h2, h3⟩ := h.ex
  exact .lst h1 (rows_dp L g h2 h3)
end My

set_option Elab.async false
set_option linter.all false
set_option maxRecDepth 100000
set_option maxHeartbeats 4000000
/-! ### rows of plain words; values of polynomials by exponents -/
namespace My
open PySem PySem.Spec PyProof.Rows L2
theorem pt_truthK {X : Cx} {K : PySem.W.Frag} {a : Expr} {ta : TE} (h : X.K = K) (ha : PE X a ta) (he : ∀ whole, isTrue a X.env whole = (do let v ← whole; standAt a.pos; holding [v] (truthy v))) :
    PT X a (fun σ H Q => ta σ H fun x H' => ∃ k, TruV K x H' k ∧ Q k H') := by
  subst h
  exact pt_truth ha he
theorem SqB.truB {b : Bool} {K : PySem.W.Frag} {H : Hp} {a : Addr} {xs : List V} (h : SqB b K H a xs) : TruV K (.ref a) H (!xs.isEmpty) := by
  cases b
  · exact .inr (.inl ⟨xs, h, rfl⟩)
  · exact .inl ⟨xs, h, rfl⟩
theorem word_shr {b x : Nat} (hb : Wd b) (hx : x < span b) : ((x : Int) / 2 ^ ((b : Int)).toNat != 0) = false := by
  have e : ((x : Int) / 2 ^ ((b : Int)).toNat) = ((x / 2 ^ b : Nat) : Int) := by
    rw [Int.toNat_natCast]
    norm_cast
  rw [e, Nat.div_eq_of_lt (by rw [← span_pow hb]; exact hx)]
  rfl
theorem evl_at0 {b : Nat} (ws : List Nat) : evl b 0 ws = ws.getLastD 0 := by
  rcases List.eq_nil_or_concat ws with rfl | ⟨r, w, rfl⟩
  · rfl
  · rw [List.concat_eq_append, evl_snoc, mul_zero, Nat.zero_xor]
    simp
end My

set_option Elab.async false
set_option linter.all false
set_option maxRecDepth 100000
set_option maxHeartbeats 1000000
/-! ### rules that name K, for comprehensions; type() of a dot; a second for of a comprehension -/
namespace My
open PySem PySem.Spec PyProof.Rows L2
theorem call_len_seqG {X : Cx} {K : PySem.W.Frag} (h : X.K = K) : CallR X (.builtin "len") (fun xs H Q => ∃ p ys, xs = [V.ref p] ∧ (SqL K H p ys ∨ SqT K H p ys) ∧ Q (.int (ys.length : Nat)) H) := by
  subst h
  exact call_len_seq
/-- two values the other way round -/
def rev2 {α : Type} : List α → List α
  | [a, b] => [b, a]
  | l => l
theorem rev2_rel {zs : List V} {ws : List Value} (r : Vals zs ws) : Vals (rev2 zs) (rev2 ws) := by
  cases r with
  | nil => exact .nil
  | cons r1 r =>
    cases r with
    | nil => exact .cons r1 .nil
    | cons r2 r =>
      cases r with
      | nil => exact .cons r2 (.cons r1 .nil)
      | cons r3 r => exact .cons r1 (.cons r2 (.cons r3 r))
theorem pe_tupleOfK {X : Cx} {K : PySem.W.Frag} {a : Expr} {ta : TE} {p pos : Pos} (hK : X.K = K) (hg : Gl X "tuple") (hm : X.mg "tuple" = none) (ha : PE X a ta) (na : starEach [a] X.env = (false, eval a X.env) :: starEach [] X.env := by rfl) :
    PE X (.Call (.Name "tuple" p) [a] [] pos) (tThen ta (kTup K)) := by
  subst hK
  exact pe_tupleOf hg hm ha na
theorem call_listOfK {X : Cx} {K : PySem.W.Frag} (h : X.K = K) : CallR X (.type "list") (fun xs H Q => ∃ p ys, xs = [.ref p] ∧ (SqL K H p ys ∨ SqT K H p ys) ∧ ∀ l, H l = none → Q (.ref l) (upd H l (.lst ys))) := by
  subst h
  exact call_list_of
theorem call_isiTK {X : Cx} {K : PySem.W.Frag} (h : X.K = K) : CallR X (.builtin "isinstance") (rIsiT K) := by
  subst h
  exact call_isiT
theorem pi_seqK {X : Cx} {K : PySem.W.Frag} {tg : Expr} {l : Expr} {tl : TE} (h : X.K = K) (hl : PE X l tl) : PI X tg l (iSeq K tl) := by
  subst h
  exact pi_seq hl
theorem pt_never {X : Cx} {e : Expr} : PT X e (fun _ _ _ => False) := ⟨fun _ _ _ _ _ _ h => h.elim⟩
def sidesI : List Int := [8, 12, 16, 20, 24]
theorem side_at {n : Nat} (h : SideOk n) : ∃ i : Nat, i < 5 ∧ sidesI[i]? = some (n : Int) ∧ ∀ m, m < i → sidesI[m]? ≠ some (n : Int) := by
  rcases h with rfl | rfl | rfl | rfl | rfl
  · exact ⟨0, by decide, rfl, by decide⟩
  · exact ⟨1, by decide, rfl, by decide⟩
  · exact ⟨2, by decide, rfl, by decide⟩
  · exact ⟨3, by decide, rfl, by decide⟩
  · exact ⟨4, by decide, rfl, by decide⟩
theorem side_in {n : Nat} (h : SideOk n) : inV (vN n) (sidesI.map V.int) = true := by
  rcases h with rfl | rfl | rfl | rfl | rfl <;> decide
theorem side_le {n : Nat} (h : SideOk n) : 8 ≤ n ∧ n ≤ 24 := by
  rcases h with rfl | rfl | rfl | rfl | rfl <;> decide
def tyG : Option Nat → String
  | none => "NoneType"
  | some _ => "int"
def rTyG : List V → Hp → VK → Prop := fun xs H Q => ∃ o : Option Nat, xs = [vG o] ∧ Q (.ty (tyG o)) H
theorem call_typeG {X : Cx} : CallR X (.type "type") rTyG := by
  intro pins s σ H xs us Q I r h
  obtain ⟨o, rfl, q⟩ := h
  obtain ⟨u, rfl, rx⟩ := vals1 r
  cases o with
  | none =>
    cases (show u = Value.none from rx)
    exact call_type_of (Tx := "NoneType") rfl (by decide +kernel) ⟨.ty "NoneType", H, I, rfl, q⟩
  | some n =>
    obtain ⟨t, rfl⟩ := (show ∃ t, u = Value.int n t from rx)
    exact call_type_of (Tx := "int") rfl (by decide +kernel) ⟨.ty "int", H, I, rfl, q⟩
section
variable {J : It} {n : Nat} {G : Hp → Prop} {Y : Nat → Hp → V → Hp → Prop}
/-- the turns of a first for that holds a second one -/
theorem lc2_it (w : Walk J n G Y) {g g1 : TG} {tt tt1 : TT} {wi1 : TI} {te : TE} {vs vs1 : List Nat} {σ : L2.St} {H1 : Hp} {D : Addr} {Qd : Hp → Prop} (Pv : Nat → Hp → Prop) (h0 : Pv 0 (upd H1 D (.lst []))) (hG : ∀ i H, i ≤ n → Pv i H → G H)
    (hs : ∀ i x H H', i < n → Pv i H → Y i H x H' → g x (wipe σ vs) H' fun σ2 H2 => wipe σ2 vs = wipe σ vs ∧ tt σ2 H2 fun b H3 =>
      if b = true then wi1 σ2 H3 fun J1 H4 => ∃ W1 : Nat → Nat → Hp → Prop, (∃ m, W1 0 m H4) ∧ ∀ j k H, W1 j k H →
        (J1.stop j H ∧ Pv (i + 1) H) ∨ (J1.go j H ∧ ∃ Nx1 : Hp → Prop, (∀ H', Nx1 H' → ∃ k', k' < k ∧ W1 (j + 1) k' H') ∧ ∀ x H', J1.yld j H x H' → g1 x (wipe σ2 vs1) H' fun σ3 H5 => wipe σ3 vs1 = wipe σ2 vs1 ∧ tt1 σ3 H5 fun b H6 =>
          if b = true then te σ3 H6 fun y H7 => ∃ acc, H7 D = some (.lst acc) ∧ acc.length < sizeLine ∧ Nx1 (upd H7 D (.lst (acc ++ [y]))) else Nx1 H6)
      else Pv (i + 1) H3) (hd : ∀ H, Pv n H → Qd H) :
    ∃ W : Nat → Nat → Hp → Prop, (∃ m, W 0 m (upd H1 D (.lst []))) ∧ ∀ i m H, W i m H →
      (J.stop i H ∧ Qd H) ∨ (J.go i H ∧ ∃ Nx : Hp → Prop, (∀ H', Nx H' → ∃ m', m' < m ∧ W (i + 1) m' H') ∧ ∀ x H', J.yld i H x H' → g x (wipe σ vs) H' fun σ2 H2 => wipe σ2 vs = wipe σ vs ∧ tt σ2 H2 fun b H3 =>
        if b = true then wi1 σ2 H3 fun J1 H4 => ∃ W1 : Nat → Nat → Hp → Prop, (∃ m, W1 0 m H4) ∧ ∀ j k H, W1 j k H →
          (J1.stop j H ∧ Nx H) ∨ (J1.go j H ∧ ∃ Nx1 : Hp → Prop, (∀ H', Nx1 H' → ∃ k', k' < k ∧ W1 (j + 1) k' H') ∧ ∀ x H', J1.yld j H x H' → g1 x (wipe σ2 vs1) H' fun σ3 H5 => wipe σ3 vs1 = wipe σ2 vs1 ∧ tt1 σ3 H5 fun b H6 =>
            if b = true then te σ3 H6 fun y H7 => ∃ acc, H7 D = some (.lst acc) ∧ acc.length < sizeLine ∧ Nx1 (upd H7 D (.lst (acc ++ [y]))) else Nx1 H6)
        else Nx H3) := by
  refine ⟨fun i m H => m = n - i ∧ i ≤ n ∧ Pv i H, ⟨n, by simp, Nat.zero_le _, h0⟩, ?_⟩
  rintro i m H ⟨rfl, hi, p⟩
  have q := hG i H hi p
  by_cases hlt : i < n
  · exact .inr ⟨w.goes i H hlt q, Pv (i + 1), fun H' p' => ⟨n - (i + 1), by omega, rfl, hlt, p'⟩, fun x H' y => hs i x H H' hlt p (w.yields i H x H' hlt q y)⟩
  · have e : i = n := by omega
    subst e
    exact .inl ⟨w.stops H q, hd H p⟩
/-- the turns of a second for -/
theorem lc_in (w : Walk J n G Y) {g : TG} {tt : TT} {te : TE} {vs : List Nat} {σ : L2.St} {H1 : Hp} {D : Addr} {Qd : Hp → Prop} (Pv : Nat → Hp → Prop) (h0 : Pv 0 H1) (hG : ∀ i H, i ≤ n → Pv i H → G H)
    (hs : ∀ i x H H', i < n → Pv i H → Y i H x H' → g x (wipe σ vs) H' fun σ2 H2 => wipe σ2 vs = wipe σ vs ∧ tt σ2 H2 fun b H3 =>
      if b = true then te σ2 H3 fun y H4 => ∃ acc, H4 D = some (.lst acc) ∧ acc.length < sizeLine ∧ Pv (i + 1) (upd H4 D (.lst (acc ++ [y]))) else Pv (i + 1) H3) (hd : ∀ H, Pv n H → Qd H) :
    ∃ W : Nat → Nat → Hp → Prop, (∃ m, W 0 m H1) ∧ ∀ i m H, W i m H →
      (J.stop i H ∧ Qd H) ∨ (J.go i H ∧ ∃ Nx : Hp → Prop, (∀ H', Nx H' → ∃ m', m' < m ∧ W (i + 1) m' H') ∧ ∀ x H', J.yld i H x H' → g x (wipe σ vs) H' fun σ2 H2 => wipe σ2 vs = wipe σ vs ∧ tt σ2 H2 fun b H3 =>
        if b = true then te σ2 H3 fun y H4 => ∃ acc, H4 D = some (.lst acc) ∧ acc.length < sizeLine ∧ Nx (upd H4 D (.lst (acc ++ [y]))) else Nx H3) := by
  refine ⟨fun i m H => m = n - i ∧ i ≤ n ∧ Pv i H, ⟨n, by simp, Nat.zero_le _, h0⟩, ?_⟩
  rintro i m H ⟨rfl, hi, p⟩
  have q := hG i H hi p
  by_cases hlt : i < n
  · exact .inr ⟨w.goes i H hlt q, Pv (i + 1), fun H' p' => ⟨n - (i + 1), by omega, rfl, hlt, p'⟩, fun x H' y => hs i x H H' hlt p (w.yields i H x H' hlt q y)⟩
  · have e : i = n := by omega
    subst e
    exact .inl ⟨w.stops H q, hd H p⟩
end
end My

set_option Elab.async false
set_option linter.all false
set_option maxRecDepth 100000
set_option maxHeartbeats 1000000
/-! ### a module's tuples of tuples; min of a tuple; list(range(a, b, c)); sum of lists -/
namespace My
open PySem PySem.Spec PyProof.Rows L2
def KTupR (K : PySem.W.Frag) (a : Addr) (cs : List Addr) : Prop := ∃ (n : Nat) (sl : Array (Option Value)), K.lookup a = some ⟨.type "tuple", none, .seq (cs.map Value.ref).toArray n, sl⟩
theorem refs_of : ∀ cs : List Addr, Vals (cs.map V.ref) (cs.map Value.ref)
  | [] => .nil
  | c :: cs => .cons rfl (refs_of cs)
theorem KTupR.sq {K : PySem.W.Frag} {a : Addr} {cs : List Addr} {H : Hp} (h : KTupR K a cs) (hz : cs.length ≤ 1000 := by decide) : SqT K H a (cs.map V.ref) := by
  obtain ⟨n, sl, e⟩ := h
  exact .inr ⟨_, (cs.map Value.ref).toArray, n, e, rfl, rfl, by rw [List.size_toArray, List.length_map]; exact Nat.le_trans hz (by decide), by simpa using refs_of cs⟩
section
variable {prog : Program} {w : World} {A : Around} {E : Value → Shared → Prop} {s : Shared} {l : Addr} {xs : Array (Int × Tok)}
theorem min_intTuple {Q : Value → Shared → Prop} (hh : A.handled = none) (hl : s.heap.IsTuple l (intItems xs)) (hne : 0 < xs.size)
    (h : ∀ v h' tk, (intItems xs)[argBest (fun i j => decide (numAt xs i < numAt xs j)) (xs.size - 1)]? = some v → (∀ b o, s.heap.get? b = some o → h'.get? b = some o) → Q v { s with heap := h', toks := tk }) :
    wpAny (model prog w) A (call (.builtin "min") [.ref l]) Q E s := by
  have hlt : l < s.heap.objs.size := by obtain ⟨o, e, _⟩ := hl; exact Heap.lt_size e
  refine call_min_walk (wpAny_pyIter_tuple hl ?_)
  refine ⟨_, [_, l], [_], _, _, _, _, rfl, Walks.tuple (A := A.in1) hh _ l (Nat.ne_of_lt hlt) (intItems xs),
    ⟨⟨_, Heap.get?_push_size _ rfl, rfl, rfl⟩, hl.push _⟩, fun c hc => ?_, by simpa [intItems] using hne, CmpOf.ints_lt (numAt xs) (fun _ _ => intItems_at), fun v h' tk hP hk => ?_⟩
  · show c < (s.heap.push _).objs.size
    rw [Heap.size_push]
    rcases List.mem_cons.mp hc with rfl | hc
    · exact Nat.lt_succ_self _
    · rw [List.mem_singleton.mp hc]
      exact Nat.lt_succ_of_lt hlt
  · refine h v h' tk (by simpa [intItems] using hP) fun b o e => hk b o ?_ (Heap.get?_push_of_some _ e)
    intro hb
    rw [List.mem_singleton.mp hb] at e
    exact absurd (Heap.lt_size e) (Nat.lt_irrefl _)
end
end My
namespace My
open PySem PySem.Spec PyProof.Rows L2
section
variable {X : Cx}
/-- min(t) of a tuple of ints -/
def rMinT (K : PySem.W.Frag) : List V → Hp → VK → Prop := fun vs H Q => ∃ (a : Addr) (ns : List Int), vs = [V.ref a] ∧ SqT K H a (ns.map V.int) ∧ 0 < ns.length ∧ ∀ m, m ∈ ns → (∀ y, y ∈ ns → m ≤ y) → Q (.int m) H
theorem cr_minT (hc : X.calm = true) : CallR X (.builtin "min") (rMinT X.K) := by
  intro pins s σ H vs us Q I r h
  obtain ⟨a, ns, rfl, hs, hne, q⟩ := h
  obtain ⟨its, rv, hl, _⟩ := I.tuple hs
  rw [Vals.ref1 r]
  have hi := rv.ints
  obtain ⟨xs, e⟩ := hi.allInts.items
  have hn : numsOf (intItems xs).toList = ns := by rw [← e]; exact hi.numsOf
  rw [nums_intItems] at hn
  subst hn
  have hl' : s.heap.IsTuple a (intItems xs) := by rw [← e]; exact hl
  have hsz : 0 < xs.size := by simpa using hne
  refine min_intTuple (I.ok.hd hc) hl' hsz fun v h' tk hv hk => ?_
  obtain ⟨t, rfl⟩ := intItems_at hv
  obtain ⟨h1, h2⟩ := argBest_lt (numAt xs) (xs.size - 1)
  refine ⟨.int _, H, I.kept hk, ⟨_, rfl⟩, q _ ?_ fun b hb => ?_⟩
  · rw [numAt_eq]; exact PySem.getD_mem (by rw [List.length_map, Array.length_toList]; omega)
  · obtain ⟨j, hj, rfl⟩ := mem_getD hb
    rw [List.length_map, Array.length_toList] at hj
    rw [← numAt_eq]; exact h2 j (by omega)
/-- a range object with a step -/
def RngO (r : Addr) (i j c : Int) : HO := .ext fun h => ∃ t u v, h.get? r = some { cls := .type "range", dict := none, data := .fields #[.int i t, .int j u, .int c v], slots := #[] }
def rRange3 : List V → Hp → VK → Prop := fun vs H Q => ∃ (i j c : Int) (n : Nat), vs = [.int i, .int j, .int c] ∧ RgC i j c n ∧ ∀ p, H p = none → Q (.ref p) (upd H p (RngO p i j c))
theorem cr_range3 : CallR X (.type "range") rRange3 := by
  intro pins s σ H vs us Q I r h
  obtain ⟨i, j, k, n, rfl, ⟨c0, c1, c2, c3⟩, q⟩ := h
  cases r with
  | cons r rr =>
    cases rr with
    | cons r' rr =>
      cases rr with
      | cons r'' rr =>
        cases rr
        obtain ⟨t, rfl⟩ := r
        obtain ⟨t', rfl⟩ := r'
        obtain ⟨t'', rfl⟩ := r''
        refine call_range_3 c0 ?_ (.inl (PyProof.noPylong_small c1))
        refine ⟨.ref s.heap.objs.size, _, I.laid (t' := s.toks) (o := RngO s.heap.objs.size i j k) (fun b o e => Heap.get?_push_of_some _ e) (Nat.le_refl _) ?_, rfl, q _ (I.hok.fresh (Nat.le_refl _))⟩
        refine ⟨⟨t, t', t'', Heap.get?_push_size _ rfl⟩, ⟨_, Heap.get?_push_size _ rfl⟩, fun h1 h2 ⟨a, b, c, e⟩ k => ⟨a, b, c, k _ e⟩⟩
def rngL (i c : Int) (n : Nat) : List Int := (List.range n).map fun (k : Nat) => i + (k : Int) * c
def rListR : List V → Hp → VK → Prop := fun vs H Q => ∃ (p : Addr) (i j c : Int) (n : Nat), vs = [.ref p] ∧ H p = some (RngO p i j c) ∧ RgC i j c n ∧ n ≤ 1000 ∧ ∀ l, H l = none → Q (.ref l) (upd H l (.lst ((rngL i c n).map V.int)))
theorem cr_listR (hc : X.calm = true) : CallR X (.type "list") rListR := by
  intro pins s σ H vs us Q I r h
  obtain ⟨p, i, j, k, n, rfl, hp, ⟨c0, c1, c2, c3⟩, hn, q⟩ := h
  rw [Vals.ref1 r]
  obtain ⟨⟨t, u, v, e⟩, _, _⟩ := I.hok p _ hp
  refine call_list_range (I.ok.hd hc) e c2 c3 (Nat.le_trans hn (by decide)) fun h' tk acc c' hk hl hi => ?_
  have lr : (rngL i k n).length = n := by unfold rngL; rw [List.length_map, List.length_range]
  refine ⟨.ref s.heap.objs.size, _, I.laid (t' := tk) (o := .lst ((rngL i k n).map V.int)) hk (Nat.le_refl _) ?_, rfl, q _ (I.hok.fresh (Nat.le_refl _))⟩
  refine ⟨by rw [List.length_map, lr]; exact Nat.le_trans hn (by decide), acc.toList, c', ?_, by rw [Array.toArray_toList]; exact hl⟩
  refine vals_of_idx _ _ (by rw [List.length_map, lr, Array.length_toList]; exact hi.1) fun j w hj => ?_
  obtain ⟨tt, rfl⟩ := hi.2 j w (by rw [← Array.getElem?_toList]; exact hj)
  have hjn : j < n := by
    have := (List.getElem?_eq_some_iff.mp hj).1
    rw [Array.length_toList, hi.1] at this
    exact this
  refine ⟨.int (i + (j : Int) * k), ?_, ⟨_, rfl⟩⟩
  unfold rngL
  rw [List.getElem?_map, List.getElem?_map, List.getElem?_range hjn]
  rfl
end
end My
namespace PySem.F
theorem args_sum2 (a b : Value) : argsOk "sum" ⟨[a, b], []⟩ := by unfold argsOk; kernel_rfl
end PySem.F
namespace My
open PySem PySem.Spec PyProof.Rows L2
open PySem.Sem (wp)
section
variable {prog : Program} {w : World} {A : Around} {E : Value → Shared → Prop} {s : Shared}
def LstO (h : Heap) (a : Addr) (vs : List Value) : Prop := ∃ c : Nat, h.get? a = some { cls := .type "list", dict := none, data := .seq vs.toArray c, slots := #[] }
theorem LstO.at {h h' : Heap} {a : Addr} {vs : List Value} (x : LstO h a vs) (k : ∀ o, h.get? a = some o → h'.get? a = some o) : LstO h' a vs := let ⟨c, e⟩ := x; ⟨c, k _ e⟩
/-- the sum of lists, as it goes on -/
theorem sum_lists_loop (hh : A.handled = none) {R : Result → Shared → Prop} {I l S : Addr} {Ls : List Addr} {X : Nat → List Value} (hIl : l ≠ I) (hSI : S ≠ I) (hSl : S ≠ l) (hsz : ((List.range Ls.length).map X).flatten.length ≤ sizeLine) :
    ∀ (k i : Nat) (s : Shared) (T : Addr) (c : Nat), Ls.length - i = k → i ≤ Ls.length → (s.heap.IsListIter I l i ∧ s.heap.IsList l (Ls.map Value.ref).toArray) → T ≠ I → T ≠ S →
      (∀ (j : Nat) (a : Addr), Ls[j]? = some a → a ≠ I ∧ a ≠ S ∧ s.heap.IsList a (X j).toArray) →
      s.heap.get? S = some { cls := .type "list", dict := none, data := .seq #[.ref T] c, slots := #[] } → LstO s.heap T (((List.range i).map X).flatten) →
      (∀ h' tk T', (∀ b o, b ≠ I → b ≠ S → s.heap.get? b = some o → h'.get? b = some o) → LstO h' T' (((List.range Ls.length).map X).flatten) → (T' = T ∨ s.heap.get? T' = none) → R (.ok (.ret (.ref T'))) { s with heap := h', toks := tk }) →
      codeAny (model prog w) A (.builtin "sum.loop" ⟨[.ref I, .ref S, rawInt 2, rawInt 0], []⟩) R s := by
  intro k
  induction k with
  | zero =>
    intro i s T c hk hi hst hTI hTS hL hS hT hR
    have W := Walks.list (prog := prog) (w := w) (A := A.in1) hh I l hIl (Ls.map Value.ref).toArray
    have hin : i = Ls.length := by omega
    subst hin
    refine codeAny_builtin F.entry_sum_loop ?_
    rw [Around.under_plainId F.plain_sum_loop _]
    show wpAny _ A.in1 (seqItems? (.ref S) >>= _) _ _ s
    refine wpAny_bind (wpAny_seqItems hS rfl ?_)
    show wpAny _ A.in1 (tryCatch (pyNext (.ref I)) _ >>= _) _ _ s
    refine wpAny_bind (wpAny_tryCatch (W.done s _ _ (by simpa using hst) fun h' tk hk' => ?_))
    refine wpAny_pure (hR h' tk T (fun b o hbw _ e => hk' b o (by simpa using hbw) e) ?_ (.inl rfl))
    exact hT.at fun o e => hk' _ _ (by simpa using hTI) e
  | succ k ih =>
    intro i s T c hk hi hst hTI hTS hL hS hT hR
    have W := Walks.list (prog := prog) (w := w) (A := A.in1) hh I l hIl (Ls.map Value.ref).toArray
    have hlt : i < Ls.length := by omega
    refine codeAny_builtin F.entry_sum_loop ?_
    rw [Around.under_plainId F.plain_sum_loop _]
    show wpAny _ A.in1 (seqItems? (.ref S) >>= _) _ _ s
    refine wpAny_bind (wpAny_seqItems hS rfl ?_)
    show wpAny _ A.in1 (tryCatch (pyNext (.ref I)) _ >>= _) _ _ s
    refine wpAny_bind (wpAny_tryCatch (W.item i s _ _ (by simpa using hlt) hst fun v h' tk hPi hst' hk' => ?_))
    have e1 : Ls[i]? = some Ls[i] := List.getElem?_eq_getElem hlt
    have hv : v = .ref Ls[i] := by
      have : (Ls.map Value.ref).toArray[i]? = some v := hPi
      rw [List.getElem?_toArray, List.getElem?_map, e1] at this
      exact (Option.some.inj this).symm
    subst hv
    have kk : ∀ b o, b ≠ I → s.heap.get? b = some o → h'.get? b = some o := fun b o n e => hk' b o (by simpa using n) e
    have hS' := kk S _ hSI hS
    obtain ⟨a1, a2, ⟨⟨cls, dd, data, sl⟩, ho, hc, nn, hd⟩⟩ := hL i _ e1
    obtain ⟨nn2, ho2⟩ := hT
    simp only at hc hd
    subst hc hd
    have ho' := kk _ _ a1 ho
    have ho2' := kk _ _ hTI ho2
    have er : ((List.range (i + 1)).map X).flatten = ((List.range i).map X).flatten ++ X i := by rw [List.range_succ, List.map_append, List.flatten_append]; simp
    have hle : ((List.range (i + 1)).map X).flatten.length ≤ sizeLine := by
      refine Nat.le_trans ?_ hsz
      have es : List.range Ls.length = List.range (i + 1) ++ (List.range' (i + 1) (Ls.length - (i + 1))) := by
        have h := List.range'_append_1 (s := 0) (m := i + 1) (n := Ls.length - (i + 1))
        rw [Nat.zero_add] at h
        rw [List.range_eq_range', List.range_eq_range', h]
        congr 1
        omega
      rw [es, List.map_append, List.flatten_append, List.length_append]
      omega
    show wpAny _ A.in1 ((holding [.ref Ls[i]] (binaryOp .Add (.ref T) (.ref Ls[i]))).attempt >>= _) _ _ _
    refine wpAny_bind (wpAny_attempt (wpAny_holding (concat_meets ⟨_, ho2', rfl⟩ ⟨_, ho', rfl⟩ noFill_list_add seq_list_add PySem.F.slot_list_add PySem.F.entry_list_add (PySem.F.args_list_add_2 _ _) (list_addW T Ls[i] _ _ nn2 nn none dd #[] sl (by
      rw [er, List.length_append] at hle
      simpa using hle)) ⟨ho2', ho', ?_⟩)))
    have hI' : I < h'.objs.size := by obtain ⟨o, e, _⟩ := hst'.1; exact Heap.lt_size e
    have hSs : S < h'.objs.size := Heap.lt_size hS'
    have hll : l < h'.objs.size := by obtain ⟨o, e, _⟩ := hst'.2; exact Heap.lt_size e
    have up : ∀ b o, h'.get? b = some o → (h'.push { cls := .type "list", data := .seq ((((List.range i).map X).flatten).toArray ++ (X i).toArray) }).get? b = some o := fun b o e => Heap.get?_push_of_some _ e
    have gT : (h'.push { cls := .type "list", data := .seq ((((List.range i).map X).flatten).toArray ++ (X i).toArray) }).get? h'.objs.size = some { cls := .type "list", data := .seq ((((List.range i).map X).flatten).toArray ++ (X i).toArray) } := Heap.get?_push_size _ rfl
    have eT : (((List.range i).map X).flatten).toArray ++ (X i).toArray = (((List.range (i + 1)).map X).flatten).toArray := by rw [er]; simp
    rw [eT] at up gT
    have hS2 := up _ _ hS'
    rw [eT]
    generalize (h'.push { cls := .type "list", data := .seq (((List.range (i + 1)).map X).flatten).toArray }) = h2 at up gT hS2 ⊢
    show wpAny _ A.in1 (updateSeq S (fun _ => #[.ref h'.objs.size]) >>= _) _ _ ⟨h2, s.gens, s.drawn, tk, s.os⟩
    refine wpAny_bind (wpAny_updateSeq hS2 rfl ?_)
    refine wpAny_bind (wpAny_letGo ?_)
    have hS3 : (h2.update S (Obj.mapSeq fun _ => #[.ref h'.objs.size])).get? S = some { cls := .type "list", dict := none, data := .seq #[.ref h'.objs.size] c, slots := #[] } := Heap.get?_update_self (Obj.mapSeq fun _ => #[.ref h'.objs.size]) hS2 rfl
    have s3 : Heap.SameBut S h2 (h2.update S (Obj.mapSeq fun _ => #[.ref h'.objs.size])) := Heap.SameBut.update ..
    generalize (h2.update S (Obj.mapSeq fun _ => #[.ref h'.objs.size])) = h3 at hS3 s3 ⊢
    show wpAny _ A.in1 (updateSeq S (fun _ => #[.ref h'.objs.size]) >>= _) _ _ ⟨h3, s.gens, s.drawn, tk, s.os⟩
    refine wpAny_bind (wpAny_updateSeq hS3 rfl ?_)
    have hS4 : (h3.update S (Obj.mapSeq fun _ => #[.ref h'.objs.size])).get? S = some { cls := .type "list", dict := none, data := .seq #[.ref h'.objs.size] c, slots := #[] } := Heap.get?_update_self (Obj.mapSeq fun _ => #[.ref h'.objs.size]) hS3 rfl
    have s4 : Heap.SameBut S h3 (h3.update S (Obj.mapSeq fun _ => #[.ref h'.objs.size])) := Heap.SameBut.update ..
    generalize (h3.update S (Obj.mapSeq fun _ => #[.ref h'.objs.size])) = h4 at hS4 s4 ⊢
    have all : ∀ b o, b ≠ S → h'.get? b = some o → h4.get? b = some o := fun b o n e => s4.extBut _ _ n (s3.extBut _ _ n (up _ _ e))
    have nTI : h'.objs.size ≠ I := Nat.ne_of_gt hI'
    have nTS : h'.objs.size ≠ S := Nat.ne_of_gt hSs
    refine wpAny_pure ⟨plainId_quiet F.plain_sum_loop _, ih (i + 1) ⟨h4, s.gens, s.drawn, tk, s.os⟩ h'.objs.size c (by omega) hlt ⟨hst'.1.at fun o e => all _ _ hSI.symm e, ?_⟩ nTI nTS (fun j a e => ?_) hS4 ?_ fun h5 tk5 T5 k5 hT5 hf5 => ?_⟩
    · exact hst'.2.at fun o e => all _ _ hSl.symm e
    · obtain ⟨b1, b2, b3⟩ := hL j a e
      exact ⟨b1, b2, b3.at fun o e => all _ _ b2 (kk _ _ b1 e)⟩
    · exact ⟨0, s4.extBut _ _ nTS (s3.extBut _ _ nTS gT)⟩
    · refine hR h5 tk5 T5 (fun b o n1 n2 e => k5 b o n1 n2 (all _ _ n2 (kk _ _ n1 e))) hT5 (.inr ?_)
      cases hx : s.heap.get? T5 with
      | none => rfl
      | some o =>
        exfalso
        by_cases n1 : T5 = I
        · rcases hf5 with z | z
          · exact nTI (z.symm.trans n1)
          · have := all _ _ hSI.symm (hst'.1.choose_spec.1)
            rw [n1] at z
            rw [z] at this
            cases this
        · by_cases n2 : T5 = S
          · rcases hf5 with z | z
            · exact nTS (z.symm.trans n2)
            · rw [n2, show Heap.get? h4 S = some _ from hS4] at z
              cases z
          · have h4x := all _ _ n2 (kk _ _ n1 hx)
            rcases hf5 with z | z
            · rw [z] at hx
              exact absurd (Heap.lt_size (kk _ _ nTI hx)) (Nat.lt_irrefl _)
            · rw [show Heap.get? h4 T5 = none from z] at h4x
              cases h4x
theorem call_sum_lists {l T : Addr} {Ls : List Addr} {X : Nat → List Value} {Q : Value → Shared → Prop} (hh : A.handled = none) (hl : s.heap.IsList l (Ls.map Value.ref).toArray) (hT : LstO s.heap T []) (hL : ∀ (j : Nat) (a : Addr), Ls[j]? = some a → s.heap.IsList a (X j).toArray)
    (hsz : ((List.range Ls.length).map X).flatten.length ≤ sizeLine)
    (h : ∀ h' tk T', (∀ b o, s.heap.get? b = some o → h'.get? b = some o) → LstO h' T' (((List.range Ls.length).map X).flatten) → (T' = T ∨ s.heap.get? T' = none) → Q (.ref T') { s with heap := h', toks := tk }) :
    wpAny (model prog w) A (call (.builtin "sum") [.ref l, .ref T]) Q E s := by
  have hll : l < s.heap.objs.size := by obtain ⟨o, e, _⟩ := hl; exact Heap.lt_size e
  have hTl : T < s.heap.objs.size := by obtain ⟨c, e⟩ := hT; exact Heap.lt_size e
  refine call_function_tree F.kind_sum F.plain_sum F.entry_sum (F.args_sum2 _ _) ?_
  unfold Builtin.«sum»
  simp only [List.length_cons, List.length_nil]
  rw [if_neg (by decide)]
  refine wpAny_bind (wpAny_of_eq (show Builtin.Builtins.bindParams "sum" ["start"] 0 ⟨[.ref T], []⟩ = pure [some (.ref T)] from rfl) ?_)
  refine wpAny_bind (wpAny_pyIter_list hl ?_)
  have k1 : ∀ b o, s.heap.get? b = some o → (s.heap.push { cls := .type "list_iterator", data := .fields #[.ref l, .int 0 0] }).get? b = some o := fun b o e => Heap.get?_push_of_some _ e
  have hit : (s.heap.push { cls := .type "list_iterator", data := .fields #[.ref l, .int 0 0] }).IsListIter s.heap.objs.size l 0 := ⟨_, Heap.get?_push_size _ rfl, rfl, rfl⟩
  have z1 : (s.heap.push { cls := .type "list_iterator", data := .fields #[.ref l, .int 0 0] }).objs.size = s.heap.objs.size + 1 := Heap.size_push ..
  generalize (s.heap.push { cls := .type "list_iterator", data := .fields #[.ref l, .int 0 0] }) = h1 at k1 hit z1 ⊢
  have hT1 : h1.IsList T #[] := let ⟨c, e⟩ := hT; ⟨_, k1 _ _ e, rfl, c, rfl⟩
  have hl1 := hl.at (k1 l)
  show wpAny _ A.in1 ((pure (.ref T, (2 : Int)) : Sem (Value × Int)) >>= _) _ _ _
  refine wpAny_bind (wpAny_pure ?_)
  simp only [List.forIn_cons, List.forIn_nil]
  refine wpAny_bind (wpAny_bind (wpAny_bind (wpAny_isInstance (s := { s with heap := h1 }) (T := "list") (b := false) hT1.typeIs F.sub_list_str ?_)))
  simp only [Bool.false_eq_true, if_false]
  refine wpAny_pure (wpAny_bind (wpAny_bind (wpAny_isInstance (s := { s with heap := h1 }) (T := "list") (b := false) hT1.typeIs F.sub_list_bytes ?_)))
  simp only [Bool.false_eq_true, if_false]
  refine wpAny_pure (wpAny_bind (wpAny_bind (wpAny_isInstance (s := { s with heap := h1 }) (T := "list") (b := false) hT1.typeIs F.sub_list_bytearray ?_)))
  simp only [Bool.false_eq_true, if_false]
  refine wpAny_pure (wpAny_pure ?_)
  refine wpAny_bind (wpAny_newObj_type ?_)
  have k2 : ∀ b o, h1.get? b = some o → (h1.push { cls := .type "list", data := .seq #[.ref T] }).get? b = some o := fun b o e => Heap.get?_push_of_some _ e
  have hS : (h1.push { cls := .type "list", data := .seq #[.ref T] }).get? h1.objs.size = some { cls := .type "list", data := .seq #[.ref T] } := Heap.get?_push_size _ rfl
  generalize (h1.push { cls := .type "list", data := .seq #[.ref T] }) = h2 at k2 hS ⊢
  have old : ∀ b o, s.heap.get? b = some o → h2.get? b = some o := fun b o e => k2 _ _ (k1 _ _ e)
  have lt1 : ∀ b, b < s.heap.objs.size → b ≠ s.heap.objs.size ∧ b ≠ h1.objs.size := fun b hb => ⟨Nat.ne_of_lt hb, Nat.ne_of_lt (Nat.lt_of_lt_of_le hb (by rw [z1]; exact Nat.le_succ _))⟩
  refine wpAny_pure ⟨plainId_quiet F.plain_sum_loop _, sum_lists_loop (X := X) (Ls := Ls) (l := l) hh (lt1 l hll).1 ?_ (lt1 l hll).2.symm hsz Ls.length 0 ⟨h2, s.gens, s.drawn, s.toks, s.os⟩ T 0 (by omega) (Nat.zero_le _) ⟨hit.at fun o e => k2 _ _ e, hl.at fun o e => old _ _ e⟩ (lt1 T hTl).1 (lt1 T hTl).2 (fun j a e => ?_) hS ?_ fun h' tk T' k3 hT' hf => ?_⟩
  · rw [z1]
    exact Nat.succ_ne_self _
  · have ha := hL j a e
    have hal : a < s.heap.objs.size := by obtain ⟨o, e, _⟩ := ha; exact Heap.lt_size e
    exact ⟨(lt1 a hal).1, (lt1 a hal).2, ha.at fun o e => old _ _ e⟩
  · exact hT.at fun o e => old _ _ e
  · refine h h' tk T' (fun b o e => k3 b o (lt1 b (Heap.lt_size e)).1 (lt1 b (Heap.lt_size e)).2 (old _ _ e)) hT' ?_
    rcases hf with z | z
    · exact .inl z
    · right
      cases hx : s.heap.get? T' with
      | none => rfl
      | some o =>
        have := old _ _ hx
        rw [show h2.get? T' = none from z] at this
        cases this
end
end My
namespace My
open PySem PySem.Spec PyProof.Rows L2
section
variable {X : Cx}
/-- sum(xs, []) of lists -/
def rSumL (K : PySem.W.Frag) : List V → Hp → VK → Prop := fun vs H Q => ∃ (l T : Addr) (Ls : List Addr) (rows : List (List V)), vs = [.ref l, .ref T] ∧ SqL K H l (Ls.map V.ref) ∧ H T = some (.lst []) ∧ RowsL K H Ls rows ∧ rows.flatten.length ≤ 1000 ∧ rows ≠ [] ∧
  ∀ p H', Same H H' → H' p = some (.lst rows.flatten) → Q (.ref p) H'
theorem cr_sumL (hc : X.calm = true) : CallR X (.builtin "sum") (rSumL X.K) := by
  intro pins s σ H vs us Q I r h
  obtain ⟨l, T, Ls, rows, rfl, hl, hT, hr, hz, h0, q⟩ := h
  cases r with
  | cons r rr =>
    cases rr with
    | cons r' rr =>
      cases rr
      cases r
      cases r'
      obtain ⟨its, rv, p1, _⟩ := I.list hl
      obtain rfl := refs_vals rv
      have hT2 := I.hok T _ hT
      obtain ⟨_, itsT, cT, rvT, eT⟩ := hT2
      cases rvT
      have each : ∀ j : Nat, ∃ u : List Value, ∀ a, Ls[j]? = some a → s.heap.IsList a u.toArray ∧ ∀ r, rows[j]? = some r → Vals r u := fun j => by
        cases e1 : Ls[j]? with
        | none => exact ⟨[], fun a z => by cases z⟩
        | some a =>
          have hj : j < rows.length := by rw [← hr.1]; exact (List.getElem?_eq_some_iff.mp e1).1
          have e2 : rows[j]? = some rows[j] := List.getElem?_eq_getElem hj
          obtain ⟨its2, rv2, p2, _⟩ := I.list (hr.2 j a _ e1 e2)
          refine ⟨its2, fun a2 z => ?_⟩
          cases z
          refine ⟨p2.isList, fun r z => ?_⟩
          rw [e2] at z
          cases z
          exact rv2
      let X2 : Nat → List Value := fun j => Classical.choose (each j)
      have hX : ∀ j a, Ls[j]? = some a → s.heap.IsList a (X2 j).toArray ∧ ∀ r, rows[j]? = some r → Vals r (X2 j) := fun j => Classical.choose_spec (each j)
      have rel : ∀ n, n ≤ rows.length → Vals ((rows.take n).flatten) ((List.range n).map X2).flatten := fun n => by
        induction n with
        | zero => exact fun _ => .nil
        | succ n ih =>
          intro hn
          have e2 : rows[n]? = some (rows[n]'(by omega)) := List.getElem?_eq_getElem _
          have e1 : Ls[n]? = some (Ls[n]'(by rw [hr.1]; omega)) := List.getElem?_eq_getElem _
          rw [List.take_add_one, e2, List.range_succ, List.map_append, List.flatten_append, List.flatten_append]
          simp only [Option.toList_some, List.flatten_cons, List.flatten_nil, List.append_nil, List.map_cons, List.map_nil]
          exact (ih (by omega)).append ((hX n _ e1).2 _ e2)
      have relA : Vals rows.flatten ((List.range Ls.length).map X2).flatten := by
        have := rel rows.length (Nat.le_refl _)
        rw [List.take_length] at this
        rw [hr.1]
        exact this
      have len := relA.length
      refine call_sum_lists (X := X2) (I.ok.hd hc) p1.isList ⟨cT, eT⟩ (fun j a e => (hX j a e).1) (by rw [← len]; exact Nat.le_trans hz (by decide)) fun h' tk T' k ⟨c', e'⟩ hf => ?_
      rcases hf with rfl | hn
      · have eN : ((List.range Ls.length).map X2).flatten = [] := by
          have := k _ _ eT
          rw [e'] at this
          have h2 : (((List.range Ls.length).map X2).flatten).toArray = #[] := by
            have h3 := congrArg Obj.data (Option.some.inj this)
            exact (Data.seq.inj h3).1
          simpa using congrArg Array.toList h2
        have eR : rows.flatten = [] := by rw [eN] at len; exact List.eq_nil_of_length_eq_zero len
        refine ⟨.ref T', H, I.kept (t' := tk) k, rfl, q T' H (Same.refl _) ?_⟩
        rw [eR]
        exact hT
      · have hN : H T' = none := I.hok.gone hn
        refine ⟨.ref T', upd H T' (.lst rows.flatten), I.laidN (t' := tk) k hn hN ?_, rfl, q T' _ (same_upd hN) upd_same⟩
        exact ⟨Nat.le_trans hz (by decide), _, c', relA, e'⟩
end
end My

set_option Elab.async false
set_option linter.all false
set_option maxRecDepth 100000
set_option maxHeartbeats 1000000
/-! ### a module's tuples of tuples of tuples of whole numbers, and its tuples of functions, checked by one question -/
namespace My
open PySem PySem.Spec PyProof.Rows L2
def refsB : List Value → Option (List Addr)
  | [] => some []
  | .ref a :: vs => (refsB vs).map (a :: ·)
  | _ :: _ => none
theorem refsB_ok : ∀ {vs : List Value} {cs : List Addr}, refsB vs = some cs → vs = cs.map Value.ref
  | [], cs, h => by cases h; rfl
  | .ref a :: vs, cs, h => by
    obtain ⟨r, e, rfl⟩ := Option.map_eq_some_iff.mp (show (refsB vs).map (a :: ·) = some cs from h)
    rw [refsB_ok e]
    rfl
/-- the addresses that a tuple of the written part holds -/
def tupRefs (K : PySem.W.Frag) (a : Addr) : Option (List Addr) :=
  match K.lookup a with
  | some ⟨.type s, none, .seq its _, _⟩ => if s == "tuple" && Nat.ble its.size 1000 then refsB its.toList else none
  | _ => none
theorem tupRefs_ok {K : PySem.W.Frag} {a : Addr} {cs : List Addr} (h : tupRefs K a = some cs) : KTupR K a cs ∧ cs.length ≤ 1000 := by
  unfold tupRefs at h
  split at h
  · next s its n sl e =>
    split at h
    · next c =>
      rw [Bool.and_eq_true] at c
      have es : s = "tuple" := by simpa using c.1
      subst es
      have ev := refsB_ok h
      have hl : cs.length = its.size := by rw [← Array.length_toList, ev, List.length_map]
      refine ⟨⟨n, sl, ?_⟩, by rw [hl]; exact Nat.le_of_ble_eq_true c.2⟩
      rw [e, ← ev]
    · cases h
  · cases h
def tup2B (K : PySem.W.Frag) (a : Addr) (d : List (List Int)) : Bool :=
  match tupRefs K a with
  | some cs => Nat.beq cs.length d.length && (cs.zip d).all fun p => tupB K p.1 p.2
  | none => false
def tup3B (K : PySem.W.Frag) (a : Addr) (d : List (List (List Int))) : Bool :=
  match tupRefs K a with
  | some cs => Nat.beq cs.length d.length && (cs.zip d).all fun p => tup2B K p.1 p.2
  | none => false
theorem zip_mem {α β : Type} {xs : List α} {ys : List β} {i : Nat} {x : α} {y : β} (h1 : xs[i]? = some x) (h2 : ys[i]? = some y) : (x, y) ∈ xs.zip ys :=
  List.mem_of_getElem? (i := i) (List.getElem?_zip_eq_some.mpr ⟨h1, h2⟩)
theorem tup2B_ok {K : PySem.W.Frag} {a : Addr} {d : List (List Int)} (h : tup2B K a d = true) : ∃ cs, KTupR K a cs ∧ cs.length ≤ 1000 ∧ cs.length = d.length ∧ ∀ (i : Nat) (c : Addr) (r : List Int), cs[i]? = some c → d[i]? = some r → tupB K c r = true := by
  unfold tup2B at h
  split at h
  · next cs e =>
    rw [Bool.and_eq_true] at h
    obtain ⟨k, l⟩ := tupRefs_ok e
    exact ⟨cs, k, l, Nat.eq_of_beq_eq_true h.1, fun i c r e1 e2 => List.all_eq_true.mp h.2 (c, r) (zip_mem e1 e2)⟩
  · cases h
theorem tup3B_ok {K : PySem.W.Frag} {a : Addr} {d : List (List (List Int))} (h : tup3B K a d = true) : ∃ cs, KTupR K a cs ∧ cs.length ≤ 1000 ∧ cs.length = d.length ∧ ∀ (i : Nat) (c : Addr) (r : List (List Int)), cs[i]? = some c → d[i]? = some r → tup2B K c r = true := by
  unfold tup3B at h
  split at h
  · next cs e =>
    rw [Bool.and_eq_true] at h
    obtain ⟨k, l⟩ := tupRefs_ok e
    exact ⟨cs, k, l, Nat.eq_of_beq_eq_true h.1, fun i c r e1 e2 => List.all_eq_true.mp h.2 (c, r) (zip_mem e1 e2)⟩
  · cases h
/-- a row of a table of three: the tuple of its rows, each a tuple of whole numbers -/
theorem tup3_at {K : PySem.W.Frag} {a : Addr} {d : List (List (List Int))} {i : Nat} {r : List (List Int)} (h : tup3B K a d = true) (e : d[i]? = some r) : ∃ cs : List Addr, (∀ H, SqT K H a (cs.map V.ref)) ∧ ∃ c : Addr, atI (cs.map V.ref) (i : Int) = some (.ref c) ∧
    ∃ bs : List Addr, (∀ H, SqT K H c (bs.map V.ref)) ∧ bs.length = r.length ∧ ∀ (j : Nat) (b : Addr) (q : List Int), bs[j]? = some b → r[j]? = some q → ∀ H, SqT K H b (q.map V.int) := by
  obtain ⟨cs, k, l, n, f⟩ := tup3B_ok h
  have hi : i < cs.length := by rw [n]; exact (List.getElem?_eq_some_iff.mp e).1
  have ec : cs[i]? = some cs[i] := List.getElem?_eq_getElem hi
  obtain ⟨bs, k2, l2, n2, f2⟩ := tup2B_ok (f i _ r ec e)
  exact ⟨cs, fun H => k.sq l, cs[i], atI_nat (by rw [List.getElem?_map, ec]; rfl), bs, fun H => k2.sq l2, n2, fun j b q e1 e2 H => tupB_ok (f2 j b q e1 e2)⟩
theorem op_catTK {X : Cx} {K : PySem.W.Frag} (h : X.K = K) : OpR X (binaryOp .Add) (rCatT K) := by
  subst h
  exact op_catT
/-- the bits of a word, the highest first -/
def bitsW (b w : Nat) : List Nat := (List.range b).map fun i => w / 2 ^ (b - 1 - i) % 2
def wordsB (b : Nat) (ws : List Nat) : List Nat := ws.flatMap (bitsW b)
def quadsD : List (List Nat) := (List.range 16).map (bitsW 4)
theorem bits8 {w : Nat} (h : w < 256) : bitsW 8 w = bitsW 4 (w / 16) ++ bitsW 4 (w % 16) := by
  have q : ((List.range 256).all fun w => bitsW 8 w == bitsW 4 (w / 16) ++ bitsW 4 (w % 16)) = true := by decide +kernel
  exact eq_of_beq (List.all_eq_true.mp q w (List.mem_range.mpr h))
theorem bitsW_len (b w : Nat) : (bitsW b w).length = b := by
  unfold bitsW
  rw [List.length_map, List.length_range]
theorem wordsB_snoc (b : Nat) (ws : List Nat) (w : Nat) : wordsB b (ws ++ [w]) = wordsB b ws ++ bitsW b w := by
  unfold wordsB
  rw [List.flatMap_append]
  simp
theorem wordsB_len (b : Nat) : ∀ ws : List Nat, (wordsB b ws).length = b * ws.length
  | [] => rfl
  | w :: ws => by
    show (bitsW b w ++ wordsB b ws).length = b * (ws.length + 1)
    rw [List.length_append, bitsW_len, wordsB_len b ws, Nat.mul_succ, Nat.add_comm]
end My

set_option Elab.async false
set_option linter.all false
set_option maxRecDepth 100000
set_option maxHeartbeats 4000000
/-! ### sorted tuples of ints, any number of them -/
namespace SrtO
open PySem PyProof.Rows Srt
section
variable {prog : Program} {w : World} {A : Around} {E : Value → Shared → Prop} {s : Shared}
theorem swo_rank (r : Value → Int) : Swo fun v u => decide (r v < r u) := by
  refine ⟨fun x y h => ?_, fun x y z h1 h2 => ?_⟩
  · have a := of_decide_eq_true h
    exact decide_eq_false (by omega)
  · have a := of_decide_eq_false h1
    have b := of_decide_eq_false h2
    exact decide_eq_false (by omega)
theorem tups_cmp {vs : List Value} {d : Nat} {B : Int} {r : Value → Int} (x : TS.TupsOk s.heap d B vs) (hr : ∀ v ∈ vs, ∀ ns, TS.TupInts s.heap v ns → r v = TS.code B ns) :
    Cmp prog w A s (tuples' true) (fun p => p.1 ∈ vs) (lt2 fun v u => decide (r v < r u)) := by
  intro p q hm hm'
  show wpAny (model prog w) A (keyLt' (tuples' true) p.1 q.1) (fun b s' => s' = s ∧ b = decide (r p.1 < r q.1)) (fun _ _ => False) s
  obtain ⟨ns, tp, lp, bp⟩ := x _ hm
  obtain ⟨ms, tq, lq, bq⟩ := x _ hm'
  rw [hr _ hm _ tp, hr _ hm' _ tq]
  obtain ⟨a, xs, e1, ⟨o, ho, hc, n, hdt⟩, i⟩ := tp
  obtain ⟨a', ys, e2, ⟨o', ho', hc', n', hdt'⟩, i'⟩ := tq
  rw [e1, e2]
  refine PySem.W.kat_lt ho hdt ho' hdt' ?_
  have sz : decide (xs.size < ys.size) = false := by
    have l1 := i.length
    have l2 := i'.length
    rw [Array.length_toList] at l1 l2
    exact decide_eq_false (by omega)
  rw [sz]
  exact TS.lex_ints 0 i i' (by omega) bp bq ⟨rfl, rfl⟩
theorem tups_sortableO {a : Addr} {vs : List Value} {d : Nat} {B : Int} {r : Value → Int} (hd : 1 ≤ d) (h0 : 0 < vs.length) (x : TS.TupsOk s.heap d B vs) (hr : ∀ v ∈ vs, ∀ ns, TS.TupInts s.heap v ns → r v = TS.code B ns)
    (ha : ∀ o, s.heap.get? a = some o → o.cls ≠ .type "tuple") : SortableO prog w A s a vs fun v u => decide (r v < r u) := by
  intro h' keep
  have kk : ∀ b o, s.heap.get? b = some o → o.cls = .type "tuple" → h'.get? b = some o := fun b o e c => keep b o (fun z => by subst z; exact ha o e c) e
  have x' : TS.TupsOk h' d B vs := x.keeps kk
  have hr' : ∀ v ∈ vs, ∀ ns, TS.TupInts h' v ns → r v = TS.code B ns := fun v hv ns t => by
    obtain ⟨ns0, t0, _⟩ := x v hv
    have e : ns = ns0 := t.ints.symm.trans (t0.keeps kk).ints
    rw [e]
    exact hr v hv ns0 t0
  obtain ⟨fs, h1, h2, h3⟩ := TS.firsts_of hd vs x'
  refine ⟨tuples' true, fun Q E hq => ?_, tups_cmp (s := { s with heap := h' }) x' hr'⟩
  refine PySem.W.kat_kind (T := .type "int") h1 (by omega) (fun f hm => ?_) (by rfl) ?_
  · obtain ⟨x, t, rfl⟩ := h3 f hm
    exact PySem.W.Looks.now
  · have e : (Value.type "int" != Value.type "tuple") = true := by first | decide +kernel | rfl | decide
    rw [e]
    exact hq
end
end SrtO
namespace My
open PySem PySem.Spec PyProof.Rows L2
/-- sorted(xs), xs a list of tuples of d ints in [0, B), any number of them: a new list of the same, ascending by code B -/
def rSortN (K : PySem.W.Frag) : List V → Hp → VK → Prop := fun vs H Q => ∃ (a : Addr) (xs : List V) (d : Nat) (B : Int), vs = [V.ref a] ∧ SqL K H a xs ∧ 1 ≤ d ∧ (∀ x ∈ xs, ∃ ns, TupI K H x ns ∧ ns.length = d ∧ TS.Bd B ns) ∧
  ∀ (ys : List V) (p : Addr), ys.Perm xs → ys.Pairwise (fun x y => ∀ n m, TupI K H x n → TupI K H y m → TS.code B n ≤ TS.code B m) → H p = none → Q (.ref p) (upd H p (.lst ys))
theorem cr_sortN {X : Cx} {K : PySem.W.Frag} (hK : X.K = K) : CallR X (.builtin "sorted") (rSortN K) := by
  subst hK
  intro pins s σ H vs us Q I r h
  obtain ⟨a, xs, d, B, rfl, hs, hd, hx, q⟩ := h
  obtain ⟨its, rv, hl, hz⟩ := I.list hs
  rw [Vals.ref1 r]
  obtain ⟨e1, e2⟩ := bkV_refs rv fun x m => by
    obtain ⟨ns, ⟨t, e, _⟩, _⟩ := hx x m
    exact ⟨t, e⟩
  have ok : TS.TupsOk s.heap d B its := fun v hv => by
    obtain ⟨t, rfl⟩ := e2 v hv
    have hm : V.ref t ∈ xs := by
      rw [e1]
      exact List.mem_map.mpr ⟨_, hv, rfl⟩
    obtain ⟨ns, ⟨t', e, ht⟩, hn, hb⟩ := hx _ hm
    cases e
    exact ⟨ns, tupI_raw I ht, hn, hb⟩
  refine SrtO.sorted_ord (SrtO.swo_rank fun v => TS.code B (TS.intsOf s.heap v)) hl.isList (by rw [← rv.length]; exact hz) (fun h2 h₁ a' ha kk => ?_) fun out hsr hst => ?_
  · refine SrtO.tups_sortableO (s := { s with heap := h₁ }) (d := d) (B := B) hd (by omega) (ok.keeps fun b o e _ => (kk b o e).2) (fun v hv ns t => ?_) fun o e => ?_
    · obtain ⟨ns0, t0, _⟩ := ok v hv
      have e : ns = ns0 := t.ints.symm.trans (t0.keeps fun b o e _ => (kk b o e).2).ints
      rw [e]
      show TS.code B (TS.intsOf s.heap v) = _
      rw [t0.ints]
    · have e' : some o = some (seqObj "list" its.toArray 0) := e.symm.trans ha
      cases e'
      intro c
      exact absurd (Value.type.inj c) (by decide)
  · obtain ⟨ep, he'⟩ := PyProof.Rows.sortedAll_at s.heap its out.toArray
    have h3 : ∀ u ∈ out, ∃ a, u = Value.ref a := fun u hu => e2 u (hst.perm.mem_iff.mp hu)
    have hp : (out.map bkV).Perm xs := by
      rw [e1]
      exact hst.perm.map bkV
    have hlen : (out.map bkV).length ≤ sizeLine := by
      rw [hp.length_eq]
      exact hz
    refine ⟨.ref _, upd H (s.heap.objs.size + 1) (.lst (out.map bkV)), I.laid (t' := s.toks) (fun _ _ => PyProof.Rows.sortedAll_old) (Nat.le_succ _) ⟨hlen, out, ep, bkV_vals h3, he'⟩, rfl, q _ _ hp ?_ (I.hok.fresh (Nat.le_succ _))⟩
    rw [List.pairwise_map]
    refine List.Pairwise.imp (fun {u v} huv n m hn hm => ?_) hsr
    obtain ⟨t, et, ht⟩ := hn
    obtain ⟨t', et', ht'⟩ := hm
    have eu := bkV_ref et
    have ev := bkV_ref et'
    have i1 : TS.intsOf s.heap u = n := by
      rw [eu]
      exact (tupI_raw I ht).ints
    have i2 : TS.intsOf s.heap v = m := by
      rw [ev]
      exact (tupI_raw I ht').ints
    have h5 := of_decide_eq_false huv
    rw [← i1, ← i2]
    omega
end My

set_option Elab.async false
set_option linter.all false
set_option maxRecDepth 100000
set_option maxHeartbeats 4000000
/-! ### zip of two sequences, each a list or a tuple -/
namespace My
open PySem
section heap
/-- an iterator over a list (true) or a tuple -/
def It1 : Bool → Heap → Addr → Addr → Nat → Prop
  | true => Heap.IsListIter
  | false => Heap.IsTupleIter
def Sq1 : Bool → Heap → Addr → Array Value → Prop
  | true => Heap.IsList
  | false => Heap.IsTuple
theorem It1.but : ∀ {k : Bool} {h h' : Heap} {a b l : Addr} {i : Nat}, It1 k h a l i → Heap.ExtBut b h h' → a ≠ b → It1 k h' a l i
  | true, _, _, _, _, _, _, x, e, n => Heap.IsListIter.extBut x e n
  | false, _, _, _, _, _, _, x, e, n => Heap.IsTupleIter.extBut x e n
theorem It1.at : ∀ {k : Bool} {h h' : Heap} {a l : Addr} {i : Nat}, It1 k h a l i → (∀ o, h.get? a = some o → h'.get? a = some o) → It1 k h' a l i
  | true, _, _, _, _, _, x, e => Heap.IsListIter.at x e
  | false, _, _, _, _, _, x, e => Heap.IsTupleIter.at x e
theorem It1.obj : ∀ {k : Bool} {h : Heap} {a l : Addr} {i : Nat}, It1 k h a l i → ∃ o, h.get? a = some o ∧ ∃ xs, o.data = .fields xs
  | true, _, _, _, _, ⟨o, e, _, d⟩ => ⟨o, e, _, d⟩
  | false, _, _, _, _, ⟨o, e, _, d⟩ => ⟨o, e, _, d⟩
theorem It1.lt {k : Bool} {h : Heap} {a l : Addr} {i : Nat} (x : It1 k h a l i) : a < h.objs.size := by
  obtain ⟨o, e, _⟩ := x.obj
  exact Heap.lt_size e
theorem Sq1.but : ∀ {k : Bool} {h h' : Heap} {l b : Addr} {xs : Array Value}, Sq1 k h l xs → Heap.ExtBut b h h' → l ≠ b → Sq1 k h' l xs
  | true, _, _, _, _, _, x, e, n => Heap.IsList.extBut x e n
  | false, _, _, _, _, _, x, e, n => Heap.IsTuple.extBut x e n
end heap
section
variable {prog : Program} {w : World} {A : Around} {E : Value → Shared → Prop} {s : Shared}
theorem next1 {it l : Addr} {i : Nat} {xs : Array Value} {x : Value} {Q : Value → Shared → Prop} : ∀ {k : Bool}, It1 k s.heap it l i → Sq1 k s.heap l xs → xs[i]? = some x →
    (∀ h', It1 k h' it l (i + 1) → Heap.SameBut it s.heap h' → Q x { s with heap := h' }) → wpAny (model prog w) A (Builtin.SmallTypes.nextOf (.ref it)) Q E s
  | true, h1, h2, hx, q => wpAny_nextOf_list_item h1 h2 hx q
  | false, h1, h2, hx, q => RZ.nextOf_tuple_item h1 h2 hx q
theorem end1 {it l : Addr} {i : Nat} {xs : Array Value} {Q : Value → Shared → Prop} (hh : A.handled = none) : ∀ {k : Bool}, It1 k s.heap it l i → Sq1 k s.heap l xs → xs[i]? = none →
    (∀ h' e, Heap.ExtBut it s.heap h' → (∃ o, h'.get? e = some o ∧ o.cls = .type "StopIteration") → E (.ref e) { s with heap := h' }) → wpAny (model prog w) A (Builtin.SmallTypes.nextOf (.ref it)) Q E s
  | true, h1, h2, hx, q => wpAny_nextOf_list_end hh h1 h2 hx q
  | false, h1, h2, hx, q => RZ.nextOf_tuple_end hh h1 h2 hx q
/-- all but the zip's own parts stay -/
def Lft (z TO i1 i2 : Addr) (h h' : Heap) : Prop := ∀ c o, c ≠ z → c ≠ TO → c ≠ i1 → c ≠ i2 → h.get? c = some o → h'.get? c = some o
/-- one turn of a zip of two: a new pair, or the end -/
theorem zip_turn {ka kb : Bool} {z TI TO i1 i2 l1 l2 : Addr} {k1 k2 : Nat} {xs ys : Array Value} {a b : Value} {Q : Value → Shared → Prop} (hh : A.handled = none) (D : ZipApart z TI TO i1 i2 l1 l2)
    (hz : IsZip s.heap z TI TO .none) (hTI : IsPair s.heap TI (.ref i1) (.ref i2)) (hTO : IsPair s.heap TO a b)
    (h1 : It1 ka s.heap i1 l1 k1) (h2 : It1 kb s.heap i2 l2 k2) (q1 : Sq1 ka s.heap l1 xs) (q2 : Sq1 kb s.heap l2 ys)
    (hI : ∀ x y, xs[k1]? = some x → ys[k2]? = some y → ∀ h', IsZip h' z TI TO (rawInt s.heap.objs.size) → IsPair h' TO x y → It1 ka h' i1 l1 (k1 + 1) → It1 kb h' i2 l2 (k2 + 1) → IsPair h' s.heap.objs.size x y → Lft z TO i1 i2 s.heap h' → Q (.ref s.heap.objs.size) { s with heap := h' })
    (hE : (xs[k1]? = none ∨ ys[k2]? = none) → ∀ h' e, Lft z TO i1 i2 s.heap h' → (∃ o, h'.get? e = some o ∧ o.cls = .type "StopIteration") → E (.ref e) { s with heap := h' }) :
    wpAny (model prog w) A (Builtin.«zip.__next__» ⟨[.ref z], []⟩) (fun fin s' => ∃ v, fin = .done (.ret v) ∧ Q v s') E s := by
  show wpAny _ _ (field (.ref z) 2 >>= _) _ _ _
  refine wpAny_bind (wpAny_field hz rfl (x := .bool false) rfl ?_)
  show wpAny _ _ (field (.ref z) 3 >>= _) _ _ _
  refine wpAny_bind (wpAny_field hz rfl (x := .ref TI) rfl (wpAny_bind (wpAny_seqItems hTI rfl ?_)))
  show wpAny _ _ (Builtin.SmallTypes.ownedTupleIsFree (.ref z) >>= _) _ _ _
  unfold Builtin.SmallTypes.ownedTupleIsFree
  refine wpAny_bind (wpAny_bind (wpAny_field hz rfl (x := .none) rfl (wpAny_pure ?_)))
  simp only [if_true]
  refine wpAny_bind (wpAny_rule (wpAny_bind (wpAny_field hz rfl (x := .ref TO) rfl (wpAny_bind (wpAny_setField_rec hz (by simp) fun g1 y1 s1 => ?_)))))
  have c1 := s1.extBut
  replace y1 : IsZip g1 z TI TO .ellipsis := y1
  simp only [List.zipIdx_cons, List.zipIdx_nil, List.forIn_cons, List.forIn_nil]
  refine wpAny_bind (wpAny_bind (wpAny_bind (wpAny_onRaise ?_)))
  show wpAny _ _ (Builtin.SmallTypes.nextOf (.ref i1) >>= _) _ _ _
  have stop : ∀ (g : Heap) (e : Addr) (st : Shared) {R : PUnit → Shared → Prop}, st = { s with heap := g } → IsZip g z TI TO .ellipsis → (∃ o, g.get? e = some o ∧ o.cls = .type "StopIteration") → (∀ h', Heap.SameBut z g h' → (∃ o, h'.get? e = some o ∧ o.cls = .type "StopIteration") → R () { s with heap := h' }) →
      wpAny (model prog w) A (setField (.ref z) 0 .none) R E st := fun g e st R es yz he r => by
    subst es
    obtain ⟨o, ho, hc⟩ := he
    have n : e ≠ z := fun x => by subst x; rw [yz] at ho; cases ho; simp at hc
    exact wpAny_setField_rec (s := { s with heap := g }) yz (by simp) fun h' _ sb => r h' sb ⟨o, sb.extBut _ _ n ho, hc⟩
  cases hx : xs[k1]? with
  | none =>
    refine wpAny_bind (end1 hh (h1.but c1 D.i1z) (q1.but c1 D.l1z) hx fun g2 e s2 he => ?_)
    refine stop g2 e _ rfl (s2 _ _ D.i1z.symm y1) he fun h' sb he' => hE (.inl hx) h' e (fun c o n1 _ n3 _ p => sb.extBut _ _ n1 (s2 _ _ n3 (c1 _ _ n1 p))) he'
  | some x =>
    refine wpAny_bind (next1 (h1.but c1 D.i1z) (q1.but c1 D.l1z) hx fun g2 p2 s2 => wpAny_pure ?_)
    have c2 := s2.extBut
    have t2 : IsPair g2 TO a b := c2 _ _ D.TOi1 (c1 _ _ D.TOz hTO)
    refine wpAny_bind (wpAny_seqItems t2 rfl (wpAny_bind (wpAny_updateSeq_pair t2 fun g3 t3 s3 => wpAny_bind (wpAny_letGo (wpAny_pure ?_)))))
    have c3 := s3.extBut
    replace t3 : IsPair g3 TO x b := t3
    have h2' := ((h2.but c1 D.i2z).but c2 D.i12.symm).but c3 D.TOi2.symm
    have q2' := ((q2.but c1 D.l2z).but c2 D.l2i1).but c3 D.l2TO
    have y3 : IsZip g3 z TI TO .ellipsis := c3 _ _ D.TOz.symm (c2 _ _ D.i1z.symm y1)
    refine wpAny_bind (wpAny_bind (wpAny_onRaise ?_))
    show wpAny _ _ (Builtin.SmallTypes.nextOf (.ref i2) >>= _) _ _ _
    cases hy : ys[k2]? with
    | none =>
      refine wpAny_bind (end1 hh h2' q2' hy fun g4 e s4 he => ?_)
      refine stop g4 e _ rfl (s4 _ _ D.i2z.symm y3) he fun h' sb he' => hE (.inr hy) h' e (fun c o n1 n2 n3 n4 p => sb.extBut _ _ n1 (s4 _ _ n4 (c3 _ _ n2 (c2 _ _ n3 (c1 _ _ n1 p))))) he'
    | some y =>
      refine wpAny_bind (next1 h2' q2' hy fun g4 p4 s4 => wpAny_pure ?_)
      have c4 := s4.extBut
      have t4 : IsPair g4 TO x b := c4 _ _ D.TOi2 t3
      refine wpAny_bind (wpAny_seqItems t4 rfl (wpAny_bind (wpAny_updateSeq_pair t4 fun g5 t5 s5 => wpAny_bind (wpAny_letGo (wpAny_pure (wpAny_pure ?_))))))
      have c5 := s5.extBut
      replace t5 : IsPair g5 TO x y := t5
      refine wpAny_bind (wpAny_seqItems t5 rfl (wpAny_bind (wpAny_newTuple ?_)))
      have sz : g5.objs.size = s.heap.objs.size := by rw [s5.1, s4.1, s3.1, s2.1, s1.1]
      have y5 : IsZip g5 z TI TO .ellipsis := c5 _ _ D.TOz.symm (c4 _ _ D.i2z.symm y3)
      have old : Lft z TO i1 i2 s.heap g5 := fun c o n1 n2 n3 n4 p => c5 _ _ n2 (c4 _ _ n4 (c3 _ _ n2 (c2 _ _ n3 (c1 _ _ n1 p))))
      have p1 : It1 ka g5 i1 l1 (k1 + 1) := ((p2.but c3 D.TOi1.symm).but c4 D.i12).but c5 D.TOi1.symm
      have p5 : It1 kb g5 i2 l2 (k2 + 1) := p4.but c5 D.TOi2.symm
      have zl : z < g5.objs.size := Heap.lt_size y5
      show wpAny _ _ (Builtin.SmallTypes.ownedTupleHandOut (.ref z) (.ref g5.objs.size) >>= _) _ _ _
      unfold Builtin.SmallTypes.ownedTupleHandOut
      have y6 : IsZip (g5.push { cls := .type "tuple", data := .seq #[x, y] }) z TI TO .ellipsis := Heap.get?_push_of_some _ y5
      refine wpAny_bind (wpAny_bind (wpAny_setField_rec y6 (by simp) fun g7 y7 s7 => ?_))
      replace y7 : IsZip g7 z TI TO (rawInt g5.objs.size) := y7
      refine wpAny_setField_rec y7 (by simp) fun g8 y8 s8 => ?_
      replace y8 : IsZip g8 z TI TO (rawInt g5.objs.size) := y8
      have up : ∀ c o, c ≠ z → g5.get? c = some o → g8.get? c = some o := fun c o n p => s8.extBut _ _ n (s7.extBut _ _ n (Heap.get?_push_of_some _ p))
      have new : IsPair g8 g5.objs.size x y := s8.extBut _ _ (Nat.ne_of_gt zl) (s7.extBut _ _ (Nat.ne_of_gt zl) (Heap.get?_push_size _ rfl))
      rw [sz] at y8 new
      refine wpAny_pure ⟨_, rfl, ?_⟩
      show Q (.ref g5.objs.size) _
      rw [sz]
      exact hI x y hx hy g8 y8 (up _ _ D.TOz t5) (p1.at fun o e => up _ o D.i1z e) (p5.at fun o e => up _ o D.i2z e) new fun c o n1 n2 n3 n4 p => up c o n1 (old c o n1 n2 n3 n4 p)
theorem zip_ask {ka kb : Bool} {z TI TO i1 i2 l1 l2 : Addr} {k1 k2 : Nat} {xs ys : Array Value} {a b : Value} {Q : Option Value → Shared → Prop} (hh : A.handled = none) (D : ZipApart z TI TO i1 i2 l1 l2)
    (hz : IsZip s.heap z TI TO .none) (hTI : IsPair s.heap TI (.ref i1) (.ref i2)) (hTO : IsPair s.heap TO a b)
    (h1 : It1 ka s.heap i1 l1 k1) (h2 : It1 kb s.heap i2 l2 k2) (q1 : Sq1 ka s.heap l1 xs) (q2 : Sq1 kb s.heap l2 ys)
    (hI : ∀ x y, xs[k1]? = some x → ys[k2]? = some y → ∀ h', IsZip h' z TI TO (rawInt s.heap.objs.size) → IsPair h' TO x y → It1 ka h' i1 l1 (k1 + 1) → It1 kb h' i2 l2 (k2 + 1) → IsPair h' s.heap.objs.size x y → Lft z TO i1 i2 s.heap h' → Q (some (.ref s.heap.objs.size)) { s with heap := h' })
    (hE : (xs[k1]? = none ∨ ys[k2]? = none) → ∀ h', Lft z TO i1 i2 s.heap h' → Q none { s with heap := h' }) : wpAny (model prog w) A (pyNext (.ref z)) Q E s := by
  have hT : s.TypeIs (.ref z) "zip" := ⟨_, hz, rfl⟩
  unfold pyNext
  refine wpAny_bind (wpAny_attempt (wpAny_callSpecial?_slot (name := Str.ofString "__next__") hT F.slot_zip_next (wpAny_call_entry F.slot_zip_next hT F.entry_zip_next
    (zip_turn hh D hz hTI hTO h1 h2 q1 q2 (fun x y hx hy h' a1 a2 a3 a4 a5 a6 => wpAny_pure (hI x y hx hy h' a1 a2 a3 a4 a5 a6)) fun hn h' e lf he => ?_) (F.args_zip_next_1 _))))
  obtain ⟨o, ho, hc⟩ := he
  exact wpAny_bind (wpAny_isInstance (T := "StopIteration") (b := true) ⟨o, ho, hc⟩ isSubtype_stop (wpAny_pure (hE hn h' lf)))
end
end My
namespace My
open PySem PySem.Spec PyProof.Rows L2
section
variable {X : Cx} {pins : List (Addr × Obj)} {σ : L2.St} {H : Hp} {s : Shared}
theorem inv_sq (I : Inv X pins σ H s) : ∀ {k : Bool} {a : Addr} {xs : List V}, SqB k X.K H a xs → ∃ its, Vals xs its ∧ Sq1 k s.heap a its.toArray
  | true, a, xs, h => by
    obtain ⟨its, rv, p, _⟩ := I.list h
    exact ⟨its, rv, p.isList⟩
  | false, a, xs, h => by
    obtain ⟨its, rv, p, _⟩ := I.tuple h
    exact ⟨its, rv, p⟩
theorem inv_sq_inj (I : Inv X pins σ H s) : ∀ {k : Bool} {a : Addr} {xs ys : List V}, SqB k X.K H a xs → SqB k X.K H a ys → xs = ys
  | true, a, xs, ys, h1, h2 => I.list_inj h1 h2
  | false, a, xs, ys, h1, h2 => I.tuple_inj h1 h2
theorem Sq1.lt : ∀ {k : Bool} {h : Heap} {l : Addr} {xs : Array Value}, Sq1 k h l xs → l < h.objs.size
  | true, _, _, _, ⟨o, e, _⟩ => Heap.lt_size e
  | false, _, _, _, ⟨o, e, _⟩ => Heap.lt_size e
end
/-- the two sequences as they stand at each turn, the items in new pairs -/
def ItzB (ka kb : Bool) (K : PySem.W.Frag) (a b : Addr) : It :=
  ⟨fun i H => ∃ (xs ys : List V) (x y : V), SqB ka K H a xs ∧ SqB kb K H b ys ∧ xs[i]? = some x ∧ ys[i]? = some y,
    fun i H v H' => ∃ T x y, v = .ref T ∧ H T = none ∧ H' = upd H T (.tup [x, y]) ∧ (∀ xs, SqB ka K H a xs → xs[i]? = some x) ∧ ∀ ys, SqB kb K H b ys → ys[i]? = some y,
    fun i H => ∃ xs ys : List V, SqB ka K H a xs ∧ SqB kb K H b ys ∧ (xs.length ≤ i ∨ ys.length ≤ i)⟩
theorem walk_zipB {ka kb : Bool} {K : PySem.W.Frag} {a b : Addr} {xs ys : List V} {n : Nat} (hn : n = min xs.length ys.length) : Walk (ItzB ka kb K a b) n (fun H => SqB ka K H a xs ∧ SqB kb K H b ys) (YPair (fun i => xs[i]?) (fun i => ys[i]?)) where
  goes i _ hi q := ⟨xs, ys, xs[i]'(by omega), ys[i]'(by omega), q.1, q.2, List.getElem?_eq_getElem _, List.getElem?_eq_getElem _⟩
  stops _ q := ⟨xs, ys, q.1, q.2, by omega⟩
  yields i H v H' _ q y := by
    obtain ⟨T, x, z, h1, h2, h3, h4, h5⟩ := y
    exact ⟨T, x, z, h1, h2, h3, h4 xs q.1, h5 ys q.2⟩
theorem turn_zipB {ka kb : Bool} {P : Program} {w : World} {K : PySem.W.Frag} {elts : List Expr} {kk : Nat} {tpos : Pos} {a b z TI TO i1 i2 : Addr} (D : ZipApart z TI TO i1 i2 a b) :
    Turn P w K (.Tuple elts kk tpos) (ItzB ka kb K a b) [z, TI, TO, i1, i2] z (fun i h => IsZip h z TI TO .none ∧ IsPair h TI (.ref i1) (.ref i2) ∧ (∃ x y, IsPair h TO x y) ∧ It1 ka h i1 a i ∧ It1 kb h i2 b i) where
  mem := by simp
  obj := fun i h st c hc => by
    obtain ⟨hz, hTI, ⟨x, y, hTO⟩, h1, h2⟩ := st
    obtain ⟨o1, e1, f1, d1⟩ := h1.obj
    obtain ⟨o2, e2, f2, d2⟩ := h2.obj
    simp only [List.mem_cons, List.not_mem_nil, or_false] at hc
    rcases hc with q | q | q | q | q
    · exact q ▸ ⟨_, hz, fun v q => nomatch q⟩
    · exact q ▸ ⟨_, hTI, fun v q => nomatch q⟩
    · exact q ▸ ⟨_, hTO, fun v q => nomatch q⟩
    · exact q ▸ ⟨o1, e1, fun v q => by rw [d1] at q; cases q⟩
    · exact q ▸ ⟨o2, e2, fun v q => by rw [d2] at q; cases q⟩
  keep := fun i h h' st k => by
    obtain ⟨hz, hTI, ⟨x, y, hTO⟩, h1, h2⟩ := st
    exact ⟨k z (by simp) _ hz, k TI (by simp) _ hTI, ⟨x, y, k TO (by simp) _ hTO⟩, h1.at fun o q => k i1 (by simp) o q, h2.at fun o q => k i2 (by simp) o q⟩
  item := by
    intro X hP hw hK hc i pins s σ H E I hf st hg
    subst hP hw hK
    obtain ⟨hz, hTI, ⟨x0, y0, hTO⟩, h1, h2⟩ := st
    obtain ⟨xs, ys, x, y, hqx, hqy, hx, hy⟩ := hg
    obtain ⟨its, rv, p⟩ := inv_sq I hqx
    obtain ⟨its2, rv2, p2⟩ := inv_sq I hqy
    obtain ⟨u, hu, ru⟩ := rv.get hx
    obtain ⟨u2, hu2, ru2⟩ := rv2.get hy
    have hzl : z < s.heap.objs.size := Heap.lt_size hz
    have hx' : its.toArray[i]? = some u := by simpa using hu
    have hy' : its2.toArray[i]? = some u2 := by simpa using hu2
    refine zip_ask (I.ok.hd hc) D hz hTI hTO h1 h2 p p2 (fun x1 y1 e1 e2 h' z' TO' h1' h2' hT lf => ?_) (fun hn => ?_)
    · rw [hx'] at e1
      rw [hy'] at e2
      cases e1
      cases e2
      refine ⟨_, rfl, wpAny_letOwnedTupleGo_zip (s := { s with heap := h' }) z' fun h'' z'' sb => ?_⟩
      have hT2 : IsPair h'' s.heap.objs.size u u2 := (sb.2 _ (Nat.ne_of_gt hzl)).trans hT
      have new : ObjOk X.prog X.w (upd H s.heap.objs.size (.tup [x, y])) h'' s.heap.objs.size (.tup [x, y]) :=
        ⟨by show 2 ≤ sizeLine; decide, [u, u2], .cons ru (.cons ru2 .nil), ⟨_, hT2, rfl, _, rfl⟩⟩
      have old : ∀ c o, c ∉ [z, TI, TO, i1, i2] → s.heap.get? c = some o → h''.get? c = some o := fun c o hb q => by
        simp only [List.mem_cons, List.not_mem_nil, or_false, not_or] at hb
        exact (sb.2 c hb.1).trans (lf c o hb.1 hb.2.2.1 hb.2.2.2.1 hb.2.2.2.2 q)
      have I1 : Inv X pins σ (upd H s.heap.objs.size (.tup [x, y])) { s with heap := h'' } := I.turnedNew (t' := s.toks) (ch := [z, TI, TO, i1, i2]) old hf (Nat.le_refl _) new
      refine ⟨.ref s.heap.objs.size, _, I1, rfl, ⟨_, x, y, rfl, I.hok.fresh (Nat.le_refl _), rfl, fun l hl => by rw [inv_sq_inj I hl hqx]; exact hx, fun l hl => by rw [inv_sq_inj I hl hqy]; exact hy⟩, ⟨z'', ?_, ⟨u, u2, ?_⟩, ?_, ?_⟩, fun c hcm => ?_⟩
      · exact (sb.2 _ D.TIz).trans (lf _ _ D.TIz D.TITO D.TIi1 D.TIi2 hTI)
      · exact (sb.2 _ D.TOz).trans TO'
      · exact h1'.at fun o q => (sb.2 _ D.i1z).trans q
      · exact h2'.at fun o q => (sb.2 _ D.i2z).trans q
      · have hlt : c < s.heap.objs.size := by
          simp only [List.mem_cons, List.not_mem_nil, or_false] at hcm
          rcases hcm with q | q | q | q | q
          · exact q ▸ hzl
          · exact q ▸ Heap.lt_size hTI
          · exact q ▸ Heap.lt_size hTO
          · exact q ▸ h1.lt
          · exact q ▸ h2.lt
        rw [upd_ne (Nat.ne_of_lt hlt)]
        exact (hf c hcm).1
    · rw [hx', hy'] at hn
      rcases hn with h | h <;> cases h
  done := by
    intro X hP hw hK hc i pins s σ H E I hf st hg
    subst hP hw hK
    obtain ⟨hz, hTI, ⟨x0, y0, hTO⟩, h1, h2⟩ := st
    obtain ⟨xs, ys, hqx, hqy, hend⟩ := hg
    obtain ⟨its, rv, p⟩ := inv_sq I hqx
    obtain ⟨its2, rv2, p2⟩ := inv_sq I hqy
    have l1 := rv.length
    have l2 := rv2.length
    refine zip_ask (I.ok.hd hc) D hz hTI hTO h1 h2 p p2 (fun x1 y1 e1 e2 => ?_) (fun _ h' lf => ⟨rfl, I.turnedL (t' := s.toks) (ch := [z, TI, TO, i1, i2]) (fun c o hb q => ?_) hf⟩)
    · have g1 : i < its.length := by
        have := (Array.getElem?_eq_some_iff.mp e1).1
        simpa using this
      have g2 : i < its2.length := by
        have := (Array.getElem?_eq_some_iff.mp e2).1
        simpa using this
      omega
    · simp only [List.mem_cons, List.not_mem_nil, or_false, not_or] at hb
      exact lf c o hb.1 hb.2.2.1 hb.2.2.2.1 hb.2.2.2.2 q
  self := fun A i s Q E st h => wpAny_pyIter_zip st.1 h
end My

set_option Elab.async false
set_option linter.all false
set_option maxRecDepth 100000
set_option maxHeartbeats 400000
/-! ### zip of a list and a tuple, called -/
namespace My
open PySem
open PySem.Sem (wp)
abbrev zA (h : Heap) (l1 : Addr) : Heap := h.push { cls := .type "list_iterator", data := .fields #[.ref l1, .int 0 0] }
abbrev zB (h : Heap) (l1 l2 : Addr) : Heap := (zA h l1).push { cls := .type "tuple_iterator", data := .fields #[.ref l2, .int 0 0] }
abbrev zC (h : Heap) (l1 l2 : Addr) : Heap := (zB h l1 l2).push { cls := .type "tuple", data := .seq #[.ref h.objs.size, .ref (zA h l1).objs.size] }
abbrev zD (h : Heap) (l1 l2 : Addr) : Heap := (zC h l1 l2).push { cls := .type "tuple", data := .seq #[.none, .none] }
abbrev zE (h : Heap) (l1 l2 : Addr) : Heap := (zD h l1 l2).push { cls := .type "zip", data := .fields #[.none, .bool false, .bool false, .ref (zB h l1 l2).objs.size, .ref (zC h l1 l2).objs.size] }
theorem meets_zipLT (l1 l2 : Addr) (xs ys : Array Value) :
    Meets (Builtin.«zip.__new__» ⟨[.type "zip", .ref l1, .ref l2], []⟩) (fun _ R s => s.heap.IsList l1 xs ∧ s.heap.IsTuple l2 ys ∧
      R (.ok (.ret (.ref (zD s.heap l1 l2).objs.size))) { s with heap := zE s.heap l1 l2 }) :=
  .of_wp fun prog w A R s h => by
    obtain ⟨hp, g, d, tk, os⟩ := s
    obtain ⟨hl1, hl2, h⟩ := h
    have hsub := sub_zip
    have hL1 : Heap.IsList (Shared.heap ⟨hp, g, d, tk, os⟩) l1 xs := hl1
    have hL2 : Heap.IsTuple (Shared.heap ⟨hp.push { cls := .type "list_iterator", data := .fields #[.ref l1, .int 0 0] }, g, d, tk, os⟩) l2 ys := Heap.IsTuple.push hl2 _
    wp_walk using wpAny_pyIter_list hL1, wpAny_pyIter_tuple hL2
    exact ⟨_, rfl, h⟩
section
variable {prog : Program} {w : World} {A : Around} {E : Value → Shared → Prop} {s : Shared}
theorem call_zipLT {l1 l2 : Addr} {xs ys : Array Value} {Q : Value → Shared → Prop} (hl1 : s.heap.IsList l1 xs) (hl2 : s.heap.IsTuple l2 ys)
    (h : ∀ h', IsZip h' (s.heap.objs.size + 4) (s.heap.objs.size + 2) (s.heap.objs.size + 3) .none → IsPair h' (s.heap.objs.size + 2) (.ref s.heap.objs.size) (.ref (s.heap.objs.size + 1)) →
      IsPair h' (s.heap.objs.size + 3) .none .none → h'.IsListIter s.heap.objs.size l1 0 → h'.IsTupleIter (s.heap.objs.size + 1) l2 0 → (∀ c o, s.heap.get? c = some o → h'.get? c = some o) → Q (.ref (s.heap.objs.size + 4)) { s with heap := h' }) :
    wpAny (model prog w) A (call (.type "zip") [.ref l1, .ref l2]) Q E s := by
  refine callType_new F.called_zip (by decide) (F.typeCall_zip_2 _ _) (F.newCall_zip_2 _ _) (fun obj => F.args_object_init_3 obj _ _) F.entry_zip_new (meets_zipLT l1 l2 xs ys) ⟨hl1, hl2, ?_⟩
  have n1 : (zA s.heap l1).objs.size = s.heap.objs.size + 1 := Heap.size_push ..
  have n2 : (zB s.heap l1 l2).objs.size = s.heap.objs.size + 2 := (Heap.size_push ..).trans (congrArg (· + 1) n1)
  have n3 : (zC s.heap l1 l2).objs.size = s.heap.objs.size + 3 := (Heap.size_push ..).trans (congrArg (· + 1) n2)
  have n4 : (zD s.heap l1 l2).objs.size = s.heap.objs.size + 4 := (Heap.size_push ..).trans (congrArg (· + 1) n3)
  have g5 : (zE s.heap l1 l2).get? (zD s.heap l1 l2).objs.size = some _ := Heap.get?_push_size _ rfl
  have g4 : (zE s.heap l1 l2).get? (zC s.heap l1 l2).objs.size = some _ := Heap.get?_push_of_some _ (Heap.get?_push_size _ rfl)
  have g3 : (zE s.heap l1 l2).get? (zB s.heap l1 l2).objs.size = some _ := Heap.get?_push_of_some _ (Heap.get?_push_of_some _ (Heap.get?_push_size _ rfl))
  have g2 : (zE s.heap l1 l2).get? (zA s.heap l1).objs.size = some _ := Heap.get?_push_of_some _ (Heap.get?_push_of_some _ (Heap.get?_push_of_some _ (Heap.get?_push_size _ rfl)))
  have g1 : (zE s.heap l1 l2).get? s.heap.objs.size = some _ := Heap.get?_push_of_some _ (Heap.get?_push_of_some _ (Heap.get?_push_of_some _ (Heap.get?_push_of_some _ (Heap.get?_push_size _ rfl))))
  show _ ∧ _
  rw [n2, n3, n4] at g5
  rw [n3] at g4
  rw [n1, n2] at g3
  rw [n1] at g2
  rw [n4]
  exact ⟨⟨_, g5, rfl⟩, h _ g5 g3 g4 ⟨_, g1, rfl, rfl⟩ ⟨_, g2, rfl, rfl⟩ fun c o x => Heap.get?_push_of_some _ (Heap.get?_push_of_some _ (Heap.get?_push_of_some _ (Heap.get?_push_of_some _ (Heap.get?_push_of_some _ x))))⟩
end
end My
namespace My
open PySem PySem.Spec PyProof.Rows L2
/-- zip of a list and a tuple -/
def iZipLT (K : PySem.W.Frag) (ta : TA) : TI := fun σ H R => ta σ H fun vs H1 => ∃ a b xs ys, vs = [.ref a, .ref b] ∧ SqB true K H1 a xs ∧ SqB false K H1 b ys ∧ R (ItzB true false K a b) H1
theorem pi_zipLT {X : Cx} {K : PySem.W.Frag} {e e2 : Expr} {ta : TA} {p pos tpos : Pos} {elts : List Expr} {kk : Nat} (hK : X.K = K) (hg : Gl X "zip") (hm : X.mg "zip" = none) (ha : PA X [e, e2] ta)
    (hs : starEach [e, e2] X.env = (false, eval e X.env) :: starEach [e2] X.env := by rfl) (hpl : (backTo pos (starEach [e2] X.env)).any (·.1) = false := by rfl) :
    PI X (.Tuple elts kk tpos) (.Call (.Name "zip" p) [e, e2] [] pos) (iZipLT K ta) := by
  subst hK
  refine ⟨fun pins s σ H R I h => ?_⟩
  refine Call_ (ld_blt I hg hm PyProof.Rows.boot_zip (PyProof.Rows.callWith_type1 (thn (ha.run pos pins s σ H _ I h) fun us s1 ⟨vs, H1, I1, r1, q1⟩ => ?_) hs hpl))
  obtain ⟨a, b, xs, ys, ex, hqx, hqy, q⟩ := q1
  subst ex
  obtain ⟨its, rv, p1⟩ := inv_sq I1 hqx
  obtain ⟨its2, rv2, p2⟩ := inv_sq I1 hqy
  cases r1 with
  | cons r rr =>
    cases rr with
    | cons r' rr =>
      cases rr
      cases r
      cases r'
      have fr : ∀ c, s1.heap.objs.size ≤ c → FpOk X pins H1 c := fun c hle => I1.fpOk hle (I1.hok.fresh hle)
      have fr5 : ∀ c, c ∈ [s1.heap.objs.size + 4, s1.heap.objs.size + 2, s1.heap.objs.size + 3, s1.heap.objs.size, s1.heap.objs.size + 1] → FpOk X pins H1 c := fun c hcm => by
        refine fr c ?_
        have e' : c = s1.heap.objs.size + 4 ∨ c = s1.heap.objs.size + 2 ∨ c = s1.heap.objs.size + 3 ∨ c = s1.heap.objs.size ∨ c = s1.heap.objs.size + 1 := by simpa using hcm
        rcases e' with z | z | z | z | z
        · rw [z]; exact Nat.le_add_right _ _
        · rw [z]; exact Nat.le_add_right _ _
        · rw [z]; exact Nat.le_add_right _ _
        · rw [z]; exact Nat.le_refl _
        · rw [z]; exact Nat.le_add_right _ _
      refine call_zipLT p1 p2 fun h' hz hTI hTO h1 h2 hk => wpAny_pyIter_zip hz ?_
      have I2 : Inv X pins σ H1 { s1 with heap := h' } := I1.kept (t' := s1.toks) hk
      have T : Turn X.prog X.w X.K (.Tuple elts kk tpos) (ItzB true false X.K a b) _ _ _ := turn_zipB (PySem.W.ktu_apart s1.heap.objs.size a b (Sq1.lt p1) (Sq1.lt p2))
      exact ⟨s1.heap.objs.size + 4, [s1.heap.objs.size + 4, s1.heap.objs.size + 2, s1.heap.objs.size + 3, s1.heap.objs.size, s1.heap.objs.size + 1], _, _, H1, rfl, I2, T, ⟨hz, hTI, ⟨_, _, hTO⟩, h1, h2⟩, fr5, q⟩
end My

set_option Elab.async false
set_option linter.all false
set_option maxRecDepth 100000
set_option maxHeartbeats 400000
/-! ### zip of a list and a row, list or tuple -/
namespace My
open PySem PySem.Spec PyProof.Rows L2
def iZipB (K : PySem.W.Frag) (ta : TA) : TI := fun σ H R => ta σ H fun vs H1 => ∃ (a b : Addr) (xs ys : List V) (k : Bool), vs = [.ref a, .ref b] ∧ SqB true K H1 a xs ∧ SqB k K H1 b ys ∧ R (ItzB true k K a b) H1
theorem pi_zipB {X : Cx} {K : PySem.W.Frag} {e e2 : Expr} {ta : TA} {p pos tpos : Pos} {elts : List Expr} {kk : Nat} (hK : X.K = K) (hg : Gl X "zip") (hm : X.mg "zip" = none) (ha : PA X [e, e2] ta)
    (hs : starEach [e, e2] X.env = (false, eval e X.env) :: starEach [e2] X.env := by rfl) (hpl : (backTo pos (starEach [e2] X.env)).any (·.1) = false := by rfl) :
    PI X (.Tuple elts kk tpos) (.Call (.Name "zip" p) [e, e2] [] pos) (iZipB K ta) := by
  subst hK
  refine ⟨fun pins s σ H R I h => ?_⟩
  refine Call_ (ld_blt I hg hm PyProof.Rows.boot_zip (PyProof.Rows.callWith_type1 (thn (ha.run pos pins s σ H _ I h) fun us s1 ⟨vs, H1, I1, r1, q1⟩ => ?_) hs hpl))
  obtain ⟨a, b, xs, ys, k, ex, hqx, hqy, q⟩ := q1
  subst ex
  obtain ⟨its, rv, p1⟩ := inv_sq I1 hqx
  obtain ⟨its2, rv2, p2⟩ := inv_sq I1 hqy
  cases r1 with
  | cons r rr =>
    cases rr with
    | cons r' rr =>
      cases rr
      cases r
      cases r'
      have fr : ∀ c, s1.heap.objs.size ≤ c → FpOk X pins H1 c := fun c hle => I1.fpOk hle (I1.hok.fresh hle)
      have fr5 : ∀ c, c ∈ [s1.heap.objs.size + 4, s1.heap.objs.size + 2, s1.heap.objs.size + 3, s1.heap.objs.size, s1.heap.objs.size + 1] → FpOk X pins H1 c := fun c hcm => by
        refine fr c ?_
        have e' : c = s1.heap.objs.size + 4 ∨ c = s1.heap.objs.size + 2 ∨ c = s1.heap.objs.size + 3 ∨ c = s1.heap.objs.size ∨ c = s1.heap.objs.size + 1 := by simpa using hcm
        rcases e' with z | z | z | z | z
        · rw [z]; exact Nat.le_add_right _ _
        · rw [z]; exact Nat.le_add_right _ _
        · rw [z]; exact Nat.le_add_right _ _
        · rw [z]; exact Nat.le_refl _
        · rw [z]; exact Nat.le_add_right _ _
      cases k with
      | false =>
        refine call_zipLT p1 p2 fun h' hz hTI hTO h1 h2 hk => wpAny_pyIter_zip hz ?_
        have I2 : Inv X pins σ H1 { s1 with heap := h' } := I1.kept (t' := s1.toks) hk
        have T : Turn X.prog X.w X.K (.Tuple elts kk tpos) (ItzB true false X.K a b) _ _ _ := turn_zipB (PySem.W.ktu_apart s1.heap.objs.size a b (Sq1.lt p1) (Sq1.lt p2))
        exact ⟨s1.heap.objs.size + 4, [s1.heap.objs.size + 4, s1.heap.objs.size + 2, s1.heap.objs.size + 3, s1.heap.objs.size, s1.heap.objs.size + 1], _, _, H1, rfl, I2, T, ⟨hz, hTI, ⟨_, _, hTO⟩, h1, h2⟩, fr5, q⟩
      | true =>
        refine call_zip_2 p1 p2 fun h' hz hTI hTO h1 h2 hsz hk => wpAny_pyIter_zip hz ?_
        have I2 : Inv X pins σ H1 { s1 with heap := h' } := I1.kept (t' := s1.toks) hk
        have T : Turn X.prog X.w X.K (.Tuple elts kk tpos) (ItzB true true X.K a b) _ _ _ := turn_zipB (PySem.W.ktu_apart s1.heap.objs.size a b (Sq1.lt p1) (Sq1.lt p2))
        exact ⟨s1.heap.objs.size + 4, [s1.heap.objs.size + 4, s1.heap.objs.size + 2, s1.heap.objs.size + 3, s1.heap.objs.size, s1.heap.objs.size + 1], _, _, H1, rfl, I2, T, ⟨hz, hTI, ⟨_, _, hTO⟩, h1, h2⟩, fr5, q⟩
end My

set_option Elab.async false
set_option linter.all false
set_option maxRecDepth 100000
set_option maxHeartbeats 4000000
/-! ### defs that show lists: they do their work where nothing is being shown -/
namespace My
open PySem PySem.Spec PyProof.Rows L2
/-- nothing is being shown around -/
def Still (A : Around) : Prop := A.guards = some []
theorem still_caller : Still callerA := rfl
theorem Still.in1 {A : Around} (g : Still A) : Still A.in1 := g
theorem Still.deeper {A : Around} {env : Env} (g : Still A) : Still (A.deeper env) := g
/-- FnOk for such an around -/
structure FnG (Pr : Program) (wd : World) (K : PySem.W.Frag) (mg : Str → Option Value) (base : Heap) (CX : CXT)
    (k : Nat) (f : Addr) (fd : FuncData) (ps : List Str) (sp : Sp) : Prop where
  len : ∀ xs H Q E, sp xs H Q E → xs.length = ps.length
  run : ∀ (A : Around) (out : List Env) (s : Shared) (H : Hp) (ar : Args) (us : List Value) (xs : List V) (Q : VK) (E : XK),
    Still A → Room k A → Env0 Pr wd K mg base A out s H → BindsTo s fd ar (ps.zip us) → Vals xs us → sp xs H Q E →
    codeAny (model Pr wd) A (.call (.ref f) ar)
      (CR CX out Pr wd H s Q E) s
theorem FnG.of {Pr : Program} {wd : World} {K : PySem.W.Frag} {mg : Str → Option Value} {base : Heap} {CX : CXT} {k : Nat} {f : Addr} {fd : FuncData} {ps : List Str} {sp : Sp}
    (F : FnOk Pr wd K mg base CX k f fd ps sp) : FnG Pr wd K mg base CX k f fd ps sp :=
  ⟨F.len, fun A out s H ar us xs Q E _ => F.run A out s H ar us xs Q E⟩
section
variable {X : Cx}
/-- repr of plain data -/
def rRepr (K : PySem.W.Frag) : List V → Hp → VK → Prop := fun xs H Q => ∃ (a : Addr) (d : PyData), xs = [.ref a] ∧ Dp K H (.ref a) d ∧ d.showable = true ∧ d.hasDict = false ∧ d.depth ≤ 60 ∧ d.shown.length ≤ sizeLine ∧ Q (.str d.shown) H
theorem call_reprD (g : Still X.A) (hu : X.A.units + 64 < cLine) : CallR X (.builtin "repr") (rRepr X.K) := by
  intro pins s σ H xs us Q I r h
  obtain ⟨a, d, rfl, hd, hs, hn, hp, hz, q⟩ := h
  cases r with
  | @cons _ u _ ur ra rr =>
    cases rr
    obtain ⟨as, rd⟩ := Dp.reads I d _ u hd ra
    cases (show u = Value.ref a from ra)
    refine repr_of_reads' rd hs (fun z => by rw [hn] at z; cases z) g (by omega) (fun _ _ e => e) (fun h' v tk hk => ?_) hz
    exact ⟨.str d.shown, H, I.kept hk, ⟨v, rfl⟩, q⟩
/-- f(e, ..) of such a def -/
theorem callG {CX : CXT} {f : Addr} {fd : FuncData} {ps : List Str} {sp : Sp} {E : XK} {k : Nat} {ds : List Value} {dvs : List V} (F : FnG X.prog X.w X.K X.mg X.base CX k f fd ps sp) (g : Still X.A) (hr : Room k X.A) (hb : Binds X.K fd ps ds) (hd : Vals dvs ds) (hx : Passes CX X E)
    {pins : List (Addr × Obj)} {σ : L2.St} {H : Hp} {s : Shared} {Q : VK} {us : List Value} {vs : List V} (I : Inv X pins σ H s) (r : Vals vs us) (h : sp (vs ++ dvs) H Q E) :
    wpAny (model X.prog X.w) X.A (call (.ref f) us) (EP X pins σ Q) X.xe s := by
  have rr : Vals (vs ++ dvs) (us ++ ds) := r.append hd
  have n : (us ++ ds).length = ps.length := rr.length.symm.trans (F.len _ _ _ _ h)
  have z := F.run X.A X.stack s H ⟨us, []⟩ (us ++ ds) (vs ++ dvs) Q E g hr I.env0 (hb s us I.kIn n) rr h
  refine wpAny_call (codeAny_mono z fun res s' q => ?_)
  match res, q with
  | .error e, q => exact hx pins σ H s e s' I q
  | .ok (.ret u), q => exact I.after q
  | .ok .next, q => exact False.elim q
  | .ok .brk, q => exact False.elim q
  | .ok .cont, q => exact False.elim q
theorem pe_callG {CX : CXT} {f : Addr} {fd : FuncData} {ps : List Str} {sp : Sp} {E : XK} {k : Nat} {ds : List Value} {dvs : List V} {x : Str} {e : Expr} {es : List Expr} {t : TA} {p pos : Pos} (F : FnG X.prog X.w X.K X.mg X.base CX k f fd ps sp) (g : Still X.A) (hr : Room k X.A) (hg : Gl X x) (hm : X.mg x = some (.ref f))
    (hk : PySem.W.keepIn X.K (.ref f) = true) (hb : Binds X.K fd ps ds) (hd : Vals dvs ds) (hx : Passes CX X E) (ha : PA X (e :: es) t)
    (hdb : (x == ("__debug__" : Str)) = false := by decide) (he : starEach (e :: es) X.env = (false, eval e X.env) :: starEach es X.env := by rfl) (hpl : (backTo pos (starEach es X.env)).any (·.1) = false := by rfl) :
    PE X (.Call (.Name x p) (e :: es) [] pos) (tCall sp dvs E t) :=
  ⟨fun pins s σ H Q I h => wpAny_Call_Name_kw (ld_glob I hg hm (PySem.W.callWith_K (h₀ := X.base) I.ok.mod.kin hk
    (thn (ha.run pos pins s σ H _ I h) fun us s1 z => by
      obtain ⟨vs, H1, I1, r, q⟩ := z
      exact ⟨I1.kIn, callG F g hr hb hd hx I1 r q⟩) he hpl) hdb)⟩
end
section
variable {Pr : Program} {wd : World} {K : PySem.W.Frag} {mg : Str → Option Value} {base : Heap}
/-- such a def by its body -/
theorem okStill {x qual : Str} {st : Stmt} {f : Addr} {fd : FuncData} {N ps : List Str} {k : Nat} {sp : Sp} (F : Fun K x qual st f fd) (S : FnScope N ps (defScope st)) (len : ∀ xs H Q E, sp xs H Q E → xs.length = ps.length)
    (body : ∀ (cdv : Value) (A : Around) (out : List Env) (s : Shared) (H : Hp) (xs : List V) (Q : VK) (E : XK), Still A → Room k (A.deeper (envOfC qual (defScope st) s.heap.objs.size f cdv)) → sp xs H Q E →
      ∃ t, PSs (cxOf CX0 Pr wd K mg base N qual (defScope st) f cdv A out s H E).nox (defBody st) t ∧ t { nx := fun _ H' => Q .non H', rt := Q } (start N xs) H) :
    FnG Pr wd K mg base CX0 (k + 1) f fd ps sp := by
  obtain ⟨oc, od, kV, doc, pm, an, cdv, ct, osl, rfl, lk, hcd⟩ := F.ex
  refine ⟨len, fun A out s H ar us xs Q E g hr e0 hb r h => ?_⟩
  have old : ∀ b o, base.get? b = some o → s.heap.get? b = some o := fun b o e => (e0.bs b o e).1
  have inK := e0.mod.kin.keeps old
  have kinds : ∀ y ∈ ps.zip us, (defScope st).names.lookup y.1 = some .local ∨
      ((defScope st).names.lookup y.1 = some .cell ∧ ((cellsFrom (s.heap.objs.size + 1) (defScope st).names []).lookup y.1).isSome = true) := by
    rintro ⟨y, z⟩ hy
    exact (S.par y (List.of_mem_zip hy).1).imp id fun c => ⟨c, PySem.W.cellsFrom_some _ _ _ (.inl c)⟩
  refine codeAny_call_function hr.depth (inK _ _ lk) rfl S.co S.gen rfl (PySem.W.codeRec_of inK hcd) (hb _ _ _ _ (wpAny_newFunctionEnv_cells S.kind kinds fun en he s1 y => ?_))
  subst he
  refine ⟨(e0.mod.nolimit.keeps old).keeps y.toInCall.keep, codeAny_func ?_⟩
  obtain ⟨t, ht, q⟩ := body cdv A out s H xs Q E g (hr.deeper _) h
  have I : Inv (cxOf CX0 Pr wd K mg base N qual (defScope st) f cdv A out s H E) [] (start N xs) H s1 :=
    inv_start S hr.hd e0 (len _ _ _ _ h) r y
  refine wpAny_mono (ht.nox.run [] s1 (start N xs) H _ I q) (fun fl s' z => ?_) fun _ _ z => z
  match fl, z with
  | .ret u, ⟨v, σ', H', J, rv, qv⟩ => exact ⟨v, H', J.os, J.bare, J.base, J.hok, rv, qv⟩
  | .next, ⟨σ', H', J, qv⟩ => exact ⟨.non, H', J.os, J.bare, J.base, J.hok, rfl, qv⟩
  | .brk, ⟨_, _, _, no⟩ => exact False.elim no
  | .cont, ⟨_, _, _, no⟩ => exact False.elim no
end
end My

set_option Elab.async false
set_option linter.all false
set_option maxRecDepth 100000
set_option maxHeartbeats 4000000
/-! ### the way in from the claim's caller, around whom nothing is being shown -/
namespace My
open PySem PySem.Spec PyProof.Rows L2
theorem lawG {Pr : Program} {wd : World} {K : PySem.W.Frag} {mg mb : Str → Option Value} {CX : CXT} {k : Nat} {fa a : Addr} {fd : FuncData} {x : Str} {sp : Sp} {s1 : Shared} {us : List Value} {ns : List Int}
    (kin : K.In s1.heap) (hns : s1.heap.Ns mainGlobals mg) (hbn : s1.heap.Ns builtinsNs mb) (hbt : ∀ y : Str, y ≠ "__name__" → mb y = bootBuiltins y) (nol : s1.heap.NoLimit) (gen0 : s1.gens = #[])
    (ha : s1.heap.get? a = some { cls := .type "list", data := .seq us.toArray }) (hints : IntsAre us ns) (len : ns.length ≤ sizeLine) (room : Room k callerA)
    (F : ∀ B : Heap, K.In B → B.Ns mainGlobals mg → FnG Pr wd K mg B CX k fa fd [x] sp) (bind : ∀ (s : Shared) (u : Value), BindsTo s fd ⟨[u], []⟩ [(x, u)])
    (keeps : ∀ H : Hp, Only H → SqL K H a (ns.map V.int) → sp [.ref a] H (fun v _ => v = .bl true) fun _ _ _ => False)
    (calm : ∀ H e s', CX [] H s1 (fun _ _ _ => False) e s' → False) :
    codeAny (model Pr wd) callerA (.call (.ref fa) ⟨[.ref a], []⟩)
      (fun r s' => r = .ok (.ret (.bool true)) ∧ OldK s1.heap s'.heap ∧ s'.os = s1.os ∧ AllBare s'.gens) s1 := by
  have rel := vals_ints hints
  -- from a heap of words in which at most the script stands, and only where it is not of the written part
  have go : ∀ H : Hp, Only H → SqL K H a (ns.map V.int) → HOk Pr wd H s1.heap → (∀ b, H b ≠ none → b = a ∧ K.lookup a = none) →
      codeAny (model Pr wd) callerA (.call (.ref fa) ⟨[.ref a], []⟩)
        (fun r s' => r = .ok (.ret (.bool true)) ∧ OldK s1.heap s'.heap ∧ s'.os = s1.os ∧ AllBare s'.gens) s1 := by
    intro H only sq ok few
    have away : ∀ {b : Addr}, ¬ (b = a ∧ K.lookup a = none) → H b = none := fun {b} z => Classical.byContradiction fun y => z (few b y)
    have kin' : K.In (hidT s1.heap H) := fun b o e => hidT_get (kin b o e) (away fun z => by
      obtain ⟨rfl, y⟩ := z
      rw [y] at e
      cases e)
    have ns' : ∀ {b : Addr} {m : Str → Option Value}, s1.heap.Ns b m → (hidT s1.heap H).Ns b m := by
      rintro b m ⟨o, es, ep, e, d, r⟩
      refine ⟨o, es, ep, hidT_get e (away ?_), d, r⟩
      rintro ⟨rfl, _⟩
      cases ha.symm.trans e
      cases d
    obtain ⟨mc, l1, l2⟩ := nol
    have env : Env0 Pr wd K mg (hidT s1.heap H) callerA [] s1 H :=
      ⟨rfl, ⟨kin', ns' hns, ⟨mb, ns' hbn, hbt⟩, mc, ns' l1, l2⟩, fun b o e => of_hidT e, Nat.le_of_eq (hidT_size _ _), trivial, fun b z => (nomatch (show b ∈ ([] : List Addr) from z)), ok, .of_eq gen0⟩
    have run := (F _ kin' (ns' hns)).run callerA [] s1 H ⟨[.ref a], []⟩ [.ref a] [.ref a] _ _ still_caller room env (bind s1 (.ref a)) (.cons rfl .nil) (keeps H only sq)
    refine codeAny_mono run fun res s' z => ?_
    match res, z with
    | .error e, z => exact (calm H e s' z).elim
    | .ok .next, z => exact False.elim z
    | .ok .brk, z => exact False.elim z
    | .ok .cont, z => exact False.elim z
    | .ok (.ret u), ⟨v, H', os, bare, un, ok', rv, qv⟩ =>
      cases (show v = .bl true from qv)
      cases (show u = Value.bool true from rv)
      refine ⟨rfl, OldK.of_keep fun b o e => ?_, os, bare⟩
      rcases only b with n | ⟨ob, ys, n⟩
      · exact un.keep b o e n (fun z => nomatch (show b ∈ ([] : List Addr) from z)) (fun z => nomatch z)
      · have e1 := (ok b _ n).1
        have e2 := (ok' b _ (un.frzs b ob _ n)).1
        cases e.symm.trans e1
        exact e2
  cases hk : K.lookup a with
  | some o =>
    cases ha.symm.trans (kin a o hk)
    refine go (fun _ => none) (fun _ => .inl rfl) (.inr ⟨_, us.toArray, _, hk, rfl, rfl, rfl, ?_, by simpa using rel⟩) (fun b u z => nomatch (show (none : Option HO) = some u from z)) fun b z => absurd rfl z
    rw [List.size_toArray, hints.length]
    exact len
  | none =>
    have here : (fun b => if b = a then some (HO.frz { cls := .type "list", data := .seq us.toArray } (.lst (ns.map V.int))) else none : Hp) a = some (HO.frz { cls := .type "list", data := .seq us.toArray } (.lst (ns.map V.int))) := if_pos rfl
    have there : ∀ {b : Addr}, b ≠ a → (fun b => if b = a then some (HO.frz { cls := .type "list", data := .seq us.toArray } (.lst (ns.map V.int))) else none : Hp) b = none := fun n => if_neg n
    generalize (fun b => if b = a then some (HO.frz { cls := .type "list", data := .seq us.toArray } (.lst (ns.map V.int))) else none : Hp) = H at here there
    have two : ∀ b : Addr, b = a ∨ H b = none := fun b => (Classical.em (b = a)).imp id there
    refine go H (fun b => ?_) (.inl (.inr ⟨_, here⟩)) (fun b u z => ?_) fun b z => ⟨(two b).resolve_right z, hk⟩
    · rcases two b with rfl | n
      · exact .inr ⟨_, _, here⟩
      · exact .inl n
    · rcases two b with rfl | n
      · cases here.symm.trans z
        exact ⟨ha, by rw [List.length_map]; exact len, us, _, rel, ha⟩
      · cases n.symm.trans z
theorem walkG {l : PySem.W.OpenLaw} {n k : Nat} {q : Program} {loose : List Str} {XP : (Str → Option Value) → Heap → Prop} {YP : World → Heap → Prop} {d : DefRec} {K : Params → PySem.W.Frag} {CX : World → CXT} {sp : World → Sp} {x : Str}
    (most : l.most = some n) (nl : n ≤ sizeLine) (nod : d.params.defaults = []) (room : Room k callerA) (hY : ∀ (wd : World) (h : Heap), YP wd h → (K wd.params).In h)
    (F : ∀ (wd : World) (mg : Str → Option Value) (fa : Addr) (h : Heap), (K wd.params).In h → h.Ns mainGlobals mg → mg d.name = some (.ref fa) →
      ∃ fd : FuncData, (∀ (s : Shared) (u : Value), BindsTo s fd ⟨[u], []⟩ [(x, u)]) ∧ ∀ B : Heap, (K wd.params).In B → B.Ns mainGlobals mg → FnG l.prog wd (K wd.params) mg B (CX wd) k fa fd [x] (sp wd))
    (keeps : ∀ (wd : World) (H : Hp) (a : Addr) (ns : List Int), ns.length ≤ n → Only H → SqL (K wd.params) H a (ns.map V.int) → sp wd [.ref a] H (fun v _ => v = .bl true) fun _ _ _ => False)
    (calm : ∀ (wd : World) (H : Hp) (s : Shared) (e : Value) (s' : Shared), CX wd [] H s (fun _ _ _ => False) e s' → False) :
    PySem.W.WalkO q loose XP YP l.row.toRowW d [] (fun f vs => PySem.call f vs) :=
  Att.attach_call most nod fun wd s0 s1 mg mb fa o pm cd doc a us ns G Y ho hd hcd hmg hobj hints len gen0 => by
    obtain ⟨fd, hb, hF⟩ := F wd mg fa _ (hY wd _ Y) G.T.g hmg
    exact lawG (hY wd _ Y) G.T.g G.T.b G.T.builtins G.T.nolimit gen0 hobj hints (Nat.le_trans len nl) room hF hb (fun H => keeps wd H a ns len) fun H e s' => calm wd H s1 e s'
end My

set_option Elab.async false
set_option linter.all false
set_option maxRecDepth 100000
set_option maxHeartbeats 1000000
/-! ### sizes, levels, blocks; how words are dealt -/
namespace My
open PySem PySem.Spec PyProof.Rows L2
def sideL : List Nat := [8, 12, 16, 20, 24]
def bitsL : List Nat := [4, 4, 8, 8, 8]
def blksL : List (List Nat) := [[4], [10, 10], [22], [19, 19], [20, 19, 19]]
def cksL : List (List Nat) := [[1, 2, 3, 3], [2, 4, 6, 8], [4, 8, 10, 12], [4, 8, 10, 12], [4, 8, 10, 12]]
def offL : List (List Nat) := [[0, 1, 3, 6], [0, 2, 6, 3], [0, 60, 120, 180], [0, 60, 120, 180], [0, 60, 120, 180]]
def bitsF (s : Nat) : Nat := bitsL.getD s 4
def blkF (s : Nat) : List Nat := blksL.getD s []
def ckF (s l : Nat) : Nat := (cksL.getD s []).getD l 0
def totF (s : Nat) : Nat := (blkF s).sum
def minF (s : Nat) : Nat := (blkF s).foldl Nat.min 1000
def ownF (s l : Nat) : Nat := minF s - ckF s l
def longF (s : Nat) : List Nat := (List.range (blkF s).length).filter fun b => decide (minF s < (blkF s).getD b 0)
def stepsF (a n c : Nat) : List Nat := (List.range n).map fun k => a + k * c
/-- the indexes of the words of a block -/
def placeF (s l b : Nat) : List Nat :=
  let many := (blkF s).length
  stepsF b (ownF s l) many ++ (if b ∈ longF s then [many * ownF s l + b] else []) ++ stepsF (many * ownF s l + (longF s).length + b) (ckF s l) many
def placesF (s l : Nat) : List (List Nat) := (List.range (blkF s).length).map (placeF s l)
/-- block and place of a word -/
def spotF (s l i : Nat) : Nat × Nat :=
  let many := (blkF s).length
  if i < many * ownF s l then (i % many, i / many)
  else if i < many * ownF s l + (longF s).length then ((longF s).getD (i - many * ownF s l) 0, ownF s l)
  else ((i - (many * ownF s l + (longF s).length)) % many, (blkF s).getD ((i - (many * ownF s l + (longF s).length)) % many) 0 - ckF s l + (i - (many * ownF s l + (longF s).length)) / many)
/-- block and place of each word, in their order -/
def orderF (s l : Nat) : List (Nat × Nat) := (List.range (totF s)).map (spotF s l)
theorem bits_wd {s : Nat} (h : s < 5) : Wd (bitsF s) := by
  have : s = 0 ∨ s = 1 ∨ s = 2 ∨ s = 3 ∨ s = 4 := by omega
  rcases this with rfl | rfl | rfl | rfl | rfl
  · exact .inl rfl
  · exact .inl rfl
  · exact .inr rfl
  · exact .inr rfl
  · exact .inr rfl
theorem blk_some {s : Nat} (h : s < 5) : blksL[s]? = some (blkF s) := by
  unfold blkF
  rw [List.getD_eq_getElem?_getD, List.getElem?_eq_getElem (by exact h)]
  rfl
theorem all20 {P : Nat → Nat → Bool} (h : ((List.range 5).all fun s => (List.range 4).all fun l => P s l) = true) {s l : Nat} (hs : s < 5) (hl : l < 4) : P s l = true :=
  List.all_eq_true.mp (List.all_eq_true.mp h s (List.mem_range.mpr hs)) l (List.mem_range.mpr hl)
theorem all5 {P : Nat → Bool} (h : ((List.range 5).all P) = true) {s : Nat} (hs : s < 5) : P s = true := List.all_eq_true.mp h s (List.mem_range.mpr hs)
theorem cr_minTK {X : Cx} {K : PySem.W.Frag} (hK : X.K = K) (hc : X.calm = true) : CallR X (.builtin "min") (rMinT K) := by
  subst hK
  exact cr_minT hc
def ofN (r : List Nat) : List (Option Nat) := r.map some
theorem ofN_v (r : List Nat) : (ofN r).map vG = r.map vN := by
  unfold ofN
  rw [List.map_map]
  rfl
def gridN (g : List (List Nat)) : Grid := g.map ofN
theorem order_at {s l i : Nat} (h : i < totF s) : (orderF s l)[i]? = some (spotF s l i) := by
  unfold orderF
  rw [List.getElem?_map, List.getElem?_range h]
  rfl
theorem order_len (s l : Nat) : (orderF s l).length = totF s := by
  unfold orderF
  rw [List.length_map, List.length_range]
def okPlaces (s l : Nat) : Bool := (List.range (blkF s).length).all fun b => (placeF s l b).length == (blkF s).getD b 0 && (List.range ((blkF s).getD b 0)).all fun c => decide ((placeF s l b).getD c 0 < totF s) && spotF s l ((placeF s l b).getD c 0) == (b, c)
def okSpots (s l : Nat) : Bool := (List.range (totF s)).all fun i => decide ((spotF s l i).1 < (blkF s).length) && decide ((spotF s l i).2 < (blkF s).getD (spotF s l i).1 0) && (placeF s l (spotF s l i).1).getD (spotF s l i).2 0 == i
theorem places_ok {s l : Nat} (hs : s < 5) (hl : l < 4) : okPlaces s l = true := all20 (P := okPlaces) (by decide +kernel) hs hl
theorem spots_ok {s l : Nat} (hs : s < 5) (hl : l < 4) : okSpots s l = true := all20 (P := okSpots) (by decide +kernel) hs hl
theorem place_len {s l b : Nat} (hs : s < 5) (hl : l < 4) (hb : b < (blkF s).length) : (placeF s l b).length = (blkF s).getD b 0 := by
  have h := List.all_eq_true.mp (places_ok hs hl) b (List.mem_range.mpr hb)
  rw [Bool.and_eq_true] at h
  exact eq_of_beq h.1
theorem place_in {s l b c : Nat} (hs : s < 5) (hl : l < 4) (hb : b < (blkF s).length) (hc : c < (blkF s).getD b 0) : (placeF s l b).getD c 0 < totF s ∧ spotF s l ((placeF s l b).getD c 0) = (b, c) := by
  have h := List.all_eq_true.mp (places_ok hs hl) b (List.mem_range.mpr hb)
  rw [Bool.and_eq_true] at h
  have h2 := List.all_eq_true.mp h.2 c (List.mem_range.mpr hc)
  rw [Bool.and_eq_true] at h2
  exact ⟨of_decide_eq_true h2.1, eq_of_beq h2.2⟩
theorem spot_in {s l i : Nat} (hs : s < 5) (hl : l < 4) (hi : i < totF s) : (spotF s l i).1 < (blkF s).length ∧ (spotF s l i).2 < (blkF s).getD (spotF s l i).1 0 ∧ (placeF s l (spotF s l i).1).getD (spotF s l i).2 0 = i := by
  have h := List.all_eq_true.mp (spots_ok hs hl) i (List.mem_range.mpr hi)
  rw [Bool.and_eq_true, Bool.and_eq_true] at h
  exact ⟨of_decide_eq_true h.1.1, of_decide_eq_true h.1.2, eq_of_beq h.2⟩
/-- the words of all blocks, in the order that they are dealt in -/
def dueF (s l : Nat) (rows : List (List Nat)) : List Nat := (orderF s l).map fun q => (rows.getD q.1 []).getD q.2 0
def RowsOk (s : Nat) (rows : List (List Nat)) : Prop := rows.map List.length = blkF s ∧ ∀ r ∈ rows, ∀ x ∈ r, x < span (bitsF s)
theorem RowsOk.len {s : Nat} {rows : List (List Nat)} (h : RowsOk s rows) : rows.length = (blkF s).length := by rw [← h.1, List.length_map]
theorem RowsOk.row {s b : Nat} {rows : List (List Nat)} (h : RowsOk s rows) (hb : b < (blkF s).length) : ∃ r, rows[b]? = some r ∧ r.length = (blkF s).getD b 0 ∧ rows.getD b [] = r ∧ ∀ x ∈ r, x < span (bitsF s) := by
  have hb2 : b < rows.length := by rw [h.len]; exact hb
  refine ⟨rows[b], List.getElem?_eq_getElem hb2, ?_, getD_in hb2, h.2 _ (List.getElem_mem hb2)⟩
  have : (blkF s)[b]? = some rows[b].length := by rw [← h.1, List.getElem?_map, List.getElem?_eq_getElem hb2]; rfl
  rw [List.getD_eq_getElem?_getD, this]
  rfl
/-- the words as far as they are dealt -/
structure DealtW (s l : Nat) (rows : List (List Nat)) (i j : Nat) (W : List (Option Nat)) : Prop where
  len : W.length = totF s
  at' : ∀ b c, (b < i ∨ (b = i ∧ c < j)) → b < (blkF s).length → c < (blkF s).getD b 0 → W[(placeF s l b).getD c 0]? = some (some ((rows.getD b []).getD c 0))
theorem DealtW.start (s l : Nat) (rows : List (List Nat)) : DealtW s l rows 0 0 (List.replicate (totF s) none) where
  len := List.length_replicate
  at' b c h := by omega
theorem DealtW.step {s l i j : Nat} {rows : List (List Nat)} {W : List (Option Nat)} (hs : s < 5) (hl : l < 4) (hi : i < (blkF s).length) (hj : j < (blkF s).getD i 0) (h : DealtW s l rows i j W) :
    DealtW s l rows i (j + 1) (W.set ((placeF s l i).getD j 0) (some ((rows.getD i []).getD j 0))) where
  len := by rw [List.length_set]; exact h.len
  at' b c hh hb hc := by
    have p1 := place_in hs hl hi hj
    have p2 := place_in hs hl hb hc
    by_cases e : (placeF s l i).getD j 0 = (placeF s l b).getD c 0
    · have e2 : (i, j) = (b, c) := by rw [← p1.2, ← p2.2, e]
      cases e2
      rw [List.getElem?_set_self (by rw [h.len]; exact p1.1)]
    · rw [List.getElem?_set_ne e]
      refine h.at' b c ?_ hb hc
      rcases hh with q | ⟨rfl, q⟩
      · exact .inl q
      · by_cases ec : c = j
        · subst ec
          exact absurd rfl e
        · exact .inr ⟨rfl, by omega⟩
theorem DealtW.next {s l i j : Nat} {rows : List (List Nat)} {W : List (Option Nat)} (hj : (blkF s).getD i 0 ≤ j) (h : DealtW s l rows i j W) : DealtW s l rows (i + 1) 0 W where
  len := h.len
  at' b c hh hb hc := by
    refine h.at' b c ?_ hb hc
    rcases hh with q | ⟨rfl, q⟩
    · by_cases e : b = i
      · subst e
        exact .inr ⟨rfl, by omega⟩
      · exact .inl (by omega)
    · omega
theorem DealtW.done {s l : Nat} {rows : List (List Nat)} {W : List (Option Nat)} (hs : s < 5) (hl : l < 4) (h : DealtW s l rows (blkF s).length 0 W) : W = ofN (dueF s l rows) := by
  refine List.ext_getElem? fun i => ?_
  by_cases hi : i < totF s
  · obtain ⟨q1, q2, q3⟩ := spot_in hs hl hi
    have := h.at' _ _ (.inl q1) q1 q2
    rw [q3] at this
    rw [this]
    unfold ofN dueF
    rw [List.getElem?_map, List.getElem?_map, order_at hi]
    rfl
  · rw [List.getElem?_eq_none (by rw [h.len]; omega), List.getElem?_eq_none]
    unfold ofN dueF
    rw [List.length_map, List.length_map, order_len]
    omega
theorem rep1 {α : Type} (v : α) : ∀ n : Nat, (List.replicate n [v]).flatten = List.replicate n v
  | 0 => rfl
  | n + 1 => by
    rw [List.replicate_succ, List.flatten_cons, rep1 v n]
    rfl
theorem refs_ne {L : List Addr} {n : Nat} (h : 0 < n) : L.map V.ref ≠ List.replicate n V.non := by
  intro e
  cases n with
  | zero => omega
  | succ n =>
    cases L with
    | nil => cases e
    | cons a L => exact nomatch (List.cons.inj e).1
theorem words_ne {r : List Nat} {n : Nat} (h : 0 < n) : r.map vN ≠ List.replicate n V.non := by
  intro e
  cases n with
  | zero => omega
  | succ n =>
    cases r with
    | nil => cases e
    | cons a L => exact nomatch (List.cons.inj e).1
theorem tot_pos {s : Nat} (hs : s < 5) : 0 < totF s := of_decide_eq_true (all5 (P := fun s => decide (0 < totF s)) (by decide +kernel) hs)
theorem pi_enumK {X : Cx} {K : PySem.W.Frag} {e : Expr} {ta : TA} {p pos tpos : Pos} {elts : List Expr} {kk : Nat} (hK : X.K = K) (hg : Gl X "enumerate") (hm : X.mg "enumerate" = none) (ha : PA X [e] ta) (hs : starEach [e] X.env = [(false, eval e X.env)] := by rfl) :
    PI X (.Tuple elts kk tpos) (.Call (.Name "enumerate" p) [e] [] pos) (iEnumS K ta) := by
  subst hK
  exact pi_enumS hg hm ha hs
end My

set_option Elab.async false
set_option linter.all false
set_option maxRecDepth 100000
set_option maxHeartbeats 1000000
/-! ### the law's order of all places, by sorted() -/
namespace My
open PySem PySem.Spec PyProof.Rows L2
def chkI (s l : Nat) (q : Nat × Nat) : Int := if decide (((blkF s).getD q.1 0 : Int) - (ckF s l : Int) ≤ (q.2 : Int)) = true then 1 else 0
def keyI (s l : Nat) (q : Nat × Nat) : List Int := [chkI s l q, (q.2 : Int) - (((blkF s).getD q.1 0 : Int) - (ckF s l : Int)) * chkI s l q, (q.1 : Int), (q.2 : Int)]
/-- the places of the first blocks, block by block -/
def genP (s : Nat) : Nat → List (Nat × Nat)
  | 0 => []
  | i + 1 => genP s i ++ (List.range ((blkF s).getD i 0)).map fun j => (i, j)
def allP (s : Nat) : List (Nat × Nat) := genP s (blkF s).length
def okOrder (s l : Nat) : Bool := (orderF s l).isPerm (allP s) && decide ((orderF s l).Pairwise fun a b => TS.code 64 (keyI s l a) ≤ TS.code 64 (keyI s l b)) && (allP s).all fun q => decide (q.1 < 3) && decide (q.2 < 22) && (keyI s l q).all fun m => decide (0 ≤ m) && decide (m < 64)
theorem order_ok {s l : Nat} (hs : s < 5) (hl : l < 4) : okOrder s l = true := all20 (P := okOrder) (by decide +kernel) hs hl
theorem code_eq {s l : Nat} {a b : Nat × Nat} (a1 : a.1 < 3) (a2 : a.2 < 22) (b1 : b.1 < 3) (b2 : b.2 < 22) (h : TS.code 64 (keyI s l a) = TS.code 64 (keyI s l b)) : a = b := by
  obtain ⟨x, y⟩ := a
  obtain ⟨u, v⟩ := b
  unfold keyI TS.code TS.code TS.code TS.code TS.code at h
  generalize chkI s l (x, y) = c1 at h
  generalize chkI s l (u, v) = c2 at h
  generalize ((x, y).2 : Int) - (((blkF s).getD (x, y).1 0 : Int) - (ckF s l : Int)) * c1 = d1 at h
  generalize ((u, v).2 : Int) - (((blkF s).getD (u, v).1 0 : Int) - (ckF s l : Int)) * c2 = d2 at h
  simp at h a1 a2 b1 b2
  have e1 : x = u := by omega
  have e2 : y = v := by omega
  rw [e1, e2]
structure KeysAt (H : Hp) (ts : List Addr) (s l : Nat) (qs : List (Nat × Nat)) : Prop where
  len : ts.length = qs.length
  at' : ∀ (k : Nat) (t : Addr) (q : Nat × Nat), ts[k]? = some t → qs[k]? = some q → H t = some (.tup ((keyI s l q).map V.int))
theorem key_inj {s l : Nat} {a b : Nat × Nat} (h : (keyI s l a).map V.int = (keyI s l b).map V.int) : a = b := by
  obtain ⟨x, y⟩ := a
  obtain ⟨u, v⟩ := b
  unfold keyI at h
  simp at h
  obtain ⟨_, _, h1, h2⟩ := h
  rw [Int.ofNat.inj h1, Int.ofNat.inj h2]
theorem order_mem {s l : Nat} (hs : s < 5) (hl : l < 4) {q : Nat × Nat} (h : q ∈ allP s) : q.1 < 3 ∧ q.2 < 22 ∧ TS.Bd 64 (keyI s l q) := by
  have o := order_ok hs hl
  unfold okOrder at o
  rw [Bool.and_eq_true, Bool.and_eq_true] at o
  have h2 := List.all_eq_true.mp o.2 q h
  rw [Bool.and_eq_true, Bool.and_eq_true] at h2
  refine ⟨of_decide_eq_true h2.1.1, of_decide_eq_true h2.1.2, fun m hm => ?_⟩
  have h3 := List.all_eq_true.mp h2.2 m hm
  rw [Bool.and_eq_true] at h3
  exact ⟨of_decide_eq_true h3.1, of_decide_eq_true h3.2⟩
open Classical in
theorem sorted_is {K : PySem.W.Frag} {H : Hp} {ts : List Addr} {s l : Nat} {ys : List V} (hs : s < 5) (hl : l < 4) (h : KeysAt H ts s l (allP s)) (hp : ys.Perm (ts.map V.ref))
    (hw : ys.Pairwise fun x y => ∀ n m, TupI K H x n → TupI K H y m → TS.code 64 n ≤ TS.code 64 m) :
    ys.length = totF s ∧ ∀ i, i < totF s → ∃ t, ys[i]? = some (V.ref t) ∧ H t = some (.tup ((keyI s l (spotF s l i)).map V.int)) := by
  have o := order_ok hs hl
  unfold okOrder at o
  rw [Bool.and_eq_true, Bool.and_eq_true] at o
  have o1 : (orderF s l).Perm (allP s) := List.isPerm_iff.mp o.1.1
  have o2 := of_decide_eq_true o.1.2
  let Good : V → Nat × Nat → Prop := fun y q => q ∈ allP s ∧ ∃ t, y = V.ref t ∧ H t = some (.tup ((keyI s l q).map V.int))
  have uniq : ∀ y a b, Good y a → Good y b → a = b := by
    rintro y a b ⟨_, t, rfl, h1⟩ ⟨_, t', e, h2⟩
    cases e
    rw [h1] at h2
    exact key_inj (HO.tup.inj (Option.some.inj h2))
  have good : ∀ (k : Nat) (t : Addr), ts[k]? = some t → ∃ q, (allP s)[k]? = some q ∧ Good (V.ref t) q := fun k t e => by
    have hk := (List.getElem?_eq_some_iff.mp e).1
    rw [h.len] at hk
    have e2 : (allP s)[k]? = some (allP s)[k] := List.getElem?_eq_getElem hk
    exact ⟨_, e2, List.getElem_mem hk, t, rfl, h.at' k t _ e e2⟩
  let f : V → Nat × Nat := fun y => if c : ∃ q, Good y q then choose c else (0, 0)
  have hf : ∀ y, (∃ q, Good y q) → Good y (f y) := fun y c => by
    show Good y (if c : ∃ q, Good y q then choose c else (0, 0))
    rw [dif_pos c]
    exact choose_spec c
  have hin : ∀ y, y ∈ ys → Good y (f y) := fun y hy => by
    obtain ⟨t, ht, rfl⟩ := List.mem_map.mp (hp.mem_iff.mp hy)
    obtain ⟨k, hk, e⟩ := List.getElem_of_mem ht
    obtain ⟨q, _, g⟩ := good k t (by rw [List.getElem?_eq_getElem hk, e])
    exact hf _ ⟨q, g⟩
  have hfm : (ts.map V.ref).map f = allP s := by
    refine List.ext_getElem? fun k => ?_
    rw [List.getElem?_map, List.getElem?_map]
    cases e : ts[k]? with
    | none =>
      have hk := List.getElem?_eq_none_iff.mp e
      rw [List.getElem?_eq_none (by rw [← h.len]; exact hk)]
      rfl
    | some t =>
      obtain ⟨q, e2, g⟩ := good k t e
      rw [e2]
      exact congrArg some (uniq _ _ _ (hf _ ⟨q, g⟩) g)
  have p1 : (ys.map f).Perm (allP s) := by
    rw [← hfm]
    exact hp.map f
  have w1 : (ys.map f).Pairwise fun a b => TS.code 64 (keyI s l a) ≤ TS.code 64 (keyI s l b) := by
    rw [List.pairwise_map]
    refine List.Pairwise.imp_of_mem (fun {x y} hx hy q => ?_) hw
    obtain ⟨_, t, ex, gx⟩ := hin x hx
    obtain ⟨_, u, ey, gy⟩ := hin y hy
    exact q _ _ ⟨t, ex, .inl (.inl gx)⟩ ⟨u, ey, .inl (.inl gy)⟩
  have eq : ys.map f = orderF s l := by
    refine List.Perm.eq_of_pairwise (fun a b ha hb h1 h2 => ?_) w1 o2 (p1.trans o1.symm)
    have ma := order_mem hs hl (p1.mem_iff.mp ha)
    have mb := order_mem hs hl (o1.mem_iff.mp hb)
    exact code_eq ma.1 ma.2.1 mb.1 mb.2.1 (Int.le_antisymm h1 h2)
  have len : ys.length = totF s := by
    have := congrArg List.length eq
    rw [List.length_map, order_len] at this
    exact this
  refine ⟨len, fun i hi => ?_⟩
  have e1 : ys[i]? = some (ys[i]'(by omega)) := List.getElem?_eq_getElem _
  have e2 : (ys.map f)[i]? = some (spotF s l i) := by
    rw [eq]
    exact order_at hi
  rw [List.getElem?_map, e1] at e2
  have e3 : f (ys[i]'(by omega)) = spotF s l i := Option.some.inj e2
  obtain ⟨_, t, ey, gy⟩ := hin _ (List.getElem_mem (by omega : i < ys.length))
  rw [e3] at gy
  exact ⟨t, by rw [e1, ey], gy⟩
theorem gen_len (s : Nat) : ∀ i, (genP s (i + 1)).length = (genP s i).length + (blkF s).getD i 0 := fun i => by
  show (genP s i ++ _).length = _
  rw [List.length_append, List.length_map, List.length_range]
theorem all_len {s : Nat} (hs : s < 5) : (allP s).length ≤ 58 := of_decide_eq_true (all5 (P := fun s => decide ((allP s).length ≤ 58)) (by decide +kernel) hs)
theorem gen_le {s : Nat} : ∀ {i j : Nat}, i ≤ j → (genP s i).length ≤ (genP s j).length
  | i, 0, h => by
    have : i = 0 := by omega
    subst this
    exact Nat.le_refl _
  | i, j + 1, h => by
    by_cases e : i = j + 1
    · subst e; exact Nat.le_refl _
    · have := gen_le (s := s) (i := i) (j := j) (by omega)
      rw [gen_len]
      omega
theorem KeysAt.push {H H2 : Hp} {ts : List Addr} {s l : Nat} {qs : List (Nat × Nat)} {q : Nat × Nat} {F u : Addr} {xs : List V} {o : HO} (h : KeysAt H ts s l qs) (sm : Same H H2) (gF : H2 F = some (.lst xs)) (gu : H2 u = some (.tup ((keyI s l q).map V.int))) :
    KeysAt (upd H2 F o) (ts ++ [u]) s l (qs ++ [q]) where
  len := by rw [List.length_append, List.length_append, h.len]; rfl
  at' k t r e1 e2 := by
    have tn : ∀ {t : Addr} {ys : List V}, H2 t = some (.tup ys) → t ≠ F := fun e z => by rw [z, gF] at e; cases e
    by_cases c : k < ts.length
    · rw [List.getElem?_append_left c] at e1
      rw [List.getElem?_append_left (by rw [← h.len]; exact c)] at e2
      have g := sm _ _ (h.at' k t r e1 e2)
      rw [upd_ne (tn g)]
      exact g
    · have hk := (List.getElem?_eq_some_iff.mp e1).1
      rw [List.length_append] at hk
      have ek : k = ts.length := by simp at hk; omega
      subst ek
      rw [List.getElem?_append_right (Nat.le_refl _), Nat.sub_self] at e1
      rw [h.len, List.getElem?_append_right (Nat.le_refl _), Nat.sub_self] at e2
      cases e1
      cases e2
      rw [upd_ne (tn gu)]
      exact gu
theorem KeysAt.same {H H2 : Hp} {ts : List Addr} {s l : Nat} {qs : List (Nat × Nat)} (h : KeysAt H ts s l qs) (sm : Same H H2) : KeysAt H2 ts s l qs := ⟨h.len, fun k t q e1 e2 => sm _ _ (h.at' k t q e1 e2)⟩
/-- four values the other way round -/
def rev4 {α : Type} : List α → List α
  | [a, b, c, d] => [d, c, b, a]
  | l => l
theorem rev4_rel {zs : List V} {ws : List Value} (r : Vals zs ws) : Vals (rev4 zs) (rev4 ws) := by
  cases r with
  | nil => exact .nil
  | cons r1 r =>
    cases r with
    | nil => exact .cons r1 .nil
    | cons r2 r =>
      cases r with
      | nil => exact .cons r1 (.cons r2 .nil)
      | cons r3 r =>
        cases r with
        | nil => exact .cons r1 (.cons r2 (.cons r3 .nil))
        | cons r4 r =>
          cases r with
          | nil => exact .cons r4 (.cons r3 (.cons r2 (.cons r1 .nil)))
          | cons r5 r => exact .cons r1 (.cons r2 (.cons r3 (.cons r4 (.cons r5 r))))
theorem text_le : ∀ (ts : List Str) (k : Nat) (acc : Str), (textFrom k acc ts).length ≤ acc.length + (ts.map fun t => t.length + 2).sum
  | [], _, acc => Nat.le_refl _
  | t :: r, k, acc => by
    have h := text_le r (k + 1) (acc ++ (if k > 0 then ", " else "" : String) ++ t)
    have e : (acc ++ (if k > 0 then ", " else "" : String) ++ t).length = acc.length + (if k > 0 then 2 else 0) + t.length := by
      rw [strLen_append, strLen_append]
      split <;> rfl
    rw [e] at h
    have d : (if k > 0 then 2 else 0 : Nat) ≤ 2 := by split <;> decide
    show (textFrom (k + 1) _ r).length ≤ acc.length + (List.map (fun t => t.length + 2) (t :: r)).sum
    rw [List.map_cons, List.sum_cons]
    omega
theorem list_le {ts : List Str} {m : Nat} (h : ∀ t ∈ ts, t.length ≤ m) : (listText ts).length ≤ 2 + ts.length * (m + 2) := by
  unfold listText
  rw [strLen_append]
  have h1 := text_le ts 0 "["
  have h2 : (ts.map fun t => t.length + 2).sum ≤ ts.length * (m + 2) := by
    clear h1
    induction ts with
    | nil => exact Nat.zero_le _
    | cons t r ih =>
      rw [List.map_cons, List.sum_cons, List.length_cons, Nat.succ_mul]
      have a := h t (List.mem_cons_self ..)
      have b := ih fun u hu => h u (List.mem_cons_of_mem _ hu)
      omega
  have h3 : (Str.ofString "[").length = 1 := rfl
  have h4 : (Str.ofString "]").length = 1 := rfl
  omega
theorem shownAll_map : ∀ ds : List PyData, PyData.shownAll ds = ds.map PyData.shown
  | [] => rfl
  | d :: r => by
    show PyData.shown d :: PyData.shownAll r = _
    rw [shownAll_map r]
    rfl
theorem int_shown {n : Nat} (h : n < 256) : (PyData.shown (dI n)).length ≤ 3 := by
  have q : ((List.range 256).all fun n => decide ((PyData.shown (dI n)).length ≤ 3)) = true := by decide +kernel
  exact of_decide_eq_true (List.all_eq_true.mp q n (List.mem_range.mpr h))
theorem grid_shown {rows : List (List Nat)} (h3 : rows.length ≤ 3) (h : ∀ r ∈ rows, r.length ≤ 22 ∧ ∀ x ∈ r, x < 256) : (PyData.shown (dGr (gridN rows))).length ≤ 400 := by
  have e : PyData.shown (dGr (gridN rows)) = listText (((gridN rows).map dRow).map PyData.shown) := by
    rw [← shownAll_map]
    rfl
  rw [e]
  have l : ∀ t ∈ ((gridN rows).map dRow).map PyData.shown, t.length ≤ 112 := by
    intro t ht
    obtain ⟨d, hd, rfl⟩ := List.mem_map.mp ht
    obtain ⟨g, hg, rfl⟩ := List.mem_map.mp hd
    obtain ⟨r, hr, rfl⟩ := List.mem_map.mp hg
    have hh := h r hr
    have e2 : PyData.shown (dRow (ofN r)) = listText (((ofN r).map dG).map PyData.shown) := by
      rw [← shownAll_map]
      rfl
    rw [e2]
    have l2 := list_le (ts := ((ofN r).map dG).map PyData.shown) (m := 3) fun t ht => by
      obtain ⟨d, hd, rfl⟩ := List.mem_map.mp ht
      obtain ⟨o, ho, rfl⟩ := List.mem_map.mp hd
      obtain ⟨x, hx, rfl⟩ := List.mem_map.mp ho
      exact int_shown (hh.2 x hx)
    unfold ofN at l2 ⊢
    rw [List.length_map, List.length_map, List.length_map] at l2
    omega
  have l3 := list_le l
  unfold gridN at l3 ⊢
  rw [List.length_map, List.length_map, List.length_map] at l3
  omega
theorem dRow_show : ∀ r : List Nat, (∀ x ∈ r, x < 256) → PyData.showableAll ((ofN r).map dG) = true
  | [], _ => rfl
  | x :: r, h => by
    have hx := h x (List.mem_cons_self ..)
    have q : ((List.range 256).all fun n => (dI n).showable) = true := by decide +kernel
    have q2 : (dI x).showable = true := List.all_eq_true.mp q x (List.mem_range.mpr hx)
    show ((dI x).showable && PyData.showableAll ((ofN r).map dG)) = true
    rw [q2, dRow_show r fun y hy => h y (List.mem_cons_of_mem _ hy)]
    rfl
theorem dGr_show : ∀ rows : List (List Nat), (∀ r ∈ rows, ∀ x ∈ r, x < 256) → PyData.showableAll ((gridN rows).map dRow) = true
  | [], _ => rfl
  | r :: rows, h => by
    show (PyData.showableAll ((ofN r).map dG) && PyData.showableAll ((gridN rows).map dRow)) = true
    rw [dRow_show r (h r (List.mem_cons_self ..)), dGr_show rows fun q hq => h q (List.mem_cons_of_mem _ hq)]
    rfl
theorem dRow_dict : ∀ r : List (Option Nat), PyData.hasDictAll (r.map dG) = false
  | [] => rfl
  | o :: r => by
    show (PyData.hasDict (dG o) || PyData.hasDictAll (r.map dG)) = false
    rw [dRow_dict r]
    cases o <;> rfl
theorem dGr_dict : ∀ g : Grid, PyData.hasDictAll (g.map dRow) = false
  | [] => rfl
  | r :: g => by
    show (PyData.hasDictAll (r.map dG) || PyData.hasDictAll (g.map dRow)) = false
    rw [dRow_dict r, dGr_dict g]
    rfl
theorem grid_reprs {K : PySem.W.Frag} {H : Hp} {a : Addr} {rows : List (List Nat)} (g : GrB true K H a (gridN rows)) (h3 : rows.length ≤ 3) (h : ∀ r ∈ rows, r.length ≤ 22 ∧ ∀ x ∈ r, x < 256) :
    Dp K H (.ref a) (dGr (gridN rows)) ∧ (dGr (gridN rows)).showable = true ∧ (dGr (gridN rows)).hasDict = false ∧ (dGr (gridN rows)).depth ≤ 60 ∧ (dGr (gridN rows)).shown.length ≤ sizeLine := by
  refine ⟨g.dp, dGr_show rows fun r hr => (h r hr).2, dGr_dict _, ?_, Nat.le_trans (grid_shown h3 h) (by decide)⟩
  have := dRow_depth (gridN rows)
  show PyData.depthAll ((gridN rows).map dRow) + 1 ≤ 60
  omega
end My

set_option Elab.async false
set_option linter.all false
set_option maxRecDepth 100000
set_option maxHeartbeats 1000000
/-! ### the way through the word dots; grids with dots turned -/
namespace My
open PySem PySem.Spec PyProof.Rows L2
def spA (m a : Nat) : Nat × Nat := (1 + a / (m - 2), 1 + a % (m - 2))
def spB (m a : Nat) : Nat × Nat := (m - 2 - a % (m - 2), 1 + a / (m - 2))
def ribA (m i : Nat) : List (Nat × Nat) := ((List.range i).map (spA m)).take 10
def ribB (m i : Nat) : List (Nat × Nat) := (((List.range i).map (spB m)).filter fun q => !(ribA m ((m - 2) * (m - 2))).contains q).take 10
/-- the dots of the ribbons -/
def usedF (m : Nat) : List (Nat × Nat) := ribA m ((m - 2) * (m - 2)) ++ ribB m ((m - 2) * (m - 2))
def rowW (m b k : Nat) : Nat := if b % 2 = 0 then m - 2 - k else 1 + k
def cellsW (u : List (Nat × Nat)) (m b k : Nat) : List (Nat × Nat) := [(rowW m b k, m - 2 - 2 * b), (rowW m b k, m - 3 - 2 * b)].filter fun q => !u.contains q
def wayTo (u : List (Nat × Nat)) (m b k : Nat) : List (Nat × Nat) := ((List.range b).flatMap fun b => (List.range (m - 2)).flatMap (cellsW u m b)) ++ (List.range k).flatMap (cellsW u m b)
def wayF (m : Nat) : List (Nat × Nat) := wayTo (usedF m) m ((m - 2) / 2) 0
def sdF (s : Nat) : Nat := sideL.getD s 0
def ptF (s : Nat) : Nat := [16, 80, 176, 304, 464].getD s 0
def usedL : List (List (Nat × Nat)) := [[(1, 1), (1, 2), (1, 3), (1, 4), (1, 5), (1, 6), (2, 1), (2, 2), (2, 3), (2, 4), (6, 1), (5, 1), (4, 1), (3, 1), (6, 2), (5, 2), (4, 2), (3, 2), (6, 3), (5, 3)], [(1, 1), (1, 2), (1, 3), (1, 4), (1, 5), (1, 6), (1, 7), (1, 8), (1, 9), (1, 10), (10, 1), (9, 1), (8, 1), (7, 1), (6, 1), (5, 1), (4, 1), (3, 1), (2, 1), (10, 2)], [(1, 1), (1, 2), (1, 3), (1, 4), (1, 5), (1, 6), (1, 7), (1, 8), (1, 9), (1, 10), (14, 1), (13, 1), (12, 1), (11, 1), (10, 1), (9, 1), (8, 1), (7, 1), (6, 1), (5, 1)], [(1, 1), (1, 2), (1, 3), (1, 4), (1, 5), (1, 6), (1, 7), (1, 8), (1, 9), (1, 10), (18, 1), (17, 1), (16, 1), (15, 1), (14, 1), (13, 1), (12, 1), (11, 1), (10, 1), (9, 1)], [(1, 1), (1, 2), (1, 3), (1, 4), (1, 5), (1, 6), (1, 7), (1, 8), (1, 9), (1, 10), (22, 1), (21, 1), (20, 1), (19, 1), (18, 1), (17, 1), (16, 1), (15, 1), (14, 1), (13, 1)]]
def wayL : List (List (Nat × Nat)) := [[(6, 6), (6, 5), (5, 6), (5, 5), (4, 6), (4, 5), (3, 6), (3, 5), (2, 6), (2, 5), (3, 4), (3, 3), (4, 4), (4, 3), (5, 4), (6, 4)], [(10, 10), (10, 9), (9, 10), (9, 9), (8, 10), (8, 9), (7, 10), (7, 9), (6, 10), (6, 9), (5, 10), (5, 9), (4, 10), (4, 9), (3, 10), (3, 9), (2, 10), (2, 9), (2, 8), (2, 7), (3, 8), (3, 7), (4, 8), (4, 7), (5, 8), (5, 7), (6, 8), (6, 7), (7, 8), (7, 7), (8, 8), (8, 7), (9, 8), (9, 7), (10, 8), (10, 7), (10, 6), (10, 5), (9, 6), (9, 5), (8, 6), (8, 5), (7, 6), (7, 5), (6, 6), (6, 5), (5, 6), (5, 5), (4, 6), (4, 5), (3, 6), (3, 5), (2, 6), (2, 5), (2, 4), (2, 3), (3, 4), (3, 3), (4, 4), (4, 3), (5, 4), (5, 3), (6, 4), (6, 3), (7, 4), (7, 3), (8, 4), (8, 3), (9, 4), (9, 3), (10, 4), (10, 3), (9, 2), (8, 2), (7, 2), (6, 2), (5, 2), (4, 2), (3, 2), (2, 2)], [(14, 14), (14, 13), (13, 14), (13, 13), (12, 14), (12, 13), (11, 14), (11, 13), (10, 14), (10, 13), (9, 14), (9, 13), (8, 14), (8, 13), (7, 14), (7, 13), (6, 14), (6, 13), (5, 14), (5, 13), (4, 14), (4, 13), (3, 14), (3, 13), (2, 14), (2, 13), (1, 14), (1, 13), (1, 12), (1, 11), (2, 12), (2, 11), (3, 12), (3, 11), (4, 12), (4, 11), (5, 12), (5, 11), (6, 12), (6, 11), (7, 12), (7, 11), (8, 12), (8, 11), (9, 12), (9, 11), (10, 12), (10, 11), (11, 12), (11, 11), (12, 12), (12, 11), (13, 12), (13, 11), (14, 12), (14, 11), (14, 10), (14, 9), (13, 10), (13, 9), (12, 10), (12, 9), (11, 10), (11, 9), (10, 10), (10, 9), (9, 10), (9, 9), (8, 10), (8, 9), (7, 10), (7, 9), (6, 10), (6, 9), (5, 10), (5, 9), (4, 10), (4, 9), (3, 10), (3, 9), (2, 10), (2, 9), (2, 8), (2, 7), (3, 8), (3, 7), (4, 8), (4, 7), (5, 8), (5, 7), (6, 8), (6, 7), (7, 8), (7, 7), (8, 8), (8, 7), (9, 8), (9, 7), (10, 8), (10, 7), (11, 8), (11, 7), (12, 8), (12, 7), (13, 8), (13, 7), (14, 8), (14, 7), (14, 6), (14, 5), (13, 6), (13, 5), (12, 6), (12, 5), (11, 6), (11, 5), (10, 6), (10, 5), (9, 6), (9, 5), (8, 6), (8, 5), (7, 6), (7, 5), (6, 6), (6, 5), (5, 6), (5, 5), (4, 6), (4, 5), (3, 6), (3, 5), (2, 6), (2, 5), (2, 4), (2, 3), (3, 4), (3, 3), (4, 4), (4, 3), (5, 4), (5, 3), (6, 4), (6, 3), (7, 4), (7, 3), (8, 4), (8, 3), (9, 4), (9, 3), (10, 4), (10, 3), (11, 4), (11, 3), (12, 4), (12, 3), (13, 4), (13, 3), (14, 4), (14, 3), (14, 2), (13, 2), (12, 2), (11, 2), (10, 2), (9, 2), (8, 2), (7, 2), (6, 2), (5, 2), (4, 2), (4, 1), (3, 2), (3, 1), (2, 2), (2, 1)], [(18, 18), (18, 17), (17, 18), (17, 17), (16, 18), (16, 17), (15, 18), (15, 17), (14, 18), (14, 17), (13, 18), (13, 17), (12, 18), (12, 17), (11, 18), (11, 17), (10, 18), (10, 17), (9, 18), (9, 17), (8, 18), (8, 17), (7, 18), (7, 17), (6, 18), (6, 17), (5, 18), (5, 17), (4, 18), (4, 17), (3, 18), (3, 17), (2, 18), (2, 17), (1, 18), (1, 17), (1, 16), (1, 15), (2, 16), (2, 15), (3, 16), (3, 15), (4, 16), (4, 15), (5, 16), (5, 15), (6, 16), (6, 15), (7, 16), (7, 15), (8, 16), (8, 15), (9, 16), (9, 15), (10, 16), (10, 15), (11, 16), (11, 15), (12, 16), (12, 15), (13, 16), (13, 15), (14, 16), (14, 15), (15, 16), (15, 15), (16, 16), (16, 15), (17, 16), (17, 15), (18, 16), (18, 15), (18, 14), (18, 13), (17, 14), (17, 13), (16, 14), (16, 13), (15, 14), (15, 13), (14, 14), (14, 13), (13, 14), (13, 13), (12, 14), (12, 13), (11, 14), (11, 13), (10, 14), (10, 13), (9, 14), (9, 13), (8, 14), (8, 13), (7, 14), (7, 13), (6, 14), (6, 13), (5, 14), (5, 13), (4, 14), (4, 13), (3, 14), (3, 13), (2, 14), (2, 13), (1, 14), (1, 13), (1, 12), (1, 11), (2, 12), (2, 11), (3, 12), (3, 11), (4, 12), (4, 11), (5, 12), (5, 11), (6, 12), (6, 11), (7, 12), (7, 11), (8, 12), (8, 11), (9, 12), (9, 11), (10, 12), (10, 11), (11, 12), (11, 11), (12, 12), (12, 11), (13, 12), (13, 11), (14, 12), (14, 11), (15, 12), (15, 11), (16, 12), (16, 11), (17, 12), (17, 11), (18, 12), (18, 11), (18, 10), (18, 9), (17, 10), (17, 9), (16, 10), (16, 9), (15, 10), (15, 9), (14, 10), (14, 9), (13, 10), (13, 9), (12, 10), (12, 9), (11, 10), (11, 9), (10, 10), (10, 9), (9, 10), (9, 9), (8, 10), (8, 9), (7, 10), (7, 9), (6, 10), (6, 9), (5, 10), (5, 9), (4, 10), (4, 9), (3, 10), (3, 9), (2, 10), (2, 9), (2, 8), (2, 7), (3, 8), (3, 7), (4, 8), (4, 7), (5, 8), (5, 7), (6, 8), (6, 7), (7, 8), (7, 7), (8, 8), (8, 7), (9, 8), (9, 7), (10, 8), (10, 7), (11, 8), (11, 7), (12, 8), (12, 7), (13, 8), (13, 7), (14, 8), (14, 7), (15, 8), (15, 7), (16, 8), (16, 7), (17, 8), (17, 7), (18, 8), (18, 7), (18, 6), (18, 5), (17, 6), (17, 5), (16, 6), (16, 5), (15, 6), (15, 5), (14, 6), (14, 5), (13, 6), (13, 5), (12, 6), (12, 5), (11, 6), (11, 5), (10, 6), (10, 5), (9, 6), (9, 5), (8, 6), (8, 5), (7, 6), (7, 5), (6, 6), (6, 5), (5, 6), (5, 5), (4, 6), (4, 5), (3, 6), (3, 5), (2, 6), (2, 5), (2, 4), (2, 3), (3, 4), (3, 3), (4, 4), (4, 3), (5, 4), (5, 3), (6, 4), (6, 3), (7, 4), (7, 3), (8, 4), (8, 3), (9, 4), (9, 3), (10, 4), (10, 3), (11, 4), (11, 3), (12, 4), (12, 3), (13, 4), (13, 3), (14, 4), (14, 3), (15, 4), (15, 3), (16, 4), (16, 3), (17, 4), (17, 3), (18, 4), (18, 3), (18, 2), (17, 2), (16, 2), (15, 2), (14, 2), (13, 2), (12, 2), (11, 2), (10, 2), (9, 2), (8, 2), (8, 1), (7, 2), (7, 1), (6, 2), (6, 1), (5, 2), (5, 1), (4, 2), (4, 1), (3, 2), (3, 1), (2, 2), (2, 1)], [(22, 22), (22, 21), (21, 22), (21, 21), (20, 22), (20, 21), (19, 22), (19, 21), (18, 22), (18, 21), (17, 22), (17, 21), (16, 22), (16, 21), (15, 22), (15, 21), (14, 22), (14, 21), (13, 22), (13, 21), (12, 22), (12, 21), (11, 22), (11, 21), (10, 22), (10, 21), (9, 22), (9, 21), (8, 22), (8, 21), (7, 22), (7, 21), (6, 22), (6, 21), (5, 22), (5, 21), (4, 22), (4, 21), (3, 22), (3, 21), (2, 22), (2, 21), (1, 22), (1, 21), (1, 20), (1, 19), (2, 20), (2, 19), (3, 20), (3, 19), (4, 20), (4, 19), (5, 20), (5, 19), (6, 20), (6, 19), (7, 20), (7, 19), (8, 20), (8, 19), (9, 20), (9, 19), (10, 20), (10, 19), (11, 20), (11, 19), (12, 20), (12, 19), (13, 20), (13, 19), (14, 20), (14, 19), (15, 20), (15, 19), (16, 20), (16, 19), (17, 20), (17, 19), (18, 20), (18, 19), (19, 20), (19, 19), (20, 20), (20, 19), (21, 20), (21, 19), (22, 20), (22, 19), (22, 18), (22, 17), (21, 18), (21, 17), (20, 18), (20, 17), (19, 18), (19, 17), (18, 18), (18, 17), (17, 18), (17, 17), (16, 18), (16, 17), (15, 18), (15, 17), (14, 18), (14, 17), (13, 18), (13, 17), (12, 18), (12, 17), (11, 18), (11, 17), (10, 18), (10, 17), (9, 18), (9, 17), (8, 18), (8, 17), (7, 18), (7, 17), (6, 18), (6, 17), (5, 18), (5, 17), (4, 18), (4, 17), (3, 18), (3, 17), (2, 18), (2, 17), (1, 18), (1, 17), (1, 16), (1, 15), (2, 16), (2, 15), (3, 16), (3, 15), (4, 16), (4, 15), (5, 16), (5, 15), (6, 16), (6, 15), (7, 16), (7, 15), (8, 16), (8, 15), (9, 16), (9, 15), (10, 16), (10, 15), (11, 16), (11, 15), (12, 16), (12, 15), (13, 16), (13, 15), (14, 16), (14, 15), (15, 16), (15, 15), (16, 16), (16, 15), (17, 16), (17, 15), (18, 16), (18, 15), (19, 16), (19, 15), (20, 16), (20, 15), (21, 16), (21, 15), (22, 16), (22, 15), (22, 14), (22, 13), (21, 14), (21, 13), (20, 14), (20, 13), (19, 14), (19, 13), (18, 14), (18, 13), (17, 14), (17, 13), (16, 14), (16, 13), (15, 14), (15, 13), (14, 14), (14, 13), (13, 14), (13, 13), (12, 14), (12, 13), (11, 14), (11, 13), (10, 14), (10, 13), (9, 14), (9, 13), (8, 14), (8, 13), (7, 14), (7, 13), (6, 14), (6, 13), (5, 14), (5, 13), (4, 14), (4, 13), (3, 14), (3, 13), (2, 14), (2, 13), (1, 14), (1, 13), (1, 12), (1, 11), (2, 12), (2, 11), (3, 12), (3, 11), (4, 12), (4, 11), (5, 12), (5, 11), (6, 12), (6, 11), (7, 12), (7, 11), (8, 12), (8, 11), (9, 12), (9, 11), (10, 12), (10, 11), (11, 12), (11, 11), (12, 12), (12, 11), (13, 12), (13, 11), (14, 12), (14, 11), (15, 12), (15, 11), (16, 12), (16, 11), (17, 12), (17, 11), (18, 12), (18, 11), (19, 12), (19, 11), (20, 12), (20, 11), (21, 12), (21, 11), (22, 12), (22, 11), (22, 10), (22, 9), (21, 10), (21, 9), (20, 10), (20, 9), (19, 10), (19, 9), (18, 10), (18, 9), (17, 10), (17, 9), (16, 10), (16, 9), (15, 10), (15, 9), (14, 10), (14, 9), (13, 10), (13, 9), (12, 10), (12, 9), (11, 10), (11, 9), (10, 10), (10, 9), (9, 10), (9, 9), (8, 10), (8, 9), (7, 10), (7, 9), (6, 10), (6, 9), (5, 10), (5, 9), (4, 10), (4, 9), (3, 10), (3, 9), (2, 10), (2, 9), (2, 8), (2, 7), (3, 8), (3, 7), (4, 8), (4, 7), (5, 8), (5, 7), (6, 8), (6, 7), (7, 8), (7, 7), (8, 8), (8, 7), (9, 8), (9, 7), (10, 8), (10, 7), (11, 8), (11, 7), (12, 8), (12, 7), (13, 8), (13, 7), (14, 8), (14, 7), (15, 8), (15, 7), (16, 8), (16, 7), (17, 8), (17, 7), (18, 8), (18, 7), (19, 8), (19, 7), (20, 8), (20, 7), (21, 8), (21, 7), (22, 8), (22, 7), (22, 6), (22, 5), (21, 6), (21, 5), (20, 6), (20, 5), (19, 6), (19, 5), (18, 6), (18, 5), (17, 6), (17, 5), (16, 6), (16, 5), (15, 6), (15, 5), (14, 6), (14, 5), (13, 6), (13, 5), (12, 6), (12, 5), (11, 6), (11, 5), (10, 6), (10, 5), (9, 6), (9, 5), (8, 6), (8, 5), (7, 6), (7, 5), (6, 6), (6, 5), (5, 6), (5, 5), (4, 6), (4, 5), (3, 6), (3, 5), (2, 6), (2, 5), (2, 4), (2, 3), (3, 4), (3, 3), (4, 4), (4, 3), (5, 4), (5, 3), (6, 4), (6, 3), (7, 4), (7, 3), (8, 4), (8, 3), (9, 4), (9, 3), (10, 4), (10, 3), (11, 4), (11, 3), (12, 4), (12, 3), (13, 4), (13, 3), (14, 4), (14, 3), (15, 4), (15, 3), (16, 4), (16, 3), (17, 4), (17, 3), (18, 4), (18, 3), (19, 4), (19, 3), (20, 4), (20, 3), (21, 4), (21, 3), (22, 4), (22, 3), (22, 2), (21, 2), (20, 2), (19, 2), (18, 2), (17, 2), (16, 2), (15, 2), (14, 2), (13, 2), (12, 2), (12, 1), (11, 2), (11, 1), (10, 2), (10, 1), (9, 2), (9, 1), (8, 2), (8, 1), (7, 2), (7, 1), (6, 2), (6, 1), (5, 2), (5, 1), (4, 2), (4, 1), (3, 2), (3, 1), (2, 2), (2, 1)]]
theorem used_at {s : Nat} (hs : s < 5) : usedF (sdF s) = usedL.getD s [] := eq_of_beq (all5 (P := fun s => usedF (sdF s) == usedL.getD s []) (by decide +kernel) hs)
theorem way_at {s : Nat} (hs : s < 5) : wayF (sdF s) = wayL.getD s [] := by
  unfold wayF
  rw [used_at hs]
  exact eq_of_beq (all5 (P := fun s => wayTo (usedL.getD s []) (sdF s) ((sdF s - 2) / 2) 0 == wayL.getD s []) (by decide +kernel) hs)
theorem way_len {s : Nat} (hs : s < 5) : (wayF (sdF s)).length = ptF s := by
  rw [way_at hs]
  exact of_decide_eq_true (all5 (P := fun s => decide ((wayL.getD s []).length = ptF s)) (by decide +kernel) hs)
theorem way_in {s : Nat} (hs : s < 5) {q : Nat × Nat} (h : q ∈ wayF (sdF s)) : q.1 < sdF s ∧ q.2 < sdF s := by
  rw [way_at hs] at h
  have z := List.all_eq_true.mp (all5 (P := fun s => (wayL.getD s []).all fun q => decide (q.1 < sdF s) && decide (q.2 < sdF s)) (by decide +kernel) hs) q h
  rw [Bool.and_eq_true] at z
  exact ⟨of_decide_eq_true z.1, of_decide_eq_true z.2⟩
theorem sd_ok {s : Nat} (hs : s < 5) : SideOk (sdF s) := by
  have : s = 0 ∨ s = 1 ∨ s = 2 ∨ s = 3 ∨ s = 4 := by omega
  rcases this with rfl | rfl | rfl | rfl | rfl
  · exact .inl rfl
  · exact .inr (.inl rfl)
  · exact .inr (.inr (.inl rfl))
  · exact .inr (.inr (.inr (.inl rfl)))
  · exact .inr (.inr (.inr (.inr rfl)))
theorem sd_side {s : Nat} (hs : s < 5) : sidesI[s]? = some (sdF s : Int) := by
  have : s = 0 ∨ s = 1 ∨ s = 2 ∨ s = 3 ∨ s = 4 := by omega
  rcases this with rfl | rfl | rfl | rfl | rfl <;> rfl
theorem take_step {α : Type} (l : List α) (x : α) : (l ++ [x]).take 10 = if (l.take 10).length < 10 then l.take 10 ++ [x] else l.take 10 := by
  rw [List.length_take]
  split
  · next c =>
    have h : l.length < 10 := by omega
    have h2 : (l ++ [x]).length ≤ 10 := by
      rw [List.length_append]
      show l.length + 1 ≤ 10
      omega
    rw [List.take_of_length_le h2, List.take_of_length_le (show l.length ≤ 10 by omega)]
  · next c => rw [List.take_append_of_le_length (by omega)]
theorem ribA_step (m i : Nat) : ribA m (i + 1) = if (ribA m i).length < 10 then ribA m i ++ [spA m i] else ribA m i := by
  unfold ribA
  rw [List.range_succ, List.map_append]
  exact take_step _ _
theorem ribB_step (m i : Nat) : ribB m (i + 1) = if (ribB m i).length < 10 ∧ spB m i ∉ ribA m ((m - 2) * (m - 2)) then ribB m i ++ [spB m i] else ribB m i := by
  unfold ribB
  rw [List.range_succ, List.map_append, List.filter_append]
  by_cases c : spB m i ∈ ribA m ((m - 2) * (m - 2))
  · rw [if_neg (fun h => h.2 c)]
    have e : ([spB m i].filter fun q => !(ribA m ((m - 2) * (m - 2))).contains q) = [] := by simp [c]
    show List.take 10 (_ ++ ([spB m i].filter fun q => !(ribA m ((m - 2) * (m - 2))).contains q)) = _
    rw [e, List.append_nil]
  · have e : ([spB m i].filter fun q => !(ribA m ((m - 2) * (m - 2))).contains q) = [spB m i] := by simp [c]
    show List.take 10 (_ ++ ([spB m i].filter fun q => !(ribA m ((m - 2) * (m - 2))).contains q)) = _
    rw [e, take_step]
    simp only [c, not_false_eq_true, and_true]
theorem way_step (u : List (Nat × Nat)) (m b k : Nat) : wayTo u m b (k + 1) = wayTo u m b k ++ cellsW u m b k := by
  unfold wayTo
  rw [List.range_succ, List.flatMap_append, List.append_assoc]
  simp
theorem way_next (u : List (Nat × Nat)) (m b : Nat) : wayTo u m (b + 1) 0 = wayTo u m b (m - 2) := by
  unfold wayTo
  rw [List.range_succ, List.flatMap_append]
  simp
/-! ### dots turned -/
def flipO : Option Nat → Option Nat
  | none => none
  | some x => some (1 - x)
/-- the grid with the dots turned for which b holds -/
def turnG (b : Nat → Nat → Bool) (g : Grid) : Grid := g.mapIdx fun r row => row.mapIdx fun c o => if b r c = true then flipO o else o
theorem flip_ok {o : Option Nat} (h : DotOk o) : DotOk (flipO o) := by
  rcases h with rfl | rfl | rfl
  · exact .inl rfl
  · exact .inr (.inr rfl)
  · exact .inr (.inl rfl)
theorem flip_flip {o : Option Nat} (h : DotOk o) : flipO (flipO o) = o := by
  rcases h with rfl | rfl | rfl <;> rfl
theorem turn_row {b : Nat → Nat → Bool} {g : Grid} {i : Nat} {r : List (Option Nat)} (e : g[i]? = some r) : (turnG b g)[i]? = some (r.mapIdx fun c o => if b i c = true then flipO o else o) := by
  unfold turnG
  rw [List.getElem?_mapIdx, e]
  rfl
theorem turnG_sq {n : Nat} {b : Nat → Nat → Bool} {g : Grid} (h : Sq n g) : Sq n (turnG b g) where
  len := by unfold turnG; rw [List.length_mapIdx, h.len]
  row r hr := by
    obtain ⟨i, hi, rfl⟩ := List.mem_mapIdx.mp hr
    rw [List.length_mapIdx]
    exact h.row _ (List.getElem_mem hi)
  dot r hr o ho := by
    obtain ⟨i, hi, rfl⟩ := List.mem_mapIdx.mp hr
    obtain ⟨j, hj, rfl⟩ := List.mem_mapIdx.mp ho
    have z := h.dot _ (List.getElem_mem hi) _ (List.getElem_mem hj)
    split
    · exact flip_ok z
    · exact z
theorem cell_turn {n : Nat} {b : Nat → Nat → Bool} {g : Grid} (h : Sq n g) {i j : Nat} (hi : i < n) (hj : j < n) : cell (turnG b g) i j = if b i j = true then flipO (cell g i j) else cell g i j := by
  have l := h.len
  have l2 := (turnG_sq (b := b) h).len
  unfold cell
  have e : g[i]? = some (g[i]'(by omega)) := List.getElem?_eq_getElem _
  have r1 := h.row _ (List.getElem_mem (show i < g.length by omega))
  rw [List.getD_eq_getElem?_getD (l := turnG b g), turn_row e, List.getD_eq_getElem?_getD (l := g), e]
  simp only [Option.getD_some]
  rw [List.getD_eq_getElem?_getD, List.getElem?_mapIdx, List.getElem?_eq_getElem (by omega), List.getD_eq_getElem?_getD, List.getElem?_eq_getElem (by omega)]
  rfl
theorem turn_turn {n : Nat} {b : Nat → Nat → Bool} {g : Grid} (h : Sq n g) : turnG b (turnG b g) = g := by
  refine grid_ext (turnG_sq (turnG_sq h)) h fun i j hi hj => ?_
  rw [cell_turn (turnG_sq h) hi hj, cell_turn h hi hj]
  have l := h.len
  have r1 := h.row _ (getD_mem (d := []) (show i < g.length by omega))
  have z : DotOk (cell g i j) := dot_getD (h.dot _ (getD_mem (by omega)))
  split
  · exact flip_flip z
  · rfl
theorem turn_congr {n : Nat} {b b' : Nat → Nat → Bool} {g : Grid} (h : Sq n g) (e : ∀ i j, i < n → j < n → b i j = b' i j) : turnG b g = turnG b' g := by
  refine grid_ext (turnG_sq h) (turnG_sq h) fun i j hi hj => ?_
  rw [cell_turn h hi hj, cell_turn h hi hj, e i j hi hj]
theorem turn_none {n : Nat} {g : Grid} (h : Sq n g) : turnG (fun _ _ => false) g = g := by
  refine grid_ext (turnG_sq h) h fun i j hi hj => ?_
  rw [cell_turn h hi hj]
  rfl
/-- a dot put into a grid -/
def putG (g : Grid) (i j : Nat) (o : Option Nat) : Grid := g.set i ((g.getD i []).set j o)
theorem putG_sq {n : Nat} {g : Grid} {i j : Nat} {o : Option Nat} (h : Sq n g) (hi : i < n) (ho : DotOk o) : Sq n (putG g i j o) where
  len := by unfold putG; rw [List.length_set, h.len]
  row r hr := by
    have l := h.len
    rcases List.mem_or_eq_of_mem_set hr with h1 | rfl
    · exact h.row r h1
    · rw [List.length_set]
      exact h.row _ (getD_mem (by omega))
  dot r hr x hx := by
    have l := h.len
    rcases List.mem_or_eq_of_mem_set hr with h1 | rfl
    · exact h.dot r h1 x hx
    · rcases List.mem_or_eq_of_mem_set hx with h2 | rfl
      · exact h.dot _ (getD_mem (by omega)) x h2
      · exact ho
theorem cell_put {n : Nat} {g : Grid} {i j a b : Nat} {o : Option Nat} (h : Sq n g) (hi : i < n) (hj : j < n) (ha : a < n) (hb : b < n) : cell (putG g i j o) a b = if a = i ∧ b = j then o else cell g a b := by
  have l := h.len
  have r1 := h.row _ (getD_mem (d := []) (show i < g.length by omega))
  unfold cell putG
  by_cases c : a = i
  · subst c
    rw [List.getD_eq_getElem?_getD (l := g.set a _), List.getElem?_set_self (by omega)]
    simp only [Option.getD_some, true_and]
    by_cases d : b = j
    · subst d
      rw [if_pos rfl, List.getD_eq_getElem?_getD, List.getElem?_set_self (by omega)]
      rfl
    · rw [if_neg d, List.getD_eq_getElem?_getD, List.getElem?_set_ne (by omega), ← List.getD_eq_getElem?_getD]
  · rw [if_neg (fun z => c z.1), List.getD_eq_getElem?_getD (l := g.set i _), List.getElem?_set_ne (by omega), ← List.getD_eq_getElem?_getD]
/-- one more dot turned -/
theorem turn_put {n : Nat} {b b' : Nat → Nat → Bool} {g : Grid} {i j : Nat} (h : Sq n g) (hi : i < n) (hj : j < n) (h0 : b i j = false) (h1 : b' i j = true) (e : ∀ x y, x < n → y < n → ¬(x = i ∧ y = j) → b' x y = b x y) : putG (turnG b g) i j (flipO (cell g i j)) = turnG b' g := by
  have l := h.len
  have z : DotOk (cell g i j) := dot_getD (h.dot _ (getD_mem (by omega)))
  refine grid_ext (putG_sq (turnG_sq h) hi (flip_ok z)) (turnG_sq h) fun x y hx hy => ?_
  rw [cell_put (turnG_sq h) hi hj hx hy]
  by_cases c : x = i ∧ y = j
  · obtain ⟨rfl, rfl⟩ := c
    rw [if_pos ⟨rfl, rfl⟩, cell_turn h hx hy, h1]
    rfl
  · rw [if_neg c, cell_turn h hx hy, cell_turn h hx hy, e x y hx hy c]
theorem turn_keep {n : Nat} {b b' : Nat → Nat → Bool} {g : Grid} {i j : Nat} (h : Sq n g) (hi : i < n) (hj : j < n) (hn : cell g i j = none ∨ b' i j = b i j) (e : ∀ x y, x < n → y < n → ¬(x = i ∧ y = j) → b' x y = b x y) : turnG b g = turnG b' g := by
  refine grid_ext (turnG_sq h) (turnG_sq h) fun x y hx hy => ?_
  rw [cell_turn h hx hy, cell_turn h hx hy]
  by_cases c : x = i ∧ y = j
  · obtain ⟨rfl, rfl⟩ := c
    rcases hn with hn | hn
    · rw [hn]
      split <;> split <;> rfl
    · rw [hn]
  · rw [e x y hx hy c]
end My

set_option Elab.async false
set_option linter.all false
set_option maxRecDepth 100000
set_option maxHeartbeats 400000
/-! ### zip of a row, list or tuple, and a tuple -/
namespace My
open PySem PySem.Spec PyProof.Rows L2
def iZipRT (K : PySem.W.Frag) (ta : TA) : TI := fun σ H R => ta σ H fun vs H1 => ∃ (a b : Addr) (xs ys : List V) (k : Bool), vs = [.ref a, .ref b] ∧ SqB k K H1 a xs ∧ SqB false K H1 b ys ∧ R (ItzB k false K a b) H1
theorem pi_zipRT {X : Cx} {K : PySem.W.Frag} {e e2 : Expr} {ta : TA} {p pos tpos : Pos} {elts : List Expr} {kk : Nat} (hK : X.K = K) (hg : Gl X "zip") (hm : X.mg "zip" = none) (ha : PA X [e, e2] ta)
    (hs : starEach [e, e2] X.env = (false, eval e X.env) :: starEach [e2] X.env := by rfl) (hpl : (backTo pos (starEach [e2] X.env)).any (·.1) = false := by rfl) :
    PI X (.Tuple elts kk tpos) (.Call (.Name "zip" p) [e, e2] [] pos) (iZipRT K ta) := by
  subst hK
  refine ⟨fun pins s σ H R I h => ?_⟩
  refine Call_ (ld_blt I hg hm PyProof.Rows.boot_zip (PyProof.Rows.callWith_type1 (thn (ha.run pos pins s σ H _ I h) fun us s1 ⟨vs, H1, I1, r1, q1⟩ => ?_) hs hpl))
  obtain ⟨a, b, xs, ys, k, ex, hqx, hqy, q⟩ := q1
  subst ex
  obtain ⟨its, rv, p1⟩ := inv_sq I1 hqx
  obtain ⟨its2, rv2, p2⟩ := inv_sq I1 hqy
  cases r1 with
  | cons r rr =>
    cases rr with
    | cons r' rr =>
      cases rr
      cases r
      cases r'
      have fr : ∀ c, s1.heap.objs.size ≤ c → FpOk X pins H1 c := fun c hle => I1.fpOk hle (I1.hok.fresh hle)
      have fr5 : ∀ c, c ∈ [s1.heap.objs.size + 4, s1.heap.objs.size + 2, s1.heap.objs.size + 3, s1.heap.objs.size, s1.heap.objs.size + 1] → FpOk X pins H1 c := fun c hcm => by
        refine fr c ?_
        have e' : c = s1.heap.objs.size + 4 ∨ c = s1.heap.objs.size + 2 ∨ c = s1.heap.objs.size + 3 ∨ c = s1.heap.objs.size ∨ c = s1.heap.objs.size + 1 := by simpa using hcm
        rcases e' with z | z | z | z | z
        · rw [z]; exact Nat.le_add_right _ _
        · rw [z]; exact Nat.le_add_right _ _
        · rw [z]; exact Nat.le_add_right _ _
        · rw [z]; exact Nat.le_refl _
        · rw [z]; exact Nat.le_add_right _ _
      cases k with
      | true =>
        refine call_zipLT p1 p2 fun h' hz hTI hTO h1 h2 hk => wpAny_pyIter_zip hz ?_
        have I2 : Inv X pins σ H1 { s1 with heap := h' } := I1.kept (t' := s1.toks) hk
        have T : Turn X.prog X.w X.K (.Tuple elts kk tpos) (ItzB true false X.K a b) _ _ _ := turn_zipB (PySem.W.ktu_apart s1.heap.objs.size a b (Sq1.lt p1) (Sq1.lt p2))
        exact ⟨s1.heap.objs.size + 4, [s1.heap.objs.size + 4, s1.heap.objs.size + 2, s1.heap.objs.size + 3, s1.heap.objs.size, s1.heap.objs.size + 1], _, _, H1, rfl, I2, T, ⟨hz, hTI, ⟨_, _, hTO⟩, h1, h2⟩, fr5, q⟩
      | false =>
        refine RZ.call_zipT p1 p2 fun h' hz hTI hTO h1 h2 hsz hk => wpAny_pyIter_zip hz ?_
        have I2 : Inv X pins σ H1 { s1 with heap := h' } := I1.kept (t' := s1.toks) hk
        have T : Turn X.prog X.w X.K (.Tuple elts kk tpos) (ItzB false false X.K a b) _ _ _ := turn_zipB (PySem.W.ktu_apart s1.heap.objs.size a b (Sq1.lt p1) (Sq1.lt p2))
        exact ⟨s1.heap.objs.size + 4, [s1.heap.objs.size + 4, s1.heap.objs.size + 2, s1.heap.objs.size + 3, s1.heap.objs.size, s1.heap.objs.size + 1], _, _, H1, rfl, I2, T, ⟨hz, hTI, ⟨_, _, hTO⟩, h1, h2⟩, fr5, q⟩
theorem un1 {k : Nat} {A : Around} (r : Room k A) : A.units + 65 < cLine := by have := r.un; omega
theorem op_notInDK {X : Cx} {K : PySem.W.Frag} (h : X.K = K) (hu : X.A.units + 65 < cLine) : OpR X (compareOp .NotIn) (rNotInD K) := by
  subst h
  exact op_notInD hu
end My

set_option Elab.async false
set_option linter.all false
set_option maxRecDepth 100000
set_option maxHeartbeats 1000000
/-! ### how long a shown grid of dots is -/
namespace My
open PySem PySem.Spec PyProof.Rows L2
theorem dot_shown {o : Option Nat} (h : DotOk o) : (PyData.shown (dG o)).length ≤ 4 ∧ (dG o).showable = true := by
  rcases h with rfl | rfl | rfl <;> decide +kernel
theorem dotRow_show : ∀ r : List (Option Nat), (∀ o ∈ r, DotOk o) → PyData.showableAll (r.map dG) = true
  | [], _ => rfl
  | o :: r, h => by
    show ((dG o).showable && PyData.showableAll (r.map dG)) = true
    rw [(dot_shown (h o (List.mem_cons_self ..))).2, dotRow_show r fun y hy => h y (List.mem_cons_of_mem _ hy)]
    rfl
theorem dots_show : ∀ g : Grid, (∀ r ∈ g, ∀ o ∈ r, DotOk o) → PyData.showableAll (g.map dRow) = true
  | [], _ => rfl
  | r :: g, h => by
    show (PyData.showableAll (r.map dG) && PyData.showableAll (g.map dRow)) = true
    rw [dotRow_show r (h r (List.mem_cons_self ..)), dots_show g fun q hq => h q (List.mem_cons_of_mem _ hq)]
    rfl
theorem dots_len {n : Nat} {g : Grid} (sq : Sq n g) (hn : n ≤ 24) : (PyData.shown (dGr g)).length ≤ 4000 := by
  have e : PyData.shown (dGr g) = listText ((g.map dRow).map PyData.shown) := by
    rw [← shownAll_map]
    rfl
  rw [e]
  have l : ∀ t ∈ (g.map dRow).map PyData.shown, t.length ≤ 150 := by
    intro t ht
    obtain ⟨d, hd, rfl⟩ := List.mem_map.mp ht
    obtain ⟨r, hr, rfl⟩ := List.mem_map.mp hd
    have e2 : PyData.shown (dRow r) = listText ((r.map dG).map PyData.shown) := by
      rw [← shownAll_map]
      rfl
    rw [e2]
    have l2 := list_le (ts := (r.map dG).map PyData.shown) (m := 4) fun t ht => by
      obtain ⟨d, hd, rfl⟩ := List.mem_map.mp ht
      obtain ⟨o, ho, rfl⟩ := List.mem_map.mp hd
      exact (dot_shown (sq.dot r hr o ho)).1
    have := sq.row r hr
    rw [List.length_map, List.length_map] at l2
    omega
  have l3 := list_le l
  have := sq.len
  rw [List.length_map, List.length_map] at l3
  omega
theorem dots_reprs {K : PySem.W.Frag} {H : Hp} {a : Addr} {n : Nat} {g : Grid} (h : GrB true K H a g) (sq : Sq n g) (hn : n ≤ 24) :
    Dp K H (.ref a) (dGr g) ∧ (dGr g).showable = true ∧ (dGr g).hasDict = false ∧ (dGr g).depth ≤ 60 ∧ (dGr g).shown.length ≤ sizeLine := by
  refine ⟨h.dp, dots_show g fun r hr => sq.dot r hr, dGr_dict _, ?_, Nat.le_trans (dots_len sq hn) (by decide)⟩
  have := dRow_depth g
  show PyData.depthAll (g.map dRow) + 1 ≤ 60
  omega
end My

set_option Elab.async false
set_option linter.all false
set_option maxRecDepth 100000
set_option maxHeartbeats 1000000
/-! ### lists of dots: tuples of two, as they lie; whether a dot is among them -/
namespace My
open PySem PySem.Spec PyProof.Rows L2
def dQ (q : Nat × Nat) : PyData := .tuple [dI q.1, dI q.2]
def tQ (q : Nat × Nat) : HO := .tup [vN q.1, vN q.2]
theorem dI_eqv (x y : Nat) : PyData.eqv (dI x) (dI y) = decide (x = y) := by
  show ((x : Int) == (y : Int)) = decide (x = y)
  by_cases h : x = y
  · subst h; simp
  · simp [h]
    omega
theorem dQ_eqv (a b : Nat × Nat) : PyData.eqv (dQ a) (dQ b) = (a == b) := by
  show (PyData.eqv (dI a.1) (dI b.1) && (PyData.eqv (dI a.2) (dI b.2) && true)) = (a == b)
  rw [dI_eqv, dI_eqv, Bool.and_true]
  obtain ⟨a1, a2⟩ := a
  obtain ⟨b1, b2⟩ := b
  by_cases h : a1 = b1 <;> by_cases h2 : a2 = b2 <;> simp [h, h2]
theorem dQ_any (q : Nat × Nat) : ∀ w : List (Nat × Nat), ((w.map dQ).any fun z => PyData.eqv z (dQ q)) = w.contains q
  | [] => rfl
  | a :: w => by
    show (PyData.eqv (dQ a) (dQ q) || ((w.map dQ).any fun z => PyData.eqv z (dQ q))) = (a :: w).contains q
    rw [dQ_any q w, dQ_eqv, List.contains_cons]
    by_cases h : a = q
    · subst h; simp
    · have h2 : ¬ q = a := fun z => h z.symm
      rw [beq_false_of_ne h, beq_false_of_ne h2]
theorem dQ_lay : ∀ w : List (Nat × Nat), PyData.canLayAll0 (w.map dQ) = true
  | [] => rfl
  | q :: w => by
    show (PyData.canLay0 (dQ q) && PyData.canLayAll0 (w.map dQ)) = true
    rw [dQ_lay w]
    rfl
theorem dQ_depth : ∀ w : List (Nat × Nat), PyData.depthAll (w.map dQ) ≤ 1
  | [] => Nat.zero_le _
  | q :: w => by
    show max (PyData.depth (dQ q)) (PyData.depthAll (w.map dQ)) ≤ 1
    have := dQ_depth w
    have e : PyData.depth (dQ q) = 1 := rfl
    omega
theorem dQ_shaped (q : Nat × Nat) : SeqAt.shaped (dQ q) = true := rfl
theorem dQs_shaped (w : List (Nat × Nat)) : SeqAt.shaped (.list (w.map dQ)) = true := by
  unfold SeqAt.shaped
  have h1 : PyData.canLay0 (.list (w.map dQ)) = true := dQ_lay w
  have h2 : PyData.depth (.list (w.map dQ)) ≤ 64 := by
    show PyData.depthAll (w.map dQ) + 1 ≤ 64
    have := dQ_depth w
    omega
  rw [h1, Bool.true_and]
  exact decide_eq_true h2
/-- the dots of a way, each a tuple of its own -/
structure Spots (H : Hp) (L : List Addr) (w : List (Nat × Nat)) : Prop where
  len : L.length = w.length
  at' : ∀ (j : Nat) (l : Addr) (q : Nat × Nat), L[j]? = some l → w[j]? = some q → H l = some (tQ q)
theorem Spots.nil {H : Hp} : Spots H [] [] := ⟨rfl, fun j l q e => by cases e⟩
theorem Spots.same {H H2 : Hp} {L : List Addr} {w : List (Nat × Nat)} (h : Spots H L w) (s : Same H H2) : Spots H2 L w := ⟨h.len, fun j l q e1 e2 => s _ _ (h.at' j l q e1 e2)⟩
/-- what is no list stays -/
theorem Spots.keep {H H2 : Hp} {L : List Addr} {w : List (Nat × Nat)} (h : Spots H L w) (s : ∀ b xs, H b = some (.tup xs) → H2 b = some (.tup xs)) : Spots H2 L w := ⟨h.len, fun j l q e1 e2 => s _ _ (h.at' j l q e1 e2)⟩
theorem Spots.append {H : Hp} {L M : List Addr} {w v : List (Nat × Nat)} (h : Spots H L w) (g : Spots H M v) : Spots H (L ++ M) (w ++ v) where
  len := by rw [List.length_append, List.length_append, h.len, g.len]
  at' j l q e1 e2 := by
    by_cases c : j < L.length
    · rw [List.getElem?_append_left c] at e1
      rw [List.getElem?_append_left (by rw [← h.len]; exact c)] at e2
      exact h.at' j l q e1 e2
    · rw [List.getElem?_append_right (by omega)] at e1
      rw [List.getElem?_append_right (by rw [← h.len]; omega), ← h.len] at e2
      exact g.at' _ l q e1 e2
theorem Spots.one {H : Hp} {t : Addr} {q : Nat × Nat} (h : H t = some (tQ q)) : Spots H [t] [q] := ⟨rfl, fun j l r e1 e2 => by
  cases j with
  | zero => cases e1; cases e2; exact h
  | succ j => cases e1⟩
theorem Spots.snoc {H : Hp} {L : List Addr} {w : List (Nat × Nat)} {t : Addr} {q : Nat × Nat} (h : Spots H L w) (g : H t = some (tQ q)) : Spots H (L ++ [t]) (w ++ [q]) := h.append (.one g)
theorem spot_dp {K : PySem.W.Frag} {H : Hp} {t : Addr} {q : Nat × Nat} (h : H t = some (tQ q)) : Dp K H (.ref t) (dQ q) := .tup (.inl (.inl h)) (.cons (.int _) (.cons (.int _) .nil))
theorem Spots.all {K : PySem.W.Frag} {H : Hp} : ∀ {L : List Addr} {w : List (Nat × Nat)}, Spots H L w → DpAll K H (L.map V.ref) (w.map dQ)
  | [], [], _ => .nil
  | [], _ :: _, h => by cases h.len
  | _ :: _, [], h => by cases h.len
  | l :: L, q :: w, h => .cons (spot_dp (h.at' 0 l q rfl rfl)) (Spots.all ⟨Nat.succ.inj h.len, fun j l' q' e1 e2 => h.at' (j + 1) l' q' e1 e2⟩)
theorem Spots.dp {K : PySem.W.Frag} {H : Hp} {F : Addr} {L : List Addr} {w : List (Nat × Nat)} (h : Spots H L w) (g : SqL K H F (L.map V.ref)) : Dp K H (.ref F) (.list (w.map dQ)) := .lst g h.all
end My

set_option Elab.async false
set_option linter.all false
set_option maxRecDepth 100000
set_option maxHeartbeats 1000000
/-! ### for a, b in d.items(), d a dict whose keys are tuples -/
namespace My
open PySem PySem.W PySem.Spec PyProof.Rows PyProof.V L2
section
variable {X : Cx} {pins : List (Addr × Obj)} {σ : L2.St} {H : Hp} {s : Shared} {d : Addr} {o : Obj}
/-- what a locked dict with tuple keys is: each entry's key and value -/
theorem frz_ents {kvs : List (List Key × V)} (I : Inv X pins σ H s) (h : H d = some (.frz o (.dT kvs))) :
    (d == sysModules) = false ∧ s.heap.get? d = some o ∧ o.ExactDict ∧ ∃ (es : Array DictEntry) (ep : Nat), o.data = .dict es ep ∧ es.size = kvs.length ∧
      ∀ (i : Nat) (k : List Key) (v : V), kvs[i]? = some (k, v) → ∃ (en : DictEntry) (q : Addr), es[i]? = some en ∧ en.key = .ref q ∧ H q = some (.tup (k.map kV)) ∧ RelV v en.val := by
  obtain ⟨hd, z, hs, xs, pr, o', es, ep, ho, hx, hdt, he, _⟩ := I.hok d _ h
  rw [hd] at ho
  cases ho
  refine ⟨hs, hd, hx, es, ep, hdt, ?_, fun i k v e => ?_⟩
  · have l1 : es.size = xs.length := size_of_entries he
    have l2 : kvs.length = xs.length := Paired.length pr
    omega
  · obtain ⟨b, hb, e1, e2, e3⟩ := paired_get pr e
    have q := entry_at he i
    rw [hb] at q
    exact ⟨_, b.2.1, q, rfl, e2, e3⟩
end
def ItiT (d : Addr) (o : Obj) (kvs : List (List Key × V)) : It :=
  ⟨fun i H => H d = some (.frz o (.dT kvs)) ∧ i < kvs.length,
   fun i H x H' => ∃ (T q : Addr) (k : List Key) (v : V), kvs[i]? = some (k, v) ∧ x = .ref T ∧ H T = none ∧ H q = some (.tup (k.map kV)) ∧ H' = upd H T (.tup [.ref q, v]),
   fun i H => H d = some (.frz o (.dT kvs)) ∧ kvs.length ≤ i⟩
theorem turn_itemsT {P : Program} {w : World} {K : PySem.W.Frag} {d : Addr} {o : Obj} {es : Array DictEntry} {ep : Nat} {kvs : List (List Key × V)} {elts : List Expr} {kk : Nat} {tpos : Pos} (it : Addr) (hod : o.data = .dict es ep) :
    Turn P w K (.Tuple elts kk tpos) (ItiT d o kvs) [it] it (fun i h => ∃ ok ov, IsItemIter h it d i kvs.length ep ok ov) where
  mem := List.mem_singleton.mpr rfl
  obj := fun i h st b hb => by
    obtain ⟨ok, ov, e⟩ := st
    rw [List.mem_singleton.mp hb]
    exact ⟨_, e, fun v z => nomatch z⟩
  keep := fun i h h' st k => let ⟨ok, ov, e⟩ := st; ⟨ok, ov, k it (List.mem_singleton.mpr rfl) _ e⟩
  item := by
    intro X hP hw hK hc i pins s σ H E I hf st hg
    subst hP hw hK
    obtain ⟨hd, hi⟩ := hg
    obtain ⟨hs, hgd, hx, es', ep', hdt, hsz, ent⟩ := frz_ents I hd
    obtain ⟨rfl, rfl⟩ := dict_ep hod hdt
    obtain ⟨en, q, hen, hkey, hq, rv⟩ := ent i kvs[i].1 kvs[i].2 (List.getElem?_eq_getElem hi)
    obtain ⟨ok, ov, he⟩ := st
    rw [← hsz] at he
    have hi' : i < es'.size := by rw [hsz]; exact hi
    have hlt : it < s.heap.objs.size := Heap.lt_size he
    have een : es'[i] = en := by
      rw [Array.getElem?_eq_getElem hi'] at hen
      exact Option.some.inj hen
    refine DT.nextI he ⟨o, hgd, hx, hdt⟩ hi' fun h' ho hT hz hk => ?_
    refine ⟨_, rfl, wpAny_letOwnedTupleGo_items (s := { s with heap := h' }) ho fun h'' he' sb => ?_⟩
    have hT2 : h''.get? s.heap.objs.size = some { cls := .type "tuple", data := .seq #[es'[i].key, es'[i].val] } := (sb.2 _ (Nat.ne_of_gt hlt)).trans hT
    rw [een, hkey] at hT2
    have new : ObjOk X.prog X.w (upd H s.heap.objs.size (.tup [.ref q, kvs[i].2])) h'' s.heap.objs.size (.tup [.ref q, kvs[i].2]) :=
      ⟨by show 2 ≤ sizeLine; decide, [.ref q, en.val], .cons rfl (.cons rv .nil), ⟨_, hT2, rfl, _, rfl⟩⟩
    have I1 : Inv X pins σ (upd H s.heap.objs.size (.tup [.ref q, kvs[i].2])) { s with heap := h'' } :=
      I.turnedNew (t' := s.toks) (ch := [it]) (fun b ob hb e => (sb.2 b (fun z => hb (List.mem_singleton.mpr z))).trans (hk b ob (fun z => hb (List.mem_singleton.mpr z)) e)) hf (Nat.le_refl _) new
    refine ⟨.ref s.heap.objs.size, _, I1, rfl, ⟨_, q, kvs[i].1, kvs[i].2, List.getElem?_eq_getElem hi, rfl, I.hok.fresh (Nat.le_refl _), hq, rfl⟩, ⟨es'[i].key, es'[i].val, ?_⟩, fun b hb => ?_⟩
    · rw [← hsz]; exact he'
    · rw [List.mem_singleton.mp hb, upd_ne (Nat.ne_of_lt hlt)]
      exact (hf it (List.mem_singleton.mpr rfl)).1
  done := by
    intro X hP hw hK hc i pins s σ H E I hf st hg
    subst hP hw hK
    obtain ⟨hd, hi⟩ := hg
    obtain ⟨f0, f1, f2, f3, f4, f5⟩ := hf it (List.mem_singleton.mpr rfl)
    obtain ⟨hs, hgd, hx, es', ep', hdt, hsz, ent⟩ := frz_ents I hd
    obtain ⟨rfl, rfl⟩ := dict_ep hod hdt
    obtain ⟨ok, ov, he⟩ := st
    rw [← hsz] at he
    exact DT.endI (I.ok.hd hc) he ⟨o, hgd, hx, hdt⟩ (by rw [hsz]; exact hi) fun h' eb => ⟨rfl, I.turned (t' := s.toks) (fun b ob hb e => eb b ob hb e) f0 f1 f3 f4 f5⟩
  self := fun A i s Q E st h => let ⟨_, _, e⟩ := st; PySem.W.kcp_self e h
/-- the dict is locked by the walk and stays so -/
def iItemsT (td : TE) : TI := fun σ H R => td σ H fun x H1 => ∃ d kvs, x = .ref d ∧ H1 d = some (.dT kvs) ∧ ∀ o, R (ItiT d o kvs) (upd H1 d (.frz o (.dT kvs)))
theorem pi_itemsT {X : Cx} {e : Expr} {td : TE} {apos cpos : Pos} {elts : List Expr} {kk : Nat} {tpos : Pos} (he : PE X e td) (hbase : attributeBase e "items" X.env (eval e X.env) = eval e X.env := by rfl) (hline : (apos.endLine == cpos.line) = true := by rfl) :
    PI X (.Tuple elts kk tpos) (.Call (.Attribute e "items" apos) [] [] cpos) (iItemsT td) := by
  refine ⟨fun pins s σ H R I h => ?_⟩
  refine wpAny_Call_method (T := "dict") (id := "dict.items") hbase rfl hline F.plainAttrs_dict F.slot_dict_items F.type_dict_items (thn (he.run pins s σ H _ I h) fun u s1 ⟨x, H1, I0, rx, d, kvs, ex, hd0, q0⟩ => ?_)
  subst ex
  obtain rfl : u = Value.ref d := rx
  obtain ⟨o, I1⟩ := I0.lock hd0 True.intro
  have q := q0 o
  have hd : upd H1 d (.frz o (.dT kvs)) d = some (.frz o (.dT kvs)) := upd_same
  obtain ⟨hs, hgd, hx, es, ep, hdt, hsz, ent⟩ := frz_ents I1 hd
  refine ⟨⟨o, hgd, hx.1⟩, fun b eb => ?_, ?_⟩
  · cases eb
    exact ⟨o, hgd, hx.2.1⟩
  have I2 : Inv X pins σ (upd H1 d (.frz o (.dT kvs))) { s1 with heap := s1.heap.push { cls := .type "dict_items", data := .fields #[.ref d] } } := I1.kept (t' := s1.toks) fun b ob q => Heap.get?_push_of_some _ q
  have fin : wpAny (model X.prog X.w) X.A (pyIter (.ref s1.heap.objs.size)) (PIE X pins σ (.Tuple elts kk tpos) R) X.xe { s1 with heap := s1.heap.push { cls := .type "dict_items", data := .fields #[.ref d] } } := by
    refine DT.iterI (d := d) ⟨_, Heap.get?_push_size _ rfl, rfl, rfl⟩ (DT.Raw.push ⟨o, hgd, hx, hdt⟩ _) (pi_one (tk := s1.toks) I2 _ (turn_itemsT _ hdt) ⟨.none, .none, ?_⟩ q)
    rw [← hsz]
    exact Heap.get?_push_size _ rfl
  show wpAny _ _ (callWith cpos (.builtin "dict.items") [.ref d] [] []) _ X.xe s1
  exact method_meetsIn F.slot_dict_items F.entry_dict_items rfl (PySem.evalArgs_none ⟨rfl, ⟨o, hgd, hx.1⟩, F.args_dict_items_1 _, _, DT.meetsItems hs, ⟨⟨o, hgd, hx, hdt⟩, fin⟩⟩)
theorem walk_itemsT {d : Addr} {o : Obj} {kvs : List (List Key × V)} : Walk (ItiT d o kvs) kvs.length (fun H => H d = some (.frz o (.dT kvs)))
    (fun i H x H' => ∃ (T q : Addr) (k : List Key) (v : V), kvs[i]? = some (k, v) ∧ x = .ref T ∧ H T = none ∧ H q = some (.tup (k.map kV)) ∧ H' = upd H T (.tup [.ref q, v])) :=
  ⟨fun _ _ hi q => ⟨q, hi⟩, fun _ q => ⟨q, Nat.le_refl _⟩, fun _ _ _ _ _ _ y => y⟩
/-! ### min(d.values()) -/
theorem meets_valsRaw {prog : Program} {w : World} {d : Addr} {es : Array DictEntry} {ep : Nat} (hd : (d == sysModules) = false) :
    PySem.MeetsIn prog w (Builtin.«dict.values» ⟨[.ref d], []⟩) (fun _ R s => DT.Raw s.heap d es ep ∧
      R (.ok (.ret (.ref s.heap.objs.size))) { s with heap := s.heap.push (DSub.viewOb "dict_values" d) }) :=
  .of_wp fun A R s ⟨hm, h⟩ => by
    unfold Builtin.«dict.values»
    refine wpAny_bind ?_
    unfold Builtin.Dict.noArgs
    refine wpAny_bind (wpAny_notOrdered_dict hm.typeIs ?_)
    show wpAny _ _ (pure d) _ _ s
    refine wpAny_pure ?_
    show wpAny _ _ (Builtin.Dict.showsAll d >>= _) _ _ s
    unfold Builtin.Dict.showsAll
    rw [if_neg (by rw [hd]; exact Bool.false_ne_true)]
    refine wpAny_bind (wpAny_pure ?_)
    exact wpAny_bind (wpAny_newObj_type (wpAny_pure ⟨_, rfl, h⟩))
def tMinValsT (td : TE) : TE := fun σ H Q => td σ H fun x H1 => ∃ a kvs is, x = V.ref a ∧ H1 a = some (.dT kvs) ∧ kvs.map (·.2) = is.map V.int ∧ is ≠ [] ∧ ∀ m, m ∈ is → (∀ j ∈ is, m ≤ j) → Q (.int m) H1
theorem pe_minValsT {X : Cx} {o : Expr} {p pos apos mpos : Pos} {td : TE} (hc : X.calm = true) (hg : Gl X "min") (hm : X.mg "min" = none) (hd : PE X o td) (hbase : attributeBase o "values" X.env (eval o X.env) = eval o X.env := by rfl) (hline : (apos.endLine == mpos.line) = true := by rfl)
    (hse : starEach [Expr.Call (.Attribute o "values" apos) [] [] mpos] X.env = [(false, eval (Expr.Call (.Attribute o "values" apos) [] [] mpos) X.env)] := by rfl) :
    PE X (.Call (.Name "min" p) [.Call (.Attribute o "values" apos) [] [] mpos] [] pos) (tMinValsT td) := by
  refine ⟨fun pins s σ H Q I h => ?_⟩
  refine wpAny_Call_Name_kw (ld_blt I hg hm (u := .builtin "min") (by first | rfl | decide +kernel) ?_ (by first | decide +kernel | decide) (by first | decide +kernel | decide))
  rw [hse]
  refine PySem.callWith_builtin1 (wpAny_Call_method0_late hbase hline (thn (hd.run pins s σ H _ I h) fun v s1 ⟨x, H1, I1, r1, a, kvs, is, ex, ha, hv, hne, q⟩ => ?_))
  subst ex
  obtain rfl : v = Value.ref a := r1
  obtain ⟨o0, J1⟩ := I1.lock ha True.intro
  obtain ⟨hsys, hgd, hx, es, ep, hdt, hsz, ent⟩ := frz_ents J1 upd_same
  refine ⟨"dict", "dict.values", F.plainAttrs_dict, F.slot_dict_values, F.type_dict_values, ⟨o0, hgd, hx.1⟩, fun b e => ?_, PySem.Calls.callWith_builtin rfl (PySem.evalArgs_none ?_)⟩
  · cases e
    exact ⟨o0, hgd, hx.2.1⟩
  refine call_meetsIn F.slot_dict_values ⟨o0, hgd, hx.1⟩ F.entry_dict_values (F.args_dict_values_1 _) (meets_valsRaw hsys) ⟨⟨o0, hgd, hx, hdt⟩, ?_⟩
  have hl : es.size = is.length := by
    have e1 := congrArg List.length hv
    rw [List.length_map, List.length_map] at e1
    rw [hsz, e1]
  have hlt : a < s1.heap.objs.size := Heap.lt_size hgd
  have hval : ∀ (i : Nat) (e : DictEntry), es[i]? = some e → ∃ t, e.val = Value.int (is.getD i 0) t := fun i e he => by
    obtain ⟨hi, e1⟩ := Array.getElem?_eq_some_iff.mp he
    have hk : i < kvs.length := by rw [← hsz]; exact hi
    obtain ⟨en, qa, h1, _, _, rv⟩ := ent i kvs[i].1 kvs[i].2 (List.getElem?_eq_getElem hk)
    rw [he] at h1
    obtain rfl := Option.some.inj h1
    have e2 : (kvs.map (·.2))[i]? = some kvs[i].2 := by rw [List.getElem?_map, List.getElem?_eq_getElem hk] <;> rfl
    rw [hv, List.getElem?_map] at e2
    obtain ⟨j, hj, e3⟩ := Option.map_eq_some_iff.mp e2
    rw [← e3] at rv
    obtain ⟨t, e4⟩ := rv
    exact ⟨t, by rw [e4, List.getD_eq_getElem?_getD, hj] <;> rfl⟩
  have g1 : (s1.heap.push (DSub.viewOb "dict_values" a)).get? a = some o0 := Heap.get?_push_of_some _ hgd
  have hz1 : (s1.heap.push (DSub.viewOb "dict_values" a)).objs.size = s1.heap.objs.size + 1 := Heap.size_push _ _
  refine call_min_walk (DSub.iter_vals (v := s1.heap.objs.size) (a := a) (Heap.get?_push_size _ rfl) g1 hdt ?_)
  refine ⟨_, _, _, _, _, _, _, rfl, DSub.walksVal (A := X.A.in1) (P := fun i v => ∃ t, v = Value.int (is.getD i 0) t) (I.ok.hd hc) (by rw [hz1]; exact Nat.ne_of_lt (Nat.lt_succ_of_lt hlt)) hdt hval,
    ⟨Heap.get?_push_size _ rfl, Heap.get?_push_of_some _ g1⟩, fun b hb => ?_, by rw [hl]; exact List.length_pos_iff.mpr hne, CmpOf.ints_lt (fun i => is.getD i 0) (fun _ _ h => h), fun v h' tk hP hk => ?_⟩
  · show b < ((s1.heap.push _).push _).objs.size
    rw [Heap.size_push, Heap.size_push]
    rcases List.mem_cons.mp hb with e | hb
    · rw [e, hz1]
      exact Nat.lt_succ_self _
    · rw [List.mem_singleton.mp hb]
      exact Nat.lt_succ_of_lt (Nat.lt_succ_of_lt hlt)
  · obtain ⟨t, rfl⟩ := hP
    obtain ⟨b1, b2⟩ := argBest_lt (fun i => is.getD i 0) (es.size - 1)
    refine ⟨.int _, H1, I1.kept (t' := tk) fun b u e => hk b u (fun hmem => ?_) (Heap.get?_push_of_some _ (Heap.get?_push_of_some _ e)), ⟨t, rfl⟩, q _ ?_ fun j hj => ?_⟩
    · have e1 := List.mem_singleton.mp hmem
      have e2 := Heap.lt_size e
      rw [e1, hz1] at e2
      exact absurd e2 (Nat.not_lt.mpr (Nat.le_succ _))
    · have hp := List.length_pos_iff.mpr hne
      have hb : argBest (fun i j => decide (is.getD i 0 < is.getD j 0)) (es.size - 1) < is.length := by omega
      rw [List.getD_eq_getElem?_getD, List.getElem?_eq_getElem hb]
      exact List.getElem_mem hb
    · obtain ⟨i, hi, e⟩ := List.mem_iff_getElem.mp hj
      have e2 : is.getD i 0 = j := by rw [List.getD_eq_getElem?_getD, List.getElem?_eq_getElem hi, ← e] <;> rfl
      rw [← e2]
      exact b2 i (by omega)
end My

set_option Elab.async false
set_option linter.all false
set_option maxRecDepth 100000
set_option maxHeartbeats 1000000
/-! ### xs[a::c] of a list; zip of any number of lists given one by one; .get of a written dict whose keys are tuples, with a tuple that may hold None -/
namespace My
open PySem PySem.Spec PyProof.Rows L2
/-- the places of a slice of step c from a on -/
def strI (n : Nat) (a c : Int) : List Nat := sliceRange (sliceBounds (some a) none (some c) n).1 (sliceBounds (some a) none (some c) n).2.1 (sliceBounds (some a) none (some c) n).2.2
def strideL {α : Type} (xs : List α) (a c : Int) : List α := (strI xs.length a c).filterMap (xs[·]?)
theorem vals_pick {xs : List V} {us : List Value} (r : Vals xs us) : ∀ is : List Nat, Vals (is.filterMap (xs[·]?)) (is.filterMap (us[·]?))
  | [] => .nil
  | i :: is => by
    have ih := vals_pick r is
    have hl := r.length
    by_cases h : i < xs.length
    · have e : xs[i]? = some xs[i] := List.getElem?_eq_getElem h
      obtain ⟨w, hw, rw'⟩ := r.get e
      rw [List.filterMap_cons, List.filterMap_cons, e, hw]
      exact .cons rw' ih
    · have e1 : xs[i]? = none := List.getElem?_eq_none (by omega)
      have e2 : us[i]? = none := List.getElem?_eq_none (by omega)
      rw [List.filterMap_cons, List.filterMap_cons, e1, e2]
      exact ih
def tStride (K : PySem.W.Frag) (a c : Int) (te : TE) : TE := fun σ H Q => te σ H fun x H1 => ∃ l xs, x = .ref l ∧ SqL K H1 l xs ∧ ∀ p H2, Same H1 H2 → H1 p = none → H2 p = some (.lst (strideL xs a c)) → (strideL xs a c).length ≤ sizeLine → Q (.ref p) H2
theorem pe_stride {X : Cx} {K : PySem.W.Frag} {e : Expr} {te : TE} {a c : Int} {k1 k2 : Nat} {p1 p2 p3 pos : Pos} (hK : X.K = K) (h0 : c ≠ 0) (he : PE X e te) : PE X (.Subscript e (.Slice (some (.Constant (.int a) k1 p1)) none (some (.Constant (.int c) k2 p2)) p3) pos) (tStride K a c te) := by
  subst hK
  refine ⟨fun pins s σ H Q I h => ?_⟩
  refine Subscript_ (thn (he.run pins s σ H _ I h) fun v s1 ⟨x, H1, I1, r1, q1⟩ => ?_)
  obtain ⟨l, xs, ex, hx, q⟩ := q1
  subst ex
  cases r1
  have hlo : PO X (some (.Constant (.int a) k1 p1)) (tPart (tC (.int a))) := po_some pe_int
  have hst : PO X (some (.Constant (.int c) k2 p2)) (tPart (tC (.int c))) := po_some pe_int
  refine wpAny_Slice (thn (hlo.run pins s1 σ H1 (fun o H2 => o = some a ∧ H2 = H1) I1 ⟨a, rfl, rfl, rfl⟩) fun vl s2 ⟨l2, H2, I2, pl, el, e2⟩ => ?_)
  subst el e2
  refine thn (po_none.run pins s2 σ H2 (fun o H3 => o = none ∧ H3 = H2) I2 ⟨rfl, rfl⟩) fun vu s3 ⟨u, H3, I3, pu, eu, e3⟩ => ?_
  subst eu e3
  refine thn (hst.run pins s3 σ H3 (fun o H4 => o = some c ∧ H4 = H3) I3 ⟨c, rfl, rfl, rfl⟩) fun vs s4 ⟨o, H4, I4, ps, eo, e4⟩ => ?_
  subst eo e4
  have I5 : Inv X pins σ H4 { s4 with heap := s4.heap.push { cls := .type "slice", data := .fields #[vl, vu, vs] } } := I4.kept (t' := s4.toks) fun b ob q => Heap.get?_push_of_some _ q
  obtain ⟨its, r, ht, hz⟩ := I5.list hx
  have hlen := r.length
  refine tail_any (ops := [.ref l, .ref s4.heap.objs.size]) ht.isList.typeIs (PySem.slot_list_getitem.lookup) ?_ (by with_unfolding_all rfl)
  refine wpAny_getItem_list_slice ht.isList (Heap.IsSliceOf.new _ vl vu vs) pl pu ps (fun z => h0 (Option.some.inj z)) ?_ (by rw [List.size_toArray]; omega)
  have rv : Vals (strideL xs a c) (slicePick its.toArray (some a) none (some c)).toList := by
    have e : (slicePick its.toArray (some a) none (some c)).toList = (strI xs.length a c).filterMap (its[·]?) := by
      unfold slicePick strI
      simp [hlen]
    rw [e]
    exact vals_pick r _
  have hz2 : (strideL xs a c).length ≤ sizeLine := by
    rw [rv.length]
    have h1 := slicePick_size_le its.toArray (some a) none (some c)
    rw [List.size_toArray] at h1
    rw [Array.length_toList]
    exact Nat.le_trans h1 (by rw [List.size_toArray, ← hlen]; exact hz)
  refine ⟨.ref _, _, I5.laid (t' := s4.toks) (o := .lst (strideL xs a c)) (fun b ob q => Heap.get?_push_of_some _ q) (Nat.le_refl _) ?_, rfl, q _ _ (same_upd (I5.hok.fresh (Nat.le_refl _))) (I5.hok.fresh (Nat.le_refl _)) upd_same hz2⟩
  exact ⟨hz2, _, 0, rv, by rw [Array.toArray_toList]; exact Heap.get?_push_size _ rfl⟩
def iZipN (K : PySem.W.Frag) (ta : TA) : TI := fun σ H R => ta σ H fun vs H1 => ∃ (L : List Addr) (rows : List (List V)), vs = L.map V.ref ∧ RowsL K H1 L rows ∧ L ≠ [] ∧ L.length ≤ 1000 ∧ R (ItZs K L) H1
theorem pi_zipN {X : Cx} {K : PySem.W.Frag} {e : Expr} {es : List Expr} {ta : TA} {x : Str} {xp p pos : Pos} (hK : X.K = K) (hg : Gl X "zip") (hm : X.mg "zip" = none) (ha : PA X (e :: es) ta)
    (hs : starEach (e :: es) X.env = (false, eval e X.env) :: starEach es X.env := by rfl) (hpl : (backTo pos (starEach es X.env)).any (·.1) = false := by rfl) :
    PI X (.Name x xp) (.Call (.Name "zip" p) (e :: es) [] pos) (iZipN K ta) := by
  subst hK
  refine ⟨fun pins s σ H R I h => ?_⟩
  refine Call_ (ld_blt I hg hm PyProof.Rows.boot_zip (PyProof.Rows.callWith_type1 (thn (ha.run pos pins s σ H _ I h) fun us s2 ⟨vs, H1, I2, r1, q1⟩ => ?_) hs hpl))
  obtain ⟨L, rows, ex, hr, h0, hL, q⟩ := q1
  subst ex
  obtain rfl := refs_vals r1
  have hn : L.length ≤ sizeLine := Nat.le_trans hL (by decide)
  have each : ∀ l ∈ L, ∃ xs, s2.heap.IsList l xs ∧ l < s2.heap.objs.size := fun l hl => by
    obtain ⟨j, hj, rfl⟩ := List.mem_iff_getElem.mp hl
    obtain ⟨its, rv2, p2, hz⟩ := I2.list (hr.2 j _ _ (List.getElem?_eq_getElem hj) (List.getElem?_eq_getElem (by rw [← hr.1]; exact hj)))
    obtain ⟨o, ho, r⟩ := p2.isList
    exact ⟨_, ⟨o, ho, r⟩, Heap.lt_size ho⟩
  refine call_zipN hn h0 (fun l hl => let ⟨xs, h1, _⟩ := each l hl; ⟨xs, h1⟩) fun h' Z hk => iter_zs (s := { s2 with heap := h' }) Z ?_
  have I3 : Inv X pins σ H1 { s2 with heap := h' } := I2.kept (t' := s2.toks) hk
  refine ⟨s2.heap.objs.size + L.length + 2, zfp L s2.heap.objs.size, _, _, H1, rfl, I3, turn_zipS hn h0 (fun l hl => (each l hl).choose_spec.2), Z, fun c hcm => ?_, q⟩
  obtain ⟨j, hj, rfl⟩ := List.mem_map.mp hcm
  exact I2.fpOk (Nat.le_add_right _ _) (I2.hok.fresh (Nat.le_add_right _ _))
/-! ### a written dict whose keys are tuples of whole numbers -/
def tupHash (k : List Int) : Int := reduceHash (Builtin.Tuple.tupleHashOf (k.map hashInt))
def keyO (o : Option Nat) : Option Key := o.map fun n => .inl (n : Int)
def entTB (K : PySem.W.Frag) : List DictEntry → List (List Nat × Nat) → Bool
  | [], [] => true
  | ⟨hh, .ref c, .int v _⟩ :: es, (k, x) :: r => (hh == tupHash (k.map fun n : Nat => (n : Int))) && (v == (x : Int)) && tupB K c (k.map fun n : Nat => (n : Int)) && entTB K es r
  | _, _ => false
def dTupB (K : PySem.W.Frag) (d : Addr) (kvs : List (List Nat × Nat)) : Bool :=
  match K.lookup d with
  | some ⟨.type s, none, .dict es _, sl⟩ => s == "dict" && sl.size == 0 && !(d == sysModules) && entTB K es.toList kvs
  | _ => false
def getT (os : List (Option Nat)) : List (List Nat × Nat) → Option Nat
  | [] => none
  | (k, v) :: r => if k.map some = os then some v else getT os r
section
variable {P : Program} {w : World}
theorem hash_key (k : List Nat) : tupleKeyHash (noneKind P w) ((k.map some).map keyO) = tupHash (k.map fun n : Nat => (n : Int)) := by
  unfold tupleKeyHash tupHash
  rw [List.map_map, List.map_map, List.map_map]
  rfl
theorem items_none : ∀ {os : List (Option Nat)} {us : List Value}, Vals (os.map vG) us → ItemsAre (noneKind P w) (os.map keyO) us
  | [], _, .nil => .nil
  | none :: os, u :: us, .cons r t => by
    cases r
    exact .cons rfl (items_none t)
  | some n :: os, u :: us, .cons r t => by
    obtain ⟨t0, rfl⟩ := (show ∃ t, u = Value.int (n : Int) t from r)
    exact .cons (by show ((n : Int) == (n : Int)) = true; simp) (items_none t)
theorem keyO_inj : ∀ {a b : Option Nat}, keyO a = keyO b → a = b
  | none, none, _ => rfl
  | none, some _, h => by cases h
  | some _, none, h => by cases h
  | some x, some y, h => by
    have e := Sum.inl.inj (Option.some.inj h)
    rw [show x = y by omega]
theorem keysO_inj : ∀ {a b : List (Option Nat)}, a.map keyO = b.map keyO → a = b
  | [], [], _ => rfl
  | [], _ :: _, h => by cases h
  | _ :: _, [], h => by cases h
  | x :: a, y :: b, h => by
    rw [List.map_cons, List.map_cons] at h
    injection h with h1 h2
    rw [keyO_inj h1, keysO_inj h2]
theorem somes_inj : ∀ {a b : List Nat}, a.map some = b.map some → a = b
  | [], [], _ => rfl
  | [], _ :: _, h => by cases h
  | _ :: _, [], h => by cases h
  | x :: a, y :: b, h => by
    rw [List.map_cons, List.map_cons] at h
    injection h with h1 h2
    cases h1
    rw [somes_inj h2]
theorem entTB_ok {K : PySem.W.Frag} {h : Heap} (hin : ∀ (c : Addr) (k : List Nat), tupB K c (k.map fun n : Nat => (n : Int)) = true → IsTupleKey (noneKind P w) h ((k.map some).map keyO) c) : ∀ {es : List DictEntry} {kvs : List (List Nat × Nat)}, entTB K es kvs = true →
    ∃ xs : List (List (Option Key) × Addr × Value), es = xs.map (entryOfKey (tupleKind (noneKind P w))) ∧ (∀ x ∈ xs, (tupleKind (noneKind P w)).is h x.1 x.2.1) ∧ xs.map (·.1) = kvs.map (fun p => (p.1.map some).map keyO) ∧
      ∀ os : List (Option Nat), RelV (vG (getT os kvs)) (((atKey xs (os.map keyO)).map (·.2)).getD .none)
  | [], [], _ => by
    refine ⟨[], rfl, ?_, rfl, fun os => rfl⟩
    intro x hx
    cases hx
  | [], _ :: _, hh => by simp [entTB] at hh
  | ⟨hs, kv, vv⟩ :: es, [], hh => by simp [entTB] at hh
  | ⟨hs, kv, vv⟩ :: es, (k, x) :: r, hh => by
    unfold entTB at hh
    split at hh
    · next e => cases e
    · next hh0 c v t es0 k0 x0 r0 e1 e2 =>
      cases e1
      cases e2
      rw [Bool.and_eq_true, Bool.and_eq_true, Bool.and_eq_true] at hh
      obtain ⟨⟨⟨h1, h2⟩, h3⟩, h4⟩ := hh
      obtain ⟨xs, q1, q2, q3, q4⟩ := entTB_ok hin h4
      have e1 := eq_of_beq h1
      have e2 := eq_of_beq h2
      refine ⟨((k.map some).map keyO, c, .int v t) :: xs, ?_, fun y hy => ?_, ?_, fun os => ?_⟩
      · rw [List.map_cons, ← q1]
        congr 1
        show _ = DictEntry.mk (tupleKeyHash (noneKind P w) ((k.map some).map keyO)) (.ref c) (.int v t)
        rw [hash_key, e1]
      · rcases List.mem_cons.mp hy with rfl | hy
        · exact hin c k h3
        · exact q2 y hy
      · rw [List.map_cons, List.map_cons, q3]
      · unfold getT atKey
        rw [List.find?_cons]
        by_cases c1 : k.map some = os
        · rw [if_pos c1, c1]
          have : decide (os.map keyO = os.map keyO) = true := decide_eq_true rfl
          simp only [this]
          exact ⟨t, by rw [e2]; rfl⟩
        · rw [if_neg c1]
          have : decide ((k.map some).map keyO = os.map keyO) = false := decide_eq_false fun z => c1 (keysO_inj z)
          simp only [this]
          exact q4 os
    · cases hh
end
/-- d.get(t), d a written dict with tuples of whole numbers as keys -/
def rGetO (K : PySem.W.Frag) (d : Addr) (kvs : List (List Nat × Nat)) : V → List V → Hp → VK → Prop := fun x xs H Q => ∃ (q : Addr) (os : List (Option Nat)), x = .ref d ∧ xs = [.ref q] ∧ SqT K H q (os.map vG) ∧ Q (vG (getT os kvs)) H
theorem mt_getO {X : Cx} {d : Addr} {kvs : List (List Nat × Nat)} (hu : X.A.units + 1 < cLine) (hD : dTupB X.K d kvs = true) (hn : (kvs.map (·.1)).Nodup) : MtR X "dict.get" (rGetO X.K d kvs) := by
  intro pins s σ H x xs v us Q I rx rs h
  obtain ⟨q0, os, rfl, rfl, hq, q⟩ := h
  cases rx
  obtain ⟨u, rfl, ru⟩ := vals1 rs
  cases ru
  unfold dTupB at hD
  split at hD
  · next s0 es n sl e =>
    rw [Bool.and_eq_true, Bool.and_eq_true, Bool.and_eq_true] at hD
    obtain ⟨⟨⟨h1, h2⟩, h3⟩, h4⟩ := hD
    have es0 : s0 = "dict" := by simpa using h1
    subst es0
    have hsl : sl = #[] := by
      have := eq_of_beq h2
      exact Array.eq_empty_of_size_eq_zero this
    subst hsl
    have low : (d == sysModules) = false := by simpa using h3
    have hin : ∀ (c : Addr) (k : List Nat), tupB X.K c (k.map fun n : Nat => (n : Int)) = true → IsTupleKey (noneKind X.prog X.w) s.heap ((k.map some).map keyO) c := fun c k hc => by
      obtain ⟨its, r, ⟨o, ho, hcl, n, hd⟩, _⟩ := I.tuple (tupB_ok (H := H) hc)
      refine ⟨o, its.toArray, n, ho, hcl, hd, ?_⟩
      have e : (k.map fun n : Nat => (n : Int)).map V.int = (k.map some).map vG := by
        rw [List.map_map, List.map_map]
        rfl
      rw [e] at r
      simpa using items_none r
    obtain ⟨ys, q1, q2, q3, q4⟩ := entTB_ok hin h4
    have dd : s.heap.DictOfH (tupleKind (noneKind X.prog X.w)) d ys := ⟨_, es, n, I.kIn _ _ e, ⟨rfl, rfl, rfl⟩, rfl, q1, q2, by
      rw [q3]
      have : (kvs.map fun p => (p.1.map some).map keyO) = (kvs.map (·.1)).map fun k => (k.map some).map keyO := by rw [List.map_map]; rfl
      rw [this]
      exact hn.map _ fun a b hab z => hab (somes_inj (keysO_inj z))⟩
    have hk : (tupleKind (noneKind X.prog X.w)).is s.heap (os.map keyO) q0 := by
      obtain ⟨its, r, ⟨o, ho, hcl, n, hd⟩, _⟩ := I.tuple hq
      exact ⟨o, its.toArray, n, ho, hcl, hd, by simpa using items_none r⟩
    exact call_meetsIn PySem.F.slot_dict_get dd.typeIs PySem.F.entry_dict_get (PySem.F.args_dict_get_2 _ _) (meetsH_dict_get (tupleKind (noneKind X.prog X.w)) d q0 low) ⟨tupleKind_room_in1 hu, os.map keyO, ys, hk, dd, _, H, I.tok _, q4 os, q⟩
  · cases hD
theorem dTupB_ty {K : PySem.W.Frag} {d : Addr} {kvs : List (List Nat × Nat)} (h : dTupB K d kvs = true) : ∃ o, K.lookup d = some o ∧ o.cls = .type "dict" ∧ o.dict = none := by
  unfold dTupB at h
  split at h
  · next s es n sl e =>
    rw [Bool.and_eq_true, Bool.and_eq_true, Bool.and_eq_true] at h
    have es0 : s = "dict" := by simpa using h.1.1.1
    subst es0
    exact ⟨_, e, rfl, rfl⟩
  · cases h
def tGetO (K : PySem.W.Frag) (d : Addr) (kvs : List (List Nat × Nat)) (to : TE) (t : TA) : TE := fun σ H Q => to σ H fun x H1 => x = .ref d ∧ t σ H1 fun xs H2 => rGetO K d kvs x xs H2 Q
theorem pe_getO {X : Cx} {K : PySem.W.Frag} {d : Addr} {kvs : List (List Nat × Nat)} {o e : Expr} {to : TE} {t : TA} {apos cpos : Pos} (hK : X.K = K) (hu : X.A.units + 65 < cLine) (hD : dTupB K d kvs = true) (hn : (kvs.map (·.1)).Nodup) (ho : PE X o to) (ha : PA X [e] t)
    (hbase : attributeBase o "get" X.env (eval o X.env) = eval o X.env := by rfl)
    (hfew : ((backTo cpos (starEach [e] X.env)).all (fun x => !x.1) && (backToKw cpos (keywordEach [] X.env)).all (fun x => x.1.isSome)
      && decide ([e].length + ([] : List Keyword).length + (if ([] : List Keyword).isEmpty then 0 else 1) < 30)) = true := by rfl)
    (hline : (apos.endLine == cpos.line) = true := by rfl) (hs : starEach [e] X.env = (false, eval e X.env) :: starEach [] X.env := by rfl) (hplain : (backTo cpos (starEach [] X.env)).any (·.1) = false := by rfl) :
    PE X (.Call (.Attribute o "get" apos) [e] [] cpos) (tGetO K d kvs to t) := by
  subst hK
  refine ⟨fun pins s σ H Q I h => ?_⟩
  refine wpAny_Call_method_late hbase hfew hline rfl (thn (ho.run pins s σ H _ I h) fun v s1 ⟨x, H1, I1, r1, ex, q1⟩ => ?_)
  subst ex
  obtain rfl : v = Value.ref d := r1
  obtain ⟨ob, hl, hc, hd⟩ := dTupB_ty hD
  have ho1 := I1.kIn _ _ hl
  refine ⟨"dict", "dict.get", PySem.F.plainAttrs_dict, PySem.F.slot_dict_get, PySem.F.type_dict_get, ⟨ob, ho1, hc⟩, fun a ea => by cases ea; exact ⟨ob, ho1, hd⟩, ?_⟩
  have hA := ha.run cpos pins s1 σ H1 _ I1 q1
  rw [hs] at hA ⊢
  refine Calls.callWith_builtin (by show (false || (backTo cpos (starEach [] X.env)).any (·.1)) = false; rw [hplain] <;> rfl) (Calls.evalArgs_plain ?_)
  exact thn hA fun us s2 ⟨vs, H2, I2, r2, q2⟩ => mt_getO (by omega) hD hn pins s2 σ H2 (.ref d) vs (.ref d) us Q I2 rfl r2 q2
end My

set_option Elab.async false
set_option linter.all false
set_option maxRecDepth 100000
set_option maxHeartbeats 1000000
/-! ### f'{n:b}' -/
namespace My
open PySem PySem.Spec PyProof.Rows L2
open Builtin Builtin.Str Builtin.Int Builtin.Float
def bText (n : Nat) : Str := ⟨((Nat.toDigits 2 n).map Char.toNat).toArray⟩
def bSpec : Str := Str.ofString "b"
theorem parse_b : ∃ f, parseFormatSpec bSpec.cps.toList "int" 62 = .ok f ∧ f.type = some 98 ∧ f.precision = none ∧ f.noNeg0 = false ∧ f.alt = false ∧ f.width = none ∧ f.grouping = none ∧ f.sign = none ∧ f.align = 62 := ⟨_, rfl, rfl, rfl, rfl, rfl, rfl, rfl, rfl, rfl⟩
section
variable {prog : Program} {w : World} {A : Around} {E : Value → Shared → Prop} {s : Shared}
theorem retStr_as {x y : Str} {Q : PySem.Fin → Shared → Prop} (e : x = y) (h : wpAny (model prog w) A (retStr y) Q E s) : wpAny (model prog w) A (retStr x) Q E s := by rw [e]; exact h
theorem formatField_b {n : Nat} {t : Tok} {Q : Value → Shared → Prop} (hz : (bText n).length ≤ sizeLine)
    (h : Q (.str (bText n) (s.toks + 1)) { s with toks := s.toks + 1 + 1 }) : wpAny (model prog w) A (formatField (.int n t) bSpec) Q E s := by
  obtain ⟨f, hp, h1, h2, h3, h4, h5, h6, h7, h8⟩ := parse_b
  show wpAny _ _ (holding [.int n t] (pyFormat (.int n t) bSpec)) Q E s
  refine wpAny_holding ?_
  unfold pyFormat
  refine wpAny_bind (wpAny_mkStr ?_ (by decide))
  refine wpAny_bind (m := callSpecial? (.int n t) (Str.ofString "__format__") [.str bSpec s.toks]) (wpAny_callSpecial?_slot (name := Str.ofString "__format__") (typeIs_int _ _ t) slot_int_format ?_)
  refine wpAny_call (codeAny_call_builtin slot_int_format.plain entry_int_format (slot_int_format.check _ _ _ _ _ _ _ _ (typeIs_int _ _ t) (args_int_format _ _) ?_))
  have hne : (bSpec.length == 0) = false := by decide
  have hasc : ((bSpec.cps.toList.drop 1).any (· ≥ 128) || (bSpec.cps.getD 0 0 ≥ 128 && !([60, 62, 61, 94] : List Nat).contains (bSpec.cps.getD 1 0))) = false := by decide
  unfold Builtin.«int.__format__»
  simp only [selfAndOne, noKeywords, Int.intOfSelf, asInt?, asStr?, List.isEmpty_nil, if_true, pure_bind, bind_pure, bind_assoc, hne, hasc, Bool.false_eq_true, if_false,
    show (Value.str bSpec s.toks == Value.none) = false from rfl]
  refine wpAny_bind (wpAny_typeNameOf (T := "str") (typeIs_str _ _ _) (by decide) fun _ => ?_)
  refine wpAny_bind (wpAny_typeNameOfCut_int ?_)
  simp only [hp, h1, Option.getD_some]
  rw [if_pos (by decide)]
  show wpAny _ _ (if _ then _ else _) _ _ _
  rw [if_neg (by simp [h2])]
  show wpAny _ _ (if _ then _ else _) _ _ _
  rw [if_neg (by simp [h3])]
  show wpAny _ _ (if _ then _ else _) _ _ _
  rw [if_neg (by decide)]
  rw [if_pos (show ((98 : Nat) == 98) = true from rfl)]
  show wpAny _ _ (if ((2 : Nat) == 10) = true then _ else _) _ _ _
  rw [if_neg (by decide)]
  show wpAny _ _ (if f.width.getD 0 > 100000 then _ else _) _ _ _
  rw [if_neg (by rw [h5]; decide)]
  show wpAny _ _ (retStr _) _ _ _
  refine retStr_as (y := bText n) ?_ ?_
  · conv => lhs; whnf
    have hneg : decide ((n : Int) < 0) = false := decide_eq_false (by omega)
    simp only [h4, h5, h6, h7, h8, hneg]
    simp [bText]
    cases instDecidableEqBool (f.align == 60) true <;> simp
  · unfold retStr
    refine wpAny_bind (wpAny_mkStr (wpAny_pure ?_) hz)
    exact wpAny_bind (wpAny_isInstance (typeIs_str _ _ _) isSubtype_str_str (wpAny_pure h))
end
section
variable {X : Cx}
/-- {x:b}, x a whole number not below nought -/
def tFmtB (te : TE) : TE := fun σ H Q => te σ H fun x H1 => ∃ n : Nat, x = .int n ∧ (bText n).length ≤ sizeLine ∧ Q (.str (bText n)) H1
theorem pe_fmtB {e : Expr} {te : TE} {k : Nat} {p2 p3 pos : Pos} (he : PE X e te) : PE X (.FormattedValue e (-1) (some (.JoinedStr [.Constant (.str "b") k p2] p3)) pos) (tFmtB te) := by
  refine ⟨fun pins s σ H Q I h => ?_⟩
  refine wpAny_FormattedValue_spec (thn (he.run pins s σ H _ I h) fun v s1 hv => ?_)
  obtain ⟨x, H1, I1, r1, n, rfl, hz, q⟩ := hv
  obtain ⟨t, rfl⟩ := r1
  refine thn ((pe_joined1 (pe_str (X := X))).run pins s1 σ H1 (fun x H2 => x = .str bSpec ∧ H2 = H1) I1 ⟨rfl, rfl⟩) fun r s2 hr => ?_
  obtain ⟨x2, H2, I2, r2, rfl, rfl⟩ := hr
  obtain ⟨t2, rfl⟩ := r2
  exact ⟨bSpec, t2, rfl, formatField_b hz ⟨.str (bText n), H2, I2.tok _, ⟨_, rfl⟩, q⟩⟩
end
end My

set_option Elab.async false
set_option linter.all false
set_option maxRecDepth 100000
set_option maxHeartbeats 1000000
/-! ### t.count(sign): how often a sign stands in a text -/
namespace My
open PySem PySem.Spec PyProof.Rows L2
open Builtin Builtin.Str StrLaws
theorem sub_at {L : List Nat} {c i : Nat} (h : i < L.length) : subAt ⟨L.toArray⟩ ⟨#[c]⟩ i = decide (L[i] = c) := by
  have e : L.toArray.extract i (i + 1) = #[L[i]] := by
    apply Array.ext
    · simp
      omega
    · intro j h1 h2
      have : j = 0 := by simpa using h2
      subst this
      simp
  show (L.toArray.extract i (i + 1) == #[c]) = _
  rw [e]
  by_cases z : L[i] = c
  · rw [z, decide_eq_true rfl]
    exact beq_self_eq_true _
  · rw [decide_eq_false z, beq_eq_false_iff_ne]
    intro y
    exact z (by simpa using y)
theorem cnt_from (L : List Nat) (c : Nat) : ∀ (k i : Nat) (fnd : Array Nat) (free : Nat), i + k = L.length + 1 → free ≤ i → fnd.size ≤ i →
    (forIn (List.range' i k) (fnd, free) (occBody ⟨L.toArray⟩ ⟨#[c]⟩ L.length (L.length + 1))).run.fst.size = fnd.size + (L.drop i).count c
  | 0, i, fnd, free, h, _, _ => by
    rw [List.drop_eq_nil_of_le (by omega)]
    rfl
  | k + 1, i, fnd, free, h, hf, hs => by
    rw [List.range'_succ, List.forIn_cons]
    have hlen : (⟨#[c]⟩ : Str).length = 1 := rfl
    by_cases hi : i < L.length
    · have hd : L.drop i = L[i] :: L.drop (i + 1) := List.drop_eq_getElem_cons hi
      unfold occBody
      by_cases z : L[i] = c
      · rw [if_pos ⟨⟨⟨by show fnd.size < L.length + 1; omega, hf⟩, by rw [hlen]; omega⟩, by rw [sub_at hi, decide_eq_true z]⟩]
        have ih := cnt_from L c k (i + 1) (fnd.push i) (i + (⟨#[c]⟩ : Str).length) (by omega) (by rw [hlen]; exact Nat.le_refl _) (by rw [Array.size_push]; omega)
        rw [Array.size_push] at ih
        rw [hd, z, List.count_cons_self]
        refine Eq.trans ih ?_
        omega
      · rw [if_neg (fun y => z (by have := y.2; rw [sub_at hi] at this; exact of_decide_eq_true this))]
        have ih := cnt_from L c k (i + 1) fnd free (by omega) (by omega) (by omega)
        rw [hd, List.count_cons_of_ne z]
        exact ih
    · unfold occBody
      rw [if_neg (fun y => hi (by have := y.1.2; rw [hlen] at this; omega))]
      have ih := cnt_from L c k (i + 1) fnd free (by omega) (by omega) (by omega)
      rw [List.drop_eq_nil_of_le (by omega)] at ih ⊢
      exact ih
theorem count_sign (L : List Nat) (c : Nat) : Txt.count ⟨L.toArray⟩ ⟨#[c]⟩ = ((L.count c : Nat) : Int) := by
  show ((occurrences ⟨L.toArray⟩ ⟨#[c]⟩ 0 (Str.length ⟨L.toArray⟩) ((Str.length ⟨L.toArray⟩) + 1)).length : Int) = _
  have hl : Str.length ⟨L.toArray⟩ = L.length := by show L.toArray.size = _; simp
  rw [hl, occ_eq, Array.length_toList]
  have := cnt_from L c (L.length + 1) 0 #[] 0 (by omega) (Nat.le_refl _) (Nat.zero_le _)
  rw [List.drop_zero] at this
  rw [show L.length + 1 - 0 = L.length + 1 from rfl, this]
  simp
/-- how many bits of a number are one -/
def pop (n : Nat) : Nat := ((Nat.toDigits 2 n).map Char.toNat).count 49
theorem ones_b (n : Nat) : Txt.count (bText n) ⟨#[49]⟩ = ((pop n : Nat) : Int) := count_sign _ _
theorem pop_zero : pop 0 = 0 := by decide
theorem pop_one : pop 1 = 1 := by decide
theorem pop_step {n d : Nat} (hn : 0 < n) (hd : d < 2) : pop (2 * n + d) = pop n + d := by
  unfold pop
  rw [← Nat.toDigits_append_toDigits (by decide) hn hd, List.map_append, List.count_append]
  have : d = 0 ∨ d = 1 := by omega
  rcases this with rfl | rfl
  · rfl
  · rfl
theorem pop_rec (n : Nat) : pop n = pop (n / 2) + n % 2 := by
  by_cases h : n < 2
  · have : n = 0 ∨ n = 1 := by omega
    rcases this with rfl | rfl <;> decide
  · have e : 2 * (n / 2) + n % 2 = n := by omega
    have := pop_step (n := n / 2) (d := n % 2) (by omega) (by omega)
    rw [e] at this
    exact this
/-- how many of the first bits are one -/
theorem pop_bits : ∀ (k n : Nat), n < 2 ^ k → pop n = ((List.range k).filter fun i => n.testBit i).length
  | 0, n, h => by
    have : n = 0 := by simpa using h
    subst this
    decide
  | k + 1, n, h => by
    have h2 : n / 2 < 2 ^ k := by rw [Nat.pow_succ] at h; omega
    rw [pop_rec, pop_bits k (n / 2) h2, List.range_succ_eq_map, List.filter_cons]
    have e : ((List.range k).map Nat.succ).filter (fun i => n.testBit i) = ((List.range k).filter fun i => (n / 2).testBit i).map Nat.succ := by
      rw [List.filter_map]
      congr 1
      refine List.filter_congr fun i _ => ?_
      show n.testBit (i + 1) = (n / 2).testBit i
      rw [Nat.testBit_succ]
    rw [e]
    have z : n.testBit 0 = decide (n % 2 = 1) := Nat.testBit_zero n
    rw [z]
    by_cases b : n % 2 = 1
    · rw [if_pos (by simp [b]), List.length_cons, List.length_map, b]
    · have b0 : n % 2 = 0 := by omega
      rw [if_neg (by simp [b0]), List.length_map, b0]; rfl
end My

set_option Elab.async false
set_option linter.all false
set_option maxRecDepth 100000
set_option maxHeartbeats 1000000
/-! ### formats: their words, and how far a strip is from one -/
namespace My
open PySem PySem.Spec PyProof.Rows L2
def fwL : List Nat := [709, 752, 666, 687, 590, 635, 529, 548, 979, 998, 908, 953, 856, 877, 775, 818, 220, 233, 131, 182, 87, 98, 8, 61, 458, 511, 405, 416, 321, 372, 286, 299]
def fwF (i : Nat) : Nat := fwL.getD i 0
theorem fw_lt {i : Nat} : fwF i < 1024 := by
  unfold fwF
  by_cases h : i < 32
  · have q : ((List.range 32).all fun i => decide (fwL.getD i 0 < 1024)) = true := by decide +kernel
    exact of_decide_eq_true (List.all_eq_true.mp q i (List.mem_range.mpr h))
  · rw [List.getD_eq_getElem?_getD, List.getElem?_eq_none (by show 32 ≤ i; omega)]
    decide
/-- the number of bits written one behind the other, the first the highest -/
def stp (a x : Nat) : Nat := 2 * a + x
def foldB (l : List Nat) : Nat := l.foldl stp 0
theorem foldB_snoc (l : List Nat) (x : Nat) : foldB (l ++ [x]) = 2 * foldB l + x := by
  unfold foldB
  rw [List.foldl_append]
  rfl
theorem foldl_lt : ∀ (l : List Nat) (a k : Nat), (∀ x ∈ l, x < 2) → a < 2 ^ k → l.foldl stp a < 2 ^ (k + l.length)
  | [], a, k, _, h => h
  | x :: l, a, k, hb, h => by
    have hx := hb x (List.mem_cons_self ..)
    have := foldl_lt l (stp a x) (k + 1) (fun y hy => hb y (List.mem_cons_of_mem _ hy)) (by unfold stp; rw [Nat.pow_succ]; omega)
    rw [List.foldl_cons, List.length_cons, show k + (l.length + 1) = k + 1 + l.length by omega]
    exact this
theorem foldB_lt {l : List Nat} (h : ∀ x ∈ l, x < 2) : foldB l < 2 ^ l.length := by
  have := foldl_lt l 0 0 h (by decide)
  rw [Nat.zero_add] at this
  exact this
theorem dbl_div {a x : Nat} (h : x < 2) : (2 * a + x) / 2 = a := by omega
theorem dbl_mod {a x : Nat} (h : x < 2) : (2 * a + x) % 2 = x := by omega
theorem dbl_xor {a b x y : Nat} (hx : x < 2) (hy : y < 2) : (2 * a + x) ^^^ (2 * b + y) = 2 * (a ^^^ b) + (x ^^^ y) := by
  have hz : x ^^^ y < 2 := by
    have : x = 0 ∨ x = 1 := by omega
    have : y = 0 ∨ y = 1 := by omega
    rcases ‹x = 0 ∨ x = 1› with rfl | rfl <;> rcases ‹y = 0 ∨ y = 1› with rfl | rfl <;> decide
  refine Nat.eq_of_testBit_eq fun i => ?_
  cases i with
  | zero =>
    rw [Nat.testBit_xor, Nat.testBit_zero, Nat.testBit_zero, Nat.testBit_zero, dbl_mod hx, dbl_mod hy, dbl_mod hz]
    have : x = 0 ∨ x = 1 := by omega
    have : y = 0 ∨ y = 1 := by omega
    rcases ‹x = 0 ∨ x = 1› with rfl | rfl <;> rcases ‹y = 0 ∨ y = 1› with rfl | rfl <;> decide
  | succ i => rw [Nat.testBit_xor, Nat.testBit_succ, Nat.testBit_succ, Nat.testBit_succ, dbl_div hx, dbl_div hy, dbl_div hz, Nat.testBit_xor]
theorem dbl_and {a b x y : Nat} (hx : x < 2) (hy : y < 2) : (2 * a + x) &&& (2 * b + y) = 2 * (a &&& b) + (x &&& y) := by
  have hz : x &&& y < 2 := by
    have : x = 0 ∨ x = 1 := by omega
    have : y = 0 ∨ y = 1 := by omega
    rcases ‹x = 0 ∨ x = 1› with rfl | rfl <;> rcases ‹y = 0 ∨ y = 1› with rfl | rfl <;> decide
  refine Nat.eq_of_testBit_eq fun i => ?_
  cases i with
  | zero =>
    rw [Nat.testBit_and, Nat.testBit_zero, Nat.testBit_zero, Nat.testBit_zero, dbl_mod hx, dbl_mod hy, dbl_mod hz]
    have : x = 0 ∨ x = 1 := by omega
    have : y = 0 ∨ y = 1 := by omega
    rcases ‹x = 0 ∨ x = 1› with rfl | rfl <;> rcases ‹y = 0 ∨ y = 1› with rfl | rfl <;> decide
  | succ i => rw [Nat.testBit_and, Nat.testBit_succ, Nat.testBit_succ, Nat.testBit_succ, dbl_div hx, dbl_div hy, dbl_div hz, Nat.testBit_and]
def darkF (cs : List (Option Nat)) : Nat := foldB (cs.map fun o => o.getD 0)
def seenF (cs : List (Option Nat)) : Nat := foldB (cs.map fun o => if o.isSome = true then 1 else 0)
/-- how many of the told dots are not as the bits say -/
def wrongF (bits : List Nat) (cs : List (Option Nat)) : Nat := ((bits.zip cs).filter fun p => decide (p.2 = some (1 - p.1))).length
theorem wrong_acc : ∀ (bits : List Nat) (cs : List (Option Nat)) (A D S : Nat), bits.length = cs.length → (∀ x ∈ bits, x < 2) → (∀ o ∈ cs, DotOk o) →
    pop ((bits.foldl stp A ^^^ (cs.map fun o => o.getD 0).foldl stp D) &&& (cs.map fun o => if o.isSome = true then 1 else 0).foldl stp S) = pop ((A ^^^ D) &&& S) + wrongF bits cs
  | [], [], A, D, S, _, _, _ => rfl
  | [], _ :: _, _, _, _, h, _, _ => by simp at h
  | _ :: _, [], _, _, _, h, _, _ => by simp at h
  | x :: bits, o :: cs, A, D, S, hl, hb, hc => by
    have hx := hb x (List.mem_cons_self ..)
    have ho := hc o (List.mem_cons_self ..)
    have hd : o.getD 0 < 2 := by rcases ho with rfl | rfl | rfl <;> decide
    have hs : (if o.isSome = true then 1 else 0) < 2 := by split <;> decide
    rw [List.map_cons, List.map_cons, List.foldl_cons, List.foldl_cons, List.foldl_cons]
    rw [wrong_acc bits cs _ _ _ (by simpa using hl) (fun y hy => hb y (List.mem_cons_of_mem _ hy)) (fun y hy => hc y (List.mem_cons_of_mem _ hy))]
    have hz : x ^^^ o.getD 0 < 2 := by
      have : x = 0 ∨ x = 1 := by omega
      rcases this with rfl | rfl <;> rcases ho with rfl | rfl | rfl <;> decide
    have hw : (x ^^^ o.getD 0) &&& (if o.isSome = true then 1 else 0) < 2 ∧ (x ^^^ o.getD 0) &&& (if o.isSome = true then 1 else 0) = (if decide (o = some (1 - x)) = true then 1 else 0) := by
      have : x = 0 ∨ x = 1 := by omega
      rcases this with rfl | rfl <;> rcases ho with rfl | rfl | rfl <;> decide
    unfold stp
    rw [dbl_xor hx hd, dbl_and hz hs, pop_rec, dbl_div hw.1, dbl_mod hw.1, hw.2]
    unfold wrongF
    rw [List.zip_cons_cons, List.filter_cons]
    by_cases e : o = some (1 - x)
    · rw [if_pos (decide_eq_true e), if_pos (decide_eq_true e), List.length_cons]
      omega
    · rw [if_neg (by simp [e]), if_neg (by simp [e]), Nat.add_zero]
theorem wrong_eq {bits : List Nat} {cs : List (Option Nat)} (hl : bits.length = cs.length) (hb : ∀ x ∈ bits, x < 2) (hc : ∀ o ∈ cs, DotOk o) :
    pop ((foldB bits ^^^ darkF cs) &&& seenF cs) = wrongF bits cs := by
  have := wrong_acc bits cs 0 0 0 hl hb hc
  rw [show pop ((0 ^^^ 0) &&& 0) = 0 from pop_zero, Nat.zero_add] at this
  exact this
/-- a format's bits, as its word says them -/
def fbits (i : Nat) : List Nat := (List.range 10).map fun k => fwF i / 2 ^ (9 - k) % 2
theorem fbits_len (i : Nat) : (fbits i).length = 10 := by
  unfold fbits
  rw [List.length_map, List.length_range]
theorem fbits_lt {i : Nat} : ∀ x ∈ fbits i, x < 2 := by
  intro x h
  obtain ⟨k, _, rfl⟩ := List.mem_map.mp h
  exact Nat.mod_lt _ (by decide)
theorem all32 {P : Nat → Bool} (h : ((List.range 32).all P) = true) {m : Nat} (hm : m < 32) : P m = true := List.all_eq_true.mp h m (List.mem_range.mpr hm)
theorem fbits_word {i : Nat} (h : i < 32) : foldB (fbits i ++ fbits i) = (fwF i * 2 ^ 10) ^^^ fwF i :=
  of_decide_eq_true (all32 (P := fun i => decide (foldB (fbits i ++ fbits i) = (fwF i * 2 ^ 10) ^^^ fwF i)) (by decide +kernel) h)
/-- how far dots are from a format -/
def farF (d s i : Nat) : Nat := pop ((((fwF i * 2 ^ 10) ^^^ fwF i) ^^^ d) &&& s)
theorem far_wrong {cs : List (Option Nat)} {i : Nat} (hl : cs.length = 20) (hc : ∀ o ∈ cs, DotOk o) (hi : i < 32) : farF (darkF cs) (seenF cs) i = wrongF (fbits i ++ fbits i) cs := by
  unfold farF
  rw [← fbits_word hi]
  refine wrong_eq (by rw [List.length_append, fbits_len, hl]) (fun x hx => ?_) hc
  rcases List.mem_append.mp hx with h | h
  · exact fbits_lt x h
  · exact fbits_lt x h
theorem dark_lt {cs : List (Option Nat)} (hl : cs.length = 20) (hc : ∀ o ∈ cs, DotOk o) : darkF cs < 2 ^ 20 := by
  have := foldB_lt (l := cs.map fun o => o.getD 0) (fun x hx => by
    obtain ⟨o, ho, rfl⟩ := List.mem_map.mp hx
    rcases hc o ho with rfl | rfl | rfl <;> decide)
  rw [List.length_map, hl] at this
  exact this
theorem seen_lt {cs : List (Option Nat)} (hl : cs.length = 20) : seenF cs < 2 ^ 20 := by
  have := foldB_lt (l := cs.map fun o => if o.isSome = true then 1 else 0) (fun x hx => by
    obtain ⟨o, ho, rfl⟩ := List.mem_map.mp hx
    split <;> decide)
  rw [List.length_map, hl] at this
  exact this
/-! ### the nearest format -/
def toldF (fs : List Nat) : Option (Nat × Nat) := match fs.min? with
  | some m => if fs.count m = 1 then some (fs.idxOf m, m) else none
  | none => none
def farsF (d s : Nat) : List Nat := (List.range 32).map (farF d s)
theorem fars_len (d s : Nat) : (farsF d s).length = 32 := by
  unfold farsF
  rw [List.length_map, List.length_range]
theorem fars_at {d s i : Nat} (h : i < 32) : (farsF d s)[i]? = some (farF d s i) := by
  unfold farsF
  rw [List.getElem?_map, List.getElem?_range h]
  rfl
theorem fars_min (d s : Nat) : ∃ m, (farsF d s).min? = some m ∧ m ∈ farsF d s ∧ ∀ y ∈ farsF d s, m ≤ y := by
  cases e : (farsF d s).min? with
  | none =>
    have := List.min?_eq_none_iff.mp e
    have l := fars_len d s
    rw [this] at l
    cases l
  | some m =>
    have := List.min?_eq_some_iff.mp e
    exact ⟨m, rfl, this.1, this.2⟩
/-- counting bits with fuel -/
def popK : Nat → Nat → Nat
  | 0, _ => 0
  | k + 1, n => popK k (n / 2) + n % 2
theorem pop_K : ∀ (k n : Nat), n < 2 ^ k → pop n = popK k n
  | 0, n, h => by
    have : n = 0 := by simpa using h
    subst this
    exact pop_zero
  | k + 1, n, h => by
    rw [pop_rec, pop_K k (n / 2) (by rw [Nat.pow_succ] at h; omega)]
    rfl
theorem far_K {d s i : Nat} (hs : s < 2 ^ 20) : farF d s i = popK 20 ((((fwF i * 2 ^ 10) ^^^ fwF i) ^^^ d) &&& s) := pop_K 20 _ (Nat.lt_of_le_of_lt Nat.and_le_right hs)
theorem fars_K {d s : Nat} (hs : s < 2 ^ 20) : farsF d s = (List.range 32).map fun i => popK 20 ((((fwF i * 2 ^ 10) ^^^ fwF i) ^^^ d) &&& s) := List.map_congr_left fun i _ => far_K hs
theorem fw_or {i : Nat} (h : i < 32) : (fwF i * 2 ^ 10) ||| fwF i = (fwF i * 2 ^ 10) ^^^ fwF i :=
  of_decide_eq_true (all32 (P := fun i => decide ((fwF i * 2 ^ 10) ||| fwF i = (fwF i * 2 ^ 10) ^^^ fwF i)) (by decide +kernel) h)
/-- a strip that is a format's is told so -/
theorem told_whole {i : Nat} (h : i < 32) : toldF (farsF ((fwF i * 2 ^ 10) ||| fwF i) 1048575) = some (i, 0) := by
  rw [fars_K (by decide)]
  exact of_decide_eq_true (all32 (P := fun i => decide (toldF ((List.range 32).map fun j => popK 20 ((((fwF j * 2 ^ 10) ^^^ fwF j) ^^^ ((fwF i * 2 ^ 10) ||| fwF i)) &&& 1048575)) = some (i, 0))) (by decide +kernel) h)
def apartF (a b : List Nat) : Nat := ((a.zip b).filter fun p => p.1 != p.2).length
theorem apart_le : ∀ (a b : List Nat) (cs : List (Option Nat)), a.length = cs.length → b.length = cs.length → (∀ x ∈ a, x < 2) → (∀ x ∈ b, x < 2) → (∀ o ∈ cs, o = some 0 ∨ o = some 1) → apartF a b ≤ wrongF a cs + wrongF b cs
  | [], _, _, _, _, _, _, _ => Nat.zero_le _
  | x :: a, [], [], h, _, _, _, _ => by simp at h
  | x :: a, y :: b, [], h, _, _, _, _ => by simp at h
  | x :: a, [], o :: cs, _, h, _, _, _ => by simp at h
  | x :: a, y :: b, o :: cs, h1, h2, h3, h4, h5 => by
    have ih := apart_le a b cs (by simpa using h1) (by simpa using h2) (fun z hz => h3 z (List.mem_cons_of_mem _ hz)) (fun z hz => h4 z (List.mem_cons_of_mem _ hz)) (fun z hz => h5 z (List.mem_cons_of_mem _ hz))
    have hx := h3 x (List.mem_cons_self ..)
    have hy := h4 y (List.mem_cons_self ..)
    unfold apartF wrongF at ih ⊢
    rw [List.zip_cons_cons, List.zip_cons_cons, List.zip_cons_cons, List.filter_cons, List.filter_cons, List.filter_cons]
    have : x = 0 ∨ x = 1 := by omega
    have : y = 0 ∨ y = 1 := by omega
    rcases ‹x = 0 ∨ x = 1› with rfl | rfl <;> rcases ‹y = 0 ∨ y = 1› with rfl | rfl <;> rcases h5 o (List.mem_cons_self ..) with rfl | rfl <;> simp <;> omega
theorem apart8 {i j : Nat} (hi : i < 32) (hj : j < 32) (h : i ≠ j) : 8 ≤ apartF (fbits i ++ fbits i) (fbits j ++ fbits j) := by
  have := of_decide_eq_true (List.all_eq_true.mp (all32 (P := fun i => (List.range 32).all fun j => decide (i = j ∨ 8 ≤ apartF (fbits i ++ fbits i) (fbits j ++ fbits j))) (by decide +kernel) hi) j (List.mem_range.mpr hj))
  exact this.resolve_left h
theorem idx_of {fs : List Nat} {i m : Nat} (h : fs[i]? = some m) (o : ∀ j, j < i → fs[j]? ≠ some m) : fs.idxOf m = i := by
  have hi := (List.getElem?_eq_some_iff.mp h).1
  have hm : m ∈ fs := List.mem_iff_getElem?.mpr ⟨i, h⟩
  have hl := List.idxOf_lt_length_of_mem hm
  have e := List.getElem_idxOf hl
  rcases Nat.lt_trichotomy (fs.idxOf m) i with c | c | c
  · exact absurd (List.getElem?_eq_some_iff.mpr ⟨hl, e⟩) (o _ c)
  · exact c
  · have := List.not_of_lt_findIdx c
    have e2 := (List.getElem?_eq_some_iff.mp h).2
    simp [e2] at this
theorem count_one {fs : List Nat} {i m : Nat} (h : fs[i]? = some m) (o : ∀ j, j ≠ i → fs[j]? ≠ some m) : fs.count m = 1 := by
  have hi := (List.getElem?_eq_some_iff.mp h).1
  have e : fs = fs.take i ++ m :: fs.drop (i + 1) := by
    rw [← (List.getElem?_eq_some_iff.mp h).2, ← List.drop_eq_getElem_cons hi, List.take_append_drop]
  have z1 : (fs.take i).count m = 0 := List.count_eq_zero.mpr fun hm => by
    obtain ⟨j, hj⟩ := List.mem_iff_getElem?.mp hm
    have hl := (List.getElem?_eq_some_iff.mp hj).1
    rw [List.length_take] at hl
    rw [List.getElem?_take_of_lt (by omega)] at hj
    exact o j (by omega) hj
  have z2 : (fs.drop (i + 1)).count m = 0 := List.count_eq_zero.mpr fun hm => by
    obtain ⟨j, hj⟩ := List.mem_iff_getElem?.mp hm
    rw [List.getElem?_drop] at hj
    exact o _ (by omega) hj
  rw [e, List.count_append, List.count_cons_self, z1, z2]
/-- a whole strip with less than four lies is told as it was -/
theorem told_lies {cs : List (Option Nat)} {i k : Nat} (hl : cs.length = 20) (hc : ∀ o ∈ cs, o = some 0 ∨ o = some 1) (hi : i < 32) (hw : wrongF (fbits i ++ fbits i) cs = k) (hk : k < 4) : toldF (farsF (darkF cs) (seenF cs)) = some (i, k) := by
  have dok : ∀ o ∈ cs, DotOk o := fun o ho => by
    rcases hc o ho with rfl | rfl
    · exact .inr (.inl rfl)
    · exact .inr (.inr rfl)
  have lt2 : ∀ j, ∀ x ∈ fbits j ++ fbits j, x < 2 := fun j x hx => by
    rcases List.mem_append.mp hx with h | h
    · exact fbits_lt x h
    · exact fbits_lt x h
  have l20 : ∀ j, (fbits j ++ fbits j).length = cs.length := fun j => by rw [List.length_append, fbits_len, hl]
  have hi' : (farsF (darkF cs) (seenF cs))[i]? = some k := by rw [fars_at hi, far_wrong hl dok hi, hw]
  have hj' : ∀ j, j ≠ i → ∀ y, (farsF (darkF cs) (seenF cs))[j]? = some y → k < y := fun j hj y hy => by
    have j32 : j < 32 := by
      have := (List.getElem?_eq_some_iff.mp hy).1
      rw [fars_len] at this
      exact this
    rw [fars_at j32, far_wrong hl dok j32] at hy
    have h8 := apart8 hi j32 (fun e => hj e.symm)
    have hle := apart_le _ _ cs (l20 i) (l20 j) (lt2 i) (lt2 j) hc
    rw [hw] at hle
    have := Option.some.inj hy
    omega
  have hm : (farsF (darkF cs) (seenF cs)).min? = some k := List.min?_eq_some_iff.mpr ⟨List.mem_iff_getElem?.mpr ⟨i, hi'⟩, fun y hy => by
    obtain ⟨j, e⟩ := List.mem_iff_getElem?.mp hy
    by_cases c : j = i
    · subst c
      rw [hi'] at e
      exact Nat.le_of_eq (Option.some.inj e)
    · exact Nat.le_of_lt (hj' j c y e)⟩
  have other : ∀ j, j ≠ i → (farsF (darkF cs) (seenF cs))[j]? ≠ some k := fun j c e => Nat.lt_irrefl _ (hj' j c k e)
  unfold toldF
  rw [hm]
  show (if _ then _ else _) = _
  rw [if_pos (count_one hi' other), idx_of hi' fun j hj => other j (by omega)]
end My

set_option Elab.async false
set_option linter.all false
set_option maxRecDepth 100000
set_option maxHeartbeats 1000000
/-! ### words read from dots, gaps among them -/
namespace My
open PySem PySem.Spec PyProof.Rows L2
/-- the word of some dots, none where one is not told -/
def wordO (l : List (Option Nat)) : Option Nat := if l.all Option.isSome = true then some (foldB (l.map fun o => o.getD 0)) else none
def partO (os : List (Option Nat)) (b i : Nat) : List (Option Nat) := (os.drop (b * i)).take b
def heardF (b : Nat) (os : List (Option Nat)) : List (Option Nat) := (List.range (os.length / b)).map fun i => wordO (partO os b i)
def quadsT : List (List Nat × Nat) := [([0, 0, 0, 0], 0), ([0, 0, 0, 1], 1), ([0, 0, 1, 0], 2), ([0, 0, 1, 1], 3), ([0, 1, 0, 0], 4), ([0, 1, 0, 1], 5), ([0, 1, 1, 0], 6), ([0, 1, 1, 1], 7), ([1, 0, 0, 0], 8), ([1, 0, 0, 1], 9), ([1, 0, 1, 0], 10), ([1, 0, 1, 1], 11), ([1, 1, 0, 0], 12), ([1, 1, 0, 1], 13), ([1, 1, 1, 0], 14), ([1, 1, 1, 1], 15)]
theorem dot_mem {o : Option Nat} (h : DotOk o) : o ∈ [none, some 0, some 1] := by
  rcases h with rfl | rfl | rfl <;> decide
theorem quad_get {a b c d : Option Nat} (ha : DotOk a) (hb : DotOk b) (hc : DotOk c) (hd : DotOk d) : getT [a, b, c, d] quadsT = wordO [a, b, c, d] := by
  rcases ha with rfl | rfl | rfl <;> rcases hb with rfl | rfl | rfl <;> rcases hc with rfl | rfl | rfl <;> rcases hd with rfl | rfl | rfl <;> decide +kernel
theorem four {α : Type} {l : List α} (h : l.length = 4) : ∃ a b c d, l = [a, b, c, d] := by
  match l, h with
  | [a, b, c, d], _ => exact ⟨a, b, c, d, rfl⟩
theorem quad_word {l : List (Option Nat)} (h : l.length = 4) (hd : ∀ o ∈ l, DotOk o) : getT l quadsT = wordO l := by
  obtain ⟨a, b, c, d, rfl⟩ := four h
  exact quad_get (hd _ (by simp)) (hd _ (by simp)) (hd _ (by simp)) (hd _ (by simp))
theorem part_len {os : List (Option Nat)} {b n i : Nat} (hl : os.length = b * n) (hi : i < n) : (partO os b i).length = b := by
  unfold partO
  rw [List.length_take, List.length_drop, hl]
  have : b * (i + 1) ≤ b * n := Nat.mul_le_mul_left b hi
  rw [Nat.mul_succ] at this
  omega
theorem part_at {os : List (Option Nat)} {b i j : Nat} (hj : j < b) : (partO os b i)[j]? = os[b * i + j]? := by
  unfold partO
  rw [List.getElem?_take_of_lt hj, List.getElem?_drop]
theorem part_dot {os : List (Option Nat)} {b i : Nat} (hd : ∀ o ∈ os, DotOk o) : ∀ o ∈ partO os b i, DotOk o := fun o ho => hd o (List.mem_of_mem_drop (List.mem_of_mem_take ho))
theorem foldl_app (l : List Nat) : ∀ a : Nat, l.foldl stp a = a * 2 ^ l.length + l.foldl stp 0 := by
  induction l with
  | nil => intro a; simp
  | cons x l ih =>
    intro a
    rw [List.foldl_cons, List.foldl_cons, ih (stp a x), ih (stp 0 x), List.length_cons]
    unfold stp
    rw [Nat.pow_succ, Nat.add_mul, Nat.mul_zero, Nat.zero_add, Nat.mul_comm 2 a, Nat.mul_assoc, Nat.mul_comm 2]
    omega
theorem foldB_app (a b : List Nat) : foldB (a ++ b) = foldB a * 2 ^ b.length + foldB b := by
  unfold foldB
  rw [List.foldl_append, foldl_app b]
def joinO : Option Nat → Option Nat → Nat → Option Nat
  | some x, some y, b => some (x * 2 ^ b + y)
  | _, _, _ => none
theorem word_app (a b : List (Option Nat)) : wordO (a ++ b) = joinO (wordO a) (wordO b) b.length := by
  unfold wordO
  rw [List.all_append, List.map_append, foldB_app, List.length_map]
  cases h1 : a.all Option.isSome <;> cases h2 : b.all Option.isSome <;> rfl
theorem or16 {x y : Nat} (hx : x < 2 ^ 4) (hy : y < 2 ^ 4) : Builtin.bitOr ((x : Int) * 2 ^ (4 : Int).toNat) (y : Int) = ((x * 2 ^ 4 + y : Nat) : Int) := by
  have q : ((List.range 16).all fun x => (List.range 16).all fun y => decide (Builtin.bitOr ((x : Int) * 2 ^ (4 : Int).toNat) (y : Int) = ((x * 2 ^ 4 + y : Nat) : Int))) = true := by decide +kernel
  exact of_decide_eq_true (List.all_eq_true.mp (List.all_eq_true.mp q x (List.mem_range.mpr hx)) y (List.mem_range.mpr hy))
theorem word_lt {l : List (Option Nat)} (hd : ∀ o ∈ l, DotOk o) {x : Nat} (h : wordO l = some x) : x < 2 ^ l.length := by
  unfold wordO at h
  split at h
  · cases h
    have := foldB_lt (l := l.map fun o => o.getD 0) fun x hx => by
      obtain ⟨o, ho, rfl⟩ := List.mem_map.mp hx
      rcases hd o ho with rfl | rfl | rfl <;> decide
    rw [List.length_map] at this
    exact this
  · cases h
/-- a part of twice the width is two parts -/
theorem part_two {os : List (Option Nat)} {b i : Nat} : partO os (2 * b) i = partO os b (2 * i) ++ partO os b (2 * i + 1) := by
  unfold partO
  rw [show 2 * b = b + b by omega, List.take_add, List.drop_drop]
  congr 2
  · rw [show (b + b) * i = b * (2 * i) by rw [Nat.add_mul, Nat.two_mul, Nat.mul_add]]
  · rw [show (b + b) * i + b = b * (2 * i + 1) by rw [Nat.add_mul, Nat.mul_succ, Nat.two_mul, Nat.mul_add]]
theorem heard_len {b n : Nat} {os : List (Option Nat)} (hb : 0 < b) (h : os.length = b * n) : (heardF b os).length = n := by
  unfold heardF
  rw [List.length_map, List.length_range, h, Nat.mul_div_cancel_left n hb]
theorem heard_at {b n i : Nat} {os : List (Option Nat)} (hb : 0 < b) (h : os.length = b * n) (hi : i < n) : (heardF b os)[i]? = some (wordO (partO os b i)) := by
  unfold heardF
  rw [List.getElem?_map, h, Nat.mul_div_cancel_left n hb, List.getElem?_range hi]
  rfl
/-- a stride of a list of n parts of c -/
def strG (n j c : Nat) : Bool := strI (c * n) (j : Int) (c : Int) == (List.range n).map fun i => c * i + j
theorem stride_is {α : Type} {xs : List α} {n j c : Nat} (hl : xs.length = c * n) (hs : strG n j c = true) (hj : j < c) : (strideL xs (j : Int) (c : Int)).length = n ∧ ∀ i, i < n → (strideL xs (j : Int) (c : Int))[i]? = xs[c * i + j]? := by
  have e : strI xs.length (j : Int) (c : Int) = (List.range n).map fun i => c * i + j := by rw [hl]; exact eq_of_beq hs
  have hin : ∀ i, i < n → c * i + j < xs.length := fun i hi => by
    rw [hl]
    have : c * (i + 1) ≤ c * n := Nat.mul_le_mul_left c hi
    rw [Nat.mul_succ] at this
    omega
  have e2 : (strideL xs (j : Int) (c : Int)).map some = (List.range n).map fun i => xs[c * i + j]? := by
    unfold strideL
    rw [e, List.filterMap_map]
    have : ∀ l : List Nat, (∀ i ∈ l, i < n) → (l.filterMap ((xs[·]?) ∘ fun i => c * i + j)).map some = l.map fun i => xs[c * i + j]? := by
      intro l
      induction l with
      | nil => intro _; rfl
      | cons i l ih =>
        intro h
        have h1 := hin i (h i (by simp))
        have h2 := ih fun k hk => h k (List.mem_cons_of_mem _ hk)
        have h3 : xs[c * i + j]? = some (xs[c * i + j]'h1) := List.getElem?_eq_getElem h1
        rw [List.filterMap_cons]
        simp only [Function.comp, h3]
        rw [List.map_cons, List.map_cons, h3]
        congr 1
    exact this _ fun i hi => List.mem_range.mp hi
  have hlen : (strideL xs (j : Int) (c : Int)).length = n := by
    have := congrArg List.length e2
    rw [List.length_map, List.length_map, List.length_range] at this
    exact this
  refine ⟨hlen, fun i hi => ?_⟩
  have := congrArg (fun l => l[i]?) e2
  simp only [List.getElem?_map, List.getElem?_range hi, Option.map_some] at this
  rw [List.getElem?_eq_getElem (by omega)] at this ⊢
  exact Option.some.inj this
theorem dRow_dp {K : PySem.W.Frag} {H : Hp} {a : Addr} {os : List (Option Nat)} (h : SqL K H a (os.map vG)) : Dp K H (.ref a) (dRow os) := .lst h (dG_all os)
theorem dRow_shaped (os : List (Option Nat)) : SeqAt.shaped (dRow os) = true := by
  unfold SeqAt.shaped
  have h1 : (dRow os).canLay0 = true := dG_lay os
  have h2 : (dRow os).depth ≤ 64 := by
    show PyData.depthAll (os.map dG) + 1 ≤ 64
    rw [dG_depth os]
    decide
  rw [h1, Bool.true_and]
  exact decide_eq_true h2
theorem dRow_eq (os : List (Option Nat)) : PyData.eqv (dRow os) (dRow os) = true := SeqAt.eqv_refl _ (dG_lay os)
theorem words_reprs {K : PySem.W.Frag} {H : Hp} {a : Addr} {ws : List Nat} (h : SqL K H a (ws.map vN)) (hw : ∀ x ∈ ws, x < 256) (hl : ws.length ≤ 58) :
    Dp K H (.ref a) (dRow (ws.map some)) ∧ (dRow (ws.map some)).showable = true ∧ (dRow (ws.map some)).hasDict = false ∧ (dRow (ws.map some)).depth ≤ 60 ∧ (dRow (ws.map some)).shown.length ≤ sizeLine := by
  have e : ws.map vN = (ws.map some).map vG := by
    rw [List.map_map]
    rfl
  rw [e] at h
  refine ⟨dRow_dp h, dRow_show ws hw, dRow_dict _, ?_, ?_⟩
  · show PyData.depthAll ((ws.map some).map dG) + 1 ≤ 60
    rw [dG_depth]
    decide
  · have e2 : PyData.shown (dRow (ws.map some)) = listText (((ws.map some).map dG).map PyData.shown) := by
      rw [← shownAll_map]
      rfl
    rw [e2]
    have l2 := list_le (ts := ((ws.map some).map dG).map PyData.shown) (m := 3) fun t ht => by
      obtain ⟨d, hd, rfl⟩ := List.mem_map.mp ht
      obtain ⟨o, ho, rfl⟩ := List.mem_map.mp hd
      obtain ⟨x, hx, rfl⟩ := List.mem_map.mp ho
      exact int_shown (hw x hx)
    rw [List.length_map, List.length_map, List.length_map] at l2
    exact Nat.le_of_lt (small1000 (by omega))
theorem sl_listK {X : Cx} {K : PySem.W.Frag} (h : X.K = K) : SlR X (rSlL K) := by
  subst h
  exact sl_list
end My

set_option Elab.async false
set_option linter.all false
set_option maxRecDepth 100000
set_option maxHeartbeats 1000000
/-! ### int(t, 2), t a text of noughts and ones -/
namespace My
open PySem PySem.Spec PyProof.Rows L2
open PySem.NumText PySem.Calls
def IsBin (c : Nat) : Prop := c = 48 ∨ c = 49
def binNum (l : List Nat) : Nat := l.foldl (fun a c => a * 2 + (c - 48)) 0
theorem bin_hex {c : Nat} (h : IsBin c) : Hx.IsHex c ∧ Hx.hv c = c - 48 ∧ Hx.hv c < 2 := by
  rcases h with rfl | rfl
  · exact ⟨.inl ⟨by decide, by decide⟩, by decide, by decide⟩
  · exact ⟨.inl ⟨by decide, by decide⟩, by decide, by decide⟩
theorem all_hex {cs : List Nat} (h : ∀ c ∈ cs, IsBin c) : ∀ c ∈ cs, Hx.IsHex c := fun c hc => (bin_hex (h c hc)).1
theorem step_bin {ds : Array Nat} {b : Bool} {c : Nat} (h : IsBin c) : PySem.NumText.step 2 (ds, b) c = some (ds.push (c - 48), true) := by
  obtain ⟨h1, h2, h3⟩ := bin_hex h
  unfold PySem.NumText.step
  rw [if_neg (by rw [beq_iff_eq]; rcases h with rfl | rfl <;> decide), Hx.digit_hex h1, ← h2]
  exact if_pos h3
theorem fold_bin : ∀ (cs : List Nat) (ds : Array Nat), (∀ c ∈ cs, IsBin c) → cs.foldlM (PySem.NumText.step 2) (ds, true) = some (cs.foldl (fun acc c => acc.push (c - 48)) ds, true)
  | [], _, _ => rfl
  | c :: cs, ds, h => by
    rw [List.foldlM_cons, step_bin (h c (List.mem_cons_self ..))]
    exact fold_bin cs _ fun d hd => h d (List.mem_cons_of_mem _ hd)
theorem digits_bin {cs : List Nat} (h : ∀ c ∈ cs, IsBin c) (hne : cs ≠ []) : digits? 2 cs = some (cs.foldl (fun acc c => acc.push (c - 48)) #[]) := by
  cases cs with
  | nil => exact absurd rfl hne
  | cons c cs =>
    unfold digits?
    rw [List.foldlM_cons, step_bin (h c (List.mem_cons_self ..))]
    show (cs.foldlM (PySem.NumText.step 2) ((#[] : Array Nat).push (c - 48), true)).bind _ = _
    rw [fold_bin cs _ fun d hd => h d (List.mem_cons_of_mem _ hd)]
    rfl
theorem worth_bin : ∀ (cs : List Nat) (ds : Array Nat), (cs.foldl (fun acc c => acc.push (c - 48)) ds).foldl (fun acc d => acc * 2 + d) 0 = cs.foldl (fun a c => a * 2 + (c - 48)) (ds.foldl (fun acc d => acc * 2 + d) 0)
  | [], _ => rfl
  | c :: cs, ds => by
    rw [List.foldl_cons, worth_bin cs, List.foldl_cons]
    congr 1
    simp
theorem based_bin {cs : List Nat} (h : ∀ c ∈ cs, IsBin c) : based 2 cs = (2, false, cs) := by
  match cs, h with
  | [], _ => rfl
  | [a], h =>
    rcases h a (List.mem_cons_self ..) with rfl | rfl <;> rfl
  | a :: c :: r, h =>
    have hc := h c (List.mem_cons_of_mem _ (List.mem_cons_self ..))
    rcases h a (List.mem_cons_self ..) with rfl | rfl <;> rcases hc with rfl | rfl <;> rfl
theorem read_bin {cs : List Nat} (h : ∀ c ∈ cs, IsBin c) (hne : cs ≠ []) : (int_private% "readNumeral") 0 2 cs = (int_private% "Numeral.value") ((binNum cs : Nat) : Int) := by
  have hr : ∀ c ∈ cs.reverse, IsBin c := fun c hc => h c (List.mem_reverse.mp hc)
  refine (readNumeral_eq 0 2 cs).trans ?_
  rw [Hx.dropB (all_hex h), Hx.signH (all_hex h)]
  show judge 0 false (based 2 cs).1 (based 2 cs).2.1 (digits? (based 2 cs).1 (((based 2 cs).2.2.reverse.dropWhile blank).reverse)) = _
  rw [based_bin h]
  show judge 0 false 2 false (digits? 2 ((cs.reverse.dropWhile blank).reverse)) = _
  rw [Hx.dropB (all_hex hr), List.reverse_reverse, digits_bin h hne]
  show (int_private% "Numeral.value") (((cs.foldl (fun acc c => acc.push (c - 48)) (#[] : Array Nat)).foldl (fun acc d => acc * 2 + d) 0 : Nat) : Int) = _
  have z : (#[] : Array Nat).foldl (fun acc d => acc * 2 + d) 0 = 0 := by first | rfl | simp
  rw [worth_bin, z] <;> rfl
set_option maxHeartbeats 4000000 in
theorem gives_bin {x : PySem.Str} {u t : Tok} (hl : x.length ≤ 640) (h : ∀ c ∈ x.cps.toList, IsBin c) (hne : x.cps.toList ≠ []) :
    Gives (Builtin.«int.__new__» ⟨[.type "int", .str x u, .int 2 t], []⟩) (.int ((binNum x.cps.toList : Nat) : Int)) :=
  .of_wp fun M A E s Q hQ => by
    obtain ⟨hp, g, d, tk, os⟩ := s
    have f1 := F.conv_sub_int
    have f2 := F.madeHere_int
    have f6 : typeOf (.str x u) = pure (.type "str") := rfl
    obtain ⟨e1, e2⟩ := Hx.seen_hex (all_hex h)
    have key : Hx.Hid ((numSeenOf x).length ≤ 640 ∧ (int_private% "readNumeral") 0 2 (numSeenOf x) = (int_private% "Numeral.value") ((binNum x.cps.toList : Nat) : Int) ∧ ((numSeenOf x).length == (numTextOf x).length) = true) :=
      ⟨by rw [e2, Array.length_toList]; exact hl, by rw [e2]; exact read_bin h hne, by rw [e1, e2]; exact beq_self_eq_true _⟩
    clear e1 e2 hl hne h
    repeat (any_goals (first
      | assumption
      | ((with_reducible show wpAny _ _ ((int_private% "intFromText") _ _ _) _ _ _); refine Hx.wp_textB key.out.1 key.out.2.1 key.out.2.2 ?_)
      | wp_step))
    all_goals first | exact ⟨_, rfl, hQ⟩ | skip
/-- int(t, 2) -/
def rIntBin : List V → Hp → VK → Prop := fun xs H Q => ∃ l : List Nat, xs = [.str (SX.S l), .int 2] ∧ l ≠ [] ∧ l.length ≤ 640 ∧ (∀ c ∈ l, IsBin c) ∧ Q (.int ((binNum l : Nat) : Int)) H
theorem call_int_bin {X : Cx} : CallR X (.type "int") rIntBin := by
  intro pins s σ H xs us Q I r h
  obtain ⟨l, rfl, hne, hl, hx, q⟩ := h
  obtain ⟨u, w', rfl, r1, r2⟩ := vals2 r
  obtain ⟨t1, rfl⟩ := r1
  obtain ⟨t2, rfl⟩ := r2
  exact callType_new F.called_int F.newNe_int (Hx.typeCall_int_2 _ _) (Hx.newCall_int_2 _ _) (fun obj => F.initArgs_range_2 obj _ _) F.entry_int_new (gives_bin (x := SX.S l) (by rw [SX.S_len]; exact hl) hx hne).meets (show (Made.int ((binNum l : Nat) : Int)).post _ s from ⟨rfl, ⟨.int ((binNum l : Nat) : Int), H, I.tok _, ⟨_, rfl⟩, q⟩⟩)
end My

set_option Elab.async false
set_option linter.all false
set_option maxRecDepth 100000
set_option maxHeartbeats 1000000
/-! ### the bits of int(t, 2) -/
namespace My
open PySem PySem.Spec PyProof.Rows L2
/-- the same number, from its last sign on -/
def binR : List Nat → Nat
  | [] => 0
  | c :: r => 2 * binR r + (c - 48)
theorem bin_rev (L : List Nat) : binNum L = binR L.reverse := by
  have key : ∀ (r : List Nat), binNum r.reverse = binR r := fun r => by
    induction r with
    | nil => rfl
    | cons c r ih =>
      unfold binNum at ih ⊢
      rw [List.reverse_cons, List.foldl_append, ih]
      show binR r * 2 + (c - 48) = 2 * binR r + (c - 48)
      omega
  have := key L.reverse
  rw [List.reverse_reverse] at this
  exact this
theorem binR_lt : ∀ r : List Nat, (∀ c ∈ r, IsBin c) → binR r < 2 ^ r.length
  | [], _ => by decide
  | c :: r, h => by
    have ih := binR_lt r fun d hd => h d (List.mem_cons_of_mem _ hd)
    have hc := h c (List.mem_cons_self ..)
    show 2 * binR r + (c - 48) < 2 ^ (r.length + 1)
    rw [Nat.pow_succ]
    rcases hc with rfl | rfl <;> omega
theorem binR_bit : ∀ (r : List Nat) (p : Nat), (∀ c ∈ r, IsBin c) → (binR r).testBit p = decide (r[p]? = some 49)
  | [], p, _ => by
    show (0 : Nat).testBit p = _
    rw [Nat.zero_testBit]
    exact (decide_eq_false (by simp)).symm
  | c :: r, 0, h => by
    have hc := h c (List.mem_cons_self ..)
    show (2 * binR r + (c - 48)).testBit 0 = _
    rw [Nat.testBit_zero]
    rcases hc with rfl | rfl
    · simp
    · simp
  | c :: r, p + 1, h => by
    have hc := h c (List.mem_cons_self ..)
    have ih := binR_bit r p fun d hd => h d (List.mem_cons_of_mem _ hd)
    show (2 * binR r + (c - 48)).testBit (p + 1) = _
    rw [Nat.testBit_succ, List.getElem?_cons_succ, ← ih]
    congr 1
    rcases hc with rfl | rfl <;> omega
/-- a bit of the number is the sign that stands so far from the end -/
theorem bin_bit {L : List Nat} {p : Nat} (h : ∀ c ∈ L, IsBin c) (hp : p < L.length) : (binNum L).testBit p = decide (L[L.length - 1 - p]? = some 49) := by
  rw [bin_rev, binR_bit _ _ fun c hc => h c (List.mem_reverse.mp hc), List.getElem?_reverse hp]
theorem bin_lt {L : List Nat} (h : ∀ c ∈ L, IsBin c) : binNum L < 2 ^ L.length := by
  rw [bin_rev, ← List.length_reverse]
  exact binR_lt _ fun c hc => h c (List.mem_reverse.mp hc)
end My

set_option Elab.async false
set_option linter.all false
set_option maxRecDepth 100000
set_option maxHeartbeats 1000000
/-! ### what runs of five and more equal dots cost, told by lengths and told by bits -/
namespace My
/-- how long the first run is -/
def lead : List Nat → Nat
  | [] => 0
  | [_] => 1
  | x :: y :: r => if x = y then lead (y :: r) + 1 else 1
/-- the cost of a line -/
def runC : List Nat → Nat
  | [] => 0
  | x :: r => runC r + (if lead (x :: r) = 5 then 3 else if 5 < lead (x :: r) then 1 else 0)
/-- the lengths of the runs -/
def runsL : List Nat → List Nat
  | [] => []
  | [_] => [1]
  | x :: y :: r => if x = y then (runsL (y :: r)).modifyHead (· + 1) else 1 :: runsL (y :: r)
def runF (L : Nat) : Nat := if 4 < L then L - 2 else 0
theorem runs_head : ∀ (x : Nat) (r : List Nat), ∃ t, runsL (x :: r) = lead (x :: r) :: t
  | _, [] => ⟨[], rfl⟩
  | x, y :: r => by
    obtain ⟨t, e⟩ := runs_head y r
    by_cases h : x = y
    · refine ⟨t, ?_⟩
      show (if x = y then (runsL (y :: r)).modifyHead (· + 1) else 1 :: runsL (y :: r)) = (if x = y then lead (y :: r) + 1 else 1) :: t
      rw [if_pos h, if_pos h, e]
      rfl
    · refine ⟨runsL (y :: r), ?_⟩
      show (if x = y then (runsL (y :: r)).modifyHead (· + 1) else 1 :: runsL (y :: r)) = (if x = y then lead (y :: r) + 1 else 1) :: _
      rw [if_neg h, if_neg h]
theorem lead_pos (x : Nat) : ∀ r : List Nat, 1 ≤ lead (x :: r)
  | [] => Nat.le_refl _
  | y :: r => by
    show 1 ≤ (if x = y then lead (y :: r) + 1 else 1)
    split <;> omega
/-- told by the lengths of the runs -/
theorem runs_cost : ∀ r : List Nat, ((runsL r).map runF).sum = runC r
  | [] => rfl
  | [x] => rfl
  | x :: y :: r => by
    have ih := runs_cost (y :: r)
    have hl := lead_pos y r
    obtain ⟨t, e⟩ := runs_head y r
    show ((if x = y then (runsL (y :: r)).modifyHead (· + 1) else 1 :: runsL (y :: r)).map runF).sum = runC (y :: r) + (if (if x = y then lead (y :: r) + 1 else 1) = 5 then 3 else if 5 < (if x = y then lead (y :: r) + 1 else 1) then 1 else 0)
    rw [e] at ih ⊢
    rw [List.map_cons, List.sum_cons] at ih
    by_cases h : x = y
    · simp only [if_pos h]
      show (((lead (y :: r) + 1) :: t).map runF).sum = _
      rw [List.map_cons, List.sum_cons, ← ih]
      generalize lead (y :: r) = L at hl
      unfold runF
      split <;> split <;> (try split) <;> (try split) <;> omega
    · simp only [if_neg h]
      rw [List.map_cons, List.map_cons, List.sum_cons, List.sum_cons, ← ih]
      have z : runF 1 = 0 := rfl
      rw [z, if_neg (show ¬ (1 : Nat) = 5 by decide), if_neg (show ¬ 5 < (1 : Nat) by decide)]
      omega
/-- five equal dots from a place on -/
def five (r : List Nat) (i : Nat) : Bool := decide (5 ≤ lead (r.drop i))
theorem five_zero (x : Nat) (r : List Nat) : five (x :: r) 0 = decide (5 ≤ lead (x :: r)) := rfl
theorem five_succ (x : Nat) (r : List Nat) (i : Nat) : five (x :: r) (i + 1) = five r i := rfl
theorem filt_succ (x : Nat) (n : Nat) (P Q : Nat → Bool) (h : ∀ i, P (i + 1) = Q i) : ((List.range (n + 1)).filter P).length = (if P 0 = true then 1 else 0) + ((List.range n).filter Q).length := by
  rw [List.range_succ_eq_map, List.filter_cons]
  have e : ((List.range n).map Nat.succ).filter P = ((List.range n).filter Q).map Nat.succ := by
    rw [List.filter_map]
    congr 1
    exact List.filter_congr fun i _ => h i
  rw [e]
  split
  · rw [List.length_cons, List.length_map]
    omega
  · rw [List.length_map]
    omega
/-- told by bits: the places of five equal dots, and twice the last ones of them -/
theorem bits_cost : ∀ r : List Nat, ((List.range r.length).filter (five r)).length + 2 * ((List.range r.length).filter fun i => five r i && !five r (i + 1)).length = runC r
  | [] => rfl
  | x :: r => by
    have ih := bits_cost r
    rw [List.length_cons, filt_succ x r.length (five (x :: r)) (five r) (fun i => five_succ x r i), filt_succ x r.length (fun i => five (x :: r) i && !five (x :: r) (i + 1)) (fun i => five r i && !five r (i + 1)) (fun i => rfl)]
    show _ = runC r + (if lead (x :: r) = 5 then 3 else if 5 < lead (x :: r) then 1 else 0)
    rw [five_zero, five_succ]
    have h0 : five r 0 = decide (5 ≤ lead r) := rfl
    rw [h0]
    have key : lead (x :: r) = lead r + 1 ∨ lead (x :: r) = 1 := by
      cases r with
      | nil => exact .inr rfl
      | cons y r =>
        show (if x = y then lead (y :: r) + 1 else 1) = _ ∨ (if x = y then lead (y :: r) + 1 else 1) = 1
        split
        · exact .inl rfl
        · exact .inr rfl
    by_cases a : 5 ≤ lead (x :: r)
    · have k2 : lead (x :: r) = lead r + 1 := by omega
      by_cases b : 5 ≤ lead r
      · simp only [decide_eq_true a, decide_eq_true b]
        rw [if_neg (show ¬ lead (x :: r) = 5 by omega), if_pos (show 5 < lead (x :: r) by omega)]
        simp
        omega
      · simp only [decide_eq_true a, decide_eq_false b]
        rw [if_pos (show lead (x :: r) = 5 by omega)]
        simp
        omega
    · simp only [decide_eq_false a]
      rw [if_neg (show ¬ lead (x :: r) = 5 by omega), if_neg (show ¬ 5 < lead (x :: r) by omega)]
      simp
      omega
end My

set_option Elab.async false
set_option linter.all false
set_option maxRecDepth 100000
set_option maxHeartbeats 1000000
/-! ### a line of noughts and ones, parted into its runs by replace and split -/
namespace My
open PySem PySem.Spec PyProof.Rows L2
open PySem.StrLaws
/-- a blank between each a and the b behind it -/
def insA (a b : Nat) : List Nat → List Nat
  | [] => []
  | [x] => [x]
  | x :: y :: r => if x = a ∧ y = b then x :: 32 :: insA a b (y :: r) else x :: insA a b (y :: r)
theorem insA_head (a b y : Nat) : ∀ r, ∃ t, insA a b (y :: r) = y :: t
  | [] => ⟨[], rfl⟩
  | z :: r => by
    show ∃ t, (if y = a ∧ z = b then y :: 32 :: insA a b (z :: r) else y :: insA a b (z :: r)) = y :: t
    split
    · exact ⟨_, rfl⟩
    · exact ⟨_, rfl⟩
theorem insA_off {a b x : Nat} (h : x ≠ a) : ∀ t, insA a b (x :: t) = x :: insA a b t
  | [] => rfl
  | y :: r => by
    show (if x = a ∧ y = b then x :: 32 :: insA a b (y :: r) else x :: insA a b (y :: r)) = _
    rw [if_neg fun z => h z.1]
theorem insA_rep {a b : Nat} (h : a ≠ b) : ∀ (n : Nat) (L : List Nat), L.length ≤ n → replL [a, b] [a, 32, b] L = insA a b L
  | _, [], _ => replL_nil
  | n, [x], _ => by
    rw [replL_miss (by
      intro z
      have := congrArg List.length z
      cases this), replL_nil]
    rfl
  | 0, x :: y :: r, hl => absurd hl (by simp)
  | n + 1, x :: y :: r, hl => by
    have hl2 : (y :: r).length ≤ n := Nat.le_of_succ_le_succ hl
    by_cases c : x = a ∧ y = b
    · obtain ⟨rfl, rfl⟩ := c
      rw [replL_hit (by simp) (by rfl)]
      have e : (x :: y :: r).drop [x, y].length = r := rfl
      rw [e, insA_rep h n r (by simp at hl2; omega)]
      show [x, 32, y] ++ insA x y r = (if x = x ∧ y = y then x :: 32 :: insA x y (y :: r) else x :: insA x y (y :: r))
      rw [if_pos ⟨rfl, rfl⟩, insA_off (fun z => h z.symm)]
      rfl
    · rw [replL_miss (by
        intro z
        have z2 : [x, y] = [a, b] := z
        cases z2
        exact c ⟨rfl, rfl⟩), insA_rep h n (y :: r) hl2]
      show _ = (if x = a ∧ y = b then x :: 32 :: insA a b (y :: r) else x :: insA a b (y :: r))
      rw [if_neg c]
/-- a blank between each two that are unlike -/
def insB : List Nat → List Nat
  | [] => []
  | [x] => [x]
  | x :: y :: r => if x = y then x :: insB (y :: r) else x :: 32 :: insB (y :: r)
theorem ins_both : ∀ L : List Nat, (∀ c ∈ L, IsBin c) → insA 49 48 (insA 48 49 L) = insB L
  | [], _ => rfl
  | [x], _ => rfl
  | x :: y :: r, h => by
    have hx := h x (List.mem_cons_self ..)
    have hy := h y (List.mem_cons_of_mem _ (List.mem_cons_self ..))
    have ih := ins_both (y :: r) fun c hc => h c (List.mem_cons_of_mem _ hc)
    obtain ⟨t, et⟩ := insA_head 48 49 y r
    show insA 49 48 (if x = 48 ∧ y = 49 then x :: 32 :: insA 48 49 (y :: r) else x :: insA 48 49 (y :: r)) = (if x = y then x :: insB (y :: r) else x :: 32 :: insB (y :: r))
    rw [← ih]
    rcases hx with rfl | rfl <;> rcases hy with rfl | rfl
    · rw [if_neg (by decide), if_pos rfl, insA_off (by decide)]
    · rw [if_pos ⟨rfl, rfl⟩, if_neg (by decide), insA_off (by decide), insA_off (by decide)]
    · rw [if_neg (by decide), if_neg (by decide), et]
      show (if (49 : Nat) = 49 ∧ (48 : Nat) = 48 then (49 : Nat) :: 32 :: insA 49 48 (48 :: t) else _) = _
      rw [if_pos ⟨rfl, rfl⟩]
    · rw [if_neg (by decide), if_pos rfl, et]
      show (if (49 : Nat) = 49 ∧ (49 : Nat) = 48 then _ else (49 : Nat) :: insA 49 48 (49 :: t)) = _
      rw [if_neg (by decide)]
theorem spl_ins : ∀ (r : List Nat) (x : Nat) (acc : List Nat), (∀ c ∈ x :: r, IsBin c) → (TL.spl [32] 0 acc (insB (x :: r))).map List.length = (runsL (x :: r)).modifyHead (acc.length + ·)
  | [], x, acc, h => by
    have hx : ¬ x = 32 := by rcases h x (List.mem_cons_self ..) with rfl | rfl <;> decide
    show (TL.spl [32] 0 acc [x]).map List.length = [acc.length + 1]
    rw [TL.spl_miss (by unfold TL.pre; simp [hx]), TL.spl_nil, List.map_cons, List.length_append]
    rfl
  | y :: r, x, acc, h => by
    have hx : ¬ x = 32 := by rcases h x (List.mem_cons_self ..) with rfl | rfl <;> decide
    have hp : TL.pre [32] (x :: insB (y :: r)) = false := by unfold TL.pre; simp [hx]
    have ih := fun acc => spl_ins r y acc fun c hc => h c (List.mem_cons_of_mem _ hc)
    obtain ⟨t, et⟩ := runs_head y r
    show (TL.spl [32] 0 acc (if x = y then x :: insB (y :: r) else x :: 32 :: insB (y :: r))).map List.length = (if x = y then (runsL (y :: r)).modifyHead (· + 1) else 1 :: runsL (y :: r)).modifyHead (acc.length + ·)
    by_cases c : x = y
    · rw [if_pos c, if_pos c, TL.spl_miss hp, ih, et]
      rw [List.length_append]
      show (acc.length + 1 + lead (y :: r)) :: t = (acc.length + (lead (y :: r) + 1)) :: t
      rw [Nat.add_assoc, Nat.add_comm 1]
    · rw [if_neg c, if_neg c, TL.spl_miss (by unfold TL.pre; simp [hx]), TL.spl_hit (by unfold TL.pre; simp), List.map_cons]
      have z := ih []
      rw [et] at z
      have e0 : ([32] : List Nat).length - 1 = 0 := rfl
      rw [e0, z, List.length_append, et]
      show (acc.length + 1) :: (0 + lead (y :: r)) :: t = (acc.length + 1) :: lead (y :: r) :: t
      rw [Nat.zero_add]
/-- the words of a line's text -/
def wordsT (L : List Nat) : List (List Nat) := TL.spl [32] 0 [] (insB L)
theorem words_len {L : List Nat} (h : ∀ c ∈ L, IsBin c) (hne : L ≠ []) : (wordsT L).map List.length = runsL L := by
  cases L with
  | nil => exact absurd rfl hne
  | cons x r =>
    unfold wordsT
    rw [spl_ins r x [] h]
    obtain ⟨t, et⟩ := runs_head x r
    rw [et]
    show (0 + lead (x :: r)) :: t = _
    rw [Nat.zero_add]
abbrev tS (l : List Nat) : Str := SX.S l
theorem words_text {L : List Nat} (h : ∀ c ∈ L, IsBin c) : Txt.split (Txt.replace (Txt.replace (tS L) (tS [48, 49]) (tS [48, 32, 49])) (tS [49, 48]) (tS [49, 32, 48])) (tS [32]) = (wordsT L).map tS := by
  have e1 : Txt.replace (tS L) (tS [48, 49]) (tS [48, 32, 49]) = tS (insA 48 49 L) := by
    rw [← SX.S_tl (Txt.replace (tS L) (tS [48, 49]) (tS [48, 32, 49])), replace_list (by decide)]
    exact congrArg tS (insA_rep (by decide) L.length L (Nat.le_refl _))
  have e2 : Txt.replace (tS (insA 48 49 L)) (tS [49, 48]) (tS [49, 32, 48]) = tS (insB L) := by
    rw [← SX.S_tl (Txt.replace (tS (insA 48 49 L)) (tS [49, 48]) (tS [49, 32, 48])), replace_list (by decide), ← ins_both L h]
    exact congrArg tS (insA_rep (by decide) (insA 48 49 L).length (insA 48 49 L) (Nat.le_refl _))
  rw [e1, e2, SX.split_S (by decide) (by decide)]
  rfl
theorem insA_len (a b : Nat) : ∀ L : List Nat, (insA a b L).length ≤ 2 * L.length
  | [] => Nat.le_refl _
  | [x] => by show 1 ≤ 2; decide
  | x :: y :: r => by
    have ih := insA_len a b (y :: r)
    show (if x = a ∧ y = b then x :: 32 :: insA a b (y :: r) else x :: insA a b (y :: r)).length ≤ _
    rw [List.length_cons] at ih ⊢
    split
    · rw [List.length_cons, List.length_cons]
      simp at ih ⊢
      omega
    · rw [List.length_cons]
      simp at ih ⊢
      omega
end My

set_option Elab.async false
set_option linter.all false
set_option maxRecDepth 100000
set_option maxHeartbeats 1000000
/-! ### a grid of noughts and ones as one number; its bits -/
namespace My
abbrev Bits2 := List (List Nat)
def gx (g : Bits2) (i j : Nat) : Nat := (g.getD i []).getD j 0
structure Bt (m : Nat) (g : Bits2) : Prop where
  len : g.length = m
  row : ∀ r ∈ g, r.length = m
  bit : ∀ r ∈ g, ∀ x ∈ r, x = 0 ∨ x = 1
def sgn (x : Nat) : Nat := x + 48
def joinZ : Bits2 → List Nat
  | [] => []
  | [r] => r.map sgn
  | r :: s :: t => r.map sgn ++ 48 :: joinZ (s :: t)
theorem joinZ_len {m : Nat} : ∀ (g : Bits2), (∀ r ∈ g, r.length = m) → g ≠ [] → (joinZ g).length + 1 = g.length * (m + 1)
  | [], _, h => absurd rfl h
  | [r], h, _ => by
    show (r.map sgn).length + 1 = 1 * (m + 1)
    rw [List.length_map, h r (List.mem_cons_self ..), Nat.one_mul]
  | r :: s :: t, h, _ => by
    have ih := joinZ_len (m := m) (s :: t) (fun q hq => h q (List.mem_cons_of_mem _ hq)) (by simp)
    show (r.map sgn ++ 48 :: joinZ (s :: t)).length + 1 = ((s :: t).length + 1) * (m + 1)
    rw [List.length_append, List.length_map, h r (List.mem_cons_self ..), List.length_cons, Nat.add_mul, Nat.one_mul, ← ih]
    omega
theorem joinZ_bin : ∀ (g : Bits2), (∀ r ∈ g, ∀ x ∈ r, x = 0 ∨ x = 1) → ∀ c ∈ joinZ g, IsBin c
  | [], _, c, hc => by cases hc
  | [r], h, c, hc => by
    obtain ⟨x, hx, rfl⟩ := List.mem_map.mp hc
    rcases h r (List.mem_cons_self ..) x hx with rfl | rfl
    · exact .inl rfl
    · exact .inr rfl
  | r :: s :: t, h, c, hc => by
    rcases List.mem_append.mp hc with h1 | h1
    · obtain ⟨x, hx, rfl⟩ := List.mem_map.mp h1
      rcases h r (List.mem_cons_self ..) x hx with rfl | rfl
      · exact .inl rfl
      · exact .inr rfl
    · rcases List.mem_cons.mp h1 with rfl | h2
      · exact .inl rfl
      · exact joinZ_bin (s :: t) (fun q hq => h q (List.mem_cons_of_mem _ hq)) c h2
theorem joinZ_at {m : Nat} : ∀ (g : Bits2), (∀ r ∈ g, r.length = m) → ∀ i j, i < g.length → (j < m → (joinZ g)[i * (m + 1) + j]? = some (sgn (gx g i j))) ∧ (j = m → i + 1 < g.length → (joinZ g)[i * (m + 1) + j]? = some 48)
  | [], _, i, j, hi => absurd hi (Nat.not_lt_zero _)
  | [r], h, i, j, hi => by
    have i0 : i = 0 := by simp at hi; exact hi
    subst i0
    have lr := h r (List.mem_cons_self ..)
    refine ⟨fun hj => ?_, fun _ h2 => absurd h2 (by simp)⟩
    rw [Nat.zero_mul, Nat.zero_add]
    show (r.map sgn)[j]? = some (sgn (r.getD j 0))
    rw [List.getElem?_map, List.getElem?_eq_getElem (by omega), List.getD_eq_getElem?_getD, List.getElem?_eq_getElem (by omega)]
    rfl
  | r :: s :: t, h, 0, j, hi => by
    have lr := h r (List.mem_cons_self ..)
    rw [Nat.zero_mul, Nat.zero_add]
    refine ⟨fun hj => ?_, fun hj _ => ?_⟩
    · show (r.map sgn ++ 48 :: joinZ (s :: t))[j]? = some (sgn (r.getD j 0))
      rw [List.getElem?_append_left (by rw [List.length_map]; omega), List.getElem?_map, List.getElem?_eq_getElem (by omega), List.getD_eq_getElem?_getD, List.getElem?_eq_getElem (by omega)]
      rfl
    · show (r.map sgn ++ 48 :: joinZ (s :: t))[j]? = some 48
      rw [List.getElem?_append_right (by rw [List.length_map]; omega), List.length_map, lr, hj, Nat.sub_self]
      rfl
  | r :: s :: t, h, i + 1, j, hi => by
    have lr := h r (List.mem_cons_self ..)
    obtain ⟨h1, h2⟩ := joinZ_at (m := m) (s :: t) (fun q hq => h q (List.mem_cons_of_mem _ hq)) i j (by simp at hi ⊢; omega)
    have e : ∀ k, (joinZ (r :: s :: t))[(i + 1) * (m + 1) + k]? = (joinZ (s :: t))[i * (m + 1) + k]? := fun k => by
      show (r.map sgn ++ 48 :: joinZ (s :: t))[(i + 1) * (m + 1) + k]? = _
      rw [Nat.add_mul, Nat.one_mul, List.getElem?_append_right (by rw [List.length_map]; omega), List.length_map, lr]
      rw [show i * (m + 1) + (m + 1) + k - m = i * (m + 1) + k + 1 by omega]
      rfl
    refine ⟨fun hj => ?_, fun hj hh => ?_⟩
    · rw [e, h1 hj]
      rfl
    · rw [e, h2 hj (by simp at hh ⊢; omega)]
/-- the number of a grid -/
def dkN (g : Bits2) : Nat := binNum (joinZ g)
/-- a dot, counted from the last one on -/
def dotR (m : Nat) (g : Bits2) (a b : Nat) : Bool := decide (a < m) && decide (b < m) && gx g (m - 1 - a) (m - 1 - b) == 1
theorem gx_bit {m : Nat} {g : Bits2} (h : Bt m g) (i j : Nat) : gx g i j = 0 ∨ gx g i j = 1 := by
  unfold gx
  by_cases hi : i < g.length
  · rw [List.getD_eq_getElem?_getD (l := g), List.getElem?_eq_getElem hi]
    simp only [Option.getD_some]
    by_cases hj : j < g[i].length
    · rw [List.getD_eq_getElem?_getD, List.getElem?_eq_getElem hj]
      exact h.bit _ (List.getElem_mem hi) _ (List.getElem_mem hj)
    · rw [List.getD_eq_getElem?_getD, List.getElem?_eq_none (by omega)]
      exact .inl rfl
  · rw [List.getD_eq_getElem?_getD (l := g), List.getElem?_eq_none (by omega)]
    exact .inl rfl
theorem dk_lt {m : Nat} {g : Bits2} (h : Bt m g) (hm : 0 < m) : dkN g < 2 ^ (m * (m + 1)) := by
  have hl := joinZ_len g h.row (by intro e; have := h.len; rw [e] at this; simp at this; omega)
  rw [h.len] at hl
  exact Nat.lt_of_lt_of_le (bin_lt (joinZ_bin g h.bit)) (Nat.pow_le_pow_right (by decide) (by omega))
theorem dk_bit {m : Nat} {g : Bits2} (h : Bt m g) (hm : 0 < m) (a b : Nat) (hb : b ≤ m) : (dkN g).testBit (a * (m + 1) + b) = dotR m g a b := by
  have hl := joinZ_len g h.row (by intro e; have := h.len; rw [e] at this; simp at this; omega)
  rw [h.len] at hl
  have hbin := joinZ_bin g h.bit
  unfold dotR
  by_cases ha : a < m
  · have em : (m - 1 - a) * (m + 1) + a * (m + 1) + (m + 1) = m * (m + 1) := by
      rw [← Nat.add_mul, show (m + 1) = 1 * (m + 1) by rw [Nat.one_mul]]
      rw [show 1 * (m + 1) = m + 1 by rw [Nat.one_mul]]
      have : (m - 1 - a + a) * (m + 1) + (m + 1) = (m - 1 - a + a + 1) * (m + 1) := by rw [Nat.add_mul (m - 1 - a + a) 1, Nat.one_mul]
      rw [this, show m - 1 - a + a + 1 = m by omega]
    rw [decide_eq_true ha, Bool.true_and]
    by_cases hb2 : b < m
    · rw [decide_eq_true hb2, Bool.true_and]
      have hp : a * (m + 1) + b < (joinZ g).length := by omega
      unfold dkN
      rw [bin_bit hbin hp, show (joinZ g).length - 1 - (a * (m + 1) + b) = (m - 1 - a) * (m + 1) + (m - 1 - b) by omega]
      rw [(joinZ_at g h.row (m - 1 - a) (m - 1 - b) (by rw [h.len]; omega)).1 (by omega)]
      rcases gx_bit h (m - 1 - a) (m - 1 - b) with e | e <;> rw [e] <;> rfl
    · have eb : b = m := by omega
      subst eb
      rw [decide_eq_false (Nat.lt_irrefl _), Bool.false_and]
      unfold dkN
      by_cases hp : a * (b + 1) + b < (joinZ g).length
      · rw [bin_bit hbin hp]
        have ha2 : 1 ≤ b - 1 - a := by
          by_cases z : b - 1 - a = 0
          · rw [z, Nat.zero_mul] at em
            omega
          · omega
        have e2 : (b - 1 - a) * (b + 1) = (b - 2 - a) * (b + 1) + (b + 1) := by
          rw [show b - 1 - a = b - 2 - a + 1 by omega, Nat.add_mul, Nat.one_mul]
        rw [show (joinZ g).length - 1 - (a * (b + 1) + b) = (b - 2 - a) * (b + 1) + b by omega, (joinZ_at g h.row (b - 2 - a) b (by rw [h.len]; omega)).2 rfl (by rw [h.len]; omega)]
        rfl
      · exact Nat.testBit_lt_two_pow (Nat.lt_of_lt_of_le (bin_lt hbin) (Nat.pow_le_pow_right (by decide) (by omega)))
  · rw [decide_eq_false ha, Bool.false_and, Bool.false_and]
    have : m * (m + 1) ≤ a * (m + 1) := Nat.mul_le_mul_right _ (by omega)
    exact Nat.testBit_lt_two_pow (Nat.lt_of_lt_of_le (dk_lt h hm) (Nat.pow_le_pow_right (by decide) (by omega)))
end My

set_option Elab.async false
set_option linter.all false
set_option maxRecDepth 100000
set_option maxHeartbeats 1000000
/-! ### xs.count(x), flat items -/
namespace My
open PySem PySem.Spec PyProof.Rows L2
def rCountF (K : PySem.W.Frag) : V → List V → Hp → VK → Prop := fun x xs H Q => ∃ (a : Addr) (ys : List V) (y : V), x = V.ref a ∧ xs = [y] ∧ SqL K H a ys ∧ flatV y = true ∧ ys.all flatV = true ∧ Q (.int ((ys.countP fun z => eqV z y : Nat) : Int)) H
theorem count_vals {y : V} : ∀ {ys : List V} {us : List Value}, Vals ys us → ys.all flatV = true → us.countP (eqU y) = ys.countP fun z => eqV z y
  | _, _, .nil, _ => rfl
  | z :: ys, u :: us, .cons r t, h => by
    rw [List.all_cons, Bool.and_eq_true] at h
    rw [List.countP_cons, List.countP_cons, count_vals t h.2, eqU_of r h.1]
theorem mt_countF {X : Cx} {K : PySem.W.Frag} (hK : X.K = K) : MtR X "list.count" (rCountF K) := by
  subst hK
  intro pins s σ H x xs v us Q I rx rxs h
  obtain ⟨a, ys, y, rfl, rfl, hs, fy, fys, q⟩ := h
  cases rx
  cases rxs with
  | cons ry rt =>
    rename_i uy ut
    cases rt
    obtain ⟨its, rv, ⟨⟨cls, dd, data, sl⟩, n, ho, hc, hdn, hd⟩, hlen⟩ := I.list hs
    simp only at hc hd
    subst hc hd
    refine call_meets PySem.F.slot_list_count ⟨_, ho, rfl⟩ PySem.F.entry_list_count (PySem.F.args_list_count_2 _ _) (SeqAt.list_countAt a its.toArray n dd sl uy (eqU y)) ⟨ho, fun u' hu' => mem_eqAt ry fy rv fys u' (by simpa using hu'), ?_⟩
    have e : its.toArray.toList.countP (eqU y) = ys.countP fun z => eqV z y := count_vals rv fys
    rw [e]
    exact ⟨.int _, H, I.tok _, ⟨_, rfl⟩, q⟩
end My

set_option Elab.async false
set_option linter.all false
set_option maxRecDepth 100000
set_option maxHeartbeats 4000000
namespace My
open PySem PySem.Spec PyProof.Rows L2
def topS (i : Nat) : Stmt := PySem.Challenge.pw_dotquilts_k28_whole_words_in_grids.main.body.getD i (.Pass ⟨0, 0, 0, 0⟩)
abbrev s_is_number_to : Stmt := topS 6
theorem sc_is_number_to : FnScope ["thing", "least", "most"] ["thing", "least", "most"] (defScope s_is_number_to) := ⟨rfl, rfl, rfl, by decide +kernel, rfl, by decide +kernel, by decide +kernel⟩
abbrev s_is_row : Stmt := topS 9
theorem sc_is_row : FnScope ["thing"] ["thing"] (defScope s_is_row) := ⟨rfl, rfl, rfl, by decide +kernel, rfl, by decide +kernel, by decide +kernel⟩
abbrev s_are_plain_words : Stmt := topS 8
theorem sc_are_plain_words : FnScope ["bits", "things", "thing"] ["bits", "things"] (defScope s_are_plain_words) := ⟨rfl, rfl, rfl, by decide +kernel, rfl, by decide +kernel, by decide +kernel⟩
abbrev s_need_size : Stmt := topS 23
theorem sc_need_size : FnScope ["size"] ["size"] (defScope s_need_size) := ⟨rfl, rfl, rfl, by decide +kernel, rfl, by decide +kernel, by decide +kernel⟩
abbrev s_block_sizes : Stmt := topS 25
theorem sc_block_sizes : FnScope ["size"] ["size"] (defScope s_block_sizes) := ⟨rfl, rfl, rfl, by decide +kernel, rfl, by decide +kernel, by decide +kernel⟩
abbrev s_word_count : Stmt := topS 24
theorem sc_word_count : FnScope ["size"] ["size"] (defScope s_word_count) := ⟨rfl, rfl, rfl, by decide +kernel, rfl, by decide +kernel, by decide +kernel⟩
abbrev s_is_plain_grid : Stmt := topS 27
theorem sc_is_plain_grid : FnScope ["many", "grid", "odd", "dots", "dot"] ["many", "grid"] (defScope s_is_plain_grid) := ⟨rfl, rfl, rfl, by decide +kernel, rfl, by decide +kernel, by decide +kernel⟩
abbrev s_need_dot_rows : Stmt := topS 29
theorem sc_need_dot_rows : FnScope ["many", "grid", "gapped", "dots", "row"] ["many", "grid", "gapped"] (defScope s_need_dot_rows) := ⟨rfl, rfl, rfl, by decide +kernel, rfl, by decide +kernel, by decide +kernel⟩
abbrev s_need_grid : Stmt := topS 30
theorem sc_need_grid : FnScope ["size", "grid"] ["size", "grid"] (defScope s_need_grid) := ⟨rfl, rfl, rfl, by decide +kernel, rfl, by decide +kernel, by decide +kernel⟩
abbrev s_need_symbol_words : Stmt := topS 34
theorem sc_need_symbol_words : FnScope ["size", "words", "gapped", "at", "word"] ["size", "words", "gapped"] (defScope s_need_symbol_words) := ⟨rfl, rfl, rfl, by decide +kernel, rfl, by decide +kernel, by decide +kernel⟩
abbrev s__law_cell_at : Stmt := topS 40
theorem sc__law_cell_at : FnScope ["_law_script", "_law_k"] ["_law_script", "_law_k"] (defScope s__law_cell_at) := ⟨rfl, rfl, rfl, by decide +kernel, rfl, by decide +kernel, by decide +kernel⟩
abbrev s__law_source_of : Stmt := topS 41
theorem sc__law_source_of : FnScope ["_law_cell"] ["_law_cell"] (defScope s__law_source_of) := ⟨rfl, rfl, rfl, by decide +kernel, rfl, by decide +kernel, by decide +kernel⟩
abbrev s__law_next : Stmt := topS 42
theorem sc__law_next : FnScope ["_law_source", "_law_bound", "_law_found", "_law_prime", "_law_mixed"] ["_law_source", "_law_bound"] (defScope s__law_next) := ⟨rfl, rfl, rfl, by decide +kernel, rfl, by decide +kernel, by decide +kernel⟩
abbrev s__law_table : Stmt := topS 44
theorem sc__law_table : FnScope ["_law_size_so", "_law_rows", "_law_later", "_law_many", "_law_sizes_so"] ["_law_size_so"] (defScope s__law_table) := ⟨rfl, rfl, rfl, by decide +kernel, rfl, by decide +kernel, by decide +kernel⟩
abbrev s_words_as_bits : Stmt := topS 3
theorem sc_words_as_bits : FnScope ["words", "many", "word", "bit"] ["words", "many"] (defScope s_words_as_bits) := ⟨rfl, rfl, rfl, by decide +kernel, rfl, by decide +kernel, by decide +kernel⟩
abbrev s__law_pick : Stmt := topS 43
theorem sc__law_pick : FnScope ["_law_source", "_law_some"] ["_law_source", "_law_some"] (defScope s__law_pick) := ⟨rfl, rfl, rfl, by decide +kernel, rfl, by decide +kernel, by decide +kernel⟩
abbrev s__law_ribbons : Stmt := topS 46
theorem sc__law_ribbons : FnScope ["_law_many", "_law_first", "_law_second", "_law_at", "_law_spot"] ["_law_many"] (defScope s__law_ribbons) := ⟨rfl, rfl, rfl, by decide +kernel, rfl, by decide +kernel, by decide +kernel⟩
abbrev s__law_way : Stmt := topS 47
theorem sc__law_way : FnScope ["_law_many", "_law_used_so", "_law_found", "_law_column", "_law_row", "_law_step", "_law_spot"] ["_law_many"] (defScope s__law_way) := ⟨rfl, rfl, rfl, by decide +kernel, rfl, by decide +kernel, by decide +kernel⟩
abbrev s_bits_as_words : Stmt := topS 4
theorem sc_bits_as_words : FnScope ["bits", "many", "quads", "quad", "high", "low"] ["bits", "many"] (defScope s_bits_as_words) := ⟨rfl, rfl, rfl, by decide +kernel, rfl, by decide +kernel, by decide +kernel⟩
abbrev s_words_on : Stmt := topS 35
theorem sc_words_on : FnScope ["size", "grid", "shades", "dots", "dot", "at"] ["size", "grid"] (defScope s_words_on) := ⟨rfl, rfl, rfl, by decide +kernel, rfl, by decide +kernel, by decide +kernel⟩
abbrev s_words_in : Stmt := topS 36
theorem sc_words_in : FnScope ["size", "grid"] ["size", "grid"] (defScope s_words_in) := ⟨rfl, rfl, rfl, by decide +kernel, rfl, by decide +kernel, by decide +kernel⟩
abbrev s_grid_of_words : Stmt := topS 37
theorem sc_grid_of_words : FnScope ["size", "words", "strip_shades", "shades", "places", "place"] ["size", "words", "strip_shades"] (defScope s_grid_of_words) := ⟨rfl, rfl, rfl, by decide +kernel, rfl, by decide +kernel, by decide +kernel⟩
abbrev s_with_words : Stmt := topS 38
theorem sc_with_words : FnScope ["size", "words"] ["size", "words"] (defScope s_with_words) := ⟨rfl, rfl, rfl, by decide +kernel, rfl, by decide +kernel, by decide +kernel⟩
abbrev s__law_frame : Stmt := topS 45
theorem sc__law_frame : FnScope ["_law_many", "_law_found", "_law_at"] ["_law_many"] (defScope s__law_frame) := ⟨rfl, rfl, rfl, by decide +kernel, rfl, by decide +kernel, by decide +kernel⟩
abbrev s__law_laid : Stmt := topS 48
theorem sc__law_laid : FnScope ["_law_size_so", "_law_words_so", "_law_many", "_law_bits", "_law_at", "_law_rows", "_law_way_here", "_law_spot", "_law_shade", "_law_place_so", "_law_word", "_law_row", "_law_column"] ["_law_size_so", "_law_words_so"] (defScope s__law_laid) := ⟨rfl, rfl, rfl, by decide +kernel, rfl, by decide +kernel, by decide +kernel⟩
abbrev s__law_heard : Stmt := topS 49
theorem sc__law_heard : FnScope ["_law_size_so", "_law_rows", "_law_many", "_law_bits", "_law_dots", "_law_found", "_law_at", "_law_some", "_law_row", "_law_column", "_law_one"] ["_law_size_so", "_law_rows"] (defScope s__law_heard) := ⟨rfl, rfl, rfl, by decide +kernel, rfl, by decide +kernel, by decide +kernel⟩
abbrev s__law_right : Stmt := topS 50
theorem sc__law_right : FnScope ["_law_source", "_law_size_so", "_law_many", "_law_bits", "_law_sizes_so", "_law_way_here", "_law_at", "_law_words_so", "_law_due", "_law_shown", "_law_found", "_law_share", "_law_rows", "_law_turn", "_law_row", "_law_heard_here"] ["_law_source"] (defScope s__law_right) := ⟨rfl, rfl, rfl, by decide +kernel, rfl, by decide +kernel, by decide +kernel⟩
abbrev s_law : Stmt := topS 51
theorem sc_law : FnScope ["_law_script", "_law_k", "_law_source"] ["_law_script"] (defScope s_law) := ⟨rfl, rfl, rfl, by decide +kernel, rfl, by decide +kernel, by decide +kernel⟩
structure Txt (K : PySem.W.Frag) (mg : Str → Option Value) where
  f_is_number_to : Addr
  d_is_number_to : FuncData
  F_is_number_to : Fun K "is_number_to" "is_number_to" s_is_number_to f_is_number_to d_is_number_to
  g_is_number_to : mg "is_number_to" = some (.ref f_is_number_to)
  b_is_number_to : Binds K d_is_number_to ["thing", "least", "most"] []
  f_is_row : Addr
  d_is_row : FuncData
  F_is_row : Fun K "is_row" "is_row" s_is_row f_is_row d_is_row
  g_is_row : mg "is_row" = some (.ref f_is_row)
  b_is_row : Binds K d_is_row ["thing"] []
  f_are_plain_words : Addr
  d_are_plain_words : FuncData
  F_are_plain_words : Fun K "are_plain_words" "are_plain_words" s_are_plain_words f_are_plain_words d_are_plain_words
  g_are_plain_words : mg "are_plain_words" = some (.ref f_are_plain_words)
  b_are_plain_words : Binds K d_are_plain_words ["bits", "things"] []
  f_need_size : Addr
  d_need_size : FuncData
  F_need_size : Fun K "need_size" "need_size" s_need_size f_need_size d_need_size
  g_need_size : mg "need_size" = some (.ref f_need_size)
  b_need_size : Binds K d_need_size ["size"] []
  f_block_sizes : Addr
  d_block_sizes : FuncData
  F_block_sizes : Fun K "block_sizes" "block_sizes" s_block_sizes f_block_sizes d_block_sizes
  g_block_sizes : mg "block_sizes" = some (.ref f_block_sizes)
  b_block_sizes : Binds K d_block_sizes ["size"] []
  f_word_count : Addr
  d_word_count : FuncData
  F_word_count : Fun K "word_count" "word_count" s_word_count f_word_count d_word_count
  g_word_count : mg "word_count" = some (.ref f_word_count)
  b_word_count : Binds K d_word_count ["size"] []
  f_is_plain_grid : Addr
  d_is_plain_grid : FuncData
  F_is_plain_grid : Fun K "is_plain_grid" "is_plain_grid" s_is_plain_grid f_is_plain_grid d_is_plain_grid
  g_is_plain_grid : mg "is_plain_grid" = some (.ref f_is_plain_grid)
  b_is_plain_grid : Binds K d_is_plain_grid ["many", "grid"] []
  f_need_dot_rows : Addr
  d_need_dot_rows : FuncData
  F_need_dot_rows : Fun K "need_dot_rows" "need_dot_rows" s_need_dot_rows f_need_dot_rows d_need_dot_rows
  g_need_dot_rows : mg "need_dot_rows" = some (.ref f_need_dot_rows)
  b_need_dot_rows : Binds K d_need_dot_rows ["many", "grid", "gapped"] []
  f_need_grid : Addr
  d_need_grid : FuncData
  F_need_grid : Fun K "need_grid" "need_grid" s_need_grid f_need_grid d_need_grid
  g_need_grid : mg "need_grid" = some (.ref f_need_grid)
  b_need_grid : Binds K d_need_grid ["size", "grid"] []
  f_need_symbol_words : Addr
  d_need_symbol_words : FuncData
  F_need_symbol_words : Fun K "need_symbol_words" "need_symbol_words" s_need_symbol_words f_need_symbol_words d_need_symbol_words
  g_need_symbol_words : mg "need_symbol_words" = some (.ref f_need_symbol_words)
  b_need_symbol_words : Binds K d_need_symbol_words ["size", "words", "gapped"] []
  f__law_cell_at : Addr
  d__law_cell_at : FuncData
  F__law_cell_at : Fun K "_law_cell_at" "_law_cell_at" s__law_cell_at f__law_cell_at d__law_cell_at
  g__law_cell_at : mg "_law_cell_at" = some (.ref f__law_cell_at)
  b__law_cell_at : Binds K d__law_cell_at ["_law_script", "_law_k"] []
  f__law_source_of : Addr
  d__law_source_of : FuncData
  F__law_source_of : Fun K "_law_source_of" "_law_source_of" s__law_source_of f__law_source_of d__law_source_of
  g__law_source_of : mg "_law_source_of" = some (.ref f__law_source_of)
  b__law_source_of : Binds K d__law_source_of ["_law_cell"] []
  f__law_next : Addr
  d__law_next : FuncData
  F__law_next : Fun K "_law_next" "_law_next" s__law_next f__law_next d__law_next
  g__law_next : mg "_law_next" = some (.ref f__law_next)
  b__law_next : Binds K d__law_next ["_law_source", "_law_bound"] []
  f__law_table : Addr
  d__law_table : FuncData
  F__law_table : Fun K "_law_table" "_law_table" s__law_table f__law_table d__law_table
  g__law_table : mg "_law_table" = some (.ref f__law_table)
  b__law_table : Binds K d__law_table ["_law_size_so"] []
  f_words_as_bits : Addr
  d_words_as_bits : FuncData
  F_words_as_bits : Fun K "words_as_bits" "words_as_bits" s_words_as_bits f_words_as_bits d_words_as_bits
  g_words_as_bits : mg "words_as_bits" = some (.ref f_words_as_bits)
  b_words_as_bits : Binds K d_words_as_bits ["words", "many"] []
  f__law_pick : Addr
  d__law_pick : FuncData
  F__law_pick : Fun K "_law_pick" "_law_pick" s__law_pick f__law_pick d__law_pick
  g__law_pick : mg "_law_pick" = some (.ref f__law_pick)
  b__law_pick : Binds K d__law_pick ["_law_source", "_law_some"] []
  f__law_ribbons : Addr
  d__law_ribbons : FuncData
  F__law_ribbons : Fun K "_law_ribbons" "_law_ribbons" s__law_ribbons f__law_ribbons d__law_ribbons
  g__law_ribbons : mg "_law_ribbons" = some (.ref f__law_ribbons)
  b__law_ribbons : Binds K d__law_ribbons ["_law_many"] []
  f__law_way : Addr
  d__law_way : FuncData
  F__law_way : Fun K "_law_way" "_law_way" s__law_way f__law_way d__law_way
  g__law_way : mg "_law_way" = some (.ref f__law_way)
  b__law_way : Binds K d__law_way ["_law_many"] []
  f_bits_as_words : Addr
  d_bits_as_words : FuncData
  F_bits_as_words : Fun K "bits_as_words" "bits_as_words" s_bits_as_words f_bits_as_words d_bits_as_words
  g_bits_as_words : mg "bits_as_words" = some (.ref f_bits_as_words)
  b_bits_as_words : Binds K d_bits_as_words ["bits", "many"] []
  f_words_on : Addr
  d_words_on : FuncData
  F_words_on : Fun K "words_on" "words_on" s_words_on f_words_on d_words_on
  g_words_on : mg "words_on" = some (.ref f_words_on)
  b_words_on : Binds K d_words_on ["size", "grid"] []
  f_words_in : Addr
  d_words_in : FuncData
  F_words_in : Fun K "words_in" "words_in" s_words_in f_words_in d_words_in
  g_words_in : mg "words_in" = some (.ref f_words_in)
  b_words_in : Binds K d_words_in ["size", "grid"] []
  f_grid_of_words : Addr
  d_grid_of_words : FuncData
  F_grid_of_words : Fun K "grid_of_words" "grid_of_words" s_grid_of_words f_grid_of_words d_grid_of_words
  g_grid_of_words : mg "grid_of_words" = some (.ref f_grid_of_words)
  b_grid_of_words : Binds K d_grid_of_words ["size", "words", "strip_shades"] []
  f_with_words : Addr
  d_with_words : FuncData
  F_with_words : Fun K "with_words" "with_words" s_with_words f_with_words d_with_words
  g_with_words : mg "with_words" = some (.ref f_with_words)
  b_with_words : Binds K d_with_words ["size", "words"] []
  f__law_frame : Addr
  d__law_frame : FuncData
  F__law_frame : Fun K "_law_frame" "_law_frame" s__law_frame f__law_frame d__law_frame
  g__law_frame : mg "_law_frame" = some (.ref f__law_frame)
  b__law_frame : Binds K d__law_frame ["_law_many"] []
  f__law_laid : Addr
  d__law_laid : FuncData
  F__law_laid : Fun K "_law_laid" "_law_laid" s__law_laid f__law_laid d__law_laid
  g__law_laid : mg "_law_laid" = some (.ref f__law_laid)
  b__law_laid : Binds K d__law_laid ["_law_size_so", "_law_words_so"] []
  f__law_heard : Addr
  d__law_heard : FuncData
  F__law_heard : Fun K "_law_heard" "_law_heard" s__law_heard f__law_heard d__law_heard
  g__law_heard : mg "_law_heard" = some (.ref f__law_heard)
  b__law_heard : Binds K d__law_heard ["_law_size_so", "_law_rows"] []
  f__law_right : Addr
  d__law_right : FuncData
  F__law_right : Fun K "_law_right" "_law_right" s__law_right f__law_right d__law_right
  g__law_right : mg "_law_right" = some (.ref f__law_right)
  b__law_right : Binds K d__law_right ["_law_source"] []
  f_law : Addr
  d_law : FuncData
  F_law : Fun K "law" "law" s_law f_law d_law
  g_law : mg "law" = some (.ref f_law)
  b_law : Binds K d_law ["_law_script"] []
  n_bool : mg "bool" = none
  n_enumerate : mg "enumerate" = none
  n_int : mg "int" = none
  n_isinstance : mg "isinstance" = none
  n_len : mg "len" = none
  n_list : mg "list" = none
  n_max : mg "max" = none
  n_min : mg "min" = none
  n_range : mg "range" = none
  n_repr : mg "repr" = none
  n_str : mg "str" = none
  n_sum : mg "sum" = none
  n_tuple : mg "tuple" = none
  n_type : mg "type" = none
  n_zip : mg "zip" = none
  c_BLOCKS0 : Addr
  t_BLOCKS0 : tupB K c_BLOCKS0 [4] = true
  c_BLOCKS1 : Addr
  t_BLOCKS1 : tupB K c_BLOCKS1 [10, 10] = true
  c_BLOCKS2 : Addr
  t_BLOCKS2 : tupB K c_BLOCKS2 [22] = true
  c_BLOCKS3 : Addr
  t_BLOCKS3 : tupB K c_BLOCKS3 [19, 19] = true
  c_BLOCKS4 : Addr
  t_BLOCKS4 : tupB K c_BLOCKS4 [20, 19, 19] = true
  a_BLOCKS : Addr
  g_BLOCKS : mg "BLOCKS" = some (.ref a_BLOCKS)
  l_BLOCKS : KTupR K a_BLOCKS [c_BLOCKS0, c_BLOCKS1, c_BLOCKS2, c_BLOCKS3, c_BLOCKS4]
  c_PATHS0 : Addr
  t_PATHS0 : tupB K c_PATHS0 [54, 53, 46, 45, 38, 37, 30, 29, 22, 21, 28, 27, 36, 35, 44, 52] = true
  c_PATHS1 : Addr
  t_PATHS1 : tupB K c_PATHS1 [130, 129, 118, 117, 106, 105, 94, 93, 82, 81, 70, 69, 58, 57, 46, 45, 34, 33, 32, 31, 44, 43, 56, 55, 68, 67, 80, 79, 92, 91, 104, 103, 116, 115, 128, 127, 126, 125, 114, 113, 102, 101, 90, 89, 78, 77, 66, 65, 54, 53, 42, 41, 30, 29, 28, 27, 40, 39, 52, 51, 64, 63, 76, 75, 88, 87, 100, 99, 112, 111, 124, 123, 110, 98, 86, 74, 62, 50, 38, 26] = true
  c_PATHS2 : Addr
  t_PATHS2 : tupB K c_PATHS2 [238, 237, 222, 221, 206, 205, 190, 189, 174, 173, 158, 157, 142, 141, 126, 125, 110, 109, 94, 93, 78, 77, 62, 61, 46, 45, 30, 29, 28, 27, 44, 43, 60, 59, 76, 75, 92, 91, 108, 107, 124, 123, 140, 139, 156, 155, 172, 171, 188, 187, 204, 203, 220, 219, 236, 235, 234, 233, 218, 217, 202, 201, 186, 185, 170, 169, 154, 153, 138, 137, 122, 121, 106, 105, 90, 89, 74, 73, 58, 57, 42, 41, 40, 39, 56, 55, 72, 71, 88, 87, 104, 103, 120, 119, 136, 135, 152, 151, 168, 167, 184, 183, 200, 199, 216, 215, 232, 231, 230, 229, 214, 213, 198, 197, 182, 181, 166, 165, 150, 149, 134, 133, 118, 117, 102, 101, 86, 85, 70, 69, 54, 53, 38, 37, 36, 35, 52, 51, 68, 67, 84, 83, 100, 99, 116, 115, 132, 131, 148, 147, 164, 163, 180, 179, 196, 195, 212, 211, 228, 227, 226, 210, 194, 178, 162, 146, 130, 114, 98, 82, 66, 65, 50, 49, 34, 33] = true
  c_PATHS3 : Addr
  t_PATHS3 : tupB K c_PATHS3 [378, 377, 358, 357, 338, 337, 318, 317, 298, 297, 278, 277, 258, 257, 238, 237, 218, 217, 198, 197, 178, 177, 158, 157, 138, 137, 118, 117, 98, 97, 78, 77, 58, 57, 38, 37, 36, 35, 56, 55, 76, 75, 96, 95, 116, 115, 136, 135, 156, 155, 176, 175, 196, 195, 216, 215, 236, 235, 256, 255, 276, 275, 296, 295, 316, 315, 336, 335, 356, 355, 376, 375, 374, 373, 354, 353, 334, 333, 314, 313, 294, 293, 274, 273, 254, 253, 234, 233, 214, 213, 194, 193, 174, 173, 154, 153, 134, 133, 114, 113, 94, 93, 74, 73, 54, 53, 34, 33, 32, 31, 52, 51, 72, 71, 92, 91, 112, 111, 132, 131, 152, 151, 172, 171, 192, 191, 212, 211, 232, 231, 252, 251, 272, 271, 292, 291, 312, 311, 332, 331, 352, 351, 372, 371, 370, 369, 350, 349, 330, 329, 310, 309, 290, 289, 270, 269, 250, 249, 230, 229, 210, 209, 190, 189, 170, 169, 150, 149, 130, 129, 110, 109, 90, 89, 70, 69, 50, 49, 48, 47, 68, 67, 88, 87, 108, 107, 128, 127, 148, 147, 168, 167, 188, 187, 208, 207, 228, 227, 248, 247, 268, 267, 288, 287, 308, 307, 328, 327, 348, 347, 368, 367, 366, 365, 346, 345, 326, 325, 306, 305, 286, 285, 266, 265, 246, 245, 226, 225, 206, 205, 186, 185, 166, 165, 146, 145, 126, 125, 106, 105, 86, 85, 66, 65, 46, 45, 44, 43, 64, 63, 84, 83, 104, 103, 124, 123, 144, 143, 164, 163, 184, 183, 204, 203, 224, 223, 244, 243, 264, 263, 284, 283, 304, 303, 324, 323, 344, 343, 364, 363, 362, 342, 322, 302, 282, 262, 242, 222, 202, 182, 162, 161, 142, 141, 122, 121, 102, 101, 82, 81, 62, 61, 42, 41] = true
  c_PATHS4 : Addr
  t_PATHS4 : tupB K c_PATHS4 [550, 549, 526, 525, 502, 501, 478, 477, 454, 453, 430, 429, 406, 405, 382, 381, 358, 357, 334, 333, 310, 309, 286, 285, 262, 261, 238, 237, 214, 213, 190, 189, 166, 165, 142, 141, 118, 117, 94, 93, 70, 69, 46, 45, 44, 43, 68, 67, 92, 91, 116, 115, 140, 139, 164, 163, 188, 187, 212, 211, 236, 235, 260, 259, 284, 283, 308, 307, 332, 331, 356, 355, 380, 379, 404, 403, 428, 427, 452, 451, 476, 475, 500, 499, 524, 523, 548, 547, 546, 545, 522, 521, 498, 497, 474, 473, 450, 449, 426, 425, 402, 401, 378, 377, 354, 353, 330, 329, 306, 305, 282, 281, 258, 257, 234, 233, 210, 209, 186, 185, 162, 161, 138, 137, 114, 113, 90, 89, 66, 65, 42, 41, 40, 39, 64, 63, 88, 87, 112, 111, 136, 135, 160, 159, 184, 183, 208, 207, 232, 231, 256, 255, 280, 279, 304, 303, 328, 327, 352, 351, 376, 375, 400, 399, 424, 423, 448, 447, 472, 471, 496, 495, 520, 519, 544, 543, 542, 541, 518, 517, 494, 493, 470, 469, 446, 445, 422, 421, 398, 397, 374, 373, 350, 349, 326, 325, 302, 301, 278, 277, 254, 253, 230, 229, 206, 205, 182, 181, 158, 157, 134, 133, 110, 109, 86, 85, 62, 61, 38, 37, 36, 35, 60, 59, 84, 83, 108, 107, 132, 131, 156, 155, 180, 179, 204, 203, 228, 227, 252, 251, 276, 275, 300, 299, 324, 323, 348, 347, 372, 371, 396, 395, 420, 419, 444, 443, 468, 467, 492, 491, 516, 515, 540, 539, 538, 537, 514, 513, 490, 489, 466, 465, 442, 441, 418, 417, 394, 393, 370, 369, 346, 345, 322, 321, 298, 297, 274, 273, 250, 249, 226, 225, 202, 201, 178, 177, 154, 153, 130, 129, 106, 105, 82, 81, 58, 57, 56, 55, 80, 79, 104, 103, 128, 127, 152, 151, 176, 175, 200, 199, 224, 223, 248, 247, 272, 271, 296, 295, 320, 319, 344, 343, 368, 367, 392, 391, 416, 415, 440, 439, 464, 463, 488, 487, 512, 511, 536, 535, 534, 533, 510, 509, 486, 485, 462, 461, 438, 437, 414, 413, 390, 389, 366, 365, 342, 341, 318, 317, 294, 293, 270, 269, 246, 245, 222, 221, 198, 197, 174, 173, 150, 149, 126, 125, 102, 101, 78, 77, 54, 53, 52, 51, 76, 75, 100, 99, 124, 123, 148, 147, 172, 171, 196, 195, 220, 219, 244, 243, 268, 267, 292, 291, 316, 315, 340, 339, 364, 363, 388, 387, 412, 411, 436, 435, 460, 459, 484, 483, 508, 507, 532, 531, 530, 506, 482, 458, 434, 410, 386, 362, 338, 314, 290, 289, 266, 265, 242, 241, 218, 217, 194, 193, 170, 169, 146, 145, 122, 121, 98, 97, 74, 73, 50, 49] = true
  a_PATHS : Addr
  g_PATHS : mg "PATHS" = some (.ref a_PATHS)
  l_PATHS : KTupR K a_PATHS [c_PATHS0, c_PATHS1, c_PATHS2, c_PATHS3, c_PATHS4]
  a_PLACES : Addr
  g_PLACES : mg "PLACES" = some (.ref a_PLACES)
  l_PLACES : tup3B K a_PLACES [[[37, 36, 37, 36, 37, 36, 37, 36], [37, 16, 17, 18, 19, 20, 21, 36], [37, 22, 23, 24, 25, 9, 8, 37], [37, 29, 33, 11, 10, 7, 6, 37], [37, 28, 32, 13, 12, 5, 4, 36], [37, 27, 31, 35, 14, 3, 2, 36], [37, 26, 30, 34, 15, 1, 0, 37], [37, 37, 37, 37, 37, 37, 37, 37]], [[101, 100, 101, 100, 101, 100, 101, 100, 101, 100, 101, 100], [101, 80, 81, 82, 83, 84, 85, 86, 87, 88, 89, 100], [101, 98, 79, 55, 54, 53, 52, 19, 18, 17, 16, 101], [101, 97, 78, 57, 56, 51, 50, 21, 20, 15, 14, 101], [101, 96, 77, 59, 58, 49, 48, 23, 22, 13, 12, 100], [101, 95, 76, 61, 60, 47, 46, 25, 24, 11, 10, 100], [101, 94, 75, 63, 62, 45, 44, 27, 26, 9, 8, 101], [101, 93, 74, 65, 64, 43, 42, 29, 28, 7, 6, 101], [101, 92, 73, 67, 66, 41, 40, 31, 30, 5, 4, 100], [101, 91, 72, 69, 68, 39, 38, 33, 32, 3, 2, 100], [101, 90, 99, 71, 70, 37, 36, 35, 34, 1, 0, 101], [101, 101, 101, 101, 101, 101, 101, 101, 101, 101, 101, 101]], [[197, 196, 197, 196, 197, 196, 197, 196, 197, 196, 197, 196, 197, 196, 197, 196], [197, 176, 177, 178, 179, 180, 181, 182, 183, 184, 185, 29, 28, 27, 26, 196], [197, 175, 174, 135, 134, 133, 132, 83, 82, 81, 80, 31, 30, 25, 24, 197], [197, 173, 172, 137, 136, 131, 130, 85, 84, 79, 78, 33, 32, 23, 22, 197], [197, 171, 170, 139, 138, 129, 128, 87, 86, 77, 76, 35, 34, 21, 20, 196], [197, 195, 169, 141, 140, 127, 126, 89, 88, 75, 74, 37, 36, 19, 18, 196], [197, 194, 168, 143, 142, 125, 124, 91, 90, 73, 72, 39, 38, 17, 16, 197], [197, 193, 167, 145, 144, 123, 122, 93, 92, 71, 70, 41, 40, 15, 14, 197], [197, 192, 166, 147, 146, 121, 120, 95, 94, 69, 68, 43, 42, 13, 12, 196], [197, 191, 165, 149, 148, 119, 118, 97, 96, 67, 66, 45, 44, 11, 10, 196], [197, 190, 164, 151, 150, 117, 116, 99, 98, 65, 64, 47, 46, 9, 8, 197], [197, 189, 163, 153, 152, 115, 114, 101, 100, 63, 62, 49, 48, 7, 6, 197], [197, 188, 162, 155, 154, 113, 112, 103, 102, 61, 60, 51, 50, 5, 4, 196], [197, 187, 161, 157, 156, 111, 110, 105, 104, 59, 58, 53, 52, 3, 2, 196], [197, 186, 160, 159, 158, 109, 108, 107, 106, 57, 56, 55, 54, 1, 0, 197], [197, 197, 197, 197, 197, 197, 197, 197, 197, 197, 197, 197, 197, 197, 197, 197]], [[325, 324, 325, 324, 325, 324, 325, 324, 325, 324, 325, 324, 325, 324, 325, 324, 325, 324, 325, 324], [325, 304, 305, 306, 307, 308, 309, 310, 311, 312, 313, 109, 108, 107, 106, 37, 36, 35, 34, 324], [325, 303, 302, 247, 246, 245, 244, 179, 178, 177, 176, 111, 110, 105, 104, 39, 38, 33, 32, 325], [325, 301, 300, 249, 248, 243, 242, 181, 180, 175, 174, 113, 112, 103, 102, 41, 40, 31, 30, 325], [325, 299, 298, 251, 250, 241, 240, 183, 182, 173, 172, 115, 114, 101, 100, 43, 42, 29, 28, 324], [325, 297, 296, 253, 252, 239, 238, 185, 184, 171, 170, 117, 116, 99, 98, 45, 44, 27, 26, 324], [325, 295, 294, 255, 254, 237, 236, 187, 186, 169, 168, 119, 118, 97, 96, 47, 46, 25, 24, 325], [325, 293, 292, 257, 256, 235, 234, 189, 188, 167, 166, 121, 120, 95, 94, 49, 48, 23, 22, 325], [325, 291, 290, 259, 258, 233, 232, 191, 190, 165, 164, 123, 122, 93, 92, 51, 50, 21, 20, 324], [325, 323, 289, 261, 260, 231, 230, 193, 192, 163, 162, 125, 124, 91, 90, 53, 52, 19, 18, 324], [325, 322, 288, 263, 262, 229, 228, 195, 194, 161, 160, 127, 126, 89, 88, 55, 54, 17, 16, 325], [325, 321, 287, 265, 264, 227, 226, 197, 196, 159, 158, 129, 128, 87, 86, 57, 56, 15, 14, 325], [325, 320, 286, 267, 266, 225, 224, 199, 198, 157, 156, 131, 130, 85, 84, 59, 58, 13, 12, 324], [325, 319, 285, 269, 268, 223, 222, 201, 200, 155, 154, 133, 132, 83, 82, 61, 60, 11, 10, 324], [325, 318, 284, 271, 270, 221, 220, 203, 202, 153, 152, 135, 134, 81, 80, 63, 62, 9, 8, 325], [325, 317, 283, 273, 272, 219, 218, 205, 204, 151, 150, 137, 136, 79, 78, 65, 64, 7, 6, 325], [325, 316, 282, 275, 274, 217, 216, 207, 206, 149, 148, 139, 138, 77, 76, 67, 66, 5, 4, 324], [325, 315, 281, 277, 276, 215, 214, 209, 208, 147, 146, 141, 140, 75, 74, 69, 68, 3, 2, 324], [325, 314, 280, 279, 278, 213, 212, 211, 210, 145, 144, 143, 142, 73, 72, 71, 70, 1, 0, 325], [325, 325, 325, 325, 325, 325, 325, 325, 325, 325, 325, 325, 325, 325, 325, 325, 325, 325, 325, 325]], [[485, 484, 485, 484, 485, 484, 485, 484, 485, 484, 485, 484, 485, 484, 485, 484, 485, 484, 485, 484, 485, 484, 485, 484], [485, 464, 465, 466, 467, 468, 469, 470, 471, 472, 473, 221, 220, 219, 218, 133, 132, 131, 130, 45, 44, 43, 42, 484], [485, 463, 462, 391, 390, 389, 388, 307, 306, 305, 304, 223, 222, 217, 216, 135, 134, 129, 128, 47, 46, 41, 40, 485], [485, 461, 460, 393, 392, 387, 386, 309, 308, 303, 302, 225, 224, 215, 214, 137, 136, 127, 126, 49, 48, 39, 38, 485], [485, 459, 458, 395, 394, 385, 384, 311, 310, 301, 300, 227, 226, 213, 212, 139, 138, 125, 124, 51, 50, 37, 36, 484], [485, 457, 456, 397, 396, 383, 382, 313, 312, 299, 298, 229, 228, 211, 210, 141, 140, 123, 122, 53, 52, 35, 34, 484], [485, 455, 454, 399, 398, 381, 380, 315, 314, 297, 296, 231, 230, 209, 208, 143, 142, 121, 120, 55, 54, 33, 32, 485], [485, 453, 452, 401, 400, 379, 378, 317, 316, 295, 294, 233, 232, 207, 206, 145, 144, 119, 118, 57, 56, 31, 30, 485], [485, 451, 450, 403, 402, 377, 376, 319, 318, 293, 292, 235, 234, 205, 204, 147, 146, 117, 116, 59, 58, 29, 28, 484], [485, 449, 448, 405, 404, 375, 374, 321, 320, 291, 290, 237, 236, 203, 202, 149, 148, 115, 114, 61, 60, 27, 26, 484], [485, 447, 446, 407, 406, 373, 372, 323, 322, 289, 288, 239, 238, 201, 200, 151, 150, 113, 112, 63, 62, 25, 24, 485], [485, 445, 444, 409, 408, 371, 370, 325, 324, 287, 286, 241, 240, 199, 198, 153, 152, 111, 110, 65, 64, 23, 22, 485], [485, 443, 442, 411, 410, 369, 368, 327, 326, 285, 284, 243, 242, 197, 196, 155, 154, 109, 108, 67, 66, 21, 20, 484], [485, 483, 441, 413, 412, 367, 366, 329, 328, 283, 282, 245, 244, 195, 194, 157, 156, 107, 106, 69, 68, 19, 18, 484], [485, 482, 440, 415, 414, 365, 364, 331, 330, 281, 280, 247, 246, 193, 192, 159, 158, 105, 104, 71, 70, 17, 16, 485], [485, 481, 439, 417, 416, 363, 362, 333, 332, 279, 278, 249, 248, 191, 190, 161, 160, 103, 102, 73, 72, 15, 14, 485], [485, 480, 438, 419, 418, 361, 360, 335, 334, 277, 276, 251, 250, 189, 188, 163, 162, 101, 100, 75, 74, 13, 12, 484], [485, 479, 437, 421, 420, 359, 358, 337, 336, 275, 274, 253, 252, 187, 186, 165, 164, 99, 98, 77, 76, 11, 10, 484], [485, 478, 436, 423, 422, 357, 356, 339, 338, 273, 272, 255, 254, 185, 184, 167, 166, 97, 96, 79, 78, 9, 8, 485], [485, 477, 435, 425, 424, 355, 354, 341, 340, 271, 270, 257, 256, 183, 182, 169, 168, 95, 94, 81, 80, 7, 6, 485], [485, 476, 434, 427, 426, 353, 352, 343, 342, 269, 268, 259, 258, 181, 180, 171, 170, 93, 92, 83, 82, 5, 4, 484], [485, 475, 433, 429, 428, 351, 350, 345, 344, 267, 266, 261, 260, 179, 178, 173, 172, 91, 90, 85, 84, 3, 2, 484], [485, 474, 432, 431, 430, 349, 348, 347, 346, 265, 264, 263, 262, 177, 176, 175, 174, 89, 88, 87, 86, 1, 0, 485], [485, 485, 485, 485, 485, 485, 485, 485, 485, 485, 485, 485, 485, 485, 485, 485, 485, 485, 485, 485, 485, 485, 485, 485]]] = true
  c_QUADS0 : Addr
  t_QUADS0 : tupB K c_QUADS0 [0, 0, 0, 0] = true
  c_QUADS1 : Addr
  t_QUADS1 : tupB K c_QUADS1 [0, 0, 0, 1] = true
  c_QUADS2 : Addr
  t_QUADS2 : tupB K c_QUADS2 [0, 0, 1, 0] = true
  c_QUADS3 : Addr
  t_QUADS3 : tupB K c_QUADS3 [0, 0, 1, 1] = true
  c_QUADS4 : Addr
  t_QUADS4 : tupB K c_QUADS4 [0, 1, 0, 0] = true
  c_QUADS5 : Addr
  t_QUADS5 : tupB K c_QUADS5 [0, 1, 0, 1] = true
  c_QUADS6 : Addr
  t_QUADS6 : tupB K c_QUADS6 [0, 1, 1, 0] = true
  c_QUADS7 : Addr
  t_QUADS7 : tupB K c_QUADS7 [0, 1, 1, 1] = true
  c_QUADS8 : Addr
  t_QUADS8 : tupB K c_QUADS8 [1, 0, 0, 0] = true
  c_QUADS9 : Addr
  t_QUADS9 : tupB K c_QUADS9 [1, 0, 0, 1] = true
  c_QUADS10 : Addr
  t_QUADS10 : tupB K c_QUADS10 [1, 0, 1, 0] = true
  c_QUADS11 : Addr
  t_QUADS11 : tupB K c_QUADS11 [1, 0, 1, 1] = true
  c_QUADS12 : Addr
  t_QUADS12 : tupB K c_QUADS12 [1, 1, 0, 0] = true
  c_QUADS13 : Addr
  t_QUADS13 : tupB K c_QUADS13 [1, 1, 0, 1] = true
  c_QUADS14 : Addr
  t_QUADS14 : tupB K c_QUADS14 [1, 1, 1, 0] = true
  c_QUADS15 : Addr
  t_QUADS15 : tupB K c_QUADS15 [1, 1, 1, 1] = true
  a_QUADS : Addr
  g_QUADS : mg "QUADS" = some (.ref a_QUADS)
  l_QUADS : KTupR K a_QUADS [c_QUADS0, c_QUADS1, c_QUADS2, c_QUADS3, c_QUADS4, c_QUADS5, c_QUADS6, c_QUADS7, c_QUADS8, c_QUADS9, c_QUADS10, c_QUADS11, c_QUADS12, c_QUADS13, c_QUADS14, c_QUADS15]
  a_QUAD_WORDS : Addr
  g_QUAD_WORDS : mg "QUAD_WORDS" = some (.ref a_QUAD_WORDS)
  l_QUAD_WORDS : dTupB K a_QUAD_WORDS [([0, 0, 0, 0], 0), ([0, 0, 0, 1], 1), ([0, 0, 1, 0], 2), ([0, 0, 1, 1], 3), ([0, 1, 0, 0], 4), ([0, 1, 0, 1], 5), ([0, 1, 1, 0], 6), ([0, 1, 1, 1], 7), ([1, 0, 0, 0], 8), ([1, 0, 0, 1], 9), ([1, 0, 1, 0], 10), ([1, 0, 1, 1], 11), ([1, 1, 0, 0], 12), ([1, 1, 0, 1], 13), ([1, 1, 1, 0], 14), ([1, 1, 1, 1], 15)] = true
  a_SIDES : Addr
  g_SIDES : mg "SIDES" = some (.ref a_SIDES)
  l_SIDES : tupB K a_SIDES [8, 12, 16, 20, 24] = true
  g_STRIP : ∃ t, mg "STRIP" = some (.int 10 t)
  a_WORD_BITS : Addr
  g_WORD_BITS : mg "WORD_BITS" = some (.ref a_WORD_BITS)
  l_WORD_BITS : tupB K a_WORD_BITS [4, 4, 8, 8, 8] = true
section
variable {P : Program} {w : World} {K : PySem.W.Frag} {mg : Str → Option Value} {base : Heap}
/-! ### the program's defs -/
def sp_is_number_to : Sp := fun vs H Q _ => ∃ (x : V) (l m : Int), vs = [x, .int l, .int m] ∧ ((∃ i, x = .int i ∧ Q (.bl (decide (l ≤ i) && decide (i ≤ m))) H) ∨ (x = .non ∧ Q (.bl false) H))
theorem ok_is_number_to (T : Txt K mg) : FnOk P w K mg base CX0 1 T.f_is_number_to T.d_is_number_to ["thing", "least", "most"] sp_is_number_to := by
  refine T.F_is_number_to.ok sc_is_number_to (fun vs H Q E h => ?_) (fun cdv A outer s H vs Q E hr h => ?_)
  · obtain ⟨x, l, m, rfl, _⟩ := h
    rfl
  · obtain ⟨x, l, m, rfl, q⟩ := h
    refine ⟨_, (pss_one (ps_ret (pe_and (pe_callB call_isi (by rfl) T.n_isinstance (by decide +kernel) (pa_cons (pv 0) (pa_cons (pe_bltn (v := .ty "int") (by rfl) T.n_int (by decide +kernel) rfl) pa_nil))) (pe_and (pe_not (pe_callB call_isi (by rfl) T.n_isinstance (by decide +kernel) (pa_cons (pv 0) (pa_cons (pe_bltn (v := .ty "bool") (by rfl) T.n_bool (by decide +kernel) rfl) pa_nil)))) (pe_one (pe_chain op_le op_le (pv 1) (pv 0) (pv 2))))))), ?_⟩
    rcases q with ⟨i, rfl, q⟩ | ⟨rfl, q⟩
    · refine ⟨_, rfl, .int i, .ty "int", .type "int", .type "int", true, rfl, .ty _, .base (.int i), kit_ty (by decide +kernel), true, rfl, ?_⟩
      refine ⟨_, rfl, .int i, .ty "bool", .type "int", .type "bool", false, rfl, .ty _, .base (.int i), kit_ty (by decide +kernel), _, rfl, true, rfl, ?_⟩
      refine ⟨_, rfl, _, rfl, _, _, rfl, rfl, _, rfl, ?_⟩
      refine ite2 (fun c => ?_) (fun c => ?_)
      · refine ⟨_, rfl, _, _, rfl, rfl, ?_⟩
        rw [show decide (l ≤ i) = true from c, Bool.true_and] at q
        exact q
      · rw [show decide (l ≤ i) = false by simpa using c, Bool.false_and] at q
        exact q
    · refine ⟨_, rfl, .non, .ty "int", .type "NoneType", .type "int", false, rfl, .ty _, .base .non, kit_ty (by decide +kernel), false, rfl, ?_⟩
      exact q
def sp_is_row (K : PySem.W.Frag) : Sp := fun vs H Q _ => ∃ (a : Addr) (k : Bool) (xs : List V), vs = [.ref a] ∧ SqB k K H a xs ∧ ∀ H', Same H H' → Q (.bl true) H'
theorem ok_is_row (T : Txt K mg) : FnOk P w K mg base CX0 1 T.f_is_row T.d_is_row ["thing"] (sp_is_row K) := by
  refine T.F_is_row.ok sc_is_row (fun vs H Q E h => ?_) (fun cdv A outer s H vs Q E hr h => ?_)
  · obtain ⟨a, k, xs, rfl, _⟩ := h
    rfl
  · obtain ⟨a, k, xs, rfl, hq, q⟩ := h
    refine ⟨_, (pss_one (ps_ret (pe_callB call_isiT (by rfl) T.n_isinstance (by decide +kernel) (pa_cons (pv 0) (pa_cons (pe_tup (pa_cons (pe_bltn (v := .ty "list") (by rfl) T.n_list (by decide +kernel) rfl) (pa_cons (pe_bltn (v := .ty "tuple") (by rfl) T.n_tuple (by decide +kernel) rfl) pa_nil))) pa_nil))))), ?_⟩
    refine ⟨_, rfl, (by show 2 ≤ sizeLine; decide), fun tp htp => ?_⟩
    have hq2 := Same.sqb (same_upd (o := .tup [.ty "list", .ty "tuple"]) htp) hq
    refine ⟨.ref a, tp, [.ty "list", .ty "tuple"], .type (if k = true then "list" else "tuple"), [.type "list", .type "tuple"], true, rfl, upd_same, .cons (.ty _) (.cons (.ty _) .nil), hq2.ty, ?_, q _ (same_upd htp)⟩
    cases k
    · exact kitAny_cons (kit_ty (r := false) (by decide +kernel)) (fun _ => kitAny_cons (kit_ty (r := true) (by decide +kernel)) (fun z => by cases z) (fun _ => rfl)) (fun z => by cases z)
    · exact kitAny_cons (kit_ty (r := true) (by decide +kernel)) (fun z => by cases z) (fun _ => rfl)
def WsO (b : Nat) (ws : List (Option Nat)) : Prop := ∀ x, some x ∈ ws → x < span b
def sp_words (K : PySem.W.Frag) : Sp := fun vs H Q _ => ∃ (b : Nat) (a : Addr) (k : Bool) (ws : List (Option Nat)), vs = [vN b, .ref a] ∧ Wd b ∧ SqB k K H a (ws.map vG) ∧ WsO b ws ∧ ws.length ≤ 100 ∧ ∀ H', Same H H' → Q (.bl (ws.filter Option.isNone).isEmpty) H'
theorem ok_are_plain_words (T : Txt K mg) : FnOk P w K mg base CX0 1 T.f_are_plain_words T.d_are_plain_words ["bits", "things"] (sp_words K) := by
  refine T.F_are_plain_words.ok sc_are_plain_words (fun vs H Q E h => ?_) (fun cdv A outer s H vs Q E hr h => ?_)
  · obtain ⟨b, a, k, ws, rfl, _⟩ := h
    rfl
  · obtain ⟨b, a, k, ws, rfl, hb, hq, hw, hl, q⟩ := h
    refine ⟨_, (pss_one (ps_ret (pe_notT (pe_lc (own := [("thing", 2)]) rfl sc_are_plain_words.nd (pi_seq (pv 1)) (blkOk_by (N := ["bits", "things", "thing"]) (sc := defScope s_are_plain_words) (by decide +kernel)) (fun _ _ _ _ _ => by exact (pg_name (i := 2) sc_are_plain_words.nd rfl (.inl rfl))) (fun _ _ _ _ _ => by exact (pts_one (PW.pt (pw_or (pt_cmpR op_isNotTy (pe_callTy call_typeG (by rfl) T.n_type (by decide +kernel) (pa_cons (pv 2) pa_nil)) (pe_bltn (v := .ty "int") (by rfl) T.n_int (by decide +kernel) rfl) (nomark _)) (pw_or1 (pt_truthK (K := K) rfl (pe_op op_shr (pv 2) (pv 0)) (fun _ => rfl))))))) (fun _ _ _ _ _ => by exact (pv 2)))))), ?_⟩
    refine ⟨_, rfl, a, _, k, rfl, hq, fun D hD => ?_⟩
    refine lc_it (walk_seq (b := k) (K := K) (a := a) (xs := ws.map vG)) (fun i H' => Same H H' ∧ H' D = some (.lst (((ws.take i).filter Option.isNone).map vG))) ⟨same_upd hD, upd_same⟩ (fun i H' _ h => Same.sqb h.1 hq) ?_ ?_
    · rintro i v H1 H2 hi ⟨sm, g⟩ ⟨rfl, e2⟩
      rw [List.length_map] at hi
      have e1 : ws[i]? = some ws[i] := List.getElem?_eq_getElem hi
      rw [List.getElem?_map, e1] at e2
      obtain rfl := (Option.some.inj e2).symm
      have tk : ws.take (i + 1) = ws.take i ++ [ws[i]] := by rw [List.take_add_one, e1]; rfl
      rw [tk, List.filter_append]
      refine ⟨rfl, ?_⟩
      refine ⟨_, rfl, ws[i], rfl, _, _, rfl, rfl, _, rfl, ?_⟩
      cases ex : ws[i] with
      | none =>
        rw [show (!decide (tyG none = "int")) = true from by decide]
        refine iteT (iteT ⟨_, rfl, _, g, ?_, fun c o hc => ?_, ?_⟩)
        · rw [List.length_map]
          have := List.length_filter_le Option.isNone (ws.take i)
          rw [List.length_take] at this
          exact small1000 (by omega)
        · rw [upd_ne (ne_of_none hc hD)]
          exact sm _ _ hc
        · rw [upd_same, List.map_append]
          rfl
      | some x =>
        rw [show (!decide (tyG (some x) = "int")) = false from rfl]
        have hx : x < span b := hw x (by rw [← ex]; exact List.getElem_mem hi)
        refine iteF ⟨_, rfl, _, rfl, _, _, rfl, rfl, by omega, _, rfl, ?_⟩
        rw [word_shr hb hx]
        refine iteF ⟨sm, ?_⟩
        rw [g]
        simp
    · rintro H1 ⟨sm, g⟩
      rw [List.length_map, List.take_length] at g
      refine ⟨_, SqB.truB (b := true) (.inl (.inl g)), ?_⟩
      have e : (!!((ws.filter Option.isNone).map vG).isEmpty) = (ws.filter Option.isNone).isEmpty := by simp
      rw [e]
      exact q H1 sm
def sp_need_size : Sp := fun vs H Q _ => ∃ s : Nat, vs = [.int ((s : Int) + 1)] ∧ s < 5 ∧ Q .non H
theorem ok_need_size (T : Txt K mg) : FnOk P w K mg base CX0 2 T.f_need_size T.d_need_size ["size"] sp_need_size := by
  refine T.F_need_size.ok sc_need_size (fun vs H Q E h => ?_) (fun cdv A outer s H vs Q E hr h => ?_)
  · obtain ⟨s, rfl, _⟩ := h
    rfl
  · obtain ⟨s0, rfl, hs, q⟩ := h
    refine ⟨_, (pss_one (ps_if (pt_not (pt_val (pe_call (ok_is_number_to T) (hr.mono (by decide)) (by rfl) T.g_is_number_to T.F_is_number_to.kp T.b_is_number_to .nil pass0 (pa_cons (pv 0) (pa_cons pe_int (pa_cons (pe_callB call_len_seq (by rfl) T.n_len (by decide +kernel) (pa_cons (pe_glob (v := .ref T.a_SIDES) (by rfl) T.g_SIDES rfl) pa_nil)) pa_nil)))))) (pss_one ps_never) pss_nil)), ?_⟩
    refine ⟨_, rfl, T.a_SIDES, _, rfl, .inr (tupB_ok (xs := sidesI) T.l_SIDES), _, _, _, rfl, .inl ⟨_, rfl, ?_⟩⟩
    have e : (decide ((1 : Int) ≤ (s0 : Int) + 1) && decide ((s0 : Int) + 1 ≤ (((sidesI.map V.int).length : Nat) : Int))) = true := by
      have : (sidesI.map V.int).length = 5 := rfl
      rw [this]
      simp
      omega
    rw [e]
    exact ⟨_, rfl, iteF q⟩
/-- the blocks' tuple of a size -/
theorem blk_at (T : Txt K mg) {s : Nat} (hs : s < 5) : ∃ c, atI ([T.c_BLOCKS0, T.c_BLOCKS1, T.c_BLOCKS2, T.c_BLOCKS3, T.c_BLOCKS4].map V.ref) (s : Int) = some (.ref c) ∧ ∀ H, SqT K H c ((blkF s).map vN) := by
  have : s = 0 ∨ s = 1 ∨ s = 2 ∨ s = 3 ∨ s = 4 := by omega
  rcases this with rfl | rfl | rfl | rfl | rfl
  · exact ⟨T.c_BLOCKS0, rfl, fun H => tupB_ok (xs := [4]) T.t_BLOCKS0⟩
  · exact ⟨T.c_BLOCKS1, rfl, fun H => tupB_ok (xs := [10, 10]) T.t_BLOCKS1⟩
  · exact ⟨T.c_BLOCKS2, rfl, fun H => tupB_ok (xs := [22]) T.t_BLOCKS2⟩
  · exact ⟨T.c_BLOCKS3, rfl, fun H => tupB_ok (xs := [19, 19]) T.t_BLOCKS3⟩
  · exact ⟨T.c_BLOCKS4, rfl, fun H => tupB_ok (xs := [20, 19, 19]) T.t_BLOCKS4⟩
def sp_bs : Sp := fun vs H Q _ => ∃ s : Nat, vs = [.int ((s : Int) + 1)] ∧ s < 5 ∧ ∀ l, H l = none → Q (.ref l) (upd H l (.lst ((blkF s).map vN)))
theorem ok_block_sizes (T : Txt K mg) : FnOk P w K mg base CX0 3 T.f_block_sizes T.d_block_sizes ["size"] sp_bs := by
  refine T.F_block_sizes.ok sc_block_sizes (fun vs H Q E h => ?_) (fun cdv A outer s H vs Q E hr h => ?_)
  · obtain ⟨s, rfl, _⟩ := h
    rfl
  · obtain ⟨s0, rfl, hs, q⟩ := h
    refine ⟨_, (pss_cons (ps_expr (pe_call (ok_need_size T) (hr.mono (by decide)) (by rfl) T.g_need_size T.F_need_size.kp T.b_need_size .nil pass0 (pa_cons (pv 0) pa_nil)))
      (pss_one (ps_ret (pe_callTy call_list_of (by rfl) T.n_list (by decide +kernel) (pa_cons (pe_ix ix_rowB (pe_glob (v := .ref T.a_BLOCKS) (by rfl) T.g_BLOCKS rfl) (pe_op op_sub (pv 0) pe_int) (fun _ _ => rfl)) pa_nil))))), ?_⟩
    obtain ⟨c, hc, hC⟩ := blk_at T hs
    refine ⟨_, rfl, s0, rfl, hs, ?_⟩
    refine ⟨_, rfl, _, _, rfl, rfl, T.a_BLOCKS, _, _, .ref c, false, rfl, rfl, T.l_BLOCKS.sq (by show 5 ≤ 1000; decide), ?_, c, _, rfl, .inr (hC _), q⟩
    rw [show (s0 : Int) + 1 - 1 = (s0 : Int) by omega]
    exact hc
def sp_wc : Sp := fun vs H Q _ => ∃ s : Nat, vs = [.int ((s : Int) + 1)] ∧ s < 5 ∧ ∀ H', Same H H' → Q (vN (totF s)) H'
theorem sum_vN (r : List Nat) : (r.map fun n : Nat => (n : Int)).sum = ((r.sum : Nat) : Int) := by
  induction r with
  | nil => rfl
  | cons x r ih => rw [List.map_cons, List.sum_cons, List.sum_cons, ih]; omega
theorem vN_ints (r : List Nat) : r.map vN = (r.map fun n : Nat => (n : Int)).map V.int := by
  rw [List.map_map]
  rfl
theorem ok_word_count (T : Txt K mg) : FnOk P w K mg base CX0 4 T.f_word_count T.d_word_count ["size"] sp_wc := by
  refine T.F_word_count.ok sc_word_count (fun vs H Q E h => ?_) (fun cdv A outer s H vs Q E hr h => ?_)
  · obtain ⟨s, rfl, _⟩ := h
    rfl
  · obtain ⟨s0, rfl, hs, q⟩ := h
    refine ⟨_, (pss_one (ps_ret (pe_callB (cr_sum rfl) (by rfl) T.n_sum (by decide +kernel) (pa_cons (pe_call (ok_block_sizes T) (hr.mono (by decide)) (by rfl) T.g_block_sizes T.F_block_sizes.kp T.b_block_sizes .nil pass0 (pa_cons (pv 0) pa_nil)) pa_nil)))), ?_⟩
    refine ⟨_, rfl, s0, rfl, hs, fun l hl => ⟨l, (blkF s0).map fun n : Nat => (n : Int), rfl, .inl (.inl (by rw [upd_same, vN_ints])), ?_⟩⟩
    rw [sum_vN]
    exact q _ (same_upd hl)
/-! CUT -/
def sp_plain (K : PySem.W.Frag) : Sp := fun vs H Q _ => ∃ (n : Nat) (a : Addr) (k : Bool) (g : Grid), vs = [vN n, .ref a] ∧ GrB k K H a g ∧ Sq n g ∧ ∀ H', Same H H' → Q (.bl true) H'
theorem ok_is_plain_grid (T : Txt K mg) : FnOk P w K mg base CX0 1 T.f_is_plain_grid T.d_is_plain_grid ["many", "grid"] (sp_plain K) := by
  refine T.F_is_plain_grid.ok sc_is_plain_grid (fun vs H Q E h => ?_) (fun cdv A outer s H vs Q E hr h => ?_)
  · obtain ⟨n, a, k, g, rfl, _⟩ := h
    rfl
  · obtain ⟨n, a, k, g, rfl, hg, hs, q⟩ := h
    refine ⟨_, (pss_cons (ps_if (pt_truth (pe_lc (own := [("dots", 3)]) rfl sc_is_plain_grid.nd (pi_seq (pv 1)) (blkOk_by (N := ["many", "grid", "odd", "dots", "dot"]) (sc := defScope s_is_plain_grid) (by decide +kernel)) (fun _ _ _ _ _ => by exact (pg_name (i := 3) sc_is_plain_grid.nd rfl (.inl rfl))) (fun _ _ _ _ _ => by exact (pts_one (PW.pt (pw_or (pt_not (pt_val (pe_callB (call_isiTK (K := K) rfl) (by rfl) T.n_isinstance (by decide +kernel) (pa_cons (pv 3) (pa_cons (pe_tup (pa_cons (pe_bltn (v := .ty "list") (by rfl) T.n_list (by decide +kernel) rfl) (pa_cons (pe_bltn (v := .ty "tuple") (by rfl) T.n_tuple (by decide +kernel) rfl) pa_nil))) pa_nil))))) (pw_or1 (pt_cmpR op_ne (pe_callB (call_len_seqG (K := K) rfl) (by rfl) T.n_len (by decide +kernel) (pa_cons (pv 3) pa_nil)) (pv 0) (nomark _))))))) (fun _ _ _ _ _ => by exact (pv 3))) (by intro _; rfl)) (pss_one (ps_ret pe_bl)) pss_nil)
      (pss_cons (ps_setLc2 (i := 2) (g := (gName 3)) (g1 := (gName 4)) (own := [("dots", 3), ("dot", 4)]) (vs1 := [4]) rfl sc_is_plain_grid.nd rfl rfl (sw_true rfl rfl rfl (by decide +kernel)) (pi_seq (pv 1)) (blkOk_by (N := ["many", "grid", "odd", "dots", "dot"]) (sc := defScope s_is_plain_grid) (by decide +kernel)) (by decide) (fun _ _ _ _ _ => by exact (pg_name (i := 3) sc_is_plain_grid.nd rfl (.inl rfl))) (fun _ _ _ _ _ => by exact pts_nil) (fun _ _ _ _ _ => by exact (pi_seqK (K := K) rfl (pv 3))) (fun _ _ _ _ _ => by exact (pg_name (i := 4) sc_is_plain_grid.nd rfl (.inl rfl))) (fun _ _ _ _ _ => by exact (pts_one (PW.pt (pw_and (PW.pt (pw_or (pt_cmpR op_isNotTy (pe_callTy call_typeG (by rfl) T.n_type (by decide +kernel) (pa_cons (pv 4) pa_nil)) (pe_bltn (v := .ty "int") (by rfl) T.n_int (by decide +kernel) rfl) (nomark _)) (pw_or (pt_cmpR op_gt (pv 4) pe_int (nomark _)) (pw_or1 (pt_cmpR op_lt (pv 4) pe_int (nomark _)))))) (pw_and1 (pt_cmpR op_notN (pv 4) pe_non (nomark _))))))) (fun _ _ _ _ _ => by exact (pv 4)))
      (pss_one (ps_ret (pe_notT (pv 2)))))), ?_⟩
    obtain ⟨L, h1, h2, h3⟩ := hg.ex
    have hrow : ∀ i (v : V), i < (L.map V.ref).length → (L.map V.ref)[i]? = some v → ∃ (l : Addr) (r : List (Option Nat)), v = .ref l ∧ SqB k K H l (r.map vG) ∧ r ∈ g := fun i v hi e => by
      rw [List.length_map] at hi
      have e1 : L[i]? = some L[i] := List.getElem?_eq_getElem hi
      have e2 : g[i]? = some (g[i]'(by omega)) := List.getElem?_eq_getElem _
      rw [List.getElem?_map, e1] at e
      exact ⟨_, _, (Option.some.inj e).symm, h3 i _ _ e1 e2, List.getElem_mem _⟩
    refine ⟨_, rfl, a, _, k, rfl, h1, fun D hD => ?_⟩
    refine lc_it (walk_seq (b := k) (K := K) (a := a) (xs := L.map V.ref)) (fun i H' => Same H H' ∧ H' D = some (.lst [])) ⟨same_upd hD, upd_same⟩ (fun i H' _ h => Same.sqb h.1 h1) ?_ ?_
    · rintro i v H1 H2 hi ⟨sm, gD⟩ ⟨rfl, e2⟩
      obtain ⟨l, r, rfl, hq, hm⟩ := hrow i v hi e2
      refine ⟨rfl, ?_⟩
      refine ⟨_, rfl, (by show 2 ≤ sizeLine; decide), fun tp htp => ?_⟩
      have st := same_upd (o := .tup [.ty "list", .ty "tuple"]) htp
      have hq2 := Same.sqb (sm.trans st) hq
      refine ⟨.ref l, tp, [.ty "list", .ty "tuple"], .type (if k = true then "list" else "tuple"), [.type "list", .type "tuple"], true, rfl, upd_same, .cons (.ty _) (.cons (.ty _) .nil), hq2.ty, ?_, ?_⟩
      · cases k
        · exact kitAny_cons (kit_ty (r := false) (by decide +kernel)) (fun _ => kitAny_cons (kit_ty (r := true) (by decide +kernel)) (fun z => by cases z) (fun _ => rfl)) (fun z => by cases z)
        · exact kitAny_cons (kit_ty (r := true) (by decide +kernel)) (fun z => by cases z) (fun _ => rfl)
      have hl : (r.map vG).length = n := by rw [List.length_map]; exact hs.row r hm
      refine ⟨true, rfl, iteF ⟨_, rfl, l, _, rfl, hq2.or, ?_⟩⟩
      rw [hl]
      refine ⟨_, rfl, rfl, _, rfl, ?_⟩
      rw [show (!decide (V.int (n : Int) = vN n)) = false from by simp [vN]]
      exact iteF ⟨sm.trans st, st _ _ gD⟩
    · rintro H1 ⟨s1, g1⟩
      refine ⟨_, SqB.truB (b := true) (.inl (.inl g1)), iteF ?_⟩
      refine ⟨_, rfl, a, _, k, rfl, Same.sqb s1 h1, fun D2 hD2 => ?_⟩
      refine lc2_it (walk_seq (b := k) (K := K) (a := a) (xs := L.map V.ref)) (fun i H' => Same H1 H' ∧ H' D2 = some (.lst [])) ⟨same_upd hD2, upd_same⟩ (fun i H' _ h => Same.sqb (s1.trans h.1) h1) ?_ ?_
      · rintro i v H2 H3 hi ⟨sm, gD⟩ ⟨rfl, e2⟩
        obtain ⟨l, r, rfl, hq, hm⟩ := hrow i v hi e2
        have hq2 := Same.sqb (s1.trans sm) hq
        refine ⟨rfl, ?_⟩
        refine iteT (B := Same H1 H3 ∧ H3 D2 = some (HO.lst [])) ⟨_, rfl, l, _, k, rfl, hq2, ?_⟩
        refine lc_in (walk_seq (b := k) (K := K) (a := l) (xs := r.map vG)) (fun j H' => Same H1 H' ∧ H' D2 = some (.lst [])) ⟨sm, gD⟩ (fun i H' _ h => Same.sqb (s1.trans h.1) hq) ?_ (fun H' h => h)
        rintro j v H4 H5 hj ⟨s4, g4⟩ ⟨rfl, e4⟩
        obtain ⟨o, ho, rfl⟩ : ∃ o, o ∈ r ∧ v = vG o := by
          obtain ⟨o, ho, e⟩ := List.mem_map.mp (List.mem_of_getElem? e4)
          exact ⟨o, ho, e.symm⟩
        refine ⟨rfl, ?_⟩
        refine ⟨_, rfl, o, rfl, _, _, rfl, rfl, _, rfl, ?_⟩
        rcases hs.dot r hm o ho with rfl | rfl | rfl
        · rw [show (!decide (tyG none = "int")) = true from by decide]
          exact iteT ⟨_, rfl, rfl, _, rfl, iteF ⟨s4, g4⟩⟩
        · rw [show (!decide (tyG (some 0) = "int")) = false from by decide]
          exact iteF ⟨_, rfl, _, _, rfl, rfl, _, rfl, iteF ⟨_, rfl, _, _, rfl, rfl, _, rfl, iteF (iteF ⟨s4, g4⟩)⟩⟩
        · rw [show (!decide (tyG (some 1) = "int")) = false from by decide]
          exact iteF ⟨_, rfl, _, _, rfl, rfl, _, rfl, iteF ⟨_, rfl, _, _, rfl, rfl, _, rfl, iteF (iteF ⟨s4, g4⟩)⟩⟩
      · rintro H2 ⟨s2, g2⟩
        exact ⟨_, rfl, _, SqB.truB (b := true) (.inl (.inl g2)), q _ (s1.trans s2)⟩
/-! CUT -/
def sp_ndr (K : PySem.W.Frag) : Sp := fun vs H Q _ => ∃ (n : Nat) (a : Addr) (k : Bool) (g : Grid), vs = [vN n, .ref a, .bl true] ∧ GrB k K H a g ∧ Sq n g ∧ ∀ H', Same H H' → Q .non H'
theorem ok_need_dot_rows (T : Txt K mg) : FnOk P w K mg base CX0 2 T.f_need_dot_rows T.d_need_dot_rows ["many", "grid", "gapped"] (sp_ndr K) := by
  refine T.F_need_dot_rows.ok sc_need_dot_rows (fun vs H Q E h => ?_) (fun cdv A outer s H vs Q E hr h => ?_)
  · obtain ⟨n, a, k, g, rfl, _⟩ := h
    rfl
  · obtain ⟨n, a, k, g, rfl, hg, hs, q⟩ := h
    refine ⟨_, (pss_cons (ps_if (PW.pt (pw_or (pt_not (pt_val (pe_call (ok_is_row T) (hr.mono (by decide)) (by rfl) T.g_is_row T.F_is_row.kp T.b_is_row .nil pass0 (pa_cons (pv 1) pa_nil)))) (pw_or1 (pt_cmpR op_ne (pe_callB call_len_seq (by rfl) T.n_len (by decide +kernel) (pa_cons (pv 1) pa_nil)) (pv 0) (nomark _))))) (pss_one ps_never) pss_nil)
      (pss_cons (ps_if (PW.pt (pw_and (pt_val (pe_call (ok_is_plain_grid T) (hr.mono (by decide)) (by rfl) T.g_is_plain_grid T.F_is_plain_grid.kp T.b_is_plain_grid .nil pass0 (pa_cons (pv 0) (pa_cons (pv 1) pa_nil)))) (pw_and1 (PW.pt (pw_or (pt_val (pv 2)) (pw_or1 pt_never)))))) (pss_one ps_retN) pss_nil)
      (pss_one ps_never))), ?_⟩
    obtain ⟨L, h1, h2, h3⟩ := hg.ex
    have hl : (L.map V.ref).length = n := by rw [List.length_map, h2, hs.len]
    refine ⟨_, rfl, a, k, _, rfl, h1, fun H1 s1 => ⟨true, rfl, iteF ⟨_, rfl, a, _, rfl, (Same.sqb s1 h1).or, ?_⟩⟩⟩
    rw [hl]
    refine ⟨_, rfl, rfl, _, rfl, ?_⟩
    rw [show (!decide (V.int (n : Int) = vN n)) = false from by simp [vN]]
    refine iteF ?_
    refine ⟨_, rfl, _, rfl, n, a, k, g, rfl, hg.same s1, hs, fun H2 s2 => ⟨true, rfl, iteT ⟨_, rfl, true, rfl, iteT (iteT (q H2 (s1.trans s2)))⟩⟩⟩
def sp_ng (K : PySem.W.Frag) : Sp := fun vs H Q _ => ∃ (n i : Nat) (a : Addr) (k : Bool) (g : Grid), vs = [.int ((i : Int) + 1), .ref a] ∧ i < 5 ∧ sidesI[i]? = some (n : Int) ∧ GrB k K H a g ∧ Sq n g ∧ ∀ H', Same H H' → Q .non H'
theorem ok_need_grid (T : Txt K mg) : FnOk P w K mg base CX0 3 T.f_need_grid T.d_need_grid ["size", "grid"] (sp_ng K) := by
  refine T.F_need_grid.ok sc_need_grid (fun vs H Q E h => ?_) (fun cdv A outer s H vs Q E hr h => ?_)
  · obtain ⟨n, i, a, k, g, rfl, _⟩ := h
    rfl
  · obtain ⟨n, i, a, k, g, rfl, hi, hn, hg, hs, q⟩ := h
    refine ⟨_, (pss_one (ps_expr (pe_call (ok_need_dot_rows T) (hr.mono (by decide)) (by rfl) T.g_need_dot_rows T.F_need_dot_rows.kp T.b_need_dot_rows .nil pass0 (pa_cons (pe_ix ix_rowB (pe_glob (v := .ref T.a_SIDES) (by rfl) T.g_SIDES rfl) (pe_op op_sub (pv 0) pe_int) (fun _ _ => rfl)) (pa_cons (pv 1) (pa_cons pe_bl pa_nil)))))), ?_⟩
    refine ⟨_, rfl, _, _, rfl, rfl, T.a_SIDES, _, _, vN n, false, rfl, rfl, tupB_ok (xs := sidesI) T.l_SIDES, ?_, ?_⟩
    · rw [show (i : Int) + 1 - 1 = (i : Int) by omega]
      refine atI_nat ?_
      rw [List.getElem?_map, hn]
      rfl
    exact ⟨_, rfl, n, a, k, g, rfl, hg, hs, fun H1 s1 => q H1 s1⟩
def sp_nsw (K : PySem.W.Frag) : Sp := fun vs H Q _ => ∃ (s : Nat) (a : Addr) (k : Bool) (ws : List Nat), vs = [.int ((s : Int) + 1), .ref a, .bl false] ∧ s < 5 ∧ SqB k K H a (ws.map vN) ∧ (∀ x ∈ ws, x < span (bitsF s)) ∧ ws.length = totF s ∧ ∀ H', Same H H' → Q .non H'
theorem bit_at (T : Txt K mg) {s : Nat} (hs : s < 5) : ∃ xs, (∀ H, SqT K H T.a_WORD_BITS xs) ∧ atI xs ((s : Int) + 1 - 1) = some (vN (bitsF s)) := by
  refine ⟨_, fun H => tupB_ok (xs := [4, 4, 8, 8, 8]) T.l_WORD_BITS, ?_⟩
  have : s = 0 ∨ s = 1 ∨ s = 2 ∨ s = 3 ∨ s = 4 := by omega
  rcases this with rfl | rfl | rfl | rfl | rfl <;> rfl
theorem tot_le {s : Nat} (hs : s < 5) : totF s ≤ 58 := by
  have h : decide (totF s ≤ 58) = true := all5 (P := fun s => decide (totF s ≤ 58)) (by decide +kernel) hs
  exact of_decide_eq_true h
theorem ok_need_symbol_words (T : Txt K mg) : FnOk P w K mg base CX0 5 T.f_need_symbol_words T.d_need_symbol_words ["size", "words", "gapped"] (sp_nsw K) := by
  refine T.F_need_symbol_words.ok sc_need_symbol_words (fun vs H Q E h => ?_) (fun cdv A outer s H vs Q E hr h => ?_)
  · obtain ⟨s, a, k, ws, rfl, _⟩ := h
    rfl
  · obtain ⟨s0, a, k, ws, rfl, hs, hq0, hw, hl, q⟩ := h
    refine ⟨_, (pss_cons (ps_if (PW.pt (pw_or (pt_not (pt_val (pe_call (ok_is_row T) (hr.mono (by decide)) (by rfl) T.g_is_row T.F_is_row.kp T.b_is_row .nil pass0 (pa_cons (pv 1) pa_nil)))) (pw_or1 (pt_cmpR op_ne (pe_callB call_len_seq (by rfl) T.n_len (by decide +kernel) (pa_cons (pv 1) pa_nil)) (pe_call (ok_word_count T) (hr.mono (by decide)) (by rfl) T.g_word_count T.F_word_count.kp T.b_word_count .nil pass0 (pa_cons (pv 0) pa_nil)) (nomark _))))) (pss_one ps_never) pss_nil)
      (pss_cons (ps_if (pt_val (pe_call (ok_are_plain_words T) (hr.mono (by decide)) (by rfl) T.g_are_plain_words T.F_are_plain_words.kp T.b_are_plain_words .nil pass0 (pa_cons (pe_ix ix_rowB (pe_glob (v := .ref T.a_WORD_BITS) (by rfl) T.g_WORD_BITS rfl) (pe_op op_sub (pv 0) pe_int) (fun _ _ => rfl)) (pa_cons (pv 1) pa_nil)))) (pss_one ps_retN) pss_nil)
      (pss_one ps_never))), ?_⟩
    have le := tot_le hs
    have hb := bits_wd hs
    have e : ws.map vN = (ws.map some).map vG := by
      rw [List.map_map]
      rfl
    have hq : SqB k K H a ((ws.map some).map vG) := by rw [← e]; exact hq0
    obtain ⟨xb, hX, hx⟩ := bit_at T hs
    refine ⟨_, rfl, a, k, _, rfl, hq, fun H1 s1 => ⟨true, rfl, iteF ⟨_, rfl, a, _, rfl, (Same.sqb s1 hq).or, ?_⟩⟩⟩
    rw [List.length_map, List.length_map, hl]
    refine ⟨_, rfl, s0, rfl, hs, fun H2 s2 => ⟨rfl, _, rfl, ?_⟩⟩
    rw [show (!decide (V.int (totF s0 : Nat) = vN (totF s0))) = false from by simp [vN]]
    refine iteF ?_
    refine ⟨_, rfl, _, _, rfl, rfl, T.a_WORD_BITS, xb, _, vN (bitsF s0), false, rfl, rfl, hX _, hx, _, rfl, bitsF s0, a, k, ws.map some, rfl, hb, Same.sqb (s1.trans s2) hq, (fun x hx => ?_), by rw [List.length_map]; omega, fun H3 s3 => ⟨_, rfl, ?_⟩⟩
    · obtain ⟨y, hy, e⟩ := List.mem_map.mp hx
      cases e
      exact hw _ hy
    · have : ((ws.map some).filter Option.isNone).isEmpty = true := by simp
      rw [this]
      exact iteT (q H3 ((s1.trans s2).trans s3))
/-! CUT -/
/-! ### the law's defs -/
theorem ixN_nat {n j : Nat} (h : j < n) : ixN n (j : Int) = some j := by
  unfold ixN
  rw [if_pos (by omega), if_pos (by omega), Int.toNat_natCast]def Kp (p : Addr) (H H' : Hp) : Prop := ∀ b o, H b = some o → b ≠ p → H' b = some o
theorem Kp.upd {p : Addr} {H : Hp} {o : HO} : Kp p H (upd H p o) := fun b u e n => by
  rw [upd_ne n]
  exact e
theorem Kp.trans {p : Addr} {H H1 H2 : Hp} (a : Kp p H H1) (b : Kp p H1 H2) : Kp p H H2 := fun c o e n => b c o (a c o e n) n
theorem Same.kp {p : Addr} {H H1 : Hp} (a : Same H H1) : Kp p H H1 := fun c o e _ => a c o e
theorem Kp.sqb {p a : Addr} {k : Bool} {K : PySem.W.Frag} {H H' : Hp} {xs ys : List V} (kp : Kp p H H') (hp : H p = some (.lst ys)) (hne : xs ≠ ys) (h : SqB k K H a xs) : SqB k K H' a xs := by
  cases k
  · rcases h with (h | ⟨o, h⟩) | h
    · exact .inl (.inl (kp _ _ h (fun e => by rw [e, hp] at h; cases h)))
    · exact .inl (.inr ⟨o, kp _ _ h (fun e => by rw [e, hp] at h; cases h)⟩)
    · exact .inr h
  · rcases h with (h | ⟨o, h⟩) | h
    · exact .inl (.inl (kp _ _ h (fun e => by rw [e, hp] at h; cases h; exact hne rfl)))
    · exact .inl (.inr ⟨o, kp _ _ h (fun e => by rw [e, hp] at h; cases h)⟩)
    · exact .inr h
theorem len_ne {α : Type} {xs ys : List α} (h : xs.length ≠ ys.length) : xs ≠ ys := fun e => h (by rw [e])
def sp_cell (K : PySem.W.Frag) : Sp := fun vs H Q _ => ∃ (a : Addr) (ns : List Int) (k : Nat), vs = [.ref a, vN k] ∧ SqL K H a (ns.map V.int) ∧ ∀ n : Int, Q (.int n) H
theorem ok__law_cell_at (T : Txt K mg) : FnOk P w K mg base CX0 1 T.f__law_cell_at T.d__law_cell_at ["_law_script", "_law_k"] (sp_cell K) := by
  refine T.F__law_cell_at.ok sc__law_cell_at (fun vs H Q E h => ?_) (fun cdv A outer s H vs Q E hr h => ?_)
  · obtain ⟨a, ns, k, rfl, _⟩ := h
    rfl
  · obtain ⟨a, ns, k, rfl, ha, q⟩ := h
    refine ⟨_, (pss_cons (ps_if (pt_cmpR op_lt (pv 1) (pe_callB call_len_seq (by rfl) T.n_len (by decide +kernel) (pa_cons (pv 0) pa_nil)) (nomark _)) (pss_one (ps_ret (pe_ix ix_list (pv 0) (pv 1) (fun _ _ => rfl)))) pss_nil)
      (pss_one (ps_ret pe_int))), ?_⟩
    refine ⟨_, rfl, _, rfl, a, _, rfl, .inl ha, _, _, rfl, rfl, _, rfl, ?_⟩
    refine ite2 (fun c => ?_) (fun _ => q 0)
    have hk : k < ns.length := by
      have := of_decide_eq_true c
      rw [List.length_map] at this
      omega
    exact ⟨_, rfl, _, rfl, a, _, _, .int ns[k], rfl, rfl, ha, atI_nat (by rw [List.getElem?_map, List.getElem?_eq_getElem hk]; rfl), q _⟩
def WellL (a b c : Int) : HO := .lst [.int a, .int b, .int c]
def sp_source : Sp := fun vs H Q _ => ∃ n : Int, vs = [.int n] ∧ ∀ (p : Addr) (x y z : Int), H p = none → Q (.ref p) (upd H p (WellL x y z))
theorem ok__law_source_of (T : Txt K mg) : FnOk P w K mg base CX0 1 T.f__law_source_of T.d__law_source_of ["_law_cell"] (sp_source) := by
  refine T.F__law_source_of.ok sc__law_source_of (fun vs H Q E h => ?_) (fun cdv A outer s H vs Q E hr h => ?_)
  · obtain ⟨n, rfl, _⟩ := h
    rfl
  · obtain ⟨n, rfl, q⟩ := h
    refine ⟨_, (Evl.pss_cut (ps_set (i := 0) sc__law_source_of.nd rfl (.inl rfl) (pe_ifExp (pt_cmpR op_ge (pv 0) pe_int (nomark _)) (pv 0) (pe_op op_sub (pe_op op_sub pe_int (pe_op op_mul pe_int (pv 0))) pe_int)))
      (pss_one (ps_ret (pe_lst (pa_cons (pe_op op_mul (pv 0) (pe_callTy call_int1 (by rfl) T.n_int (by decide +kernel) (pa_cons (pe_cmpR op_ge (pv 0) (pe_op op_pow pe_int pe_int) (nomark _)) pa_nil))) (pa_cons (pe_op op_mod (pe_callTy call_int1 (by rfl) T.n_int (by decide +kernel) (pa_cons (pv 0) pa_nil)) pe_int) (pa_cons pe_int pa_nil))))))), ?_⟩
    refine ⟨fun σ' H' => ∃ m : Int, σ' = [some (.int m)] ∧ H' = H, ?_, ?_⟩
    · refine ⟨_, rfl, _, _, rfl, rfl, _, rfl, ?_⟩
      refine ite2 (fun c => ?_) (fun c => ?_)
      · exact ⟨_, rfl, n, rfl, rfl⟩
      · exact ⟨_, rfl, _, _, rfl, rfl, .inl ⟨by decide, by decide⟩, _, _, rfl, rfl, _, _, rfl, rfl, _, rfl, rfl⟩
    rintro σ H1 ⟨m, rfl, rfl⟩
    refine ⟨_, rfl, _, rfl, _, _, rfl, rfl, ⟨by decide, by decide⟩, _, _, rfl, rfl, .inr ⟨_, rfl, ?_⟩⟩
    refine ⟨_, _, rfl, rfl, .inr ⟨by split <;> decide, by split <;> decide⟩, _, rfl, .inl ⟨_, rfl, _, _, rfl, rfl, (show (0 : Int) < 2147483647 by decide), (by show 3 ≤ sizeLine; decide), fun p hp => q p _ _ _ hp⟩⟩
def sp_next : Sp := fun vs H Q _ => ∃ (p : Addr) (a b c m : Int), vs = [.ref p, .int m] ∧ H p = some (WellL a b c) ∧ 0 < m ∧ m < 1073741824 ∧ ∀ n a' c' : Int, 0 ≤ n → n < m → Q (.int n) (upd H p (WellL a' b c'))
theorem ok__law_next (T : Txt K mg) : FnOk P w K mg base CX0 1 T.f__law_next T.d__law_next ["_law_source", "_law_bound"] (sp_next) := by
  refine T.F__law_next.ok sc__law_next (fun vs H Q E h => ?_) (fun cdv A outer s H vs Q E hr h => ?_)
  · obtain ⟨p, a, b, c, m, rfl, _⟩ := h
    rfl
  · obtain ⟨p, a, b, c, m, rfl, hp, m0, m1, q⟩ := h
    refine ⟨_, (pss_cons (ps_if (pt_cmpR op_gt (pe_ix ix_list (pv 0) pe_int (fun _ _ => rfl)) pe_int (nomark _)) (pss_cons (ps_set (i := 2) sc__law_next.nd rfl (.inl rfl) (pe_op op_mod (pe_callTy call_int1 (by rfl) T.n_int (by decide +kernel) (pa_cons (pe_ix ix_list (pv 0) pe_int (fun _ _ => rfl)) pa_nil)) (pv 1)))
      (pss_cons (ps_asg (pe_op op_fdiv (pe_ix ix_list (pv 0) pe_int (fun _ _ => rfl)) (pv 1)) (pg_sub (pv 0) pe_int set_list))
      (pss_one (ps_ret (pv 2))))) pss_nil)
      (pss_cons (ps_asg (pe_op op_add (pe_ix ix_list (pv 0) pe_int (fun _ _ => rfl)) pe_int) (pg_sub (pv 0) pe_int set_list))
      (pss_cons (ps_set (i := 3) sc__law_next.nd rfl (.inl rfl) pe_int)
      (pss_cons (ps_set (i := 4) sc__law_next.nd rfl (.inl rfl) (pe_op op_mod (pe_callTy call_int1 (by rfl) T.n_int (by decide +kernel) (pa_cons (pe_op op_add (pe_op op_add (pe_ix ix_list (pv 0) pe_int (fun _ _ => rfl)) (pe_op op_mul pe_int (pe_ix ix_list (pv 0) pe_int (fun _ _ => rfl)))) pe_int) pa_nil)) (pv 3)))
      (pss_cons (ps_set (i := 4) sc__law_next.nd rfl (.inl rfl) (pe_op op_mod (pe_callTy call_int1 (by rfl) T.n_int (by decide +kernel) (pa_cons (pe_op op_mul (pv 4) pe_int) pa_nil)) (pv 3)))
      (pss_cons (ps_set (i := 4) sc__law_next.nd rfl (.inl rfl) (pe_op op_mod (pe_callTy call_int1 (by rfl) T.n_int (by decide +kernel) (pa_cons (pe_op op_mul (pv 4) (pe_op op_add (pe_op op_fdiv (pv 4) pe_int) pe_int)) pa_nil)) (pv 3)))
      (pss_cons (ps_set (i := 4) sc__law_next.nd rfl (.inl rfl) (pe_op op_mod (pe_callTy call_int1 (by rfl) T.n_int (by decide +kernel) (pa_cons (pe_op op_mul (pv 4) (pe_op op_add (pe_op op_fdiv (pv 4) pe_int) pe_int)) pa_nil)) pe_int))
      (pss_one (ps_ret (pe_op op_mod (pe_callTy call_int1 (by rfl) T.n_int (by decide +kernel) (pa_cons (pe_op op_fdiv (pv 4) pe_int) pa_nil)) (pv 1))))))))))), ?_⟩
    have hw : ∀ {H' : Hp} {xs : List V}, H' p = some (.lst xs) → SqL K H' p xs := fun h => .inl (.inl h)
    refine ⟨_, rfl, p, _, 0, _, rfl, rfl, hw hp, rfl, _, _, rfl, rfl, _, rfl, ?_⟩
    refine ite2 (fun cc => ?_) (fun cc => ?_)
    · refine ⟨_, rfl, p, _, 0, _, rfl, rfl, hw hp, rfl, .inl ⟨_, rfl, _, rfl, _, _, rfl, rfl, m0, ?_⟩⟩
      refine ⟨_, rfl, p, _, 0, _, rfl, rfl, hw hp, rfl, _, rfl, _, _, rfl, rfl, ⟨m0, m1⟩, ?_⟩
      refine ⟨_, rfl, p, _, 0, 0, rfl, rfl, hp, rfl, ?_⟩
      exact ⟨_, rfl, q _ _ _ (Int.emod_nonneg _ (by omega)) (Int.emod_lt_of_pos _ m0)⟩
    · refine ⟨_, rfl, p, _, 2, _, rfl, rfl, hw hp, rfl, _, _, rfl, rfl, _, rfl, p, _, 2, 2, rfl, rfl, hp, rfl, ?_⟩
      have hs : (upd H p (.lst ([V.int a, V.int b, V.int c].set 2 (.int (c + 1))))) p = some (WellL a b (c + 1)) := upd_same
      refine ⟨_, rfl, p, _, 1, _, rfl, rfl, hw hs, rfl, _, rfl, p, _, 2, _, rfl, rfl, hw hs, rfl, _, _, rfl, rfl, .inl ⟨by decide, by decide⟩, _, _, rfl, rfl, _, _, rfl, rfl, .inl ⟨_, rfl, _, rfl, _, _, rfl, rfl, (show (0 : Int) < 2147483647 by decide), ?_⟩⟩
      generalize (b + 104729 * (c + 1) + 7919) % 2147483647 = x
      refine ⟨_, rfl, _, _, rfl, rfl, .inr ⟨by decide, by decide⟩, .inl ⟨_, rfl, _, rfl, _, _, rfl, rfl, (show (0 : Int) < 2147483647 by decide), ?_⟩⟩
      have y0 := Int.emod_nonneg (x * 48271) (show (2147483647 : Int) ≠ 0 by decide)
      have y1 := Int.emod_lt_of_pos (x * 48271) (show (0 : Int) < 2147483647 by decide)
      generalize x * 48271 % 2147483647 = y at y0 y1
      refine ⟨_, rfl, _, rfl, _, _, rfl, rfl, ⟨by decide, by decide⟩, _, _, rfl, rfl, _, _, rfl, rfl, .inl ⟨by omega, by omega⟩, .inl ⟨_, rfl, _, rfl, _, _, rfl, rfl, (show (0 : Int) < 2147483647 by decide), ?_⟩⟩
      have z0 := Int.emod_nonneg (y * (y / 1009 + 69621)) (show (2147483647 : Int) ≠ 0 by decide)
      have z1 := Int.emod_lt_of_pos (y * (y / 1009 + 69621)) (show (0 : Int) < 2147483647 by decide)
      generalize y * (y / 1009 + 69621) % 2147483647 = z at z0 z1
      refine ⟨_, rfl, _, rfl, _, _, rfl, rfl, ⟨by decide, by decide⟩, _, _, rfl, rfl, _, _, rfl, rfl, .inl ⟨by omega, by omega⟩, .inl ⟨_, rfl, _, _, rfl, rfl, (show (0 : Int) < 2147483399 by decide), ?_⟩⟩
      generalize z * (z / 2003 + 40692) % 2147483399 = t
      refine ⟨_, rfl, _, _, rfl, rfl, ⟨by decide, by decide⟩, .inl ⟨_, rfl, _, rfl, _, _, rfl, rfl, m0, q _ _ _ (Int.emod_nonneg _ (by omega)) (Int.emod_lt_of_pos _ m0)⟩⟩
/-- a row of the law's table -/
def TabRow (H0 H' : Hp) (t : Addr) (j : Nat) : Prop := ∃ c1 c2 c3 : Addr, H' t = some (.tup [vN (sideL.getD j 0), vN (bitsF j), .ref c1, .ref c2, .ref c3]) ∧ H' c1 = some (.lst ((blkF j).map vN)) ∧ H' c2 = some (.lst ((cksL.getD j []).map vN)) ∧ H0 t = none ∧ H0 c1 = none
theorem TabRow.same {H0 H H' : Hp} {t : Addr} {j : Nat} (h : TabRow H0 H t j) (s : Same H H') : TabRow H0 H' t j :=
  let ⟨c1, c2, c3, a, b, c, d, e⟩ := h
  ⟨c1, c2, c3, s _ _ a, s _ _ b, s _ _ c, d, e⟩
theorem word_ne {L : List Addr} (r : List Nat) (h : 0 < L.length := by decide) : HO.lst (r.map vN) ≠ .lst (L.map V.ref) := by
  intro e
  cases L with
  | nil => exact absurd h (Nat.lt_irrefl 0)
  | cons a L =>
    cases r with
    | nil => cases e
    | cons x r => exact nomatch (List.cons.inj (HO.lst.inj e)).1
theorem TabRow.kp {H0 H H' : Hp} {t R : Addr} {j : Nat} {L : List Addr} (h : TabRow H0 H t j) (k : Kp R H H') (g : H R = some (.lst (L.map V.ref))) (hl : 0 < L.length) : TabRow H0 H' t j := by
  obtain ⟨c1, c2, c3, a, b, c, d, e⟩ := h
  refine ⟨c1, c2, c3, k _ _ a (fun z => ?_), k _ _ b (fun z => ?_), k _ _ c (fun z => ?_), d, e⟩
  · rw [z, g] at a; cases a
  · rw [z, g] at b; exact word_ne _ hl (Option.some.inj b).symm
  · rw [z, g] at c; exact word_ne _ hl (Option.some.inj c).symm
def sp_table : Sp := fun vs H Q _ => ∃ s : Nat, vs = [.int ((s : Int) + 1)] ∧ s < 5 ∧ ∀ (t c1 c2 c3 : Addr) H', Same H H' → H t = none → H c1 = none → H' t = some (.tup [vN (sideL.getD s 0), vN (bitsF s), .ref c1, .ref c2, .ref c3]) → H' c1 = some (.lst ((blkF s).map vN)) → H' c2 = some (.lst ((cksL.getD s []).map vN)) → Q (.ref t) H'
theorem ok__law_table (T : Txt K mg) : FnOk P w K mg base CX0 1 T.f__law_table T.d__law_table ["_law_size_so"] (sp_table) := by
  refine T.F__law_table.ok sc__law_table (fun vs H Q E h => ?_) (fun cdv A outer s H vs Q E hr h => ?_)
  · obtain ⟨s, rfl, _⟩ := h
    rfl
  · obtain ⟨s0, rfl, hs, q⟩ := h
    refine ⟨_, (pss_cons (ps_set (i := 1) sc__law_table.nd rfl (.inl rfl) (pe_lst (pa_cons (pe_tup (pa_cons pe_int (pa_cons pe_int (pa_cons (pe_lst (pa_cons pe_int pa_nil)) (pa_cons (pe_lst (pa_cons pe_int (pa_cons pe_int (pa_cons pe_int (pa_cons pe_int pa_nil))))) (pa_cons (pe_lst (pa_cons pe_int (pa_cons pe_int (pa_cons pe_int (pa_cons pe_int pa_nil))))) pa_nil)))))) (pa_cons (pe_tup (pa_cons pe_int (pa_cons pe_int (pa_cons (pe_lst (pa_cons pe_int (pa_cons pe_int pa_nil))) (pa_cons (pe_lst (pa_cons pe_int (pa_cons pe_int (pa_cons pe_int (pa_cons pe_int pa_nil))))) (pa_cons (pe_lst (pa_cons pe_int (pa_cons pe_int (pa_cons pe_int (pa_cons pe_int pa_nil))))) pa_nil)))))) pa_nil))))
      (pss_cons (ps_set (i := 2) sc__law_table.nd rfl (.inl rfl) (pe_tup (pa_cons (pe_lst (pa_cons pe_int (pa_cons pe_int (pa_cons pe_int (pa_cons pe_int pa_nil))))) (pa_cons (pe_lst (pa_cons pe_int (pa_cons pe_int (pa_cons pe_int (pa_cons pe_int pa_nil))))) pa_nil))))
      (pss_cons (ps_for PassesOwn.never rfl (pi_seq (pe_tup (pa_cons (pe_tup (pa_cons pe_int (pa_cons (pe_lst (pa_cons pe_int pa_nil)) pa_nil))) (pa_cons (pe_tup (pa_cons pe_int (pa_cons (pe_lst (pa_cons pe_int (pa_cons pe_int pa_nil))) pa_nil))) (pa_cons (pe_tup (pa_cons pe_int (pa_cons (pe_lst (pa_cons pe_int (pa_cons pe_int (pa_cons pe_int pa_nil)))) pa_nil))) pa_nil))))) (pg_tup rfl (pgs_cons (pg_name (i := 3) sc__law_table.nd rfl (.inl rfl)) (pgs_cons (pg_name (i := 4) sc__law_table.nd rfl (.inl rfl)) pgs_nil))) (pss_one (ps_expr (pe_bm PySem.F.plainAttrs_list PySem.F.slot_list_append PySem.F.type_list_append mt_append (pv 1) (pa_cons (pe_op op_catT (pe_tup (pa_cons (pv 3) (pa_cons pe_int (pa_cons (pv 4) pa_nil)))) (pv 2)) pa_nil)))))
      (pss_one (ps_ret (pe_ix ix_list (pv 1) (pe_op op_sub (pv 0) pe_int) (fun _ _ => rfl))))))), ?_⟩
    refine ⟨(by show 1 ≤ sizeLine; decide), fun a1 n_a1 => ?_⟩
    have s_a1 := same_upd (o := .lst [V.int 4]) n_a1
    have x_a1 := upd_same (H := H) (a := a1) (o := .lst [V.int 4])
    generalize upd H a1 (.lst [V.int 4]) = H_a1 at s_a1 x_a1 ⊢
    have c_a1 := s_a1
    have f_a1 : H a1 = none := n_a1
    refine ⟨(by show 4 ≤ sizeLine; decide), fun a2 n_a2 => ?_⟩
    have s_a2 := same_upd (o := .lst [V.int 1, V.int 2, V.int 3, V.int 3]) n_a2
    have x_a2 := upd_same (H := H_a1) (a := a2) (o := .lst [V.int 1, V.int 2, V.int 3, V.int 3])
    generalize upd H_a1 a2 (.lst [V.int 1, V.int 2, V.int 3, V.int 3]) = H_a2 at s_a2 x_a2 ⊢
    have c_a2 := c_a1.trans s_a2
    have f_a2 : H a2 = none := Same.free c_a1 n_a2
    refine ⟨(by show 4 ≤ sizeLine; decide), fun a3 n_a3 => ?_⟩
    have s_a3 := same_upd (o := .lst [V.int 0, V.int 1, V.int 3, V.int 6]) n_a3
    have x_a3 := upd_same (H := H_a2) (a := a3) (o := .lst [V.int 0, V.int 1, V.int 3, V.int 6])
    generalize upd H_a2 a3 (.lst [V.int 0, V.int 1, V.int 3, V.int 6]) = H_a3 at s_a3 x_a3 ⊢
    have c_a3 := c_a2.trans s_a3
    have f_a3 : H a3 = none := Same.free c_a2 n_a3
    refine ⟨(by show 5 ≤ sizeLine; decide), fun t0 n_t0 => ?_⟩
    have s_t0 := same_upd (o := .tup [V.int 8, V.int 4, V.ref a1, V.ref a2, V.ref a3]) n_t0
    have x_t0 := upd_same (H := H_a3) (a := t0) (o := .tup [V.int 8, V.int 4, V.ref a1, V.ref a2, V.ref a3])
    generalize upd H_a3 t0 (.tup [V.int 8, V.int 4, V.ref a1, V.ref a2, V.ref a3]) = H_t0 at s_t0 x_t0 ⊢
    have c_t0 := c_a3.trans s_t0
    have f_t0 : H t0 = none := Same.free c_a3 n_t0
    refine ⟨(by show 2 ≤ sizeLine; decide), fun b1 n_b1 => ?_⟩
    have s_b1 := same_upd (o := .lst [V.int 10, V.int 10]) n_b1
    have x_b1 := upd_same (H := H_t0) (a := b1) (o := .lst [V.int 10, V.int 10])
    generalize upd H_t0 b1 (.lst [V.int 10, V.int 10]) = H_b1 at s_b1 x_b1 ⊢
    have c_b1 := c_t0.trans s_b1
    have f_b1 : H b1 = none := Same.free c_t0 n_b1
    refine ⟨(by show 4 ≤ sizeLine; decide), fun b2 n_b2 => ?_⟩
    have s_b2 := same_upd (o := .lst [V.int 2, V.int 4, V.int 6, V.int 8]) n_b2
    have x_b2 := upd_same (H := H_b1) (a := b2) (o := .lst [V.int 2, V.int 4, V.int 6, V.int 8])
    generalize upd H_b1 b2 (.lst [V.int 2, V.int 4, V.int 6, V.int 8]) = H_b2 at s_b2 x_b2 ⊢
    have c_b2 := c_b1.trans s_b2
    have f_b2 : H b2 = none := Same.free c_b1 n_b2
    refine ⟨(by show 4 ≤ sizeLine; decide), fun b3 n_b3 => ?_⟩
    have s_b3 := same_upd (o := .lst [V.int 0, V.int 2, V.int 6, V.int 3]) n_b3
    have x_b3 := upd_same (H := H_b2) (a := b3) (o := .lst [V.int 0, V.int 2, V.int 6, V.int 3])
    generalize upd H_b2 b3 (.lst [V.int 0, V.int 2, V.int 6, V.int 3]) = H_b3 at s_b3 x_b3 ⊢
    have c_b3 := c_b2.trans s_b3
    have f_b3 : H b3 = none := Same.free c_b2 n_b3
    refine ⟨(by show 5 ≤ sizeLine; decide), fun t1 n_t1 => ?_⟩
    have s_t1 := same_upd (o := .tup [V.int 12, V.int 4, V.ref b1, V.ref b2, V.ref b3]) n_t1
    have x_t1 := upd_same (H := H_b3) (a := t1) (o := .tup [V.int 12, V.int 4, V.ref b1, V.ref b2, V.ref b3])
    generalize upd H_b3 t1 (.tup [V.int 12, V.int 4, V.ref b1, V.ref b2, V.ref b3]) = H_t1 at s_t1 x_t1 ⊢
    have c_t1 := c_b3.trans s_t1
    have f_t1 : H t1 = none := Same.free c_b3 n_t1
    refine ⟨(by show 2 ≤ sizeLine; decide), fun R n_R => ?_⟩
    have s_R := same_upd (o := .lst [V.ref t0, V.ref t1]) n_R
    have x_R := upd_same (H := H_t1) (a := R) (o := .lst [V.ref t0, V.ref t1])
    generalize upd H_t1 R (.lst [V.ref t0, V.ref t1]) = H_R at s_R x_R ⊢
    have c_R := c_t1.trans s_R
    have f_R : H R = none := Same.free c_t1 n_R
    refine ⟨(by show 4 ≤ sizeLine; decide), fun l1 n_l1 => ?_⟩
    have s_l1 := same_upd (o := .lst [V.int 4, V.int 8, V.int 10, V.int 12]) n_l1
    have x_l1 := upd_same (H := H_R) (a := l1) (o := .lst [V.int 4, V.int 8, V.int 10, V.int 12])
    generalize upd H_R l1 (.lst [V.int 4, V.int 8, V.int 10, V.int 12]) = H_l1 at s_l1 x_l1 ⊢
    have c_l1 := c_R.trans s_l1
    have f_l1 : H l1 = none := Same.free c_R n_l1
    refine ⟨(by show 4 ≤ sizeLine; decide), fun l2 n_l2 => ?_⟩
    have s_l2 := same_upd (o := .lst [V.int 0, V.int 60, V.int 120, V.int 180]) n_l2
    have x_l2 := upd_same (H := H_l1) (a := l2) (o := .lst [V.int 0, V.int 60, V.int 120, V.int 180])
    generalize upd H_l1 l2 (.lst [V.int 0, V.int 60, V.int 120, V.int 180]) = H_l2 at s_l2 x_l2 ⊢
    have c_l2 := c_l1.trans s_l2
    have f_l2 : H l2 = none := Same.free c_l1 n_l2
    refine ⟨(by show 2 ≤ sizeLine; decide), fun Lt n_Lt => ?_⟩
    have s_Lt := same_upd (o := .tup [V.ref l1, V.ref l2]) n_Lt
    have x_Lt := upd_same (H := H_l2) (a := Lt) (o := .tup [V.ref l1, V.ref l2])
    generalize upd H_l2 Lt (.tup [V.ref l1, V.ref l2]) = H_Lt at s_Lt x_Lt ⊢
    have c_Lt := c_l2.trans s_Lt
    have f_Lt : H Lt = none := Same.free c_l2 n_Lt
    refine ⟨(by show 1 ≤ sizeLine; decide), fun p0 n_p0 => ?_⟩
    have s_p0 := same_upd (o := .lst [V.int 22]) n_p0
    have x_p0 := upd_same (H := H_Lt) (a := p0) (o := .lst [V.int 22])
    generalize upd H_Lt p0 (.lst [V.int 22]) = H_p0 at s_p0 x_p0 ⊢
    have c_p0 := c_Lt.trans s_p0
    have f_p0 : H p0 = none := Same.free c_Lt n_p0
    refine ⟨(by show 2 ≤ sizeLine; decide), fun u0 n_u0 => ?_⟩
    have s_u0 := same_upd (o := .tup [V.int 16, V.ref p0]) n_u0
    have x_u0 := upd_same (H := H_p0) (a := u0) (o := .tup [V.int 16, V.ref p0])
    generalize upd H_p0 u0 (.tup [V.int 16, V.ref p0]) = H_u0 at s_u0 x_u0 ⊢
    have c_u0 := c_p0.trans s_u0
    have f_u0 : H u0 = none := Same.free c_p0 n_u0
    refine ⟨(by show 2 ≤ sizeLine; decide), fun p1 n_p1 => ?_⟩
    have s_p1 := same_upd (o := .lst [V.int 19, V.int 19]) n_p1
    have x_p1 := upd_same (H := H_u0) (a := p1) (o := .lst [V.int 19, V.int 19])
    generalize upd H_u0 p1 (.lst [V.int 19, V.int 19]) = H_p1 at s_p1 x_p1 ⊢
    have c_p1 := c_u0.trans s_p1
    have f_p1 : H p1 = none := Same.free c_u0 n_p1
    refine ⟨(by show 2 ≤ sizeLine; decide), fun u1 n_u1 => ?_⟩
    have s_u1 := same_upd (o := .tup [V.int 20, V.ref p1]) n_u1
    have x_u1 := upd_same (H := H_p1) (a := u1) (o := .tup [V.int 20, V.ref p1])
    generalize upd H_p1 u1 (.tup [V.int 20, V.ref p1]) = H_u1 at s_u1 x_u1 ⊢
    have c_u1 := c_p1.trans s_u1
    have f_u1 : H u1 = none := Same.free c_p1 n_u1
    refine ⟨(by show 3 ≤ sizeLine; decide), fun p2 n_p2 => ?_⟩
    have s_p2 := same_upd (o := .lst [V.int 20, V.int 19, V.int 19]) n_p2
    have x_p2 := upd_same (H := H_u1) (a := p2) (o := .lst [V.int 20, V.int 19, V.int 19])
    generalize upd H_u1 p2 (.lst [V.int 20, V.int 19, V.int 19]) = H_p2 at s_p2 x_p2 ⊢
    have c_p2 := c_u1.trans s_p2
    have f_p2 : H p2 = none := Same.free c_u1 n_p2
    refine ⟨(by show 2 ≤ sizeLine; decide), fun u2 n_u2 => ?_⟩
    have s_u2 := same_upd (o := .tup [V.int 24, V.ref p2]) n_u2
    have x_u2 := upd_same (H := H_p2) (a := u2) (o := .tup [V.int 24, V.ref p2])
    generalize upd H_p2 u2 (.tup [V.int 24, V.ref p2]) = H_u2 at s_u2 x_u2 ⊢
    have c_u2 := c_p2.trans s_u2
    have f_u2 : H u2 = none := Same.free c_p2 n_u2
    refine ⟨(by show 3 ≤ sizeLine; decide), fun U n_U => ?_⟩
    have s_U := same_upd (o := .tup [V.ref u0, V.ref u1, V.ref u2]) n_U
    have x_U := upd_same (H := H_u2) (a := U) (o := .tup [V.ref u0, V.ref u1, V.ref u2])
    generalize upd H_u2 U (.tup [V.ref u0, V.ref u1, V.ref u2]) = H_U at s_U x_U ⊢
    have c_U := c_u2.trans s_U
    have f_U : H U = none := Same.free c_u2 n_U
    have d_U := Same.refl H_U
    have d_u2 := s_U.trans d_U
    have d_p2 := s_u2.trans d_u2
    have d_u1 := s_p2.trans d_p2
    have d_p1 := s_u1.trans d_u1
    have d_u0 := s_p1.trans d_p1
    have d_p0 := s_u0.trans d_u0
    have d_Lt := s_p0.trans d_p0
    have d_l2 := s_Lt.trans d_Lt
    have d_l1 := s_l2.trans d_l2
    have d_R := s_l1.trans d_l1
    have d_t1 := s_R.trans d_R
    have d_b3 := s_t1.trans d_t1
    have d_b2 := s_b3.trans d_b3
    have d_b1 := s_b2.trans d_b2
    have d_t0 := s_b1.trans d_b1
    have d_a3 := s_t0.trans d_t0
    have d_a2 := s_a3.trans d_a3
    have d_a1 := s_a2.trans d_a2
    clear n_a1 n_a2 n_a3 n_t0 n_b1 n_b2 n_b3 n_t1 n_R n_l1 n_l2 n_Lt n_p0 n_u0 n_p1 n_u1 n_p2 n_u2 n_U
    have g_R := d_R _ _ x_R
    have hit : ∀ i, i < 3 → ∃ u l : Addr, [V.ref u0, V.ref u1, V.ref u2][i]? = some (V.ref u) ∧ H_U u = some (.tup [vN (sideL.getD (2 + i) 0), .ref l]) ∧ H_U l = some (.lst ((blkF (2 + i)).map vN)) ∧ H l = none ∧ bitsF (2 + i) = 8 ∧ cksL.getD (2 + i) [] = [4, 8, 10, 12] := by
      intro i h3
      have : i = 0 ∨ i = 1 ∨ i = 2 := by omega
      rcases this with rfl | rfl | rfl
      · exact ⟨u0, p0, rfl, d_u0 _ _ x_u0, d_p0 _ _ x_p0, f_p0, rfl, rfl⟩
      · exact ⟨u1, p1, rfl, d_u1 _ _ x_u1, d_p1 _ _ x_p1, f_p1, rfl, rfl⟩
      · exact ⟨u2, p2, rfl, d_u2 _ _ x_u2, d_p2 _ _ x_p2, f_p2, rfl, rfl⟩
    have row0 : ∀ (j : Nat) (t : Addr), [t0, t1][j]? = some t → TabRow H H_U t j := by
      intro j t e
      have hj : j < 2 := (List.getElem?_eq_some_iff.mp e).1
      have : j = 0 ∨ j = 1 := by omega
      rcases this with rfl | rfl
      · cases e
        exact ⟨a1, a2, a3, d_t0 _ _ x_t0, d_a1 _ _ x_a1, d_a2 _ _ x_a2, f_t0, f_a1⟩
      · cases e
        exact ⟨b1, b2, b3, d_t1 _ _ x_t1, d_b1 _ _ x_b1, d_b2 _ _ x_b2, f_t1, f_b1⟩
    have gU : ∀ H', Kp R H_U H' → H' U = some (.tup [V.ref u0, V.ref u1, V.ref u2]) := fun H' kp => kp _ _ x_U (fun z => by rw [← z, x_U] at g_R; cases g_R)
    refine ⟨U, _, false, rfl, .inl (.inl x_U), ?_⟩
    refine for_it (walk_seq (b := false) (K := K) (a := U) (xs := [V.ref u0, V.ref u1, V.ref u2])) (fun i σ H' => ∃ (z3 z4 : Option V) (ts : List Addr), σ = [some (.int ((s0 : Int) + 1)), some (.ref R), some (.ref Lt), z3, z4] ∧ Kp R H_U H' ∧ H' R = some (.lst (ts.map V.ref)) ∧ ts.length = 2 + i ∧ ∀ (j : Nat) (t : Addr), ts[j]? = some t → TabRow H H' t j)
      ⟨_, _, [t0, t1], rfl, Same.kp (Same.refl _), g_R, rfl, row0⟩ (fun i σ H' _ ⟨_, _, _, _, kp, _⟩ => .inl (.inl (gU H' kp))) ?_ ?_
    · rintro i x σ H1 H2 hi ⟨z3, z4, ts, rfl, kp, gR, lt, rows⟩ ⟨rfl, e2⟩
      have hi3 : i < 3 := hi
      obtain ⟨u, l, eu, hu, hl, fl, eb, ec⟩ := hit i hi3
      replace e2 : [V.ref u0, V.ref u1, V.ref u2][i]? = some x := e2
      rw [eu] at e2
      obtain rfl := (Option.some.inj e2).symm
      have kv : ∀ {c : Addr} {o : HO}, H_U c = some o → o ≠ .lst [V.ref t0, V.ref t1] → H2 c = some o := fun h n => kp _ _ h (fun z => n (by rw [z, g_R] at h; exact (Option.some.inj h).symm))
      have hu2 := kv hu (by intro z; cases z)
      have hl2 := kv hl (word_ne (L := [t0, t1]) _ (by show 0 < 2; decide))
      refine ⟨u, [_, _], rfl, .inl (.inl hu2), rfl, _, [_], rfl, _, [], rfl, rfl, ?_⟩
      refine ⟨_, rfl, .inl ⟨rfl, _, .inl (.inl gR)⟩, ?_⟩
      refine ⟨_, rfl, _, rfl, (by show 3 ≤ sizeLine; decide), fun v nv => ?_⟩
      have sv := same_upd (o := .tup [vN (sideL.getD (2 + i) 0), V.int 8, V.ref l]) nv
      have xv := upd_same (H := H2) (a := v) (o := .tup [vN (sideL.getD (2 + i) 0), V.int 8, V.ref l])
      have gL := kv (d_Lt _ _ x_Lt) (by intro z; cases z)
      generalize upd H2 v (.tup [vN (sideL.getD (2 + i) 0), V.int 8, V.ref l]) = H3 at sv xv ⊢
      refine ⟨_, rfl, v, Lt, _, _, rfl, rfl, .inl (.inl xv), .inl (.inl (sv _ _ gL)), (by intro z; cases z), (by show 5 ≤ sizeLine; decide), (fun z => by cases z), fun _ tt ntt => ?_⟩
      have st := same_upd (o := .tup ([vN (sideL.getD (2 + i) 0), V.int 8, V.ref l] ++ [V.ref l1, V.ref l2])) ntt
      have xt := upd_same (H := H3) (a := tt) (o := .tup ([vN (sideL.getD (2 + i) 0), V.int 8, V.ref l] ++ [V.ref l1, V.ref l2]))
      have ftt : H tt = none := by
        cases hh : H tt with
        | none => rfl
        | some o =>
          have h1 := c_U _ _ hh
          have ne : tt ≠ R := fun z => by rw [z, f_R] at hh; cases hh
          have h2 := (sv _ _ (kp _ _ h1 ne)).symm.trans ntt
          cases h2
      generalize upd H3 tt (.tup ([vN (sideL.getD (2 + i) 0), V.int 8, V.ref l] ++ [V.ref l1, V.ref l2])) = H4 at st xt ⊢
      have s24 := sv.trans st
      have gR4 := s24 _ _ gR
      refine ⟨R, _, _, rfl, rfl, gR4, small1000 (by rw [List.length_map]; omega), ?_⟩
      have nttR : tt ≠ R := fun z => by rw [z, gR4] at xt; cases xt
      have kp5 : Kp R H4 (upd H4 R (.lst (ts.map V.ref ++ [V.ref tt]))) := Kp.upd
      refine ⟨_, _, ts ++ [tt], rfl, (kp.trans (Same.kp s24)).trans kp5, by rw [upd_same, List.map_append]; rfl, by rw [List.length_append, lt]; rfl, fun j t e => ?_⟩
      have ge2 : 0 < ts.length := by omega
      by_cases cj : j < ts.length
      · rw [List.getElem?_append_left cj] at e
        exact ((rows j t e).same s24).kp kp5 gR4 ge2
      · have hj := (List.getElem?_eq_some_iff.mp e).1
        rw [List.length_append] at hj
        have ej : j = 2 + i := by simp at hj; omega
        subst ej
        rw [List.getElem?_append_right (by omega), lt, Nat.sub_self] at e
        cases e
        have TR : TabRow H H4 tt (2 + i) := ⟨l, l1, l2, by rw [eb]; exact xt, s24 _ _ hl2, by rw [ec]; exact s24 _ _ (kv (d_l1 _ _ x_l1) (by intro z; cases z)), ftt, fl⟩
        exact TR.kp kp5 gR4 ge2
    · rintro σ H1 ⟨z3, z4, ts, rfl, kp, gR, lt, rows⟩
      have l5 : ts.length = 5 := lt
      have et : ts[s0]? = some (ts[s0]'(by omega)) := List.getElem?_eq_getElem _
      generalize ts[s0]'(by omega) = t at et
      obtain ⟨c1, c2, c3, g1, g2, g3, f1, f2⟩ := rows s0 t et
      refine ⟨_, rfl, _, rfl, _, _, rfl, rfl, R, _, _, .ref t, rfl, rfl, .inl (.inl gR), ?_, q t c1 c2 c3 H1 ?_ f1 f2 g1 g2 g3⟩
      · rw [show (s0 : Int) + 1 - 1 = (s0 : Int) by omega]
        exact atI_nat (by rw [List.getElem?_map, et]; rfl)
      · exact fun b o hb => kp _ _ (c_U _ _ hb) (ne_of_none hb f_R)
/-! CUT -/
theorem quads_at (T : Txt K mg) {w : Nat} (hw : w < 16) : ∃ c, atI ([T.c_QUADS0, T.c_QUADS1, T.c_QUADS2, T.c_QUADS3, T.c_QUADS4, T.c_QUADS5, T.c_QUADS6, T.c_QUADS7, T.c_QUADS8, T.c_QUADS9, T.c_QUADS10, T.c_QUADS11, T.c_QUADS12, T.c_QUADS13, T.c_QUADS14, T.c_QUADS15].map V.ref) (w : Int) = some (.ref c) ∧ ∀ H, SqT K H c ((bitsW 4 w).map vN) := by
  have : w = 0 ∨ w = 1 ∨ w = 2 ∨ w = 3 ∨ w = 4 ∨ w = 5 ∨ w = 6 ∨ w = 7 ∨ w = 8 ∨ w = 9 ∨ w = 10 ∨ w = 11 ∨ w = 12 ∨ w = 13 ∨ w = 14 ∨ w = 15 := by omega
  rcases this with rfl | rfl | rfl | rfl | rfl | rfl | rfl | rfl | rfl | rfl | rfl | rfl | rfl | rfl | rfl | rfl
  · exact ⟨T.c_QUADS0, rfl, fun H => tupB_ok (xs := [0, 0, 0, 0]) T.t_QUADS0⟩
  · exact ⟨T.c_QUADS1, rfl, fun H => tupB_ok (xs := [0, 0, 0, 1]) T.t_QUADS1⟩
  · exact ⟨T.c_QUADS2, rfl, fun H => tupB_ok (xs := [0, 0, 1, 0]) T.t_QUADS2⟩
  · exact ⟨T.c_QUADS3, rfl, fun H => tupB_ok (xs := [0, 0, 1, 1]) T.t_QUADS3⟩
  · exact ⟨T.c_QUADS4, rfl, fun H => tupB_ok (xs := [0, 1, 0, 0]) T.t_QUADS4⟩
  · exact ⟨T.c_QUADS5, rfl, fun H => tupB_ok (xs := [0, 1, 0, 1]) T.t_QUADS5⟩
  · exact ⟨T.c_QUADS6, rfl, fun H => tupB_ok (xs := [0, 1, 1, 0]) T.t_QUADS6⟩
  · exact ⟨T.c_QUADS7, rfl, fun H => tupB_ok (xs := [0, 1, 1, 1]) T.t_QUADS7⟩
  · exact ⟨T.c_QUADS8, rfl, fun H => tupB_ok (xs := [1, 0, 0, 0]) T.t_QUADS8⟩
  · exact ⟨T.c_QUADS9, rfl, fun H => tupB_ok (xs := [1, 0, 0, 1]) T.t_QUADS9⟩
  · exact ⟨T.c_QUADS10, rfl, fun H => tupB_ok (xs := [1, 0, 1, 0]) T.t_QUADS10⟩
  · exact ⟨T.c_QUADS11, rfl, fun H => tupB_ok (xs := [1, 0, 1, 1]) T.t_QUADS11⟩
  · exact ⟨T.c_QUADS12, rfl, fun H => tupB_ok (xs := [1, 1, 0, 0]) T.t_QUADS12⟩
  · exact ⟨T.c_QUADS13, rfl, fun H => tupB_ok (xs := [1, 1, 0, 1]) T.t_QUADS13⟩
  · exact ⟨T.c_QUADS14, rfl, fun H => tupB_ok (xs := [1, 1, 1, 0]) T.t_QUADS14⟩
  · exact ⟨T.c_QUADS15, rfl, fun H => tupB_ok (xs := [1, 1, 1, 1]) T.t_QUADS15⟩
theorem and15 {w : Nat} (h : w < 256) : Builtin.bitAnd (w : Int) 15 = ((w % 16 : Nat) : Int) := by
  have q : ((List.range 256).all fun w => decide (Builtin.bitAnd (w : Int) 15 = ((w % 16 : Nat) : Int))) = true := by decide +kernel
  exact of_decide_eq_true (List.all_eq_true.mp q w (List.mem_range.mpr h))
def sp_wab (K : PySem.W.Frag) : Sp := fun vs H Q _ => ∃ (a : Addr) (k : Bool) (b : Nat) (ws : List Nat), vs = [.ref a, vN b] ∧ Wd b ∧ SqB k K H a (ws.map vN) ∧ (∀ x ∈ ws, x < span b) ∧ ws.length ≤ 100 ∧ ∀ D H', Same H H' → H D = none → H' D = some (.lst ((wordsB b ws).map vN)) → Q (.ref D) H'
theorem ok_words_as_bits (T : Txt K mg) : FnOk P w K mg base CX0 1 T.f_words_as_bits T.d_words_as_bits ["words", "many"] (sp_wab K) := by
  refine T.F_words_as_bits.ok sc_words_as_bits (fun vs H Q E h => ?_) (fun cdv A outer s H vs Q E hr h => ?_)
  · obtain ⟨a, k, b, ws, rfl, _⟩ := h
    rfl
  · obtain ⟨a, k, b, ws, rfl, hb, hq, hw, hl, q⟩ := h
    refine ⟨_, (pss_cons (ps_if (pt_cmpR op_eq (pv 1) pe_int (nomark _)) (pss_one (ps_ret (pe_lc2 (g := (gName 2)) (g1 := (gName 3)) (own := [("word", 2), ("bit", 3)]) (vs1 := [3]) rfl sc_words_as_bits.nd (pi_seq (pv 0)) (blkOk_by (N := ["words", "many", "word", "bit"]) (sc := defScope s_words_as_bits) (by decide +kernel)) (by decide) (fun _ _ _ _ _ => by exact (pg_name (i := 2) sc_words_as_bits.nd rfl (.inl rfl))) (fun _ _ _ _ _ => by exact pts_nil) (fun _ _ _ _ _ => by exact (pi_seqK (K := K) rfl (pe_ix (ix_rowBK (K := K) rfl) (pe_glob (v := .ref T.a_QUADS) (by rfl) T.g_QUADS rfl) (pv 2) (fun _ _ => rfl)))) (fun _ _ _ _ _ => by exact (pg_name (i := 3) sc_words_as_bits.nd rfl (.inl rfl))) (fun _ _ _ _ _ => by exact pts_nil) (fun _ _ _ _ _ => by exact (pv 3))))) pss_nil)
      (pss_one (ps_ret (pe_lc2 (g := (gName 2)) (g1 := (gName 3)) (own := [("word", 2), ("bit", 3)]) (vs1 := [3]) rfl sc_words_as_bits.nd (pi_seq (pv 0)) (blkOk_by (N := ["words", "many", "word", "bit"]) (sc := defScope s_words_as_bits) (by decide +kernel)) (by decide) (fun _ _ _ _ _ => by exact (pg_name (i := 2) sc_words_as_bits.nd rfl (.inl rfl))) (fun _ _ _ _ _ => by exact pts_nil) (fun _ _ _ _ _ => by exact (pi_seqK (K := K) rfl (pe_op (op_catTK (K := K) rfl) (pe_ix (ix_rowBK (K := K) rfl) (pe_glob (v := .ref T.a_QUADS) (by rfl) T.g_QUADS rfl) (pe_op op_shr (pv 2) pe_int) (fun _ _ => rfl)) (pe_ix (ix_rowBK (K := K) rfl) (pe_glob (v := .ref T.a_QUADS) (by rfl) T.g_QUADS rfl) (pe_op op_and (pv 2) pe_int) (fun _ _ => rfl))))) (fun _ _ _ _ _ => by exact (pg_name (i := 3) sc_words_as_bits.nd rfl (.inl rfl))) (fun _ _ _ _ _ => by exact pts_nil) (fun _ _ _ _ _ => by exact (pv 3)))))), ?_⟩
    have fin : ∀ (D : Addr) (H1 : Hp), H D = none → Same H H1 ∧ H1 D = some (.lst ((wordsB b (ws.take (ws.map vN).length)).map vN)) → Q (.ref D) H1 := fun D H1 hD h => by
      rw [List.length_map, List.take_length] at h
      exact q D H1 h.1 hD h.2
    have step : ∀ (i : Nat) (hi : i < ws.length), wordsB b (ws.take (i + 1)) = wordsB b (ws.take i) ++ bitsW b ws[i] := fun i hi => by
      rw [List.take_add_one, List.getElem?_eq_getElem hi]
      exact wordsB_snoc b _ _
    have len : ∀ i, (wordsB b (ws.take i)).length ≤ 800 := fun i => by
      rw [wordsB_len, List.length_take]
      have h1 : b ≤ 8 := by rcases hb with h | h <;> omega
      exact Nat.le_trans (Nat.mul_le_mul h1 (Nat.min_le_right i ws.length)) (by omega)
    rcases hb with rfl | rfl
    · refine ⟨_, rfl, rfl, _, rfl, ?_⟩
      refine iteT ?_
      refine ⟨_, rfl, a, _, k, rfl, hq, fun D hD => ?_⟩
      refine lc2_it (walk_seq (b := k) (K := K) (a := a) (xs := ws.map vN)) (fun i H' => Same H H' ∧ H' D = some (.lst ((wordsB 4 (ws.take i)).map vN))) ⟨same_upd hD, upd_same⟩ (fun i H' _ h => Same.sqb h.1 hq) ?_ (fun H1 h => fin D H1 hD h)
      rintro i v H1 H2 hi ⟨sm, g⟩ ⟨rfl, e2⟩
      rw [List.length_map] at hi
      rw [List.getElem?_map, List.getElem?_eq_getElem hi] at e2
      obtain rfl := (Option.some.inj e2).symm
      obtain ⟨c, hc, hC⟩ := quads_at T (hw _ (List.getElem_mem hi))
      refine ⟨rfl, iteT (B := Same H H2 ∧ H2 D = some (.lst ((wordsB 4 (ws.take (i + 1))).map vN))) ⟨_, rfl, T.a_QUADS, _, _, .ref c, false, rfl, rfl, T.l_QUADS.sq (by show 16 ≤ 1000; decide), hc, c, _, false, rfl, hC _, ?_⟩⟩
      refine lc_in (walk_seq (b := false) (K := K) (a := c) (xs := (bitsW 4 ws[i]).map vN)) (fun j H' => (Same H H' ∧ SqT K H' c ((bitsW 4 ws[i]).map vN)) ∧ H' D = some (.lst ((wordsB 4 (ws.take i) ++ (bitsW 4 ws[i]).take j).map vN))) ⟨⟨sm, hC _⟩, by rw [List.take_zero, List.append_nil]; exact g⟩ (fun j H' _ h => h.1.2) ?_ ?_
      · rintro j v H5 H6 hj ⟨⟨s3, q3⟩, g3⟩ ⟨rfl, e3⟩
        rw [List.length_map] at hj
        rw [List.getElem?_map, List.getElem?_eq_getElem hj] at e3
        obtain rfl := (Option.some.inj e3).symm
        have lj := len i
        have hj8 : j < 4 := by rw [bitsW_len] at hj; exact hj
        refine ⟨rfl, iteT (B := (Same H H6 ∧ SqT K H6 c ((bitsW 4 ws[i]).map vN)) ∧ H6 D = some (.lst ((wordsB 4 (ws.take i) ++ (bitsW 4 ws[i]).take (j + 1)).map vN))) ⟨_, rfl, _, g3, ?_, ⟨fun f o hf => ?_, ?_⟩, ?_⟩⟩
        · rw [List.length_map, List.length_append, List.length_take, bitsW_len]
          exact small1000 (by omega)
        · rw [upd_ne (ne_of_none hf hD)]
          exact s3 _ _ hf
        · exact hC _
        · have e : ∀ A : List Nat, A ++ (bitsW 4 ws[i]).take (j + 1) = (A ++ (bitsW 4 ws[i]).take j) ++ [(bitsW 4 ws[i])[j]] := fun A => by
            rw [List.take_add_one, List.getElem?_eq_getElem hj, ← List.append_assoc]
            rfl
          rw [upd_same, e]
          exact congrArg (fun z => some (HO.lst z)) (@List.map_append _ _ vN _ [(bitsW 4 ws[i])[j]]).symm
      · rintro H5 ⟨⟨s3, _⟩, g3⟩
        rw [List.length_map, List.take_length] at g3
        rw [step i hi]
        exact ⟨s3, g3⟩
    · refine ⟨_, rfl, rfl, _, rfl, ?_⟩
      refine iteF ?_
      refine ⟨_, rfl, a, _, k, rfl, hq, fun D hD => ?_⟩
      refine lc2_it (walk_seq (b := k) (K := K) (a := a) (xs := ws.map vN)) (fun i H' => Same H H' ∧ H' D = some (.lst ((wordsB 8 (ws.take i)).map vN))) ⟨same_upd hD, upd_same⟩ (fun i H' _ h => Same.sqb h.1 hq) ?_ (fun H1 h => fin D H1 hD h)
      rintro i v H1 H2 hi ⟨sm, g⟩ ⟨rfl, e2⟩
      rw [List.length_map] at hi
      rw [List.getElem?_map, List.getElem?_eq_getElem hi] at e2
      obtain rfl := (Option.some.inj e2).symm
      have h256 : ws[i] < 256 := hw _ (List.getElem_mem hi)
      obtain ⟨c1, hc1, hC1⟩ := quads_at T (w := ws[i] / 16) (by omega)
      obtain ⟨c2, hc2, hC2⟩ := quads_at T (w := ws[i] % 16) (by omega)
      have v1 : ((ws[i] : Nat) : Int) / 2 ^ (4 : Int).toNat = ((ws[i] / 16 : Nat) : Int) := by
        show ((ws[i] : Nat) : Int) / 16 = _
        omega
      have v2 : Builtin.bitAnd ((ws[i] : Nat) : Int) 15 = ((ws[i] % 16 : Nat) : Int) := and15 h256
      refine ⟨rfl, iteT (B := Same H H2 ∧ H2 D = some (.lst ((wordsB 8 (ws.take (i + 1))).map vN))) ⟨_, rfl, _, _, rfl, rfl, (show (0 : Int) ≤ 4 by decide), T.a_QUADS, _, _, .ref c1, false, rfl, rfl, T.l_QUADS.sq (by show 16 ≤ 1000; decide), (by rw [v1]; exact hc1), ?_⟩⟩
      refine ⟨_, rfl, _, _, rfl, rfl, T.a_QUADS, _, _, .ref c2, false, rfl, rfl, T.l_QUADS.sq (by show 16 ≤ 1000; decide), (by rw [v2]; exact hc2), ?_⟩
      refine ⟨c1, c2, _, _, rfl, rfl, hC1 _, hC2 _, ?_, ?_, ?_, fun _ u nu => ?_⟩
      · intro z
        have := congrArg List.length z
        rw [List.length_map, bitsW_len] at this
        cases this
      · rw [List.length_map, List.length_map, bitsW_len, bitsW_len]
        decide
      · intro z
        have := congrArg List.length z
        rw [List.length_map, bitsW_len] at this
        cases this
      rw [← List.map_append, ← bits8 h256]
      have gu := upd_same (H := H2) (a := u) (o := .tup ((bitsW 8 ws[i]).map vN))
      have su := same_upd (o := .tup ((bitsW 8 ws[i]).map vN)) nu
      have smu := sm.trans su
      have gD := su _ _ g
      have nuD : u ≠ D := fun z => by rw [z, g] at nu; cases nu
      refine ⟨u, _, false, rfl, .inl (.inl gu), ?_⟩
      refine lc_in (walk_seq (b := false) (K := K) (a := u) (xs := (bitsW 8 ws[i]).map vN)) (fun j H' => (Same H H' ∧ H' u = some (.tup ((bitsW 8 ws[i]).map vN))) ∧ H' D = some (.lst ((wordsB 8 (ws.take i) ++ (bitsW 8 ws[i]).take j).map vN))) ⟨⟨smu, gu⟩, by rw [List.take_zero, List.append_nil]; exact gD⟩ (fun j H' _ h => .inl (.inl h.1.2)) ?_ ?_
      · rintro j v H5 H6 hj ⟨⟨s3, q3⟩, g3⟩ ⟨rfl, e3⟩
        rw [List.length_map] at hj
        rw [List.getElem?_map, List.getElem?_eq_getElem hj] at e3
        obtain rfl := (Option.some.inj e3).symm
        have lj := len i
        have hj8 : j < 8 := by rw [bitsW_len] at hj; exact hj
        refine ⟨rfl, iteT (B := (Same H H6 ∧ H6 u = some (.tup ((bitsW 8 ws[i]).map vN))) ∧ H6 D = some (.lst ((wordsB 8 (ws.take i) ++ (bitsW 8 ws[i]).take (j + 1)).map vN))) ⟨_, rfl, _, g3, ?_, ⟨fun f o hf => ?_, ?_⟩, ?_⟩⟩
        · rw [List.length_map, List.length_append, List.length_take, bitsW_len]
          exact small1000 (by omega)
        · rw [upd_ne (ne_of_none hf hD)]
          exact s3 _ _ hf
        · rw [upd_ne nuD]; exact q3
        · have e : ∀ A : List Nat, A ++ (bitsW 8 ws[i]).take (j + 1) = (A ++ (bitsW 8 ws[i]).take j) ++ [(bitsW 8 ws[i])[j]] := fun A => by
            rw [List.take_add_one, List.getElem?_eq_getElem hj, ← List.append_assoc]
            rfl
          rw [upd_same, e]
          exact congrArg (fun z => some (HO.lst z)) (@List.map_append _ _ vN _ [(bitsW 8 ws[i])[j]]).symm
      · rintro H5 ⟨⟨s3, _⟩, g3⟩
        rw [List.length_map, List.take_length] at g3
        rw [step i hi]
        exact ⟨s3, g3⟩
def sp_pick : Sp := fun vs H Q _ => ∃ (p l : Addr) (a b c : Int) (xs : List V), vs = [.ref p, .ref l] ∧ p ≠ l ∧ H p = some (WellL a b c) ∧ H l = some (.lst xs) ∧ 0 < xs.length ∧ xs.length ≤ 1000 ∧ ∀ (i : Nat) (v : V) (a' c' : Int), xs[i]? = some v → Q v (upd H p (WellL a' b c'))
theorem ok__law_pick (T : Txt K mg) : FnOk P w K mg base CX0 2 T.f__law_pick T.d__law_pick ["_law_source", "_law_some"] sp_pick := by
  refine T.F__law_pick.ok sc__law_pick (fun vs H Q E h => ?_) (fun cdv A outer s H vs Q E hr h => ?_)
  · obtain ⟨p, l, a, b, c, xs, rfl, _⟩ := h
    rfl
  · obtain ⟨p, l, a, b, c, xs, rfl, hpl, hp, hl, l0, l1, q⟩ := h
    refine ⟨_, (pss_one (ps_ret (pe_ix ix_list (pv 1) (pe_call (ok__law_next T) (hr.mono (by decide)) (by rfl) T.g__law_next T.F__law_next.kp T.b__law_next .nil pass0 (pa_cons (pv 0) (pa_cons (pe_callB call_len_seq (by rfl) T.n_len (by decide +kernel) (pa_cons (pv 1) pa_nil)) pa_nil))) (fun _ _ => rfl)))), ?_⟩
    refine ⟨_, rfl, _, rfl, _, rfl, l, xs, rfl, .inl (.inl (.inl hl)), p, a, b, c, _, rfl, hp, by omega, by omega, fun n a' c' n0 n1 => ?_⟩
    obtain ⟨k, rfl⟩ := Int.eq_ofNat_of_zero_le n0
    have hk : k < xs.length := by omega
    exact ⟨l, xs, (k : Int), xs[k], rfl, rfl, .inl (.inl (by rw [upd_ne hpl.symm]; exact hl)), atI_nat (List.getElem?_eq_getElem hk), q k _ a' c' (List.getElem?_eq_getElem hk)⟩
/-! CUT -/
def placesD : List (List (List Int)) := [[[37, 36, 37, 36, 37, 36, 37, 36], [37, 16, 17, 18, 19, 20, 21, 36], [37, 22, 23, 24, 25, 9, 8, 37], [37, 29, 33, 11, 10, 7, 6, 37], [37, 28, 32, 13, 12, 5, 4, 36], [37, 27, 31, 35, 14, 3, 2, 36], [37, 26, 30, 34, 15, 1, 0, 37], [37, 37, 37, 37, 37, 37, 37, 37]], [[101, 100, 101, 100, 101, 100, 101, 100, 101, 100, 101, 100], [101, 80, 81, 82, 83, 84, 85, 86, 87, 88, 89, 100], [101, 98, 79, 55, 54, 53, 52, 19, 18, 17, 16, 101], [101, 97, 78, 57, 56, 51, 50, 21, 20, 15, 14, 101], [101, 96, 77, 59, 58, 49, 48, 23, 22, 13, 12, 100], [101, 95, 76, 61, 60, 47, 46, 25, 24, 11, 10, 100], [101, 94, 75, 63, 62, 45, 44, 27, 26, 9, 8, 101], [101, 93, 74, 65, 64, 43, 42, 29, 28, 7, 6, 101], [101, 92, 73, 67, 66, 41, 40, 31, 30, 5, 4, 100], [101, 91, 72, 69, 68, 39, 38, 33, 32, 3, 2, 100], [101, 90, 99, 71, 70, 37, 36, 35, 34, 1, 0, 101], [101, 101, 101, 101, 101, 101, 101, 101, 101, 101, 101, 101]], [[197, 196, 197, 196, 197, 196, 197, 196, 197, 196, 197, 196, 197, 196, 197, 196], [197, 176, 177, 178, 179, 180, 181, 182, 183, 184, 185, 29, 28, 27, 26, 196], [197, 175, 174, 135, 134, 133, 132, 83, 82, 81, 80, 31, 30, 25, 24, 197], [197, 173, 172, 137, 136, 131, 130, 85, 84, 79, 78, 33, 32, 23, 22, 197], [197, 171, 170, 139, 138, 129, 128, 87, 86, 77, 76, 35, 34, 21, 20, 196], [197, 195, 169, 141, 140, 127, 126, 89, 88, 75, 74, 37, 36, 19, 18, 196], [197, 194, 168, 143, 142, 125, 124, 91, 90, 73, 72, 39, 38, 17, 16, 197], [197, 193, 167, 145, 144, 123, 122, 93, 92, 71, 70, 41, 40, 15, 14, 197], [197, 192, 166, 147, 146, 121, 120, 95, 94, 69, 68, 43, 42, 13, 12, 196], [197, 191, 165, 149, 148, 119, 118, 97, 96, 67, 66, 45, 44, 11, 10, 196], [197, 190, 164, 151, 150, 117, 116, 99, 98, 65, 64, 47, 46, 9, 8, 197], [197, 189, 163, 153, 152, 115, 114, 101, 100, 63, 62, 49, 48, 7, 6, 197], [197, 188, 162, 155, 154, 113, 112, 103, 102, 61, 60, 51, 50, 5, 4, 196], [197, 187, 161, 157, 156, 111, 110, 105, 104, 59, 58, 53, 52, 3, 2, 196], [197, 186, 160, 159, 158, 109, 108, 107, 106, 57, 56, 55, 54, 1, 0, 197], [197, 197, 197, 197, 197, 197, 197, 197, 197, 197, 197, 197, 197, 197, 197, 197]], [[325, 324, 325, 324, 325, 324, 325, 324, 325, 324, 325, 324, 325, 324, 325, 324, 325, 324, 325, 324], [325, 304, 305, 306, 307, 308, 309, 310, 311, 312, 313, 109, 108, 107, 106, 37, 36, 35, 34, 324], [325, 303, 302, 247, 246, 245, 244, 179, 178, 177, 176, 111, 110, 105, 104, 39, 38, 33, 32, 325], [325, 301, 300, 249, 248, 243, 242, 181, 180, 175, 174, 113, 112, 103, 102, 41, 40, 31, 30, 325], [325, 299, 298, 251, 250, 241, 240, 183, 182, 173, 172, 115, 114, 101, 100, 43, 42, 29, 28, 324], [325, 297, 296, 253, 252, 239, 238, 185, 184, 171, 170, 117, 116, 99, 98, 45, 44, 27, 26, 324], [325, 295, 294, 255, 254, 237, 236, 187, 186, 169, 168, 119, 118, 97, 96, 47, 46, 25, 24, 325], [325, 293, 292, 257, 256, 235, 234, 189, 188, 167, 166, 121, 120, 95, 94, 49, 48, 23, 22, 325], [325, 291, 290, 259, 258, 233, 232, 191, 190, 165, 164, 123, 122, 93, 92, 51, 50, 21, 20, 324], [325, 323, 289, 261, 260, 231, 230, 193, 192, 163, 162, 125, 124, 91, 90, 53, 52, 19, 18, 324], [325, 322, 288, 263, 262, 229, 228, 195, 194, 161, 160, 127, 126, 89, 88, 55, 54, 17, 16, 325], [325, 321, 287, 265, 264, 227, 226, 197, 196, 159, 158, 129, 128, 87, 86, 57, 56, 15, 14, 325], [325, 320, 286, 267, 266, 225, 224, 199, 198, 157, 156, 131, 130, 85, 84, 59, 58, 13, 12, 324], [325, 319, 285, 269, 268, 223, 222, 201, 200, 155, 154, 133, 132, 83, 82, 61, 60, 11, 10, 324], [325, 318, 284, 271, 270, 221, 220, 203, 202, 153, 152, 135, 134, 81, 80, 63, 62, 9, 8, 325], [325, 317, 283, 273, 272, 219, 218, 205, 204, 151, 150, 137, 136, 79, 78, 65, 64, 7, 6, 325], [325, 316, 282, 275, 274, 217, 216, 207, 206, 149, 148, 139, 138, 77, 76, 67, 66, 5, 4, 324], [325, 315, 281, 277, 276, 215, 214, 209, 208, 147, 146, 141, 140, 75, 74, 69, 68, 3, 2, 324], [325, 314, 280, 279, 278, 213, 212, 211, 210, 145, 144, 143, 142, 73, 72, 71, 70, 1, 0, 325], [325, 325, 325, 325, 325, 325, 325, 325, 325, 325, 325, 325, 325, 325, 325, 325, 325, 325, 325, 325]], [[485, 484, 485, 484, 485, 484, 485, 484, 485, 484, 485, 484, 485, 484, 485, 484, 485, 484, 485, 484, 485, 484, 485, 484], [485, 464, 465, 466, 467, 468, 469, 470, 471, 472, 473, 221, 220, 219, 218, 133, 132, 131, 130, 45, 44, 43, 42, 484], [485, 463, 462, 391, 390, 389, 388, 307, 306, 305, 304, 223, 222, 217, 216, 135, 134, 129, 128, 47, 46, 41, 40, 485], [485, 461, 460, 393, 392, 387, 386, 309, 308, 303, 302, 225, 224, 215, 214, 137, 136, 127, 126, 49, 48, 39, 38, 485], [485, 459, 458, 395, 394, 385, 384, 311, 310, 301, 300, 227, 226, 213, 212, 139, 138, 125, 124, 51, 50, 37, 36, 484], [485, 457, 456, 397, 396, 383, 382, 313, 312, 299, 298, 229, 228, 211, 210, 141, 140, 123, 122, 53, 52, 35, 34, 484], [485, 455, 454, 399, 398, 381, 380, 315, 314, 297, 296, 231, 230, 209, 208, 143, 142, 121, 120, 55, 54, 33, 32, 485], [485, 453, 452, 401, 400, 379, 378, 317, 316, 295, 294, 233, 232, 207, 206, 145, 144, 119, 118, 57, 56, 31, 30, 485], [485, 451, 450, 403, 402, 377, 376, 319, 318, 293, 292, 235, 234, 205, 204, 147, 146, 117, 116, 59, 58, 29, 28, 484], [485, 449, 448, 405, 404, 375, 374, 321, 320, 291, 290, 237, 236, 203, 202, 149, 148, 115, 114, 61, 60, 27, 26, 484], [485, 447, 446, 407, 406, 373, 372, 323, 322, 289, 288, 239, 238, 201, 200, 151, 150, 113, 112, 63, 62, 25, 24, 485], [485, 445, 444, 409, 408, 371, 370, 325, 324, 287, 286, 241, 240, 199, 198, 153, 152, 111, 110, 65, 64, 23, 22, 485], [485, 443, 442, 411, 410, 369, 368, 327, 326, 285, 284, 243, 242, 197, 196, 155, 154, 109, 108, 67, 66, 21, 20, 484], [485, 483, 441, 413, 412, 367, 366, 329, 328, 283, 282, 245, 244, 195, 194, 157, 156, 107, 106, 69, 68, 19, 18, 484], [485, 482, 440, 415, 414, 365, 364, 331, 330, 281, 280, 247, 246, 193, 192, 159, 158, 105, 104, 71, 70, 17, 16, 485], [485, 481, 439, 417, 416, 363, 362, 333, 332, 279, 278, 249, 248, 191, 190, 161, 160, 103, 102, 73, 72, 15, 14, 485], [485, 480, 438, 419, 418, 361, 360, 335, 334, 277, 276, 251, 250, 189, 188, 163, 162, 101, 100, 75, 74, 13, 12, 484], [485, 479, 437, 421, 420, 359, 358, 337, 336, 275, 274, 253, 252, 187, 186, 165, 164, 99, 98, 77, 76, 11, 10, 484], [485, 478, 436, 423, 422, 357, 356, 339, 338, 273, 272, 255, 254, 185, 184, 167, 166, 97, 96, 79, 78, 9, 8, 485], [485, 477, 435, 425, 424, 355, 354, 341, 340, 271, 270, 257, 256, 183, 182, 169, 168, 95, 94, 81, 80, 7, 6, 485], [485, 476, 434, 427, 426, 353, 352, 343, 342, 269, 268, 259, 258, 181, 180, 171, 170, 93, 92, 83, 82, 5, 4, 484], [485, 475, 433, 429, 428, 351, 350, 345, 344, 267, 266, 261, 260, 179, 178, 173, 172, 91, 90, 85, 84, 3, 2, 484], [485, 474, 432, 431, 430, 349, 348, 347, 346, 265, 264, 263, 262, 177, 176, 175, 174, 89, 88, 87, 86, 1, 0, 485], [485, 485, 485, 485, 485, 485, 485, 485, 485, 485, 485, 485, 485, 485, 485, 485, 485, 485, 485, 485, 485, 485, 485, 485]]]
def plF (s r c : Nat) : Nat := (((placesD.getD s []).getD r []).getD c 0).toNat
theorem pl_way {s i : Nat} (hs : s < 5) (h : i < ptF s) : ∃ q, (wayF (sdF s))[i]? = some q ∧ plF s q.1 q.2 = i := by
  have z : ((wayL.getD s []).map fun q => plF s q.1 q.2) = List.range (ptF s) := eq_of_beq (all5 (P := fun s => ((wayL.getD s []).map fun q => plF s q.1 q.2) == List.range (ptF s)) (by decide +kernel) hs)
  have hl : i < (wayF (sdF s)).length := by rw [way_len hs]; exact h
  refine ⟨(wayF (sdF s))[i], List.getElem?_eq_getElem hl, ?_⟩
  have e : (((wayL.getD s []).map fun q => plF s q.1 q.2))[i]? = some i := by rw [z, List.getElem?_range h]
  rw [← way_at hs, List.getElem?_map, List.getElem?_eq_getElem hl] at e
  exact Option.some.inj e
theorem way_pl {s r c : Nat} (hs : s < 5) (hr : r < sdF s) (hc : c < sdF s) : plF s r c < ptF s + 22 ∧ (plF s r c < ptF s → (wayF (sdF s))[plF s r c]? = some (r, c)) := by
  have z := all5 (P := fun s => (List.range (sdF s)).all fun r => (List.range (sdF s)).all fun c => decide (plF s r c < ptF s + 22) && (!decide (plF s r c < ptF s) || (wayL.getD s [])[plF s r c]? == some (r, c))) (by decide +kernel) hs
  have z2 := List.all_eq_true.mp (List.all_eq_true.mp z r (List.mem_range.mpr hr)) c (List.mem_range.mpr hc)
  rw [Bool.and_eq_true, Bool.or_eq_true] at z2
  refine ⟨of_decide_eq_true z2.1, fun h => ?_⟩
  rcases z2.2 with q | q
  · rw [decide_eq_true h] at q
    cases q
  · rw [way_at hs]
    exact eq_of_beq q
theorem places_at {s r : Nat} (hs : s < 5) (hr : r < sdF s) : ∃ P R, placesD[s]? = some P ∧ P.length = sdF s ∧ P[r]? = some R ∧ R.length = sdF s ∧ ∀ c, c < sdF s → R[c]? = some ((plF s r c : Nat) : Int) := by
  have z := all5 (P := fun s => decide (s < placesD.length) && decide ((placesD.getD s []).length = sdF s) && (List.range (sdF s)).all fun r => decide (((placesD.getD s []).getD r []).length = sdF s) && ((placesD.getD s []).getD r []).all fun x => decide (0 ≤ x)) (by decide +kernel) hs
  rw [Bool.and_eq_true, Bool.and_eq_true] at z
  have z1 := of_decide_eq_true z.1.1
  have z2 := of_decide_eq_true z.1.2
  have z3 := List.all_eq_true.mp z.2 r (List.mem_range.mpr hr)
  rw [Bool.and_eq_true] at z3
  have z4 := of_decide_eq_true z3.1
  refine ⟨placesD.getD s [], (placesD.getD s []).getD r [], ?_, z2, ?_, z4, fun c hc => ?_⟩
  · rw [List.getD_eq_getElem?_getD, List.getElem?_eq_getElem z1]
    rfl
  · rw [getD_in (l := placesD.getD s []) (by omega)]
    exact List.getElem?_eq_getElem _
  · have h0 := of_decide_eq_true (List.all_eq_true.mp z3.2 _ (getD_mem (d := 0) (show c < ((placesD.getD s []).getD r []).length by omega)))
    rw [List.getElem?_eq_getElem (by omega)]
    unfold plF
    rw [Int.toNat_of_nonneg h0, getD_in (l := ((placesD.getD s []).getD r [])) (by omega)]
theorem wbit_at (T : Txt K mg) {s : Nat} (hs : s < 5) : ∃ xs, (∀ H, SqT K H T.a_WORD_BITS xs) ∧ atI xs ((s : Int) + 1 - 1) = some (vN (bitsF s)) := by
  refine ⟨_, fun H => tupB_ok (xs := [4, 4, 8, 8, 8]) T.l_WORD_BITS, ?_⟩
  rw [show (s : Int) + 1 - 1 = (s : Int) by omega]
  refine atI_nat ?_
  have : s = 0 ∨ s = 1 ∨ s = 2 ∨ s = 3 ∨ s = 4 := by omega
  rcases this with rfl | rfl | rfl | rfl | rfl <;> rfl
theorem rep_one (n : Nat) (x : V) : (List.replicate n [x]).flatten = List.replicate n x := by
  induction n with
  | zero => rfl
  | succ n ih => rw [List.replicate_succ, List.flatten_cons, ih]; rfl
/-! CUT -/
/-! ### the law's way -/
theorem sub2 {m : Nat} (h : 8 ≤ m) : (m : Int) - 2 = ((m - 2 : Nat) : Int) := by omega
theorem eA1 {m : Nat} (h : 8 ≤ m) (a : Nat) : 1 + (0 + (a : Int)) / ((m : Int) - 2) = ((1 + a / (m - 2) : Nat) : Int) := by
  rw [sub2 h, Int.zero_add]
  exact (Int.natCast_add 1 (a / (m - 2))).symm
theorem eA2 {m : Nat} (h : 8 ≤ m) (a : Nat) : 1 + (0 + (a : Int)) % ((m : Int) - 2) = ((1 + a % (m - 2) : Nat) : Int) := by
  rw [sub2 h, Int.zero_add]
  exact (Int.natCast_add 1 (a % (m - 2))).symm
theorem eB1 {m : Nat} (h : 8 ≤ m) (a : Nat) : (m : Int) - 2 - (0 + (a : Int)) % ((m : Int) - 2) = ((m - 2 - a % (m - 2) : Nat) : Int) := by
  rw [sub2 h, Int.zero_add]
  have l : a % (m - 2) < m - 2 := Nat.mod_lt _ (by omega)
  exact (Int.ofNat_sub (Nat.le_of_lt l)).symm
theorem eN {m : Nat} (h : 8 ≤ m) : ((m : Int) - 2) * ((m : Int) - 2) = (((m - 2) * (m - 2) : Nat) : Int) := by
  rw [sub2 h]
  rfl
def sp_rib : Sp := fun vs H Q _ => ∃ m : Nat, vs = [vN m] ∧ 8 ≤ m ∧ m ≤ 24 ∧ ∀ (F A B : Addr) (LA LB : List Addr) H', Same H H' → H' F = some (.lst [.ref A, .ref B]) → H' A = some (.lst (LA.map V.ref)) → H' B = some (.lst (LB.map V.ref)) → Spots H' LA (ribA m ((m - 2) * (m - 2))) → Spots H' LB (ribB m ((m - 2) * (m - 2))) → Q (.ref F) H'
theorem ok__law_ribbons (T : Txt K mg) : FnOk P w K mg base CX0 1 T.f__law_ribbons T.d__law_ribbons ["_law_many"] sp_rib := by
  refine T.F__law_ribbons.ok sc__law_ribbons (fun vs H Q E h => ?_) (fun cdv A outer s H vs Q E hr h => ?_)
  · obtain ⟨m, rfl, _⟩ := h
    rfl
  · obtain ⟨m, rfl, m1, m2, q⟩ := h
    refine ⟨_, (pss_cons (ps_par (i := 1) (j := 2) (by rfl) sc__law_ribbons.nd rfl rfl (by decide) rfl rfl (pa_cons (pe_lst pa_nil) (pa_cons (pe_lst pa_nil) pa_nil)) (by rfl))
      (pss_cons (ps_for PassesOwn.never rfl (pi_range1 (by rfl) T.n_range (pa_cons (pe_op op_mul (pe_op op_sub (pv 0) pe_int) (pe_op op_sub (pv 0) pe_int)) pa_nil)) (pg_name (i := 3) sc__law_ribbons.nd rfl (.inl rfl)) (pss_cons (ps_set (i := 4) sc__law_ribbons.nd rfl (.inl rfl) (pe_tup (pa_cons (pe_op op_add pe_int (pe_op op_fdiv (pv 3) (pe_op op_sub (pv 0) pe_int))) (pa_cons (pe_op op_add pe_int (pe_op op_mod (pe_callTy call_int1 (by rfl) T.n_int (by decide +kernel) (pa_cons (pv 3) pa_nil)) (pe_op op_sub (pv 0) pe_int))) pa_nil))))
      (pss_one (ps_if (pt_cmpR op_lt (pe_callB call_len_seq (by rfl) T.n_len (by decide +kernel) (pa_cons (pv 1) pa_nil)) pe_int (nomark _)) (pss_one (ps_expr (pe_bm PySem.F.plainAttrs_list PySem.F.slot_list_append PySem.F.type_list_append mt_append (pv 1) (pa_cons (pv 4) pa_nil)))) pss_nil))))
      (pss_cons (ps_for PassesOwn.never rfl (pi_range1 (by rfl) T.n_range (pa_cons (pe_op op_mul (pe_op op_sub (pv 0) pe_int) (pe_op op_sub (pv 0) pe_int)) pa_nil)) (pg_name (i := 3) sc__law_ribbons.nd rfl (.inl rfl)) (pss_cons (ps_set (i := 4) sc__law_ribbons.nd rfl (.inl rfl) (pe_tup (pa_cons (pe_op op_sub (pe_op op_sub (pv 0) pe_int) (pe_op op_mod (pe_callTy call_int1 (by rfl) T.n_int (by decide +kernel) (pa_cons (pv 3) pa_nil)) (pe_op op_sub (pv 0) pe_int))) (pa_cons (pe_op op_add pe_int (pe_op op_fdiv (pv 3) (pe_op op_sub (pv 0) pe_int))) pa_nil))))
      (pss_one (ps_if (PW.pt (pw_and (pt_cmpR op_lt (pe_callB call_len_seq (by rfl) T.n_len (by decide +kernel) (pa_cons (pv 2) pa_nil)) pe_int (nomark _)) (pw_and1 (pt_cmpR (op_notInD (un1 hr)) (pv 4) (pv 1) (by rfl))))) (pss_one (ps_expr (pe_bm PySem.F.plainAttrs_list PySem.F.slot_list_append PySem.F.type_list_append mt_append (pv 2) (pa_cons (pv 4) pa_nil)))) pss_nil))))
      (pss_one (ps_ret (pe_lst (pa_cons (pv 1) (pa_cons (pv 2) pa_nil)))))))), ?_⟩
    have q2 : (m - 2) * (m - 2) ≤ 484 := Nat.mul_le_mul (show m - 2 ≤ 22 by omega) (show m - 2 ≤ 22 by omega)
    have eN1 := eN m1
    refine ⟨(by show 0 ≤ sizeLine; decide), fun a na => ⟨(by show 0 ≤ sizeLine; decide), fun b nb => ?_⟩⟩
    have sa := same_upd (o := .lst []) na
    have sb := same_upd (o := .lst []) nb
    have ga := sb _ _ (upd_same (H := H) (a := a) (o := .lst []))
    have gb := upd_same (H := upd H a (.lst [])) (a := b) (o := .lst [])
    have nb0 : H b = none := Same.free sa nb
    have nab : a ≠ b := fun e => by rw [← e, upd_same] at nb; cases nb
    have s0 := sa.trans sb
    generalize (upd (upd H a (.lst [])) b (.lst [])) = H1 at s0 ga gb ⊢
    clear sa sb nb
    refine ⟨_, _, rfl, ?_⟩
    refine ⟨_, rfl, _, _, rfl, rfl, _, rfl, _, _, rfl, rfl, _, _, rfl, rfl, .inl ⟨by omega, by omega⟩, (((m - 2) * (m - 2) : Nat) : Int), congrArg (fun z => [V.int z]) eN1, by omega, by omega, ?_⟩
    refine for_range (lo := 0) (n := (m - 2) * (m - 2)) (fun i σ H' => ∃ (z3 z4 : Option V) (LA : List Addr), σ = [some (vN m), some (.ref a), some (.ref b), z3, z4] ∧ Same H H' ∧ H' a = some (.lst (LA.map V.ref)) ∧ H' b = some (.lst []) ∧ Spots H' LA (ribA m i)) ⟨_, _, [], rfl, s0, ga, gb, .nil⟩ ?_ ?_
    · rintro i σ H2 hi ⟨z3, z4, LA, rfl, s2, ga2, gb2, sp⟩
      refine ⟨_, rfl, _, rfl, _, _, rfl, rfl, _, _, rfl, rfl, ⟨by omega, by omega⟩, _, _, rfl, rfl, ?_⟩
      refine ⟨_, rfl, .inl ⟨_, rfl, _, rfl, _, _, rfl, rfl, _, _, rfl, rfl, by omega, _, _, rfl, rfl, (by show 2 ≤ sizeLine; decide), fun t nt => ?_⟩⟩
      have st := same_upd (o := .tup [.int (1 + (0 + (i : Int)) / ((m : Int) - 2)), .int (1 + (0 + (i : Int)) % ((m : Int) - 2))]) nt
      have gt : (upd H2 t (.tup [.int (1 + (0 + (i : Int)) / ((m : Int) - 2)), .int (1 + (0 + (i : Int)) % ((m : Int) - 2))])) t = some (tQ (spA m i)) := by
        rw [upd_same, eA1 m1, eA2 m1]
        rfl
      generalize (upd H2 t (.tup [.int (1 + (0 + (i : Int)) / ((m : Int) - 2)), .int (1 + (0 + (i : Int)) % ((m : Int) - 2))])) = H3 at st gt ⊢
      have s3 := s2.trans st
      have ga3 := st _ _ ga2
      have gb3 := st _ _ gb2
      have sp3 := sp.same st
      refine ⟨_, rfl, a, _, rfl, .inl (.inl (.inl ga3)), _, _, rfl, rfl, _, rfl, ?_⟩
      have lt : (LA.map V.ref).length = (ribA m i).length := by rw [List.length_map, sp.len]
      refine ite2 (fun c => ?_) (fun c => ?_)
      · have c2 := of_decide_eq_true c
        have c3 : (ribA m i).length < 10 := by omega
        refine ⟨_, rfl, .inl ⟨rfl, _, .inl (.inl ga3)⟩, _, rfl, a, _, _, rfl, rfl, ga3, small1000 (by omega), ?_⟩
        have s4 : Same H (upd H3 a (.lst (LA.map V.ref ++ [.ref t]))) := fun x o hx => by
          rw [upd_ne (ne_of_none hx na)]
          exact s3 _ _ hx
        refine ⟨_, _, LA ++ [t], rfl, s4, by rw [upd_same, List.map_append]; rfl, by rw [upd_ne nab.symm]; exact gb3, ?_⟩
        rw [ribA_step, if_pos c3]
        exact (sp3.snoc gt).keep fun x xs hx => by rw [upd_ne (fun e => by rw [e, ga3] at hx; cases hx)]; exact hx
      · have c3 : ¬ (ribA m i).length < 10 := fun z => c (decide_eq_true (by omega))
        refine ⟨_, _, LA, rfl, s3, ga3, gb3, ?_⟩
        rw [ribA_step, if_neg c3]
        exact sp3
    · rintro σ H2 ⟨z3, z4, LA, rfl, s2, ga2, gb2, sp⟩
      refine ⟨_, rfl, _, _, rfl, rfl, _, rfl, _, _, rfl, rfl, _, _, rfl, rfl, .inl ⟨by omega, by omega⟩, (((m - 2) * (m - 2) : Nat) : Int), congrArg (fun z => [V.int z]) eN1, by omega, by omega, ?_⟩
      refine for_range (lo := 0) (n := (m - 2) * (m - 2)) (fun i σ H' => ∃ (z3 z4 : Option V) (LB : List Addr), σ = [some (vN m), some (.ref a), some (.ref b), z3, z4] ∧ Same H H' ∧ H' a = some (.lst (LA.map V.ref)) ∧ H' b = some (.lst (LB.map V.ref)) ∧ Spots H' LA (ribA m ((m - 2) * (m - 2))) ∧ Spots H' LB (ribB m i)) ⟨_, _, [], rfl, s2, ga2, gb2, sp, .nil⟩ ?_ ?_
      · clear s2 ga2 gb2 sp z3 z4 H2
        rintro i σ H2 hi ⟨z3, z4, LB, rfl, s2, ga2, gb2, spA0, sp⟩
        refine ⟨_, rfl, _, _, rfl, rfl, _, rfl, .inl ⟨_, rfl, _, rfl, _, _, rfl, rfl, _, _, rfl, rfl, by omega, _, _, rfl, rfl, ?_⟩⟩
        refine ⟨_, rfl, _, rfl, _, _, rfl, rfl, _, _, rfl, rfl, ⟨by omega, by omega⟩, _, _, rfl, rfl, (by show 2 ≤ sizeLine; decide), fun t nt => ?_⟩
        have st := same_upd (o := .tup [.int ((m : Int) - 2 - (0 + (i : Int)) % ((m : Int) - 2)), .int (1 + (0 + (i : Int)) / ((m : Int) - 2))]) nt
        have gt : (upd H2 t (.tup [.int ((m : Int) - 2 - (0 + (i : Int)) % ((m : Int) - 2)), .int (1 + (0 + (i : Int)) / ((m : Int) - 2))])) t = some (tQ (spB m i)) := by
          rw [upd_same, eA1 m1, eB1 m1]
          rfl
        generalize (upd H2 t (.tup [.int ((m : Int) - 2 - (0 + (i : Int)) % ((m : Int) - 2)), .int (1 + (0 + (i : Int)) / ((m : Int) - 2))])) = H3 at st gt ⊢
        have s3 := s2.trans st
        have ga3 := st _ _ ga2
        have gb3 := st _ _ gb2
        have sp3 := sp.same st
        have spA3 := spA0.same st
        refine ⟨_, rfl, b, _, rfl, .inl (.inl (.inl gb3)), _, _, rfl, rfl, _, rfl, ?_⟩
        have lt : (LB.map V.ref).length = (ribB m i).length := by rw [List.length_map, sp.len]
        have stay : ¬((ribB m i).length < 10 ∧ spB m i ∉ ribA m ((m - 2) * (m - 2))) → Spots H3 LB (ribB m (i + 1)) := fun z => by
          rw [ribB_step, if_neg z]
          exact sp3
        refine ite2 (fun c => ?_) (fun c => ?_)
        · have c2 := of_decide_eq_true c
          have c3 : (ribB m i).length < 10 := by omega
          refine ⟨_, rfl, _, rfl, dQ (spB m i), (ribA m ((m - 2) * (m - 2))).map dQ, spot_dp gt, spA3.dp (.inl (.inl ga3)), dQ_shaped _, dQs_shaped _, _, rfl, ?_⟩
          rw [dQ_any]
          by_cases cm : (ribA m ((m - 2) * (m - 2))).contains (spB m i) = true
          · rw [cm]
            refine iteF ⟨_, _, LB, rfl, s3, ga3, gb3, spA3, stay fun z => z.2 (by simpa using cm)⟩
          · rw [Bool.not_eq_true] at cm
            rw [cm]
            have c4 : spB m i ∉ ribA m ((m - 2) * (m - 2)) := by simpa using cm
            refine iteT ⟨_, rfl, .inl ⟨rfl, _, .inl (.inl gb3)⟩, _, rfl, b, _, _, rfl, rfl, gb3, small1000 (by omega), ?_⟩
            have keep : ∀ x xs, H3 x = some (.tup xs) → (upd H3 b (.lst (LB.map V.ref ++ [.ref t]))) x = some (.tup xs) := fun x xs hx => by rw [upd_ne (fun e => by rw [e, gb3] at hx; cases hx)]; exact hx
            refine ⟨_, _, LB ++ [t], rfl, fun x o hx => ?_, by rw [upd_ne nab]; exact ga3, by rw [upd_same, List.map_append]; rfl, spA3.keep keep, ?_⟩
            · rw [upd_ne (ne_of_none hx nb0)]
              exact s3 _ _ hx
            · rw [ribB_step, if_pos ⟨c3, c4⟩]
              exact (sp3.snoc gt).keep keep
        · exact ⟨_, _, LB, rfl, s3, ga3, gb3, spA3, stay fun z => c (decide_eq_true (by omega))⟩
      · rintro σ H3 ⟨z3, z4, LB, rfl, s3, ga3, gb3, spA3, sp3⟩
        refine ⟨_, rfl, _, rfl, (by show 2 ≤ sizeLine; decide), fun F nF => ?_⟩
        have sF := same_upd (o := .lst [.ref a, .ref b]) nF
        exact q F a b LA LB _ (s3.trans sF) upd_same (sF _ _ ga3) (sF _ _ gb3) (spA3.same sF) (sp3.same sF)
/-! CUT -/
theorem flat_le {α : Type} (f : Nat → List α) (c : Nat) (h : ∀ x, (f x).length ≤ c) : ∀ k, ((List.range k).flatMap f).length ≤ c * k
  | 0 => Nat.zero_le _
  | k + 1 => by
    rw [List.range_succ, List.flatMap_append, List.length_append]
    have h1 := flat_le f c h k
    have h2 := h k
    have e : ([k].flatMap f).length = (f k).length := by simp
    rw [e, Nat.mul_succ]
    omega
theorem way_le (u : List (Nat × Nat)) {m b j : Nat} (h1 : m ≤ 24) (h2 : b ≤ 11) (h3 : j ≤ 22) : (wayTo u m b j).length ≤ 600 := by
  have hc : ∀ b j, (cellsW u m b j).length ≤ 2 := fun b j => by
    unfold cellsW
    exact Nat.le_trans (List.length_filter_le _ _) (by show 2 ≤ 2; decide)
  have e1 := flat_le (fun b => (List.range (m - 2)).flatMap (cellsW u m b)) 44 (fun x => Nat.le_trans (flat_le _ 2 (hc x) (m - 2)) (by omega)) b
  have e2 := flat_le (cellsW u m b) 2 (hc b) j
  unfold wayTo
  rw [List.length_append]
  omega
theorem side_half {m : Nat} (h : SideOk m) : ∃ k, m = 2 * k + 2 ∧ 3 ≤ k ∧ k ≤ 11 := by
  rcases h with rfl | rfl | rfl | rfl | rfl
  · exact ⟨3, by decide, by decide, by decide⟩
  · exact ⟨5, by decide, by decide, by decide⟩
  · exact ⟨7, by decide, by decide, by decide⟩
  · exact ⟨9, by decide, by decide, by decide⟩
  · exact ⟨11, by decide, by decide, by decide⟩
def stepW (b : Nat) : Int := if b % 2 = 0 then -1 else 1
theorem row_step {m b j : Nat} (hm : 8 ≤ m) (hj : j < m - 2) :
    (j + 1 < m - 2 → (rowW m b j : Int) + stepW b = ((rowW m b (j + 1) : Nat) : Int) ∧ (rowW m b j : Int) + stepW b ≠ 0 ∧ (rowW m b j : Int) + stepW b ≠ (m : Int) - 1) ∧
    (j + 1 = m - 2 → ((rowW m b j : Int) + stepW b = 0 ∨ ((rowW m b j : Int) + stepW b ≠ 0 ∧ (rowW m b j : Int) + stepW b = (m : Int) - 1)) ∧ rowW m b j = rowW m (b + 1) 0 ∧ 0 - stepW b = stepW (b + 1)) := by
  unfold rowW stepW
  by_cases h : b % 2 = 0
  · have h2 : ¬ (b + 1) % 2 = 0 := by omega
    simp only [if_pos h, if_neg h2]
    omega
  · have h2 : (b + 1) % 2 = 0 := by omega
    simp only [if_neg h, if_pos h2]
    omega
def sp_way : Sp := fun vs H Q _ => ∃ m : Nat, vs = [vN m] ∧ SideOk m ∧ ∀ (F : Addr) (L : List Addr) H', Same H H' → H' F = some (.lst (L.map V.ref)) → Spots H' L (wayF m) → Q (.ref F) H'
theorem ok__law_way (T : Txt K mg) : FnOk P w K mg base CX0 2 T.f__law_way T.d__law_way ["_law_many"] sp_way := by
  refine T.F__law_way.ok sc__law_way (fun vs H Q E h => ?_) (fun cdv A outer s H vs Q E hr h => ?_)
  · obtain ⟨m, rfl, _⟩ := h
    rfl
  · obtain ⟨m, rfl, hm, q⟩ := h
    refine ⟨_, (pss_cons (ps_asg (pe_tup (pa_cons (pe_callB (cr_sumL rfl) (by rfl) T.n_sum (by decide +kernel) (pa_cons (pe_call (ok__law_ribbons T) (hr.mono (by decide)) (by rfl) T.g__law_ribbons T.F__law_ribbons.kp T.b__law_ribbons .nil pass0 (pa_cons (pv 0) pa_nil)) (pa_cons (pe_lst pa_nil) pa_nil))) (pa_cons (pe_lst pa_nil) pa_nil))) (pg_tup rfl (pgs_cons (by first | exact (pg_name (i := 1) sc__law_way.nd rfl (.inr rfl)) | exact (pg_name (i := 1) sc__law_way.nd rfl (.inl rfl))) (pgs_cons (pg_name (i := 2) sc__law_way.nd rfl (.inl rfl)) pgs_nil))))
      (pss_cons (ps_par3 (i := 3) (j := 4) (l := 5) (by rfl) sc__law_way.nd rfl rfl rfl (by decide) (by decide) (by decide) rfl rfl rfl (pa_cons (pe_op op_sub (pv 0) pe_int) (pa_cons (pe_op op_sub (pv 0) pe_int) (pa_cons (pe_un un_neg pe_int) pa_nil))) (by rfl))
      (pss_cons (ps_while PassesOwn.never (pt_cmpR op_gt (pv 3) pe_int (nomark _)) (pss_cons (ps_set (i := 2) sc__law_way.nd rfl (.inl rfl) (pe_op op_cat (pv 2) (pe_lc (own := [("_law_spot", 6)]) rfl sc__law_way.nd (pi_list (pe_lst (pa_cons (pe_tup (pa_cons (pv 4) (pa_cons (pv 3) pa_nil))) (pa_cons (pe_tup (pa_cons (pv 4) (pa_cons (pe_op op_sub (pv 3) pe_int) pa_nil))) pa_nil)))) (blkOk_by (N := ["_law_many", "_law_used_so", "_law_found", "_law_column", "_law_row", "_law_step", "_law_spot"]) (sc := defScope s__law_way) (by decide +kernel)) (fun _ _ _ _ _ => by exact (pg_name (i := 6) sc__law_way.nd rfl (.inl rfl))) (fun _ _ _ _ _ => by exact (pts_one (pt_cmpR (op_notInDK (K := K) rfl (un1 hr)) (pv 6) (pv 1) (by rfl)))) (fun _ _ _ _ _ => by exact (pv 6)))))
      (pss_cons (ps_set (i := 4) sc__law_way.nd rfl (.inl rfl) (pe_op op_add (pv 4) (pv 5)))
      (pss_one (ps_if (PW.pt (pw_or (pt_cmpR op_eq (pv 4) pe_int (nomark _)) (pw_or1 (pt_cmpR op_eq (pv 4) (pe_op op_sub (pv 0) pe_int) (nomark _))))) (pss_one (ps_par3 (i := 3) (j := 4) (l := 5) (by rfl) sc__law_way.nd rfl rfl rfl (by decide) (by decide) (by decide) rfl rfl rfl (pa_cons (pe_op op_sub (pv 3) pe_int) (pa_cons (pe_op op_sub (pv 4) (pv 5)) (pa_cons (pe_op op_sub pe_int (pv 5)) pa_nil))) (by rfl))) pss_nil)))))
      (pss_one (ps_ret (pv 2)))))), ?_⟩
    obtain ⟨k, em, k1, k2⟩ := side_half hm
    refine ⟨_, rfl, m, rfl, by omega, by omega, fun F A B LA LB H1 s1 gF gA gB spA spB => ⟨(by show 0 ≤ sizeLine; decide), fun T0 nT => ?_⟩⟩
    have sT := same_upd (o := .lst []) nT
    have lA : LA.length ≤ 10 := by rw [spA.len]; exact List.length_take_le _ _
    have lB : LB.length ≤ 10 := by rw [spB.len]; exact List.length_take_le _ _
    refine ⟨F, T0, [A, B], [LA.map V.ref, LB.map V.ref], rfl, .inl (.inl (sT _ _ gF)), upd_same, ⟨rfl, fun j a r e1 e2 => ?_⟩, ?_, (by intro z; cases z), fun u H2 s2 gu => ?_⟩
    · cases j with
      | zero => cases e1; cases e2; exact .inl (.inl (sT _ _ gA))
      | succ j =>
        cases j with
        | zero => cases e1; cases e2; exact .inl (.inl (sT _ _ gB))
        | succ j => cases e1
    · simp
      omega
    have eU : [LA.map V.ref, LB.map V.ref].flatten = (LA ++ LB).map V.ref := by simp
    rw [eU] at gu
    have spU : Spots H2 (LA ++ LB) (usedF m) := (spA.append spB).same (sT.trans s2)
    have s02 := (s1.trans sT).trans s2
    generalize LA ++ LB = LU at gu spU
    clear spA spB gA gB gF sT nT s2 eU lA lB s1
    refine ⟨(by show 0 ≤ sizeLine; decide), fun f nf => ⟨(by show 2 ≤ sizeLine; decide), fun tp ntp => ?_⟩⟩
    have sf := (same_upd (o := .lst []) nf).trans (same_upd (o := .tup [.ref u, .ref f]) ntp)
    have gf := (same_upd (o := .tup [.ref u, .ref f]) ntp) _ _ (upd_same (H := H2) (a := f) (o := .lst []))
    refine ⟨tp, [_, _], rfl, .inl (.inl upd_same), rfl, _, [_], rfl, _, [], rfl, rfl, ?_⟩
    generalize (upd (upd H2 f (.lst [])) tp (.tup [.ref u, .ref f])) = H3 at sf gf ⊢
    have s03 := s02.trans sf
    have gu3 := sf _ _ gu
    have spU3 := spU.same sf
    clear s02 sf gu spU nf ntp
    refine ⟨_, rfl, _, _, rfl, rfl, _, rfl, _, _, rfl, rfl, _, rfl, _, _, _, rfl, ?_⟩
    refine ⟨fun n σ H' => ∃ (b j : Nat) (z6 : Option V) (fa : Addr) (L : List Addr), n = (12 - b) * 100 - j ∧ σ = [some (vN m), some (.ref u), some (.ref fa), some (.int ((m : Int) - 2 - 2 * (b : Int))), some (vN (rowW m b j)), some (.int (stepW b)), z6] ∧
      Same H H' ∧ H' u = some (.lst (LU.map V.ref)) ∧ H' fa = some (.lst (L.map V.ref)) ∧ Spots H' LU (usedF m) ∧ Spots H' L (wayTo (usedF m) m b j) ∧ ((b < k ∧ j < m - 2) ∨ (b = k ∧ j = 0)), ⟨_, 0, 0, none, f, [], rfl, ?_, s03, gu3, gf, spU3, .nil, .inl ⟨by omega, by omega⟩⟩, ?_⟩
    · have e1 : V.int ((m : Int) - 2) = vN (rowW m 0 0) := by
        have : ((m : Int) - 2) = ((m - 2 : Nat) : Int) := by omega
        show V.int ((m : Int) - 2) = V.int ((m - 2 : Nat) : Int)
        rw [this]
      have e2 : ((m : Int) - 2 - 2 * ((0 : Nat) : Int)) = (m : Int) - 2 := by omega
      rw [e2, ← e1]
      rfl
    rintro n σ H4 ⟨b, j, z6, fa, L, rfl, rfl, s4, gu4, gf4, spU4, sp4, cond⟩
    clear s03 gu3 gf spU3 f H3
    refine ⟨_, rfl, _, _, rfl, rfl, _, rfl, ?_⟩
    refine ite2 (fun c => ?_) (fun c => ?_)
    · have c1 := of_decide_eq_true c
      obtain ⟨hb, hj⟩ : b < k ∧ j < m - 2 := by
        rcases cond with h | h
        · exact h
        · omega
      clear cond c
      refine ⟨_, fun σ' H' h => h, ?_⟩
      have eC : ((m : Int) - 2 - 2 * (b : Int)) = ((m - 2 - 2 * b : Nat) : Int) := by omega
      have eC2 : ((m : Int) - 2 - 2 * (b : Int)) - 1 = ((m - 3 - 2 * b : Nat) : Int) := by omega
      refine ⟨_, rfl, _, rfl, _, rfl, (by show 2 ≤ sizeLine; decide), fun t1 n1 => ⟨_, rfl, _, rfl, _, _, rfl, rfl, (by show 2 ≤ sizeLine; decide), fun t2 n2 => ⟨(by show 2 ≤ sizeLine; decide), fun l nl => ?_⟩⟩⟩
      have g1 : (upd H4 t1 (.tup [vN (rowW m b j), .int ((m : Int) - 2 - 2 * (b : Int))])) t1 = some (tQ (rowW m b j, m - 2 - 2 * b)) := by
        rw [upd_same, eC]
        rfl
      have st1 := same_upd (o := .tup [vN (rowW m b j), .int ((m : Int) - 2 - 2 * (b : Int))]) n1
      generalize (upd H4 t1 (.tup [vN (rowW m b j), .int ((m : Int) - 2 - 2 * (b : Int))])) = H5 at g1 st1 n2 nl ⊢
      have g2 : (upd H5 t2 (.tup [vN (rowW m b j), .int ((m : Int) - 2 - 2 * (b : Int) - 1)])) t2 = some (tQ (rowW m b j, m - 3 - 2 * b)) := by
        rw [upd_same, eC2]
        rfl
      have st2 := same_upd (o := .tup [vN (rowW m b j), .int ((m : Int) - 2 - 2 * (b : Int) - 1)]) n2
      generalize (upd H5 t2 (.tup [vN (rowW m b j), .int ((m : Int) - 2 - 2 * (b : Int) - 1)])) = H6 at g2 st2 nl ⊢
      have st3 := same_upd (o := .lst [.ref t1, .ref t2]) nl
      have gl := upd_same (H := H6) (a := l) (o := .lst [.ref t1, .ref t2])
      generalize (upd H6 l (.lst [.ref t1, .ref t2])) = H7 at st3 gl ⊢
      have s47 := (st1.trans st2).trans st3
      have sp2 : Spots H7 [t1, t2] [(rowW m b j, m - 2 - 2 * b), (rowW m b j, m - 3 - 2 * b)] := (Spots.one (st3 _ _ (st2 _ _ g1))).append (Spots.one (st3 _ _ g2))
      have spU7 := spU4.same s47
      have gu7 := s47 _ _ gu4
      have gf7 := s47 _ _ gf4
      have sp7 := sp4.same s47
      have s7 := s4.trans s47
      clear st1 st2 st3 g1 g2 s47 spU4 gu4 gf4 sp4 s4
      refine ⟨l, rfl, ⟨_, .inl (.inl gl)⟩, fun D hD => ?_⟩
      refine lc_it (walk_list (K := K) (a := l) (xs := [.ref t1, .ref t2])) (fun i H' => ∃ M : List Addr, Same H7 H' ∧ H' D = some (.lst (M.map V.ref)) ∧ M.length ≤ i ∧ Spots H' M (([(rowW m b j, m - 2 - 2 * b), (rowW m b j, m - 3 - 2 * b)].take i).filter fun q => !(usedF m).contains q)) ⟨[], same_upd hD, upd_same, Nat.zero_le _, .nil⟩ (fun i H' _ ⟨_, sm, _⟩ => .inl (.inl (sm _ _ gl))) ?_ ?_
      · rintro i v H8 H9 hi ⟨M, sm, gD, lM, spM⟩ ⟨rfl, e2⟩
        obtain ⟨t, c0, rfl, ec, gt⟩ : ∃ t c0, v = V.ref t ∧ [(rowW m b j, m - 2 - 2 * b), (rowW m b j, m - 3 - 2 * b)][i]? = some c0 ∧ H7 t = some (tQ c0) := by
          cases i with
          | zero => cases e2; exact ⟨t1, _, rfl, rfl, sp2.at' 0 _ _ rfl rfl⟩
          | succ i =>
            cases i with
            | zero => cases e2; exact ⟨t2, _, rfl, rfl, sp2.at' 1 _ _ rfl rfl⟩
            | succ i => exact absurd hi (by show ¬ _ < 2; omega)
        have hi2 : i < 2 := hi
        refine ⟨rfl, ?_⟩
        refine ⟨_, rfl, _, rfl, dQ c0, (usedF m).map dQ, spot_dp (sm _ _ gt), (spU7.same sm).dp (.inl (.inl (sm _ _ gu7))), dQ_shaped _, dQs_shaped _, _, rfl, ?_⟩
        rw [dQ_any]
        have etk : (([(rowW m b j, m - 2 - 2 * b), (rowW m b j, m - 3 - 2 * b)].take (i + 1)).filter fun q => !(usedF m).contains q) = (([(rowW m b j, m - 2 - 2 * b), (rowW m b j, m - 3 - 2 * b)].take i).filter fun q => !(usedF m).contains q) ++ if (!(usedF m).contains c0) = true then [c0] else [] := by
          rw [List.take_add_one, ec, List.filter_append]
          show _ ++ List.filter _ [c0] = _
          rw [List.filter_cons]
          rfl
        cases hc : (!(usedF m).contains c0) with
        | true =>
          rw [hc, if_pos rfl] at etk
          refine iteT ⟨_, rfl, _, gD, ?_, M ++ [t], ?_, ?_, ?_, ?_⟩
          · rw [List.length_map]
            exact small1000 (by omega)
          · exact fun x o hx => by
              rw [upd_ne (ne_of_none hx hD)]
              exact sm _ _ hx
          · rw [upd_same, List.map_append]
            rfl
          · rw [List.length_append]
            show M.length + 1 ≤ i + 1
            omega
          · rw [etk]
            exact (spM.snoc (sm _ _ gt)).keep fun x xs hx => by rw [upd_ne (fun e => by rw [e, gD] at hx; cases hx)]; exact hx
        | false =>
          rw [hc, if_neg (by decide), List.append_nil] at etk
          exact iteF ⟨M, sm, gD, by omega, by rw [etk]; exact spM⟩
      · rintro H8 ⟨M, sm, gD, lM, spM⟩
        have lM2 : M.length ≤ 2 := lM
        have lL : L.length ≤ 600 := by
          rw [sp7.len]
          exact way_le _ (side_le hm).2 (by omega) (by omega)
        refine ⟨fa, D, _, _, rfl, rfl, sm _ _ gf7, gD, ?_, fun f2 nf2 => ?_⟩
        · rw [List.length_map, List.length_map]
          exact Nat.le_of_lt (small1000 (by omega))
        have s8 := sm.trans (same_upd (o := .lst (L.map V.ref ++ M.map V.ref)) nf2)
        have g8 : (upd H8 f2 (.lst (L.map V.ref ++ M.map V.ref))) f2 = some (.lst ((L ++ M).map V.ref)) := by rw [upd_same, List.map_append]
        have sp8 : Spots (upd H8 f2 (.lst (L.map V.ref ++ M.map V.ref))) (L ++ M) (wayTo (usedF m) m b (j + 1)) := by
          rw [way_step]
          exact (sp7.same s8).append (spM.same (same_upd nf2))
        generalize (upd H8 f2 (.lst (L.map V.ref ++ M.map V.ref))) = H9 at s8 g8 sp8 ⊢
        have gu9 := s8 _ _ gu7
        have spU9 := spU7.same s8
        have s9 := s7.trans s8
        refine ⟨_, rfl, _, rfl, _, _, rfl, rfl, ?_⟩
        obtain ⟨r1, r2⟩ := row_step (b := b) (show 8 ≤ m by omega) hj
        by_cases cj : j + 1 < m - 2
        · obtain ⟨e1, ne0, ne1⟩ := r1 cj
          have f0 : decide (V.int ((rowW m b j : Int) + stepW b) = V.int 0) = false := decide_eq_false fun z => ne0 (V.int.inj z)
          have f1 : decide (V.int ((rowW m b j : Int) + stepW b) = V.int ((m : Int) - 1)) = false := decide_eq_false fun z => ne1 (V.int.inj z)
          refine ⟨_, rfl, rfl, _, rfl, ?_⟩
          show (fun (c : Bool) (H1 : Hp) => if c = true then _ else _) (decide (V.int ((rowW m b j : Int) + stepW b) = V.int 0)) H9
          rw [f0]
          refine iteF ⟨_, rfl, _, rfl, _, _, rfl, rfl, rfl, _, rfl, ?_⟩
          show (fun (c : Bool) (H1 : Hp) => if c = true then _ else _) (decide (V.int ((rowW m b j : Int) + stepW b) = V.int ((m : Int) - 1))) H9
          rw [f1]
          refine iteF ⟨(12 - b) * 100 - (j + 1), by omega, b, j + 1, z6, f2, L ++ M, rfl, ?_, s9, gu9, g8, spU9, sp8, .inl ⟨hb, cj⟩⟩
          show [_, _, _, _, some (V.int ((rowW m b j : Int) + stepW b)), _, _] = _
          rw [e1]
          rfl
        · obtain ⟨e1, e2, e3⟩ := r2 (by omega)
          have ej : j + 1 = m - 2 := by omega
          have fin : ∃ m', m' < (12 - b) * 100 - j ∧ ∃ b' j' z7 fa L', m' = (12 - b') * 100 - j' ∧ [some (vN m), some (V.ref u), some (V.ref f2), some (V.int ((m : Int) - 2 - 2 * (b : Int) - 2)), some (V.int ((rowW m b j : Int) + stepW b - stepW b)), some (V.int (0 - stepW b)), z6] = [some (vN m), some (.ref u), some (.ref fa), some (.int ((m : Int) - 2 - 2 * (b' : Int))), some (vN (rowW m b' j')), some (.int (stepW b')), z7] ∧
              Same H H9 ∧ H9 u = some (.lst (LU.map V.ref)) ∧ H9 fa = some (.lst (L'.map V.ref)) ∧ Spots H9 LU (usedF m) ∧ Spots H9 L' (wayTo (usedF m) m b' j') ∧ ((b' < k ∧ j' < m - 2) ∨ (b' = k ∧ j' = 0)) := by
            refine ⟨(12 - (b + 1)) * 100 - 0, by omega, b + 1, 0, z6, f2, L ++ M, rfl, ?_, s9, gu9, g8, spU9, ?_, ?_⟩
            · rw [e3, show (rowW m b j : Int) + stepW b - stepW b = (rowW m b j : Int) by omega, e2, show (m : Int) - 2 - 2 * (b : Int) - 2 = (m : Int) - 2 - 2 * ((b + 1 : Nat) : Int) by omega]
              rfl
            · rw [way_next, ← ej]
              exact sp8
            · by_cases cb : b + 1 < k
              · exact .inl ⟨cb, by omega⟩
              · exact .inr ⟨by omega, rfl⟩
          refine ⟨_, rfl, rfl, _, rfl, ?_⟩
          show (fun (c : Bool) (H1 : Hp) => if c = true then _ else _) (decide (V.int ((rowW m b j : Int) + stepW b) = V.int 0)) H9
          rcases e1 with h0 | ⟨n0, h1⟩
          · rw [decide_eq_true (congrArg V.int h0)]
            exact iteT (iteT ⟨_, rfl, _, _, rfl, rfl, _, rfl, _, rfl, _, _, rfl, rfl, _, rfl, _, _, rfl, rfl, _, _, _, rfl, fin⟩)
          · rw [decide_eq_false fun z => n0 (V.int.inj z)]
            refine iteF ⟨_, rfl, _, rfl, _, _, rfl, rfl, rfl, _, rfl, ?_⟩
            show (fun (c : Bool) (H1 : Hp) => if c = true then _ else _) (decide (V.int ((rowW m b j : Int) + stepW b) = V.int ((m : Int) - 1))) H9
            rw [decide_eq_true (congrArg V.int h1)]
            exact iteT ⟨_, rfl, _, _, rfl, rfl, _, rfl, _, rfl, _, _, rfl, rfl, _, rfl, _, _, rfl, rfl, _, _, _, rfl, fin⟩
    · have hb : b = k ∧ j = 0 := by
        rcases cond with h | h
        · exact absurd (decide_eq_true (show (0 : Int) < (m : Int) - 2 - 2 * (b : Int) by omega)) c
        · exact h
      obtain ⟨rfl, rfl⟩ := hb
      refine ⟨_, rfl, q fa L H4 s4 gf4 ?_⟩
      have e : wayF m = wayTo (usedF m) m b 0 := by
        unfold wayF
        rw [show (m - 2) / 2 = b by omega]
      rw [e]
      exact sp4
/-! CUT -/
/-! ### words read from dots -/
theorem str4 {s j : Nat} (hs : s < 5) (hj : j < 4) : strG (ptF s / 4) j 4 = true :=
  List.all_eq_true.mp (all5 (P := fun s => (List.range 4).all fun j => strG (ptF s / 4) j 4) (by decide +kernel) hs) j (List.mem_range.mpr hj)
theorem str2 {s j : Nat} (hs : s < 5) (hj : j < 2) : strG (ptF s / 8) j 2 = true :=
  List.all_eq_true.mp (all5 (P := fun s => (List.range 2).all fun j => strG (ptF s / 8) j 2) (by decide +kernel) hs) j (List.mem_range.mpr hj)
theorem pt_parts {s : Nat} (hs : s < 5) : ptF s = 4 * (ptF s / 4) ∧ ptF s / 4 ≤ 116 ∧ 0 < ptF s ∧ (bitsF s = 4 ∨ (bitsF s = 8 ∧ ptF s / 4 = 2 * (ptF s / 8))) :=
  of_decide_eq_true (all5 (P := fun s => decide (ptF s = 4 * (ptF s / 4) ∧ ptF s / 4 ≤ 116 ∧ 0 < ptF s ∧ (bitsF s = 4 ∨ (bitsF s = 8 ∧ ptF s / 4 = 2 * (ptF s / 8))))) (by decide +kernel) hs)
def sp_baw (K : PySem.W.Frag) : Sp := fun vs H Q _ => ∃ (s : Nat) (a : Addr) (os : List (Option Nat)), vs = [.ref a, vN (bitsF s)] ∧ s < 5 ∧ SqL K H a (os.map vG) ∧ os.length = ptF s ∧ (∀ o ∈ os, DotOk o) ∧
  ∀ D H', Same H H' → H D = none → H' D = some (.lst ((heardF (bitsF s) os).map vG)) → Q (.ref D) H'
theorem ok_bits_as_words (T : Txt K mg) : FnOk P w K mg base CX0 1 T.f_bits_as_words T.d_bits_as_words ["bits", "many"] (sp_baw K) := by
  refine T.F_bits_as_words.ok sc_bits_as_words (fun vs H Q E h => ?_) (fun cdv A outer s H vs Q E hr h => ?_)
  · obtain ⟨s, a, os, rfl, _⟩ := h
    rfl
  · obtain ⟨s0, a, os, rfl, hs, hq, hl, hd, q⟩ := h
    refine ⟨_, (pss_cons (ps_setLc (i := 2) (own := [("quad", 3)]) rfl sc_bits_as_words.nd rfl rfl (sw_true rfl rfl rfl (by decide +kernel)) (pi_zipN (K := K) rfl (by rfl) T.n_zip (pa_cons (pe_stride (K := K) rfl (by decide) (pv 0)) (pa_cons (pe_stride (K := K) rfl (by decide) (pv 0)) (pa_cons (pe_stride (K := K) rfl (by decide) (pv 0)) (pa_cons (pe_stride (K := K) rfl (by decide) (pv 0)) pa_nil))))) (blkOk_by (N := ["bits", "many", "quads", "quad", "high", "low"]) (sc := defScope s_bits_as_words) (by decide +kernel)) (fun _ _ _ _ _ => by exact (pg_name (i := 3) sc_bits_as_words.nd rfl (.inl rfl))) (fun _ _ _ _ _ => by exact pts_nil) (fun _ _ _ _ _ => by exact (pe_getO (K := K) (kvs := quadsT) rfl (un1 hr) T.l_QUAD_WORDS (by decide) (pe_glob (v := .ref T.a_QUAD_WORDS) (by rfl) T.g_QUAD_WORDS rfl) (pa_cons (pv 3) pa_nil))))
      (pss_cons (ps_if (pt_cmpR op_eq (pv 1) pe_int (nomark _)) (pss_one (ps_ret (pv 2))) pss_nil)
      (pss_one (ps_ret (pe_lc (own := [("high", 4), ("low", 5)]) (g := gTup K 2 (gCons (gName 4) (gCons (gName 5) gNil))) rfl sc_bits_as_words.nd (pi_zip (by rfl) T.n_zip (pa_cons (pe_stride (K := K) rfl (by decide) (pv 2)) (pa_cons (pe_stride (K := K) rfl (by decide) (pv 2)) pa_nil))) (blkOk_by (N := ["bits", "many", "quads", "quad", "high", "low"]) (sc := defScope s_bits_as_words) (by decide +kernel)) (fun _ _ _ _ _ => by (refine pg_tup ?_ ?_); (exact rfl); (refine pgs_cons ?_ ?_); (exact (pg_name (i := 4) sc_bits_as_words.nd rfl (.inl rfl))); (refine pgs_cons ?_ ?_); (exact (pg_name (i := 5) sc_bits_as_words.nd rfl (.inl rfl))); (exact pgs_nil)) (fun _ _ _ _ _ => by exact pts_nil) (fun _ _ _ _ _ => by exact (pe_ifExp (PW.pt (pw_or (pt_cmpR op_isN (pv 4) pe_non (nomark _)) (pw_or1 (pt_cmpR op_isN (pv 5) pe_non (nomark _))))) pe_non (pe_op op_or (pe_op op_shl (pv 4) pe_int) (pv 5))))))))), ?_⟩
    obtain ⟨pt4, pt116, pt0, hb⟩ := pt_parts hs
    have hl4 : os.length = 4 * (ptF s0 / 4) := by rw [hl]; exact pt4
    have st : ∀ j : Nat, j < 4 → (strideL (os.map vG) (j : Int) ((4 : Nat) : Int)).length = ptF s0 / 4 ∧ ∀ i, i < ptF s0 / 4 → (strideL (os.map vG) (j : Int) ((4 : Nat) : Int))[i]? = (os.map vG)[4 * i + j]? := fun j hj => stride_is (by rw [List.length_map]; exact hl4) (str4 hs hj) hj
    have part4 : ∀ i, i < ptF s0 / 4 → colAt [strideL (os.map vG) 0 4, strideL (os.map vG) 1 4, strideL (os.map vG) 2 4, strideL (os.map vG) 3 4] i = (partO os 4 i).map vG := fun i hi => by
      have lp := part_len hl4 hi
      obtain ⟨x0, x1, x2, x3, ep⟩ := four lp
      have at4 : ∀ j x, j < 4 → [x0, x1, x2, x3][j]? = some x → (os.map vG)[4 * i + j]? = some (vG x) := fun j x hj e => by
        rw [← ep, part_at hj] at e
        rw [List.getElem?_map, e]
        rfl
      have c : ∀ (j : Nat) (x : Option Nat), j < 4 → [x0, x1, x2, x3][j]? = some x → (strideL (os.map vG) (j : Int) ((4 : Nat) : Int)).getD i .non = vG x := fun j x hj e => by
        rw [List.getD_eq_getElem?_getD, (st j hj).2 i hi, at4 j x hj e]
        rfl
      rw [ep]
      show [(strideL (os.map vG) 0 4).getD i .non, (strideL (os.map vG) 1 4).getD i .non, (strideL (os.map vG) 2 4).getD i .non, (strideL (os.map vG) 3 4).getD i .non] = [vG x0, vG x1, vG x2, vG x3]
      rw [show (strideL (os.map vG) 0 4).getD i .non = vG x0 from c 0 x0 (by decide) rfl, show (strideL (os.map vG) 1 4).getD i .non = vG x1 from c 1 x1 (by decide) rfl, show (strideL (os.map vG) 2 4).getD i .non = vG x2 from c 2 x2 (by decide) rfl, show (strideL (os.map vG) 3 4).getD i .non = vG x3 from c 3 x3 (by decide) rfl]
    refine ⟨_, rfl, a, _, rfl, hq, fun p0 H1 s1 n1 g1 z1 => ?_⟩
    refine ⟨_, rfl, a, _, rfl, s1.seq hq, fun p1 H2 s2 n2 g2 z2 => ?_⟩
    refine ⟨_, rfl, a, _, rfl, s2.seq (s1.seq hq), fun p2 H3 s3 n3 g3 z3 => ?_⟩
    refine ⟨_, rfl, a, _, rfl, s3.seq (s2.seq (s1.seq hq)), fun p3 H4 s4 n4 g4 z4 => ?_⟩
    have s14 := ((s1.trans s2).trans s3).trans s4
    have rows : RowsL K H4 [p0, p1, p2, p3] [strideL (os.map vG) 0 4, strideL (os.map vG) 1 4, strideL (os.map vG) 2 4, strideL (os.map vG) 3 4] := ⟨rfl, fun j l r e1 e2 => by
      match j, e1, e2 with
      | 0, e1, e2 => cases e1; cases e2; exact .inl (.inl (s4 _ _ (s3 _ _ (s2 _ _ g1))))
      | 1, e1, e2 => cases e1; cases e2; exact .inl (.inl (s4 _ _ (s3 _ _ g2)))
      | 2, e1, e2 => cases e1; cases e2; exact .inl (.inl (s4 _ _ g3))
      | 3, e1, e2 => cases e1; cases e2; exact .inl (.inl g4)⟩
    refine ⟨[p0, p1, p2, p3], _, rfl, rows, by simp, by show 4 ≤ 1000; decide, fun D hD => ?_⟩
    refine lc_it (walk_zipS (K := K) (L := [p0, p1, p2, p3]) (rows := [strideL (os.map vG) 0 4, strideL (os.map vG) 1 4, strideL (os.map vG) 2 4, strideL (os.map vG) 3 4]) (n := ptF s0 / 4) (by simp) (fun r hr => ?_)) (fun i H' => Same H4 H' ∧ H' D = some (.lst (((List.range i).map fun i => wordO (partO os 4 i)).map vG))) ⟨same_upd hD, upd_same⟩ (fun i H' _ h => Same.rows h.1 rows) ?_ ?_
    · simp only [List.mem_cons, List.not_mem_nil, or_false] at hr
      rcases hr with rfl | rfl | rfl | rfl
      · exact (st 0 (by decide)).1
      · exact (st 1 (by decide)).1
      · exact (st 2 (by decide)).1
      · exact (st 3 (by decide)).1
    · rintro i v H5 H6 hi ⟨sm, g⟩ ⟨T1, rfl, hT, rfl⟩
      rw [part4 i hi]
      refine ⟨rfl, ?_⟩
      refine ⟨rfl, _, rfl, T1, _, rfl, rfl, .inl (.inl upd_same), ?_⟩
      rw [quad_word (part_len hl4 hi) (part_dot hd)]
      have sT := same_upd (o := .tup ((partO os 4 i).map vG)) hT
      have g6 := sT _ _ g
      refine ⟨_, g6, ?_, fun c o' hc => ?_, ?_⟩
      · rw [List.length_map, List.length_map, List.length_range]
        exact small1000 (by omega)
      · rw [upd_ne (ne_of_none hc hD)]
        exact sT _ _ (sm _ _ hc)
      · rw [upd_same, List.range_succ, List.map_append, List.map_append]
        rfl
    · rintro H5 ⟨sm, g⟩
      have s15 := s14.trans sm
      have hD0 : H D = none := Same.free s14 hD
      refine ⟨_, rfl, rfl, _, rfl, ?_⟩
      rcases hb with hb | ⟨hb, hpp⟩
      · have eh : heardF (bitsF s0) os = (List.range (ptF s0 / 4)).map fun i => wordO (partO os 4 i) := by
          unfold heardF
          rw [hb, hl]
        refine ite2 (fun _ => ?_) (fun c => absurd c (by simp [hb, vN]))
        exact ⟨_, rfl, q D H5 s15 hD0 (by rw [eh]; exact g)⟩
      · refine ite2 (fun c => absurd c (by simp [hb, vN])) (fun _ => ?_)
        have eh : heardF (bitsF s0) os = (List.range (ptF s0 / 8)).map fun i => wordO (partO os 8 i) := by
          unfold heardF
          rw [hb, hl]
        generalize hQL : ((List.range (ptF s0 / 4)).map fun i => wordO (partO os 4 i)) = QL at g
        have lQ : QL.length = 2 * (ptF s0 / 8) := by rw [← hQL, List.length_map, List.length_range]; exact hpp
        have st2 : ∀ j : Nat, j < 2 → (strideL (QL.map vG) (j : Int) ((2 : Nat) : Int)).length = ptF s0 / 8 ∧ ∀ i, i < ptF s0 / 8 → (strideL (QL.map vG) (j : Int) ((2 : Nat) : Int))[i]? = (QL.map vG)[2 * i + j]? := fun j hj => stride_is (by rw [List.length_map]; exact lQ) (str2 hs hj) hj
        have qAt : ∀ i, i < ptF s0 / 4 → QL[i]? = some (wordO (partO os 4 i)) := fun i hi => by
          rw [← hQL, List.getElem?_map, List.getElem?_range hi]
          rfl
        refine ⟨_, rfl, D, _, rfl, .inl (.inl g), fun p4 H6 s6 n6 g6 z6 => ?_⟩
        refine ⟨_, rfl, D, _, rfl, s6.seq (.inl (.inl g)), fun p5 H7 s7 n7 g7 z7 => ?_⟩
        refine ⟨p4, p5, _, _, rfl, .inl (.inl (s7 _ _ g6)), .inl (.inl g7), fun D2 hD2 => ?_⟩
        have hD20 : H D2 = none := Same.free ((s15.trans s6).trans s7) hD2
        refine lc_it (walk_zip (K := K) (a := p4) (b := p5) (xs := strideL (QL.map vG) 0 2) (ys := strideL (QL.map vG) 1 2) (n := ptF s0 / 8) (by rw [show (strideL (QL.map vG) 0 2).length = _ from (st2 0 (by decide)).1, show (strideL (QL.map vG) 1 2).length = _ from (st2 1 (by decide)).1]; omega)) (fun i H' => Same H7 H' ∧ H' D2 = some (.lst (((List.range i).map fun i => wordO (partO os 8 i)).map vG))) ⟨same_upd hD2, upd_same⟩ (fun i H' _ h => ⟨.inl (.inl (h.1 _ _ (s7 _ _ g6))), .inl (.inl (h.1 _ _ g7))⟩) ?_ ?_
        · rintro i v H8 H9 hi ⟨sm8, g8⟩ ⟨T1, x, y, rfl, hT, rfl, hx, hy⟩
          have hx := hx.symm.trans ((st2 0 (by decide)).2 i hi)
          have hy := hy.symm.trans ((st2 1 (by decide)).2 i hi)
          rw [List.getElem?_map, qAt _ (by omega)] at hx hy
          cases hx
          cases hy
          have sT := same_upd (o := .tup [vG (wordO (partO os 4 (2 * i + 0))), vG (wordO (partO os 4 (2 * i + 1)))]) hT
          refine ⟨T1, _, rfl, .inl (.inl upd_same), rfl, _, _, rfl, _, _, rfl, rfl, rfl, ?_⟩
          have g9 := sT _ _ g8
          have fin : ∃ acc, (upd H8 T1 (.tup [vG (wordO (partO os 4 (2 * i + 0))), vG (wordO (partO os 4 (2 * i + 1)))])) D2 = some (HO.lst acc) ∧ acc.length < sizeLine ∧ Same H7 (upd (upd H8 T1 (.tup [vG (wordO (partO os 4 (2 * i + 0))), vG (wordO (partO os 4 (2 * i + 1)))])) D2 (HO.lst (acc ++ [vG (wordO (partO os 8 i))]))) ∧
              upd (upd H8 T1 (.tup [vG (wordO (partO os 4 (2 * i + 0))), vG (wordO (partO os 4 (2 * i + 1)))])) D2 (HO.lst (acc ++ [vG (wordO (partO os 8 i))])) D2 = some (HO.lst (List.map vG (List.map (fun i => wordO (partO os 8 i)) (List.range (i + 1))))) := by
            refine ⟨_, g9, ?_, fun c o' hc => ?_, ?_⟩
            · rw [List.length_map, List.length_map, List.length_range]
              exact small1000 (by omega)
            · rw [upd_ne (ne_of_none hc hD2)]
              exact sT _ _ (sm8 _ _ hc)
            · rw [upd_same, List.range_succ, List.map_append, List.map_append]
              rfl
          generalize (upd H8 T1 (.tup [vG (wordO (partO os 4 (2 * i + 0))), vG (wordO (partO os 4 (2 * i + 1)))])) = H9 at fin ⊢
          have l1 := part_len hl4 (show 2 * i + 0 < ptF s0 / 4 by omega)
          have l2 := part_len hl4 (show 2 * i + 1 < ptF s0 / 4 by omega)
          have e8 : wordO (partO os 8 i) = joinO (wordO (partO os 4 (2 * i + 0))) (wordO (partO os 4 (2 * i + 1))) 4 := by
            have := word_app (partO os 4 (2 * i + 0)) (partO os 4 (2 * i + 1))
            rw [l2] at this
            rw [← this]
            exact congrArg wordO (part_two (b := 4))
          have w1 := fun x => word_lt (x := x) (part_dot (os := os) (b := 4) (i := 2 * i + 0) hd)
          have w2 := fun x => word_lt (x := x) (part_dot (os := os) (b := 4) (i := 2 * i + 1) hd)
          rw [l1] at w1
          rw [l2] at w2
          generalize wordO (partO os 8 i) = W8 at e8 fin
          generalize wordO (partO os 4 (2 * i + 0)) = A1 at e8 w1 ⊢
          generalize wordO (partO os 4 (2 * i + 1)) = A2 at e8 w2 ⊢
          subst e8
          cases A1 with
          | none => exact ⟨_, rfl, rfl, _, rfl, ite2 (fun _ => fin) (fun c => absurd c (by decide))⟩
          | some x =>
            refine ⟨_, rfl, rfl, _, rfl, ite2 (fun c => absurd c (by rw [decide_eq_false (fun e => by cases e)]; decide)) (fun _ => ?_)⟩
            cases A2 with
            | none => exact ⟨_, rfl, rfl, _, rfl, ite2 (fun _ => fin) (fun c => absurd c (by decide))⟩
            | some y =>
              refine ⟨_, rfl, rfl, _, rfl, ite2 (fun c => absurd c (by rw [decide_eq_false (fun e => by cases e)]; decide)) (fun _ => ?_)⟩
              have ev : V.int (Builtin.bitOr ((x : Int) * 2 ^ (4 : Int).toNat) (y : Int)) = vG (joinO (some x) (some y) 4) := congrArg V.int (or16 (w1 x rfl) (w2 y rfl))
              rw [← ev] at fin
              have := w1 x rfl
              exact ⟨_, rfl, _, _, rfl, rfl, ⟨by decide, by omega⟩, _, rfl, _, _, rfl, rfl, fin⟩
        · rintro H8 ⟨sm8, g8⟩
          exact q D2 H8 (((s15.trans s6).trans s7).trans sm8) hD20 (by rw [eh]; exact g8)
/-! CUT -/
/-! ### words in grids -/
def pathsD : List (List Int) := [[54, 53, 46, 45, 38, 37, 30, 29, 22, 21, 28, 27, 36, 35, 44, 52], [130, 129, 118, 117, 106, 105, 94, 93, 82, 81, 70, 69, 58, 57, 46, 45, 34, 33, 32, 31, 44, 43, 56, 55, 68, 67, 80, 79, 92, 91, 104, 103, 116, 115, 128, 127, 126, 125, 114, 113, 102, 101, 90, 89, 78, 77, 66, 65, 54, 53, 42, 41, 30, 29, 28, 27, 40, 39, 52, 51, 64, 63, 76, 75, 88, 87, 100, 99, 112, 111, 124, 123, 110, 98, 86, 74, 62, 50, 38, 26], [238, 237, 222, 221, 206, 205, 190, 189, 174, 173, 158, 157, 142, 141, 126, 125, 110, 109, 94, 93, 78, 77, 62, 61, 46, 45, 30, 29, 28, 27, 44, 43, 60, 59, 76, 75, 92, 91, 108, 107, 124, 123, 140, 139, 156, 155, 172, 171, 188, 187, 204, 203, 220, 219, 236, 235, 234, 233, 218, 217, 202, 201, 186, 185, 170, 169, 154, 153, 138, 137, 122, 121, 106, 105, 90, 89, 74, 73, 58, 57, 42, 41, 40, 39, 56, 55, 72, 71, 88, 87, 104, 103, 120, 119, 136, 135, 152, 151, 168, 167, 184, 183, 200, 199, 216, 215, 232, 231, 230, 229, 214, 213, 198, 197, 182, 181, 166, 165, 150, 149, 134, 133, 118, 117, 102, 101, 86, 85, 70, 69, 54, 53, 38, 37, 36, 35, 52, 51, 68, 67, 84, 83, 100, 99, 116, 115, 132, 131, 148, 147, 164, 163, 180, 179, 196, 195, 212, 211, 228, 227, 226, 210, 194, 178, 162, 146, 130, 114, 98, 82, 66, 65, 50, 49, 34, 33], [378, 377, 358, 357, 338, 337, 318, 317, 298, 297, 278, 277, 258, 257, 238, 237, 218, 217, 198, 197, 178, 177, 158, 157, 138, 137, 118, 117, 98, 97, 78, 77, 58, 57, 38, 37, 36, 35, 56, 55, 76, 75, 96, 95, 116, 115, 136, 135, 156, 155, 176, 175, 196, 195, 216, 215, 236, 235, 256, 255, 276, 275, 296, 295, 316, 315, 336, 335, 356, 355, 376, 375, 374, 373, 354, 353, 334, 333, 314, 313, 294, 293, 274, 273, 254, 253, 234, 233, 214, 213, 194, 193, 174, 173, 154, 153, 134, 133, 114, 113, 94, 93, 74, 73, 54, 53, 34, 33, 32, 31, 52, 51, 72, 71, 92, 91, 112, 111, 132, 131, 152, 151, 172, 171, 192, 191, 212, 211, 232, 231, 252, 251, 272, 271, 292, 291, 312, 311, 332, 331, 352, 351, 372, 371, 370, 369, 350, 349, 330, 329, 310, 309, 290, 289, 270, 269, 250, 249, 230, 229, 210, 209, 190, 189, 170, 169, 150, 149, 130, 129, 110, 109, 90, 89, 70, 69, 50, 49, 48, 47, 68, 67, 88, 87, 108, 107, 128, 127, 148, 147, 168, 167, 188, 187, 208, 207, 228, 227, 248, 247, 268, 267, 288, 287, 308, 307, 328, 327, 348, 347, 368, 367, 366, 365, 346, 345, 326, 325, 306, 305, 286, 285, 266, 265, 246, 245, 226, 225, 206, 205, 186, 185, 166, 165, 146, 145, 126, 125, 106, 105, 86, 85, 66, 65, 46, 45, 44, 43, 64, 63, 84, 83, 104, 103, 124, 123, 144, 143, 164, 163, 184, 183, 204, 203, 224, 223, 244, 243, 264, 263, 284, 283, 304, 303, 324, 323, 344, 343, 364, 363, 362, 342, 322, 302, 282, 262, 242, 222, 202, 182, 162, 161, 142, 141, 122, 121, 102, 101, 82, 81, 62, 61, 42, 41], [550, 549, 526, 525, 502, 501, 478, 477, 454, 453, 430, 429, 406, 405, 382, 381, 358, 357, 334, 333, 310, 309, 286, 285, 262, 261, 238, 237, 214, 213, 190, 189, 166, 165, 142, 141, 118, 117, 94, 93, 70, 69, 46, 45, 44, 43, 68, 67, 92, 91, 116, 115, 140, 139, 164, 163, 188, 187, 212, 211, 236, 235, 260, 259, 284, 283, 308, 307, 332, 331, 356, 355, 380, 379, 404, 403, 428, 427, 452, 451, 476, 475, 500, 499, 524, 523, 548, 547, 546, 545, 522, 521, 498, 497, 474, 473, 450, 449, 426, 425, 402, 401, 378, 377, 354, 353, 330, 329, 306, 305, 282, 281, 258, 257, 234, 233, 210, 209, 186, 185, 162, 161, 138, 137, 114, 113, 90, 89, 66, 65, 42, 41, 40, 39, 64, 63, 88, 87, 112, 111, 136, 135, 160, 159, 184, 183, 208, 207, 232, 231, 256, 255, 280, 279, 304, 303, 328, 327, 352, 351, 376, 375, 400, 399, 424, 423, 448, 447, 472, 471, 496, 495, 520, 519, 544, 543, 542, 541, 518, 517, 494, 493, 470, 469, 446, 445, 422, 421, 398, 397, 374, 373, 350, 349, 326, 325, 302, 301, 278, 277, 254, 253, 230, 229, 206, 205, 182, 181, 158, 157, 134, 133, 110, 109, 86, 85, 62, 61, 38, 37, 36, 35, 60, 59, 84, 83, 108, 107, 132, 131, 156, 155, 180, 179, 204, 203, 228, 227, 252, 251, 276, 275, 300, 299, 324, 323, 348, 347, 372, 371, 396, 395, 420, 419, 444, 443, 468, 467, 492, 491, 516, 515, 540, 539, 538, 537, 514, 513, 490, 489, 466, 465, 442, 441, 418, 417, 394, 393, 370, 369, 346, 345, 322, 321, 298, 297, 274, 273, 250, 249, 226, 225, 202, 201, 178, 177, 154, 153, 130, 129, 106, 105, 82, 81, 58, 57, 56, 55, 80, 79, 104, 103, 128, 127, 152, 151, 176, 175, 200, 199, 224, 223, 248, 247, 272, 271, 296, 295, 320, 319, 344, 343, 368, 367, 392, 391, 416, 415, 440, 439, 464, 463, 488, 487, 512, 511, 536, 535, 534, 533, 510, 509, 486, 485, 462, 461, 438, 437, 414, 413, 390, 389, 366, 365, 342, 341, 318, 317, 294, 293, 270, 269, 246, 245, 222, 221, 198, 197, 174, 173, 150, 149, 126, 125, 102, 101, 78, 77, 54, 53, 52, 51, 76, 75, 100, 99, 124, 123, 148, 147, 172, 171, 196, 195, 220, 219, 244, 243, 268, 267, 292, 291, 316, 315, 340, 339, 364, 363, 388, 387, 412, 411, 436, 435, 460, 459, 484, 483, 508, 507, 532, 531, 530, 506, 482, 458, 434, 410, 386, 362, 338, 314, 290, 289, 266, 265, 242, 241, 218, 217, 194, 193, 170, 169, 146, 145, 122, 121, 98, 97, 74, 73, 50, 49]]
theorem path_is {s : Nat} (hs : s < 5) : pathsD.getD s [] = ((wayF (sdF s)).map fun q => q.1 * sdF s + q.2).map fun n : Nat => (n : Int) := by
  rw [way_at hs]
  exact eq_of_beq (all5 (P := fun s => pathsD.getD s [] == ((wayL.getD s []).map fun q => q.1 * sdF s + q.2).map fun n : Nat => (n : Int)) (by decide +kernel) hs)
theorem path_at (T : Txt K mg) {s : Nat} (hs : s < 5) : ∃ c, atI ([T.c_PATHS0, T.c_PATHS1, T.c_PATHS2, T.c_PATHS3, T.c_PATHS4].map V.ref) (s : Int) = some (.ref c) ∧ ∀ H, SqT K H c (((wayF (sdF s)).map fun q => q.1 * sdF s + q.2).map vN) := by
  have e : ((wayF (sdF s)).map fun q => q.1 * sdF s + q.2).map vN = (pathsD.getD s []).map V.int := by
    rw [path_is hs, List.map_map (g := V.int)]
    rfl
  rw [e]
  have : s = 0 ∨ s = 1 ∨ s = 2 ∨ s = 3 ∨ s = 4 := by omega
  rcases this with rfl | rfl | rfl | rfl | rfl
  · exact ⟨T.c_PATHS0, rfl, fun H => tupB_ok (xs := pathsD.getD 0 []) T.t_PATHS0⟩
  · exact ⟨T.c_PATHS1, rfl, fun H => tupB_ok (xs := pathsD.getD 1 []) T.t_PATHS1⟩
  · exact ⟨T.c_PATHS2, rfl, fun H => tupB_ok (xs := pathsD.getD 2 []) T.t_PATHS2⟩
  · exact ⟨T.c_PATHS3, rfl, fun H => tupB_ok (xs := pathsD.getD 3 []) T.t_PATHS3⟩
  · exact ⟨T.c_PATHS4, rfl, fun H => tupB_ok (xs := pathsD.getD 4 []) T.t_PATHS4⟩
/-- the dots on the way through a grid -/
def dotsF (s : Nat) (g : Grid) : List (Option Nat) := (wayF (sdF s)).map fun q => cell g q.1 q.2
theorem wdots_len {s : Nat} (hs : s < 5) (g : Grid) : (dotsF s g).length = ptF s := by
  unfold dotsF
  rw [List.length_map, way_len hs]
theorem cell_ok {n : Nat} {g : Grid} (sq : Sq n g) {i j : Nat} (hi : i < n) (hj : j < n) : DotOk (cell g i j) :=
  sq.dot _ (getD_mem (by rw [sq.len]; exact hi)) _ (getD_mem (by rw [sq.row _ (getD_mem (by rw [sq.len]; exact hi))]; exact hj))
theorem wdots_ok {s : Nat} (hs : s < 5) {g : Grid} (sq : Sq (sdF s) g) : ∀ o ∈ dotsF s g, DotOk o := by
  intro o ho
  obtain ⟨q, hq, rfl⟩ := List.mem_map.mp ho
  have hi := way_in hs hq
  exact cell_ok sq hi.1 hi.2
theorem flat_at {α : Type} {n : Nat} : ∀ {g : List (List α)}, (∀ r ∈ g, r.length = n) → ∀ {i j : Nat} {r : List α}, g[i]? = some r → j < n → g.flatten[i * n + j]? = r[j]?
  | [], _, i, j, r, e, _ => by cases e
  | r0 :: g, h, 0, j, r, e, hj => by
    cases e
    rw [List.flatten_cons, Nat.zero_mul, Nat.zero_add, List.getElem?_append_left (by rw [h r0 (List.mem_cons_self ..)]; exact hj)]
  | r0 :: g, h, i + 1, j, r, e, hj => by
    have hl := h r0 (List.mem_cons_self ..)
    rw [List.flatten_cons, List.getElem?_append_right (by rw [hl, Nat.succ_mul]; omega), hl, Nat.succ_mul, show i * n + n + j - n = i * n + j by omega]
    exact flat_at (fun r hr => h r (List.mem_cons_of_mem _ hr)) e hj
theorem flat_len {α : Type} {n : Nat} : ∀ {g : List (List α)}, (∀ r ∈ g, r.length = n) → g.flatten.length = g.length * n
  | [], _ => by simp
  | r0 :: g, h => by
    rw [List.flatten_cons, List.length_append, h r0 (List.mem_cons_self ..), flat_len fun r hr => h r (List.mem_cons_of_mem _ hr), List.length_cons, Nat.succ_mul]
    omega
theorem bitw_at (T : Txt K mg) {s : Nat} (hs : s < 5) : ∃ xs, (∀ H, SqT K H T.a_WORD_BITS xs) ∧ atI xs ((s : Int) + 1 - 1) = some (vN (bitsF s)) := bit_at T hs
def sp_won (K : PySem.W.Frag) : Sp := fun vs H Q _ => ∃ (s : Nat) (a : Addr) (k : Bool) (g : Grid), vs = [.int ((s : Int) + 1), .ref a] ∧ s < 5 ∧ GrB k K H a g ∧ Sq (sdF s) g ∧ ∀ D H', Same H H' → H D = none → H' D = some (.lst ((heardF (bitsF s) (dotsF s g)).map vG)) → Q (.ref D) H'
theorem ok_words_on (T : Txt K mg) : FnOk P w K mg base CX0 2 T.f_words_on T.d_words_on ["size", "grid"] (sp_won K) := by
  refine T.F_words_on.ok sc_words_on (fun vs H Q E h => ?_) (fun cdv A outer s H vs Q E hr h => ?_)
  · obtain ⟨s, a, k, g, rfl, _⟩ := h
    rfl
  · obtain ⟨s0, a, k, g, rfl, hs, hG, sq, q⟩ := h
    refine ⟨_, (pss_cons (ps_set (i := 2) sc_words_on.nd rfl (.inr rfl) (pe_lc2 (g := (gName 3)) (g1 := (gName 4)) (own := [("dots", 3), ("dot", 4)]) (vs1 := [4]) rfl sc_words_on.nd (pi_seq (pv 1)) (blkOk_by (N := ["size", "grid", "shades", "dots", "dot", "at"]) (sc := defScope s_words_on) (by decide +kernel)) (by decide) (fun _ _ _ _ _ => by exact (pg_name (i := 3) sc_words_on.nd rfl (.inl rfl))) (fun _ _ _ _ _ => by exact pts_nil) (fun _ _ _ _ _ => by exact (pi_seqK (K := K) rfl (pv 3))) (fun _ _ _ _ _ => by exact (pg_name (i := 4) sc_words_on.nd rfl (.inl rfl))) (fun _ _ _ _ _ => by exact pts_nil) (fun _ _ _ _ _ => by exact (pv 4))))
      (pss_one (ps_ret (pe_call (ok_bits_as_words T) (hr.mono (by decide)) (by rfl) T.g_bits_as_words T.F_bits_as_words.kp T.b_bits_as_words .nil pass0 (pa_cons (pe_lc (own := [("at", 5)]) rfl sc_words_on.nd (pi_seqK (K := K) rfl (pe_ix (ix_rowBK (K := K) rfl) (pe_glob (v := .ref T.a_PATHS) (by rfl) T.g_PATHS rfl) (pe_op op_sub (pv 0) pe_int) (fun _ _ => rfl))) (blkOk_by (N := ["size", "grid", "shades", "dots", "dot", "at"]) (sc := defScope s_words_on) (by decide +kernel)) (fun _ _ _ _ _ => by exact (pg_name (i := 5) sc_words_on.nd rfl (.inl rfl))) (fun _ _ _ _ _ => by exact pts_nil) (fun _ _ _ _ _ => by exact (pe_ix (ix_rowBK (K := K) rfl) (pv 2) (pv 5) (fun _ _ => rfl)))) (pa_cons (pe_ix ix_rowB (pe_glob (v := .ref T.a_WORD_BITS) (by rfl) T.g_WORD_BITS rfl) (pe_op op_sub (pv 0) pe_int) (fun _ _ => rfl)) pa_nil)))))), ?_⟩
    obtain ⟨c, hc, hrow⟩ := path_at T hs
    obtain ⟨xb, hX, hx⟩ := bit_at T hs
    obtain ⟨L, h1, h2, h3⟩ := hG.ex
    have one : (s0 : Int) + 1 - 1 = (s0 : Int) := by omega
    have hm := side_le (sd_ok hs)
    refine ⟨_, rfl, a, _, k, rfl, h1, fun D hD => ?_⟩
    refine lc2_it (walk_seq (b := k) (K := K) (a := a) (xs := L.map V.ref)) (fun i H' => Same H H' ∧ H' D = some (.lst ((g.take i).flatten.map vG))) ⟨same_upd hD, upd_same⟩ (fun i H' _ h => Same.sqb h.1 h1) ?_ ?_
    · rintro i v H1 H2 hi ⟨sm, gD⟩ ⟨rfl, e2⟩
      rw [List.length_map] at hi
      have e1 : L[i]? = some L[i] := List.getElem?_eq_getElem hi
      have eg : g[i]? = some (g[i]'(by omega)) := List.getElem?_eq_getElem _
      rw [List.getElem?_map, e1] at e2
      obtain rfl := (Option.some.inj e2).symm
      have hq := h3 i _ _ e1 eg
      generalize hr0 : g[i]'(by omega) = r at eg hq
      have lr : r.length = sdF s0 := sq.row r (List.mem_of_getElem? eg)
      have tk : (g.take (i + 1)).flatten = (g.take i).flatten ++ r := by
        rw [List.take_add_one, eg, Option.toList_some, List.flatten_append]
        simp
      refine ⟨rfl, ?_⟩
      refine iteT (B := Same H H2 ∧ H2 D = some (HO.lst ((g.take (i + 1)).flatten.map vG))) ⟨_, rfl, L[i], _, k, rfl, Same.sqb sm hq, ?_⟩
      refine lc_in (walk_seq (b := k) (K := K) (a := L[i]) (xs := r.map vG)) (fun j H' => Same H H' ∧ H' D = some (.lst (((g.take i).flatten ++ r.take j).map vG))) ⟨sm, by rw [List.take_zero, List.append_nil]; exact gD⟩ (fun j H' _ h => Same.sqb h.1 hq) ?_ ?_
      · rintro j v H4 H5 hj ⟨s4, g4⟩ ⟨rfl, e4⟩
        rw [List.length_map] at hj
        rw [List.getElem?_map, List.getElem?_eq_getElem hj] at e4
        obtain rfl := (Option.some.inj e4).symm
        refine ⟨rfl, iteT (B := Same H H5 ∧ H5 D = some (HO.lst (((g.take i).flatten ++ r.take (j + 1)).map vG))) ⟨_, rfl, _, g4, ?_, fun c o' hc => ?_, ?_⟩⟩
        · have := flat_len (n := sdF s0) (g := g.take i) fun r hr => sq.row r (List.mem_of_mem_take hr)
          have h4 : (g.take i).length ≤ 24 := by rw [List.length_take, sq.len]; omega
          have h5 : (g.take i).length * sdF s0 ≤ 24 * 24 := Nat.mul_le_mul h4 hm.2
          rw [List.length_map, List.length_append, List.length_take, this]
          exact small1000 (by omega)
        · rw [upd_ne (ne_of_none hc hD)]
          exact s4 _ _ hc
        · rw [upd_same, List.take_add_one, List.getElem?_eq_getElem hj, Option.toList_some, ← List.append_assoc]
          exact congrArg (fun z => some (HO.lst z)) (@List.map_append _ _ vG _ [r[j]]).symm
      · rintro H4 ⟨s4, g4⟩
        rw [List.length_map, List.take_length] at g4
        rw [tk]
        exact ⟨s4, g4⟩
    · rintro H1 ⟨s1, g1⟩
      rw [List.length_map, h2, List.take_length] at g1
      have lW := way_len hs
      refine ⟨_, rfl, _, _, rfl, rfl, T.a_PATHS, _, _, .ref c, false, rfl, rfl, (T.l_PATHS.sq (hz := by show 5 ≤ 1000; decide)), (by rw [one]; exact hc), c, _, false, rfl, hrow _, fun D2 hD2 => ?_⟩
      refine lc_it (walk_seq (b := false) (K := K) (a := c) (xs := ((wayF (sdF s0)).map fun q : Nat × Nat => q.1 * sdF s0 + q.2).map vN)) (fun i H' => Same H1 H' ∧ H' D2 = some (.lst (((dotsF s0 g).take i).map vG))) ⟨same_upd hD2, upd_same⟩ (fun i H' _ h => hrow _) ?_ ?_
      · rintro i v H2 H3 hi ⟨sm, gD2⟩ ⟨rfl, e2⟩
        rw [List.length_map, List.length_map, lW] at hi
        have eq0 : (wayF (sdF s0))[i]? = some ((wayF (sdF s0))[i]'(by rw [lW]; exact hi)) := List.getElem?_eq_getElem _
        generalize (wayF (sdF s0))[i]'(by rw [lW]; exact hi) = qq at eq0
        obtain ⟨x, y⟩ := qq
        obtain ⟨hx1, hy1⟩ := way_in hs (List.mem_of_getElem? eq0)
        have hx1 : x < sdF s0 := hx1
        have hy1 : y < sdF s0 := hy1
        rw [List.getElem?_map, List.getElem?_map, eq0] at e2
        obtain rfl := (Option.some.inj e2).symm
        have ed : (dotsF s0 g)[i]? = some (cell g x y) := by
          unfold dotsF
          rw [List.getElem?_map, eq0]
          rfl
        have er : g[x]? = some (g.getD x []) := by
          rw [getD_in (by rw [sq.len]; exact hx1)]
          exact List.getElem?_eq_getElem _
        have lr : (g.getD x []).length = sdF s0 := sq.row _ (List.mem_of_getElem? er)
        have ey : (g.getD x [])[y]? = some (cell g x y) := by
          unfold cell
          rw [List.getD_eq_getElem?_getD (l := g.getD x []), List.getElem?_eq_getElem (by rw [lr]; exact hy1)]
          rfl
        have ef : g.flatten[x * sdF s0 + y]? = some (cell g x y) := by rw [flat_at (fun r hr => sq.row r hr) er hy1, ey]
        refine ⟨rfl, ?_⟩
        refine ⟨_, rfl, _, rfl, D, _, _, vG (cell g x y), true, rfl, rfl, .lst (sm _ _ g1), atI_nat (by rw [List.getElem?_map, ef]; rfl), _, gD2, ?_, fun c o' hc => ?_, ?_⟩
        · rw [List.length_map, List.length_take]
          have := (pt_parts hs)
          exact small1000 (by omega)
        · rw [upd_ne (ne_of_none hc hD2)]
          exact sm _ _ hc
        · rw [upd_same, List.take_add_one, ed, Option.toList_some, List.map_append]
          rfl
      · rintro H2 ⟨s2, g2⟩
        rw [List.length_map, List.length_map, lW, List.take_of_length_le (by rw [wdots_len hs]; exact Nat.le_refl _)] at g2
        refine ⟨_, rfl, _, _, rfl, rfl, T.a_WORD_BITS, xb, _, vN (bitsF s0), false, rfl, rfl, hX _, hx, s0, D2, dotsF s0 g, rfl, hs, .inl (.inl g2), wdots_len hs g, wdots_ok hs sq, fun D3 H3 s3 n3 g3 => q D3 H3 ((s1.trans s2).trans s3) (Same.free (s1.trans s2) n3) g3⟩
def sp_win (K : PySem.W.Frag) : Sp := sp_won K
theorem ok_words_in (T : Txt K mg) : FnOk P w K mg base CX0 4 T.f_words_in T.d_words_in ["size", "grid"] (sp_win K) := by
  refine T.F_words_in.ok sc_words_in (fun vs H Q E h => ?_) (fun cdv A outer s H vs Q E hr h => ?_)
  · obtain ⟨s, a, k, g, rfl, _⟩ := h
    rfl
  · obtain ⟨s0, a, k, g, rfl, hs, hG, sq, q⟩ := h
    refine ⟨_, (pss_cons (ps_expr (pe_call (ok_need_size T) (hr.mono (by decide)) (by rfl) T.g_need_size T.F_need_size.kp T.b_need_size .nil pass0 (pa_cons (pv 0) pa_nil)))
      (pss_cons (ps_expr (pe_call (ok_need_grid T) (hr.mono (by decide)) (by rfl) T.g_need_grid T.F_need_grid.kp T.b_need_grid .nil pass0 (pa_cons (pv 0) (pa_cons (pv 1) pa_nil))))
      (pss_one (ps_ret (pe_call (ok_words_on T) (hr.mono (by decide)) (by rfl) T.g_words_on T.F_words_on.kp T.b_words_on .nil pass0 (pa_cons (pv 0) (pa_cons (pv 1) pa_nil))))))), ?_⟩
    refine ⟨_, rfl, s0, rfl, hs, ?_⟩
    refine ⟨_, rfl, _, rfl, sdF s0, s0, a, k, g, rfl, hs, sd_side hs, hG, sq, fun H1 s1 => ?_⟩
    refine ⟨_, rfl, _, rfl, s0, a, k, g, rfl, hs, hG.same s1, sq, fun D H' s2 n2 g2 => q D H' (s1.trans s2) (Same.free s1 n2) g2⟩
/-! CUT -/
/-! ### grids of words -/
def shadesF (s : Nat) (ws : List Nat) : List (Option Nat) := (wordsB (bitsF s) ws).map some ++ (List.replicate 20 none ++ [some 0, some 1])
/-- the grid that some words make -/
def layF (s : Nat) (ws : List Nat) : Grid := (List.range (sdF s)).map fun r => (List.range (sdF s)).map fun c => (shadesF s ws).getD (plF s r c) none
theorem tot_pt {s : Nat} (hs : s < 5) : bitsF s * totF s = ptF s := of_decide_eq_true (all5 (P := fun s => decide (bitsF s * totF s = ptF s)) (by decide +kernel) hs)
theorem shades_len {s : Nat} (hs : s < 5) {ws : List Nat} (hl : ws.length = totF s) : (shadesF s ws).length = ptF s + 22 := by
  unfold shadesF
  rw [List.length_append, List.length_map, wordsB_len, hl, tot_pt hs]
  rfl
theorem bitsW_lt (b w : Nat) : ∀ x ∈ bitsW b w, x < 2 := fun x hx => by
  unfold bitsW at hx
  obtain ⟨i, _, rfl⟩ := List.mem_map.mp hx
  exact Nat.mod_lt _ (by decide)
theorem wordsB_lt (b : Nat) (ws : List Nat) : ∀ x ∈ wordsB b ws, x < 2 := fun x hx => by
  unfold wordsB at hx
  obtain ⟨w, _, h⟩ := List.mem_flatMap.mp hx
  exact bitsW_lt b w x h
theorem shades_ok (s : Nat) (ws : List Nat) : ∀ o ∈ shadesF s ws, DotOk o := fun o ho => by
  unfold shadesF at ho
  rcases List.mem_append.mp ho with h | h
  · obtain ⟨x, hx, rfl⟩ := List.mem_map.mp h
    have := wordsB_lt _ _ x hx
    have : x = 0 ∨ x = 1 := by omega
    rcases this with rfl | rfl
    · exact .inr (.inl rfl)
    · exact .inr (.inr rfl)
  · rcases List.mem_append.mp h with h | h
    · exact .inl (List.eq_of_mem_replicate h)
    · simp at h
      rcases h with rfl | rfl
      · exact .inr (.inl rfl)
      · exact .inr (.inr rfl)
theorem lay_row {s r : Nat} (ws : List Nat) (hr : r < sdF s) : (layF s ws)[r]? = some ((List.range (sdF s)).map fun c => (shadesF s ws).getD (plF s r c) none) := by
  unfold layF
  rw [List.getElem?_map, List.getElem?_range hr]
  rfl
theorem lay_len (s : Nat) (ws : List Nat) : (layF s ws).length = sdF s := by
  unfold layF
  rw [List.length_map, List.length_range]
theorem lay_sq {s : Nat} (hs : s < 5) {ws : List Nat} (hl : ws.length = totF s) : Sq (sdF s) (layF s ws) where
  len := lay_len s ws
  row r hr := by
    obtain ⟨i, _, rfl⟩ := List.mem_map.mp hr
    rw [List.length_map, List.length_range]
  dot r hr o ho := by
    obtain ⟨i, hi, rfl⟩ := List.mem_map.mp hr
    obtain ⟨j, hj, rfl⟩ := List.mem_map.mp ho
    have := (way_pl hs (List.mem_range.mp hi) (List.mem_range.mp hj)).1
    exact shades_ok s ws _ (getD_mem (by rw [shades_len hs hl]; exact this))
abbrev sc_lc_gow : Scope := { kind := .function, names := [(".0", .local), ("places", .local), ("shades", .cell)], isGenerator := false, isCoroutine := false }
def sp_gow (K : PySem.W.Frag) : Sp := fun vs H Q _ => ∃ (s : Nat) (a b : Addr) (k : Bool) (ws : List Nat), vs = [.int ((s : Int) + 1), .ref a, .ref b] ∧ s < 5 ∧ SqB k K H a (ws.map vN) ∧ (∀ x ∈ ws, x < span (bitsF s)) ∧ ws.length = totF s ∧ H b = some (.lst (List.replicate 20 V.non)) ∧ ∀ D H', Fr H H' D (layF s ws) → Q (.ref D) H'
theorem ok_grid_of_words (T : Txt K mg) : FnOk P w K mg base CX0 2 T.f_grid_of_words T.d_grid_of_words ["size", "words", "strip_shades"] (sp_gow K) := by
  refine T.F_grid_of_words.ok sc_grid_of_words (fun vs H Q E h => ?_) (fun cdv A outer s H vs Q E hr h => ?_)
  · obtain ⟨s, a, b, k, ws, rfl, _⟩ := h
    rfl
  · obtain ⟨s0, a, b, k, ws, rfl, hs, hq, hw, hl, hb, q⟩ := h
    refine ⟨_, (pss_cons (ps_set (i := 3) sc_grid_of_words.nd rfl (.inr rfl) (pe_op op_cat (pe_op op_cat (pe_call (ok_words_as_bits T) (hr.mono (by decide)) (by rfl) T.g_words_as_bits T.F_words_as_bits.kp T.b_words_as_bits .nil pass0 (pa_cons (pv 1) (pa_cons (pe_ix ix_rowB (pe_glob (v := .ref T.a_WORD_BITS) (by rfl) T.g_WORD_BITS rfl) (pe_op op_sub (pv 0) pe_int) (fun _ _ => rfl)) pa_nil))) (pv 2)) (pe_lst (pa_cons pe_int (pa_cons pe_int pa_nil)))))
      (pss_one (ps_ret (pe_lc (own := [("places", 4)]) rfl sc_grid_of_words.nd (pi_seqK (K := K) rfl (pe_ix (ix_rowBK (K := K) rfl) (pe_glob (v := .ref T.a_PLACES) (by rfl) T.g_PLACES rfl) (pe_op op_sub (pv 0) pe_int) (fun _ _ => rfl))) (blkOk_by (N := ["size", "words", "strip_shades", "shades", "places", "place"]) (sc := defScope s_grid_of_words) (by decide +kernel)) (fun _ _ _ _ _ => by exact (pg_name (i := 4) sc_grid_of_words.nd rfl (.inl rfl))) (fun _ _ _ _ _ => by exact pts_nil) (fun _ _ _ _ _ => by exact (pe_lc (own := [("place", 5)]) rfl sc_grid_of_words.nd (pi_seqK (K := K) rfl (pv 4)) (blkOk_by (N := ["size", "words", "strip_shades", "shades", "places", "place"]) (sc := sc_lc_gow) (by decide +kernel)) (fun _ _ _ _ _ => by exact (pg_name (i := 5) sc_grid_of_words.nd rfl (.inl rfl))) (fun _ _ _ _ _ => by exact pts_nil) (fun _ _ _ _ _ => by exact (pe_ix (ix_rowBK (K := K) rfl) (pv 3) (pv 5) (fun _ _ => rfl))))))))), ?_⟩
    have n24 := (side_le (sd_ok hs)).2
    have t58 := tot_le hs
    obtain ⟨xb, hX, hx⟩ := bit_at T hs
    have lw : (wordsB (bitsF s0) ws).length = ptF s0 := by rw [wordsB_len, hl, tot_pt hs]
    have p464 := (pt_parts hs)
    refine ⟨_, rfl, _, rfl, _, _, rfl, rfl, T.a_WORD_BITS, xb, _, vN (bitsF s0), false, rfl, rfl, hX _, hx, ?_⟩
    refine ⟨a, k, bitsF s0, ws, rfl, bits_wd hs, hq, hw, by omega, fun D1 H1 s1 n1 g1 => ?_⟩
    refine ⟨_, rfl, D1, b, _, _, rfl, rfl, g1, s1 _ _ hb, ?_, fun p2 hp2 => ?_⟩
    · rw [List.length_map, lw, List.length_replicate]
      exact Nat.le_of_lt (small1000 (by omega))
    have s2 := same_upd (o := .lst ((wordsB (bitsF s0) ws).map vN ++ List.replicate 20 V.non)) hp2
    refine ⟨(by show 2 ≤ sizeLine; decide), fun p3 hp3 => ?_⟩
    have s3 := same_upd (o := .lst [V.int 0, V.int 1]) hp3
    refine ⟨p2, p3, _, _, rfl, rfl, s3 _ _ upd_same, upd_same, ?_, fun tl htl => ?_⟩
    · rw [List.length_append, List.length_map, lw, List.length_replicate]
      show ptF s0 + 20 + 2 ≤ sizeLine
      exact Nat.le_of_lt (small1000 (by omega))
    have s4 := same_upd (o := .lst ((wordsB (bitsF s0) ws).map vN ++ List.replicate 20 V.non ++ [V.int 0, V.int 1])) htl
    have sA := ((s1.trans s2).trans s3).trans s4
    have gtl : (upd (upd (upd H1 p2 (.lst ((wordsB (bitsF s0) ws).map vN ++ List.replicate 20 V.non))) p3 (.lst [V.int 0, V.int 1])) tl (.lst ((wordsB (bitsF s0) ws).map vN ++ List.replicate 20 V.non ++ [V.int 0, V.int 1]))) tl = some (.lst ((shadesF s0 ws).map vG)) := by
      rw [upd_same]
      unfold shadesF
      rw [List.map_append, List.map_append, List.map_map, List.append_assoc, List.map_replicate]
      rfl
    generalize (upd (upd (upd H1 p2 (.lst ((wordsB (bitsF s0) ws).map vN ++ List.replicate 20 V.non))) p3 (.lst [V.int 0, V.int 1])) tl (.lst ((wordsB (bitsF s0) ws).map vN ++ List.replicate 20 V.non ++ [V.int 0, V.int 1]))) = H2 at sA gtl ⊢
    clear s1 s2 s3 s4 hp2 hp3 htl g1 n1
    obtain ⟨Pd, _, eP, lP, _⟩ := places_at (r := 0) hs (by have := (side_le (sd_ok hs)).1; omega)
    obtain ⟨cp, hcp, c2, hat2, bp, hbp, lbp, prow⟩ := tup3_at (i := s0) (show tup3B K T.a_PLACES placesD = true from T.l_PLACES) eP
    refine ⟨_, rfl, _, _, rfl, rfl, T.a_PLACES, _, _, .ref c2, false, rfl, rfl, hcp _, (by rw [show (s0 : Int) + 1 - 1 = (s0 : Int) by omega]; exact hat2), ?_⟩
    refine ⟨c2, _, false, rfl, hbp _, fun D hD => ?_⟩
    refine lc_it (walk_seq (b := false) (K := K) (a := c2) (xs := bp.map V.ref)) (fun i H' => ∃ M, FrI H2 H' D M (layF s0 ws) i) ⟨[], FrI.start hD⟩ (fun i H' _ _ => hbp _) ?_ ?_
    · rintro i v H3 H4 hi ⟨M, F⟩ ⟨rfl, e2⟩
      rw [List.length_map] at hi
      have eB : bp[i]? = some (bp[i]'hi) := List.getElem?_eq_getElem _
      have hi2 : i < sdF s0 := by omega
      generalize bp[i]'hi = lb at eB
      rw [List.getElem?_map, eB] at e2
      obtain rfl := (Option.some.inj e2).symm
      obtain ⟨_, R, eP2, _, eR, lR, cR⟩ := places_at hs hi2
      obtain rfl : Pd = _ := Option.some.inj (eP.symm.trans eP2)
      have qp : ∀ H', SqB false K H' lb (R.map V.int) := fun H' => prow i lb R eB eR H'
      have er := lay_row ws hi2
      refine ⟨rfl, ?_⟩
      refine ⟨_, rfl, lb, _, false, rfl, qp _, fun D2 hD2 => ?_⟩
      refine lc_it (walk_seq (b := false) (K := K) (a := lb) (xs := R.map V.int)) (fun j H' => Same H4 H' ∧ H' D2 = some (.lst (((List.range j).map fun c => (shadesF s0 ws).getD (plF s0 i c) none).map vG))) ⟨same_upd hD2, upd_same⟩ (fun j H' _ _ => qp _) ?_ ?_
      · rintro j v H6 H7 hj ⟨sm, gD⟩ ⟨rfl, e4⟩
        rw [List.length_map, lR] at hj
        rw [List.getElem?_map, cR j hj] at e4
        obtain rfl := (Option.some.inj e4).symm
        have gtl8 := sm _ _ (F.same _ _ gtl)
        have hp := (way_pl hs hi2 hj).1
        have ep : (shadesF s0 ws)[plF s0 i j]? = some ((shadesF s0 ws).getD (plF s0 i j) none) := by
          rw [getD_in (by rw [shades_len hs hl]; exact hp)]
          exact List.getElem?_eq_getElem _
        refine ⟨rfl, ?_⟩
        refine ⟨_, rfl, _, rfl, tl, _, _, vG ((shadesF s0 ws).getD (plF s0 i j) none), true, rfl, rfl, .lst gtl8, atI_nat (by rw [List.getElem?_map, ep]; rfl), _, gD, ?_, fun b' o hb' => ?_, ?_⟩
        · rw [List.length_map, List.length_map, List.length_range]
          exact small1000 (by omega)
        · rw [upd_ne (ne_of_none hb' hD2)]
          exact sm _ _ hb'
        · rw [upd_same, List.range_succ, List.map_append, List.map_append]
          rfl
      · rintro H6 ⟨sm, gD⟩
        rw [List.length_map, lR] at gD
        refine ⟨_, sm _ _ F.out, ?_, M ++ [D2], F.step hD er sm hD2 gD⟩
        rw [List.length_map, F.len]
        exact small1000 (by omega)
    · rintro H3 ⟨M, F⟩
      rw [List.length_map, lbp, lP] at F
      exact q D H3 (Fr.back ⟨hD, M, by rw [lay_len]; exact F⟩ sA)
def sp_ww (K : PySem.W.Frag) : Sp := fun vs H Q _ => ∃ (s : Nat) (a : Addr) (k : Bool) (ws : List Nat), vs = [.int ((s : Int) + 1), .ref a] ∧ s < 5 ∧ SqB k K H a (ws.map vN) ∧ (∀ x ∈ ws, x < span (bitsF s)) ∧ ws.length = totF s ∧ ∀ D H', Fr H H' D (layF s ws) → Q (.ref D) H'
theorem ok_with_words (T : Txt K mg) : FnOk P w K mg base CX0 6 T.f_with_words T.d_with_words ["size", "words"] (sp_ww K) := by
  refine T.F_with_words.ok sc_with_words (fun vs H Q E h => ?_) (fun cdv A outer s H vs Q E hr h => ?_)
  · obtain ⟨s, a, k, ws, rfl, _⟩ := h
    rfl
  · obtain ⟨s0, a, k, ws, rfl, hs, hq, hw, hl, q⟩ := h
    refine ⟨_, (pss_cons (ps_expr (pe_call (ok_need_size T) (hr.mono (by decide)) (by rfl) T.g_need_size T.F_need_size.kp T.b_need_size .nil pass0 (pa_cons (pv 0) pa_nil)))
      (pss_cons (ps_expr (pe_call (ok_need_symbol_words T) (hr.mono (by decide)) (by rfl) T.g_need_symbol_words T.F_need_symbol_words.kp T.b_need_symbol_words .nil pass0 (pa_cons (pv 0) (pa_cons (pv 1) (pa_cons pe_bl pa_nil)))))
      (pss_one (ps_ret (pe_call (ok_grid_of_words T) (hr.mono (by decide)) (by rfl) T.g_grid_of_words T.F_grid_of_words.kp T.b_grid_of_words .nil pass0 (pa_cons (pv 0) (pa_cons (pv 1) (pa_cons (pe_op op_rep (pe_lst (pa_cons pe_non pa_nil)) (pe_op op_mul pe_int (pe_glob (v := .int 10) (by rfl) T.g_STRIP.choose_spec ⟨_, rfl⟩))) pa_nil)))))))), ?_⟩
    refine ⟨_, rfl, s0, rfl, hs, ?_⟩
    refine ⟨_, rfl, _, rfl, s0, a, k, ws, rfl, hs, hq, hw, hl, fun H1 s1 => ?_⟩
    refine ⟨_, rfl, _, rfl, (by show 1 ≤ sizeLine; decide), fun z hz => ?_⟩
    have s2 := same_upd (o := .lst [V.non]) hz
    refine ⟨_, _, rfl, rfl, .inl ⟨by decide, by decide⟩, z, _, _, rfl, rfl, upd_same, by decide, by decide, (by show 1 * 20 ≤ sizeLine; decide), fun z2 hz2 => ?_⟩
    have s3 := same_upd (o := .lst (List.replicate ((2 : Int) * 10).toNat [V.non]).flatten) hz2
    have s13 := (s1.trans s2).trans s3
    refine ⟨s0, a, z2, k, ws, rfl, hs, Same.sqb s13 hq, hw, hl, upd_same, fun D H' F => q D H' (F.back s13)⟩
/-! CUT -/
/-! ### the law's frame -/
abbrev FrL := List ((Nat × Nat) × Nat)
def putQ (l : FrL) (q : Nat × Nat) (x : Nat) : FrL := if (l.any fun p => decide (p.1 = q)) = true then l.map (fun p => if p.1 = q then (p.1, x) else p) else l ++ [(q, x)]
def keyQ (q : Nat × Nat) : List Key := [.inl (q.1 : Int), .inl (q.2 : Int)]
theorem keyQ_inj {a b : Nat × Nat} : keyQ a = keyQ b ↔ a = b := by
  refine ⟨fun h => ?_, fun h => by rw [h]⟩
  obtain ⟨a1, a2⟩ := a
  obtain ⟨b1, b2⟩ := b
  unfold keyQ at h
  simp at h
  rw [show a1 = b1 by omega, show a2 = b2 by omega]
def frK (l : FrL) : List (List Key × V) := l.map fun p => (keyQ p.1, vN p.2)
theorem frK_put (l : FrL) (q : Nat × Nat) (x : Nat) : putK (frK l) (keyQ q) (vN x) = frK (putQ l q x) := by
  have e : ((frK l).any fun kv => decide (kv.1 = keyQ q)) = l.any fun p => decide (p.1 = q) := by
    unfold frK
    rw [List.any_map]
    congr 1
    funext p
    exact decide_eq_decide.mpr keyQ_inj
  unfold putK putQ
  rw [e]
  split
  · unfold frK
    rw [List.map_map, List.map_map]
    refine List.map_congr_left fun p _ => ?_
    show (if keyQ p.1 = keyQ q then (keyQ p.1, vN x) else (keyQ p.1, vN p.2)) = (keyQ (if p.1 = q then (p.1, x) else p).1, vN (if p.1 = q then (p.1, x) else p).2)
    by_cases h : p.1 = q
    · rw [if_pos (keyQ_inj.mpr h), if_pos h]
    · rw [if_neg (fun z => h (keyQ_inj.mp z)), if_neg h]
  · unfold frK
    rw [List.map_append]
    rfl
theorem putQ_len (l : FrL) (q : Nat × Nat) (x : Nat) : (putQ l q x).length ≤ l.length + 1 := by
  unfold putQ
  split
  · rw [List.length_map]
    omega
  · rw [List.length_append]
    exact Nat.le_refl _
def frA (n : Nat) : Nat → FrL
  | 0 => []
  | i + 1 => putQ (putQ (frA n i) (i, 0) 1) (n - 1, i) 1
def topB (a : Nat) : Nat := if a % 2 = 0 then 1 else 0
def sideB (a : Nat) : Nat := if a % 4 = 0 ∨ a % 4 = 1 then 1 else 0
def frB (n : Nat) : Nat → FrL
  | 0 => frA n n
  | i + 1 => putQ (putQ (frB n i) (0, i + 1) (topB (i + 1))) (n - 1 - (i + 1), n - 1) (sideB (i + 1))
def frameF (n : Nat) : FrL := putQ (frB n (n - 2)) (0, n - 1) 0
theorem frA_len (n : Nat) : ∀ i, (frA n i).length ≤ 2 * i
  | 0 => Nat.le_refl _
  | i + 1 => by
    have h := frA_len n i
    have h1 := putQ_len (frA n i) (i, 0) 1
    have h2 := putQ_len (putQ (frA n i) (i, 0) 1) (n - 1, i) 1
    unfold frA
    omega
theorem frB_len (n : Nat) : ∀ i, (frB n i).length ≤ 2 * n + 2 * i
  | 0 => frA_len n n
  | i + 1 => by
    have h := frB_len n i
    have h1 := putQ_len (frB n i) (0, i + 1) (topB (i + 1))
    have h2 := putQ_len (putQ (frB n i) (0, i + 1) (topB (i + 1))) (n - 1 - (i + 1), n - 1) (sideB (i + 1))
    unfold frB
    omega
theorem frame_put {H1 : Hp} {D t : Addr} {l : FrL} {a b x : Nat} {va vb vx : V} (ea : va = vN a) (eb : vb = vN b) (ex : vx = vN x) (g : H1 D = some (.dT (frK l))) (hl : l.length ≤ 500) (ht : H1 t = none) :
    DPut (upd H1 t (.tup [va, vb])) D (.ref t) vx (upd (upd H1 t (.tup [va, vb])) D (.dT (frK (putQ l (a, b) x)))) := by
  subst ea eb ex
  have sk := same_upd (o := .tup [vN a, vN b]) ht
  have h := DPut.t (k := keyQ (a, b)) (v := vN x) (sk _ _ g) (upd_same (a := t)) (by
    unfold frK
    rw [List.length_map]
    exact small1000 (by omega))
  rw [frK_put] at h
  exact h
theorem frame_same {H H1 : Hp} {D t : Addr} {o o' : HO} (s : Same H H1) (hD : H D = none) (ht : H1 t = none) : Same H (upd (upd H1 t o) D o') := fun c u hc => by
  rw [upd_ne (ne_of_none hc hD)]
  exact same_upd ht _ _ (s _ _ hc)
theorem top_is (i : Nat) : V.int (if decide (V.int ((1 + (i : Int)) % 2) = V.int 0) = true then 1 else 0) = vN (topB (i + 1)) := by
  unfold topB
  by_cases h : (i + 1) % 2 = 0
  · rw [if_pos h, if_pos (decide_eq_true (congrArg V.int (show (1 + (i : Int)) % 2 = 0 by omega)))]
    rfl
  · rw [if_neg h, if_neg (fun e => h (by have := V.int.inj (of_decide_eq_true e); omega))]
    rfl
theorem side_is (i : Nat) : V.int (if inV (V.int ((1 + (i : Int)) % 4)) [V.int 0, V.int 1] = true then 1 else 0) = vN (sideB (i + 1)) := by
  have e : (1 + (i : Int)) % 4 = (((i + 1) % 4 : Nat) : Int) := by omega
  rw [e]
  unfold sideB
  have : (i + 1) % 4 = 0 ∨ (i + 1) % 4 = 1 ∨ (i + 1) % 4 = 2 ∨ (i + 1) % 4 = 3 := by omega
  rcases this with h | h | h | h <;> rw [h] <;> decide
def sp_frame : Sp := fun vs H Q _ => ∃ n : Nat, vs = [vN n] ∧ 8 ≤ n ∧ n ≤ 24 ∧ ∀ D H', Same H H' → H D = none → H' D = some (.dT (frK (frameF n))) → Q (.ref D) H'
theorem ok__law_frame (T : Txt K mg) : FnOk P w K mg base CX0 1 T.f__law_frame T.d__law_frame ["_law_many"] sp_frame := by
  refine T.F__law_frame.ok sc__law_frame (fun vs H Q E h => ?_) (fun cdv A outer s H vs Q E hr h => ?_)
  · obtain ⟨n, rfl, _⟩ := h
    rfl
  · obtain ⟨n, rfl, h8, h24, q⟩ := h
    refine ⟨_, (pss_cons (ps_set (i := 1) sc__law_frame.nd rfl (.inl rfl) pe_dnewT)
      (pss_cons (ps_for PassesOwn.never rfl (pi_range1 (by rfl) T.n_range (pa_cons (pv 0) pa_nil)) (pg_name (i := 2) sc__law_frame.nd rfl (.inl rfl)) (pss_one (ps_asg (pe_tup (pa_cons pe_int (pa_cons pe_int pa_nil))) (pg_tup rfl (pgs_cons (pg_sub (pv 1) (pe_tup (pa_cons (pv 2) (pa_cons pe_int pa_nil))) (set_dict (Nat.lt_of_le_of_lt (Nat.add_le_add_left (by decide : 1 ≤ 64) _) hr.units))) (pgs_cons (pg_sub (pv 1) (pe_tup (pa_cons (pe_op op_sub (pv 0) pe_int) (pa_cons (pv 2) pa_nil))) (set_dict (Nat.lt_of_le_of_lt (Nat.add_le_add_left (by decide : 1 ≤ 64) _) hr.units))) pgs_nil))))))
      (pss_cons (ps_for PassesOwn.never rfl (pi_range2 (by rfl) T.n_range (pa_cons pe_int (pa_cons (pe_op op_sub (pv 0) pe_int) pa_nil))) (pg_name (i := 2) sc__law_frame.nd rfl (.inl rfl)) (pss_cons (ps_asg (pe_callTy call_int1 (by rfl) T.n_int (by decide +kernel) (pa_cons (pe_cmpR op_eq (pe_op op_mod (pe_callTy call_int1 (by rfl) T.n_int (by decide +kernel) (pa_cons (pv 2) pa_nil)) pe_int) pe_int (nomark _)) pa_nil)) (pg_sub (pv 1) (pe_tup (pa_cons pe_int (pa_cons (pv 2) pa_nil))) (set_dict (Nat.lt_of_le_of_lt (Nat.add_le_add_left (by decide : 1 ≤ 64) _) hr.units))))
      (pss_one (ps_asg (pe_callTy call_int1 (by rfl) T.n_int (by decide +kernel) (pa_cons (pe_cmpR op_in_seq (pe_op op_mod (pe_callTy call_int1 (by rfl) T.n_int (by decide +kernel) (pa_cons (pv 2) pa_nil)) pe_int) (pe_tup (pa_cons pe_int (pa_cons pe_int pa_nil))) (by rfl)) pa_nil)) (pg_sub (pv 1) (pe_tup (pa_cons (pe_op op_sub (pe_op op_sub (pv 0) pe_int) (pv 2)) (pa_cons (pe_op op_sub (pv 0) pe_int) pa_nil))) (set_dict (Nat.lt_of_le_of_lt (Nat.add_le_add_left (by decide : 1 ≤ 64) _) hr.units)))))))
      (pss_cons (ps_asg pe_int (pg_sub (pv 1) (pe_tup (pa_cons pe_int (pa_cons (pe_op op_sub (pv 0) pe_int) pa_nil))) (set_dict (Nat.lt_of_le_of_lt (Nat.add_le_add_left (by decide : 1 ≤ 64) _) hr.units))))
      (pss_one (ps_ret (pv 1))))))), ?_⟩
    refine fun D hD => ?_
    refine ⟨_, rfl, n, rfl, by omega, by omega, ?_⟩
    refine for_range (lo := 0) (n := n) (fun i σ H' => ∃ z2 : Option V, σ = [some (vN n), some (.ref D), z2] ∧ Same H H' ∧ H' D = some (.dT (frK (frA n i)))) ⟨_, rfl, same_upd hD, upd_same⟩ ?_ ?_
    · rintro i σ H1 hi ⟨z2, rfl, s1, g1⟩
      have la := frA_len n i
      have lb := putQ_len (frA n i) (i, 0) 1
      refine ⟨(by show 2 ≤ sizeLine; decide), fun v hv => ?_⟩
      have sv := same_upd (o := .tup [V.int 1, V.int 1]) hv
      have gv := upd_same (H := H1) (a := v) (o := .tup [V.int 1, V.int 1])
      refine ⟨v, [_, _], rfl, .inl (.inl gv), rfl, _, [_], rfl, ?_⟩
      have g1' := sv _ _ g1
      have s1' := s1.trans sv
      generalize (upd H1 v (.tup [V.int 1, V.int 1])) = H2 at g1' s1' ⊢
      refine ⟨_, rfl, _, rfl, (by show 2 ≤ sizeLine; decide), fun t ht => ⟨D, _, rfl, frame_put (a := i) (b := 0) (x := 1) (congrArg V.int (Int.zero_add _)) rfl rfl g1' (by omega) ht, ?_⟩⟩
      have s3 := frame_same (o := .tup [V.int (0 + (i : Int)), V.int 0]) (o' := .dT (frK (putQ (frA n i) (i, 0) 1))) s1' hD ht
      have g3 := upd_same (H := upd H2 t (.tup [V.int (0 + (i : Int)), V.int 0])) (a := D) (o := .dT (frK (putQ (frA n i) (i, 0) 1)))
      generalize (upd (upd H2 t (.tup [V.int (0 + (i : Int)), V.int 0])) D (.dT (frK (putQ (frA n i) (i, 0) 1)))) = H3 at s3 g3 ⊢
      refine ⟨_, [], rfl, _, rfl, _, rfl, _, _, rfl, rfl, _, rfl, (by show 2 ≤ sizeLine; decide), fun t2 ht2 => ⟨D, _, rfl, frame_put (a := n - 1) (b := i) (x := 1) (congrArg V.int (show (n : Int) - 1 = ((n - 1 : Nat) : Int) by omega)) (congrArg V.int (Int.zero_add _)) rfl g3 (by omega) ht2, ?_⟩⟩
      exact ⟨rfl, _, rfl, frame_same s3 hD ht2, upd_same⟩
    · rintro σ H1 ⟨z2, rfl, s1, g1⟩
      refine ⟨_, rfl, _, _, rfl, rfl, 1, (n : Int) - 1, rfl, ⟨by decide, by decide, by omega, by omega⟩, ?_⟩
      rw [show ((n : Int) - 1 - 1).toNat = n - 2 by omega]
      refine for_range (lo := 1) (n := n - 2) (fun i σ H' => ∃ z2 : Option V, σ = [some (vN n), some (.ref D), z2] ∧ Same H H' ∧ H' D = some (.dT (frK (frB n i)))) ⟨_, rfl, s1, g1⟩ ?_ ?_
      · clear s1 g1 H1
        rintro i σ H1 hi ⟨z2, rfl, s1, g1⟩
        have la := frB_len n i
        have lb := putQ_len (frB n i) (0, i + 1) (topB (i + 1))
        refine ⟨_, rfl, .inl ⟨_, rfl, _, _, rfl, rfl, (by show (0 : Int) < 2; decide), rfl, .inr ⟨_, rfl, _, rfl, _, rfl, (by show 2 ≤ sizeLine; decide), fun t ht => ⟨D, _, rfl, frame_put (a := 0) (b := i + 1) (x := topB (i + 1)) rfl (congrArg V.int (show 1 + (i : Int) = ((i + 1 : Nat) : Int) by omega)) (top_is i) g1 (by omega) ht, ?_⟩⟩⟩⟩
        have s3 := frame_same (o := .tup [V.int 0, V.int (1 + (i : Int))]) (o' := .dT (frK (putQ (frB n i) (0, i + 1) (topB (i + 1))))) s1 hD ht
        have g3 := upd_same (H := upd H1 t (.tup [V.int 0, V.int (1 + (i : Int))])) (a := D) (o := .dT (frK (putQ (frB n i) (0, i + 1) (topB (i + 1)))))
        generalize (upd (upd H1 t (.tup [V.int 0, V.int (1 + (i : Int))])) D (.dT (frK (putQ (frB n i) (0, i + 1) (topB (i + 1)))))) = H3 at s3 g3 ⊢
        refine ⟨_, rfl, .inl ⟨_, rfl, _, _, rfl, rfl, (by show (0 : Int) < 4; decide), (by show 2 ≤ sizeLine; decide), fun v hv => ⟨v, _, rfl, .inr (.inl (.inl upd_same)), rfl, rfl, .inr ⟨_, rfl, ?_⟩⟩⟩⟩
        have sv := same_upd (o := .tup [V.int 0, V.int 1]) hv
        have g3' := sv _ _ g3
        have s3' := s3.trans sv
        generalize (upd H3 v (.tup [V.int 0, V.int 1])) = H4 at g3' s3' ⊢
        refine ⟨_, rfl, _, rfl, _, _, rfl, rfl, _, rfl, _, _, rfl, rfl, _, rfl, _, _, rfl, rfl, (by show 2 ≤ sizeLine; decide), fun t2 ht2 => ⟨D, _, rfl, frame_put (a := n - 1 - (i + 1)) (b := n - 1) (x := sideB (i + 1)) (congrArg V.int (show (n : Int) - 1 - (1 + (i : Int)) = ((n - 1 - (i + 1) : Nat) : Int) by omega)) (congrArg V.int (show (n : Int) - 1 = ((n - 1 : Nat) : Int) by omega)) (side_is i) g3' (by omega) ht2, ?_⟩⟩
        exact ⟨_, rfl, frame_same s3' hD ht2, upd_same⟩
      · rintro σ H2 ⟨z2, rfl, s2, g2⟩
        have lb := frB_len n (n - 2)
        refine ⟨_, rfl, _, rfl, _, _, rfl, rfl, (by show 2 ≤ sizeLine; decide), fun t2 ht2 => ⟨D, _, rfl, frame_put (a := 0) (b := n - 1) (x := 0) rfl (congrArg V.int (show (n : Int) - 1 = ((n - 1 : Nat) : Int) by omega)) rfl g2 (by omega) ht2, ?_⟩⟩
        exact ⟨_, rfl, q D _ (frame_same s2 hD ht2) hD upd_same⟩
/-! CUT -/
/-! ### the law's laid grid -/
/-- a grid whose dots go by their places -/
def gridT (s : Nat) (f : Nat → Option Nat) : Grid := (List.range (sdF s)).map fun r => (List.range (sdF s)).map fun c => f (plF s r c)
theorem gridT_len (s : Nat) (f : Nat → Option Nat) : (gridT s f).length = sdF s := by
  unfold gridT
  rw [List.length_map, List.length_range]
theorem gridT_cell {s r c : Nat} (f : Nat → Option Nat) (hr : r < sdF s) (hc : c < sdF s) : cell (gridT s f) r c = f (plF s r c) := by
  unfold cell gridT
  rw [List.getD_eq_getElem?_getD (l := List.map _ _), List.getElem?_map, List.getElem?_range hr]
  simp only [Option.map_some, Option.getD_some]
  rw [List.getD_eq_getElem?_getD, List.getElem?_map, List.getElem?_range hc]
  rfl
theorem gridT_sq {s : Nat} {f : Nat → Option Nat} (hf : ∀ r c, r < sdF s → c < sdF s → DotOk (f (plF s r c))) : Sq (sdF s) (gridT s f) where
  len := gridT_len s f
  row r hr := by
    obtain ⟨i, _, rfl⟩ := List.mem_map.mp hr
    rw [List.length_map, List.length_range]
  dot r hr o ho := by
    obtain ⟨i, hi, rfl⟩ := List.mem_map.mp hr
    obtain ⟨j, hj, rfl⟩ := List.mem_map.mp ho
    exact hf i j (List.mem_range.mp hi) (List.mem_range.mp hj)
def frameO (s p : Nat) : Option Nat := if ptF s + 20 ≤ p then some (p - ptF s - 20) else none
def putAll (l : FrL) (g : Grid) : Grid := l.foldl (fun g p => putG g p.1.1 p.1.2 (some p.2)) g
def voidN (n : Nat) : Grid := List.replicate n (List.replicate n none)
theorem frame_grid {s : Nat} (hs : s < 5) : putAll (frameF (sdF s)) (voidN (sdF s)) = gridT s (frameO s) :=
  eq_of_beq (all5 (P := fun s => putAll (frameF (sdF s)) (voidN (sdF s)) == gridT s (frameO s)) (by decide +kernel) hs)
theorem frame_in {s : Nat} (hs : s < 5) : ∀ p ∈ frameF (sdF s), p.1.1 < sdF s ∧ p.1.2 < sdF s ∧ p.2 < 2 := fun p hp =>
  of_decide_eq_true (List.all_eq_true.mp (all5 (P := fun s => (frameF (sdF s)).all fun p => decide (p.1.1 < sdF s ∧ p.1.2 < sdF s ∧ p.2 < 2)) (by decide +kernel) hs) p hp)
def midO (s : Nat) (bits : List Nat) (i p : Nat) : Option Nat := if p < i then some (bits.getD p 0) else frameO s p
theorem dot_two {x : Nat} (h : x < 2) : DotOk (some x) := by
  have : x = 0 ∨ x = 1 := by omega
  rcases this with rfl | rfl
  · exact .inr (.inl rfl)
  · exact .inr (.inr rfl)
theorem mid_ok {s i : Nat} (hs : s < 5) {bits : List Nat} (hb : ∀ x ∈ bits, x < 2) : ∀ r c, r < sdF s → c < sdF s → DotOk (midO s bits i (plF s r c)) := fun r c hr hc => by
  have h1 := (way_pl hs hr hc).1
  unfold midO frameO
  split
  · rw [List.getD_eq_getElem?_getD]
    cases e : bits[plF s r c]? with
    | none => exact .inr (.inl rfl)
    | some x => exact dot_two (hb x (List.mem_of_getElem? e))
  · split
    · exact dot_two (by omega)
    · exact .inl rfl
theorem mid_step {s i x y : Nat} (hs : s < 5) (hi : i < ptF s) (e : (wayF (sdF s))[i]? = some (x, y)) {bits : List Nat} (hb : ∀ x ∈ bits, x < 2) (hl : bits.length = ptF s) :
    putG (gridT s (midO s bits i)) x y (some (bits.getD i 0)) = gridT s (midO s bits (i + 1)) := by
  obtain ⟨hx, hy⟩ := way_in hs (List.mem_of_getElem? e)
  have hx : x < sdF s := hx
  have hy : y < sdF s := hy
  obtain ⟨q, eq1, epl⟩ := pl_way hs hi
  rw [e] at eq1
  cases eq1
  have epl : plF s x y = i := epl
  have bi : bits.getD i 0 < 2 := hb _ (getD_mem (by omega))
  have sq := gridT_sq (mid_ok (i := i) hs hb)
  refine grid_ext (putG_sq sq hx (dot_two bi)) (gridT_sq (mid_ok hs hb)) fun r c hr hc => ?_
  rw [cell_put sq hx hy hr hc, gridT_cell _ hr hc, gridT_cell _ hr hc]
  by_cases h : r = x ∧ c = y
  · obtain ⟨rfl, rfl⟩ := h
    rw [if_pos ⟨rfl, rfl⟩, epl]
    unfold midO
    rw [if_pos (by omega)]
  · rw [if_neg h]
    have ne : plF s r c ≠ i := fun ei => by
      have w := (way_pl hs hr hc).2 (by omega)
      rw [ei, e] at w
      cases w
      exact h ⟨rfl, rfl⟩
    unfold midO
    by_cases c1 : plF s r c < i
    · rw [if_pos c1, if_pos (by omega)]
    · rw [if_neg c1, if_neg (by omega)]
theorem mid_end {s : Nat} (hs : s < 5) {ws : List Nat} (hl : ws.length = totF s) : gridT s (midO s (wordsB (bitsF s) ws) (ptF s)) = layF s ws := by
  have lw : (wordsB (bitsF s) ws).length = ptF s := by rw [wordsB_len, hl, tot_pt hs]
  refine grid_ext (gridT_sq (mid_ok hs (wordsB_lt _ _))) (lay_sq hs hl) fun r c hr hc => ?_
  rw [gridT_cell _ hr hc, show layF s ws = gridT s (fun p => (shadesF s ws).getD p none) from rfl, gridT_cell _ hr hc]
  have h1 := (way_pl hs hr hc).1
  generalize plF s r c = p at h1
  unfold midO frameO shadesF
  by_cases c1 : p < ptF s
  · rw [if_pos c1, List.getD_eq_getElem?_getD (l := _ ++ _), List.getElem?_append_left (by rw [List.length_map, lw]; exact c1), List.getElem?_map, List.getElem?_eq_getElem (by omega), List.getD_eq_getElem?_getD, List.getElem?_eq_getElem (by omega)]
    rfl
  · rw [if_neg c1, List.getD_eq_getElem?_getD, List.getElem?_append_right (by rw [List.length_map, lw]; omega), List.length_map, lw]
    by_cases c2 : ptF s + 20 ≤ p
    · rw [if_pos c2, List.getElem?_append_right (by rw [List.length_replicate]; omega), List.length_replicate]
      have : p - ptF s - 20 = 0 ∨ p - ptF s - 20 = 1 := by omega
      rcases this with h | h <;> rw [h] <;> rfl
    · rw [if_neg c2, List.getElem?_append_left (by rw [List.length_replicate]; omega), List.getElem?_replicate, if_pos (by omega)]
      rfl
/-! CUT -/
/-- new rows, apart from one another -/
structure DueI (H H' : Hp) (D : Addr) (L : List Addr) (g : Grid) (i : Nat) : Prop where
  fr : FrI H H' D L g i
  nod : L.Nodup
theorem DueI.step {H H' H2 : Hp} {D c : Addr} {L : List Addr} {g : Grid} {i : Nat} {r : List (Option Nat)} (F : DueI H H' D L g i) (hi : i ≤ g.length) (hD : H D = none) (hr : g[i]? = some r) (s : Same H' H2) (hc : H' c = none) (e : H2 c = some (.lst (r.map vG))) :
    DueI H (upd H2 D (.lst (L.map V.ref ++ [V.ref c]))) D (L ++ [c]) g (i + 1) where
  fr := F.fr.step hD hr s hc e
  nod := by
    rw [List.nodup_append]
    refine ⟨F.nod, List.nodup_cons.mpr ⟨by simp, .nil⟩, fun a ha b hb e => ?_⟩
    rw [List.mem_singleton.mp hb] at e
    obtain ⟨j, hj, rfl⟩ := List.getElem_of_mem ha
    have lj := F.fr.len
    have q := (F.fr.row j _ _ (List.getElem?_eq_getElem hj) (List.getElem?_eq_getElem (show j < g.length by omega))).2.2
    rw [e, hc] at q
    cases q
theorem DueI.ext {H H' H2 : Hp} {D : Addr} {L : List Addr} {g : Grid} {i : Nat} (F : DueI H H' D L g i) (s : Same H' H2) : DueI H H2 D L g i :=
  ⟨⟨F.fr.same.trans s, s _ _ F.fr.out, F.fr.len, fun j l r e1 e2 => let ⟨a, b, c⟩ := F.fr.row j l r e1 e2; ⟨a, b, s _ _ c⟩⟩, F.nod⟩
theorem DueI.put {H H' : Hp} {D l : Addr} {L : List Addr} {g : Grid} {n x y : Nat} {o : Option Nat} (F : DueI H H' D L g n) (sq : Sq n g) (hx : x < n) (hl : L[x]? = some l) :
    DueI H (upd H' l (.lst (((g.getD x []).set y o).map vG))) D L (putG g x y o) n := by
  have lg := sq.len
  obtain ⟨h1, h2, h3⟩ := F.fr.row x l (g.getD x []) hl (by rw [getD_in (by omega)]; exact List.getElem?_eq_getElem _)
  refine ⟨⟨fun b u hb => ?_, by rw [upd_ne h2.symm]; exact F.fr.out, F.fr.len, fun j l' r e1 e2 => ?_⟩, F.nod⟩
  · rw [upd_ne (ne_of_none hb h1)]
    exact F.fr.same _ _ hb
  · by_cases c : j = x
    · subst c
      cases hl.symm.trans e1
      unfold putG at e2
      rw [List.getElem?_set_self (by omega)] at e2
      cases e2
      exact ⟨h1, h2, upd_same⟩
    · unfold putG at e2
      rw [List.getElem?_set_ne (fun z => c z.symm)] at e2
      obtain ⟨a1, a2, a3⟩ := F.fr.row j l' r e1 e2
      have ne : l' ≠ l := fun e => c (by
        subst e
        exact (List.getElem?_inj (List.getElem?_eq_some_iff.mp e1).1 F.nod).mp (e1.trans hl.symm))
      exact ⟨a1, a2, by rw [upd_ne ne]; exact a3⟩
theorem DueI.gr {K : PySem.W.Frag} {H H' : Hp} {D : Addr} {L : List Addr} {g : Grid} {n : Nat} (F : DueI H H' D L g n) (h : g.length = n) : GrB true K H' D g :=
  ⟨L, .lst F.fr.out, by rw [F.fr.len, h], fun j l r e1 e2 => .lst (F.fr.row j l r e1 e2).2.2⟩
theorem DueI.keep {H H' H2 : Hp} {D : Addr} {L : List Addr} {g : Grid} {i : Nat} (F : DueI H H' D L g i) (s : ∀ b o, H b = some o → H2 b = some o) (k : ∀ b xs, H' b = some (.lst xs) → H2 b = some (.lst xs)) : DueI H H2 D L g i :=
  ⟨⟨s, k _ _ F.fr.out, F.fr.len, fun j l r e1 e2 => let ⟨a, b, c⟩ := F.fr.row j l r e1 e2; ⟨a, b, k _ _ c⟩⟩, F.nod⟩
/-- a grid that is laid, and the way through it -/
structure LaidI (H H' : Hp) (D : Addr) (M : List Addr) (g : Grid) (n : Nat) (F : Addr) (L : List Addr) (w : List (Nat × Nat)) : Prop where
  due : DueI H H' D M g n
  gF : H' F = some (.lst (L.map V.ref))
  sp : Spots H' L w
  ne : L ≠ []
  sq : Sq n g
theorem LaidI.ext {H H' H2 : Hp} {D F : Addr} {M L : List Addr} {g : Grid} {n : Nat} {w : List (Nat × Nat)} (I : LaidI H H' D M g n F L w) (s : Same H' H2) : LaidI H H2 D M g n F L w :=
  ⟨I.due.ext s, s _ _ I.gF, I.sp.same s, I.ne, I.sq⟩
theorem LaidI.lock {H H' : Hp} {D F d : Addr} {M L : List Addr} {g : Grid} {n : Nat} {w : List (Nat × Nat)} {kvs : List (List Key × V)} {o : Obj} (I : LaidI H H' D M g n F L w) (hd : H d = none) (gd : H' d = some (.dT kvs)) : LaidI H (upd H' d (.frz o (.dT kvs))) D M g n F L w := by
  have k : ∀ b u, H' b = some u → u ≠ .dT kvs → (upd H' d (.frz o (.dT kvs))) b = some u := fun b u e ne => by
    rw [upd_ne (fun z => ne (by rw [z, gd] at e; exact (Option.some.inj e).symm))]
    exact e
  refine ⟨I.due.keep (fun b u hb => ?_) (fun b xs e => k _ _ e (fun z => by cases z)), k _ _ I.gF (fun z => by cases z), I.sp.keep fun b xs e => k _ _ e (fun z => by cases z), I.ne, I.sq⟩
  rw [upd_ne (ne_of_none hb hd)]
  exact I.due.fr.same _ _ hb
theorem refG_ne {L : List Addr} {r : List (Option Nat)} (h : L ≠ []) : L.map V.ref ≠ r.map vG := fun e => by
  cases L with
  | nil => exact h rfl
  | cons a L =>
    cases r with
    | nil => cases e
    | cons o r =>
      rw [List.map_cons, List.map_cons] at e
      injection e with e1 _
      cases o <;> cases e1
theorem LaidI.put {H H' : Hp} {D F l : Addr} {M L : List Addr} {g : Grid} {n x y : Nat} {w : List (Nat × Nat)} {o : Option Nat} (I : LaidI H H' D M g n F L w) (hx : x < n) (hl : M[x]? = some l) (ho : DotOk o) :
    H' l = some (.lst ((g.getD x []).map vG)) ∧ (g.getD x []).length = n ∧ LaidI H (upd H' l (.lst (((g.getD x []).set y o).map vG))) D M (putG g x y o) n F L w := by
  have lg := I.sq.len
  obtain ⟨h1, h2, h3⟩ := I.due.fr.row x l (g.getD x []) hl (by rw [getD_in (by omega)]; exact List.getElem?_eq_getElem _)
  refine ⟨h3, I.sq.row _ (getD_mem (by omega)), I.due.put I.sq hx hl, ?_, I.sp.keep fun b xs e => ?_, I.ne, putG_sq I.sq hx ho⟩
  · rw [upd_ne (fun e => by
      have := I.gF
      rw [e, h3] at this
      exact refG_ne I.ne (HO.lst.inj (Option.some.inj this)).symm)]
    exact I.gF
  · rw [upd_ne (fun z => by rw [z, h3] at e; cases e)]
    exact e
theorem putAll_step {l : FrL} {i : Nat} {q : Nat × Nat} {x : Nat} {g : Grid} (e : l[i]? = some (q, x)) : putAll (l.take (i + 1)) g = putG (putAll (l.take i) g) q.1 q.2 (some x) := by
  unfold putAll
  rw [List.take_add_one, e, Option.toList_some, List.foldl_append]
  rfl
theorem frame_len24 {n : Nat} (h8 : 8 ≤ n) (h24 : n ≤ 24) : (frameF n).length ≤ 200 := by
  have h := frB_len n (n - 2)
  have h2 := putQ_len (frB n (n - 2)) (0, n - 1) 0
  unfold frameF
  omega
theorem mid_zero (s : Nat) (bits : List Nat) : midO s bits 0 = frameO s := funext fun p => if_neg (Nat.not_lt_zero p)
theorem wordsB_at {b : Nat} {ws : List Nat} {i j w : Nat} (e : ws[i]? = some w) (hj : j < b) : (wordsB b ws)[i * b + j]? = some (w / 2 ^ (b - 1 - j) % 2) := by
  have h : wordsB b ws = (ws.map (bitsW b)).flatten := by
    unfold wordsB
    rw [List.flatMap_def]
  rw [h, flat_at (n := b) (g := ws.map (bitsW b)) (fun r hr => by obtain ⟨x, _, rfl⟩ := List.mem_map.mp hr; exact bitsW_len b x) (r := bitsW b w) (by rw [List.getElem?_map, e]; rfl) hj]
  unfold bitsW
  rw [List.getElem?_map, List.getElem?_range hj]
  rfl
theorem and_one (n : Nat) : Builtin.bitAnd (n : Int) 1 = ((n % 2 : Nat) : Int) := by
  have h := PyProof.Rows.bitAnd_pp (x := (n : Int)) (y := 1) (by omega) (by omega)
  rw [h]
  show (((n : Int).toNat &&& (1 : Int).toNat : Nat) : Int) = _
  rw [Int.toNat_natCast]
  show ((n &&& 1 : Nat) : Int) = _
  rw [Nat.and_one_is_mod]
theorem bit_val {b w j : Nat} (hj : j < b) : V.int (Builtin.bitAnd ((w : Int) / 2 ^ ((b : Int) - 1 - (0 + (j : Int))).toNat) 1) = vN (w / 2 ^ (b - 1 - j) % 2) := by
  rw [show ((b : Int) - 1 - (0 + (j : Int))).toNat = b - 1 - j by omega]
  have e : (w : Int) / 2 ^ (b - 1 - j) = ((w / 2 ^ (b - 1 - j) : Nat) : Int) := by
    rw [Int.natCast_ediv, Int.natCast_pow]
    rfl
  rw [e, and_one]
  rfl
def sp_laid (K : PySem.W.Frag) : Sp := fun vs H Q _ => ∃ (s : Nat) (a : Addr) (ws : List Nat), vs = [.int ((s : Int) + 1), .ref a] ∧ s < 5 ∧ SqL K H a (ws.map vN) ∧ (∀ x ∈ ws, x < span (bitsF s)) ∧ ws.length = totF s ∧ ∀ D M H', H D = none → DueI H H' D M (layF s ws) (sdF s) → Q (.ref D) H'
theorem ok__law_laid (T : Txt K mg) : FnOk P w K mg base CX0 3 T.f__law_laid T.d__law_laid ["_law_size_so", "_law_words_so"] (sp_laid K) := by
  refine T.F__law_laid.ok sc__law_laid (fun vs H Q E h => ?_) (fun cdv A outer s H vs Q E hr h => ?_)
  · obtain ⟨s, a, ws, rfl, _⟩ := h
    rfl
  · obtain ⟨s0, a, ws, rfl, hs, hq, hw, hl, q⟩ := h
    refine ⟨_, (pss_cons (ps_asg (pe_slice sl_tup (pe_call (ok__law_table T) (hr.mono (by decide)) (by rfl) T.g__law_table T.F__law_table.kp T.b__law_table .nil pass0 (pa_cons (pv 0) pa_nil)) po_none (po_some pe_int)) (pg_tup rfl (pgs_cons (by first | exact (pg_name (i := 2) sc__law_laid.nd rfl (.inr rfl)) | exact (pg_name (i := 2) sc__law_laid.nd rfl (.inl rfl))) (pgs_cons (pg_name (i := 3) sc__law_laid.nd rfl (.inl rfl)) pgs_nil))))
      (pss_cons (ps_par (i := 5) (j := 6) (by rfl) sc__law_laid.nd rfl rfl (by decide) rfl rfl (pa_cons (pe_lc (own := [("_law_at", 4)]) rfl sc__law_laid.nd (pi_range1 (by rfl) T.n_range (pa_cons (pv 2) pa_nil)) (blkOk_by (N := ["_law_size_so", "_law_words_so", "_law_many", "_law_bits", "_law_at", "_law_rows", "_law_way_here", "_law_spot", "_law_shade", "_law_place_so", "_law_word", "_law_row", "_law_column"]) (sc := defScope s__law_laid) (by decide +kernel)) (fun _ _ _ _ _ => by exact (pg_name (i := 4) sc__law_laid.nd rfl (.inl rfl))) (fun _ _ _ _ _ => by exact pts_nil) (fun _ _ _ _ _ => by exact (pe_op op_rep (pe_lst (pa_cons pe_non pa_nil)) (pv 2)))) (pa_cons (pe_call (ok__law_way T) (hr.mono (by decide)) (by rfl) T.g__law_way T.F__law_way.kp T.b__law_way .nil pass0 (pa_cons (pv 2) pa_nil)) pa_nil)) (by rfl))
      (pss_cons (ps_for PassesOwn.never rfl (pi_itemsT (pe_call (ok__law_frame T) (hr.mono (by decide)) (by rfl) T.g__law_frame T.F__law_frame.kp T.b__law_frame .nil pass0 (pa_cons (pv 2) pa_nil))) (pg_tup rfl (pgs_cons (pg_name (i := 7) sc__law_laid.nd rfl (.inl rfl)) (pgs_cons (pg_name (i := 8) sc__law_laid.nd rfl (.inl rfl)) pgs_nil))) (pss_one (ps_asg (pv 8) (pg_sub (pe_ix ix_list (pv 5) (pe_ix ix_rowB (pv 7) pe_int (fun _ _ => rfl)) (fun _ _ => rfl)) (pe_ix ix_rowB (pv 7) pe_int (fun _ _ => rfl)) set_list))))
      (pss_cons (ps_for PassesOwn.never rfl (pi_enum (by rfl) T.n_enumerate (pa_cons (pv 1) pa_nil)) (pg_tup rfl (pgs_cons (pg_name (i := 9) sc__law_laid.nd rfl (.inl rfl)) (pgs_cons (pg_name (i := 10) sc__law_laid.nd rfl (.inl rfl)) pgs_nil))) (pss_one (ps_for PassesOwn.never rfl (pi_range1 (by rfl) T.n_range (pa_cons (pv 3) pa_nil)) (pg_name (i := 4) sc__law_laid.nd rfl (.inl rfl)) (pss_cons (ps_asg (pe_ix ix_list (pv 6) (pe_op op_add (pe_op op_mul (pv 9) (pv 3)) (pv 4)) (fun _ _ => rfl)) (pg_tup rfl (pgs_cons (pg_name (i := 11) sc__law_laid.nd rfl (.inl rfl)) (pgs_cons (pg_name (i := 12) sc__law_laid.nd rfl (.inl rfl)) pgs_nil))))
      (pss_one (ps_asg (pe_op op_and (pe_op op_shr (pv 10) (pe_op op_sub (pe_op op_sub (pv 3) pe_int) (pv 4))) pe_int) (pg_sub (pe_ix ix_list (pv 5) (pv 11) (fun _ _ => rfl)) (pv 12) set_list)))))))
      (pss_one (ps_ret (pv 5))))))), ?_⟩
    obtain ⟨hm1, hm2⟩ := side_le (sd_ok hs)
    refine ⟨_, rfl, s0, rfl, hs, fun t0 c1 c2 c3 H1 s1 n0 n1 g0 g1 g2 => ?_⟩
    refine ⟨_, rfl, t0, _, rfl, .inl (.inl g0), ?_, fun p hp => ?_⟩
    · rintro ⟨_, h⟩
      exact absurd h (by show ¬ (2 : Nat) = 5; decide)
    have s2 := same_upd (o := .tup (cutV [vN (sideL.getD s0 0), vN (bitsF s0), V.ref c1, V.ref c2, V.ref c3] none (some 2))) hp
    have g3 := upd_same (H := H1) (a := p) (o := .tup [vN (sdF s0), vN (bitsF s0)])
    refine ⟨p, [_, _], rfl, .inl (.inl g3), rfl, _, [_], rfl, _, [], rfl, rfl, ?_⟩
    have s12 := s1.trans s2
    generalize (upd H1 p (.tup (cutV [vN (sideL.getD s0 0), vN (bitsF s0), V.ref c1, V.ref c2, V.ref c3] none (some 2)))) = H2 at s12 ⊢
    clear s1 s2 g0 g1 g2 n0 n1 g3
    have n0 : (voidN (sdF s0)).length = sdF s0 := by
      unfold voidN
      rw [List.length_replicate]
    refine ⟨_, rfl, (sdF s0 : Int), rfl, by omega, by omega, fun D hD => ?_⟩
    have hD0 : H D = none := Same.free s12 hD
    refine lc_range (lo := 0) (n := sdF s0) (fun i H' => ∃ M, DueI H2 H' D M (voidN (sdF s0)) i) ⟨[], FrI.start hD, .nil⟩ ?_ ?_
    · rintro i H3 hi ⟨M, F⟩
      refine ⟨rfl, (by show 1 ≤ sizeLine; decide), fun l hl => ?_⟩
      have s3 := same_upd (o := .lst [V.non]) hl
      refine ⟨_, rfl, l, (sdF s0 : Int), _, rfl, rfl, upd_same, by omega, by omega, ?_, fun c hc => ?_⟩
      · show 1 * (sdF s0 : Int).toNat ≤ sizeLine
        exact Nat.le_of_lt (small1000 (by omega))
      have s4 := same_upd (o := .lst (List.replicate (sdF s0 : Int).toNat [V.non]).flatten) hc
      refine ⟨_, s4 _ _ (s3 _ _ F.fr.out), ?_, M ++ [c], F.step (by omega) hD (r := List.replicate (sdF s0) none) ?_ (s3.trans s4) (Same.free s3 hc) ?_⟩
      · rw [List.length_map, F.fr.len]
        exact small1000 (by omega)
      · unfold voidN
        rw [List.getElem?_replicate, if_pos hi]
      · rw [upd_same, rep_one, Int.toNat_natCast, List.map_replicate]
        rfl
    · rintro H3 ⟨M, F3⟩
      refine ⟨_, rfl, sdF s0, rfl, sd_ok hs, fun F L H4 s4 gF spF => ?_⟩
      have lL : L.length = ptF s0 := by rw [spF.len, way_len hs]
      have pt0 := (pt_parts hs)
      have I4 : LaidI H H4 D M (voidN (sdF s0)) (sdF s0) F L (wayF (sdF s0)) := ⟨⟨⟨s12.trans (F3.fr.same.trans s4), s4 _ _ F3.fr.out, F3.fr.len, fun j l r e1 e2 => let ⟨a, b, c⟩ := F3.fr.row j l r e1 e2; ⟨Same.free s12 a, b, s4 _ _ c⟩⟩, F3.nod⟩, gF, spF, fun e => by rw [e] at lL; simp at lL; omega, ⟨n0, fun r hr => by rw [List.eq_of_mem_replicate hr, List.length_replicate], fun r hr o ho => .inl (by rw [List.eq_of_mem_replicate hr] at ho; exact List.eq_of_mem_replicate ho)⟩⟩
      refine ⟨_, _, rfl, ?_⟩
      refine ⟨_, rfl, sdF s0, rfl, hm1, hm2, fun Df H5 s5 nf gf => ⟨Df, frK (frameF (sdF s0)), rfl, gf, fun ob => ?_⟩⟩
      have I5 := (I4.ext s5).lock (o := ob) (Same.free I4.due.fr.same nf) gf
      have g5 := upd_same (H := H5) (a := Df) (o := .frz ob (.dT (frK (frameF (sdF s0)))))
      generalize (upd H5 Df (.frz ob (.dT (frK (frameF (sdF s0)))))) = H6 at I5 g5 ⊢
      clear I4 s5 nf gf s4 gF spF F3 H3 hD s12 H2 H5 H4
      have lf : (frK (frameF (sdF s0))).length = (frameF (sdF s0)).length := by
        unfold frK
        rw [List.length_map]
      refine for_it (walk_itemsT (d := Df) (o := ob) (kvs := frK (frameF (sdF s0)))) (fun i σ H' => ∃ z7 z8 : Option V, σ = [some (.int ((s0 : Int) + 1)), some (.ref a), some (vN (sdF s0)), some (vN (bitsF s0)), none, some (.ref D), some (.ref F), z7, z8, none, none, none, none] ∧ LaidI H H' D M (putAll ((frameF (sdF s0)).take i) (voidN (sdF s0))) (sdF s0) F L (wayF (sdF s0)) ∧ H' Df = some (.frz ob (.dT (frK (frameF (sdF s0)))))) ⟨_, _, rfl, I5, g5⟩ (fun i σ H' _ ⟨_, _, _, _, h⟩ => h) ?_ ?_
      · clear I5 g5 H6
        rintro i v σ H6 H7 hi ⟨z7, z8, rfl, I6, g6⟩ ⟨T1, qa, kk, vv, ek, rfl, hT, hqa, rfl⟩
        rw [lf] at hi
        obtain ⟨⟨⟨r, c⟩, x⟩, ep, eq2⟩ : ∃ p, (frameF (sdF s0))[i]? = some p ∧ (keyQ p.1, vN p.2) = (kk, vv) := by
          unfold frK at ek
          rw [List.getElem?_map] at ek
          exact Option.map_eq_some_iff.mp ek
        cases eq2
        obtain ⟨hr0, hc0, hx2⟩ := frame_in hs _ (List.mem_of_getElem? ep)
        have hr0 : r < sdF s0 := hr0
        have hc0 : c < sdF s0 := hc0
        have hx2 : x < 2 := hx2
        have sT := same_upd (o := .tup [V.ref qa, vN x]) hT
        have I7 := I6.ext sT
        have g7 := sT _ _ g6
        have q7 := sT _ _ hqa
        have T7 := upd_same (H := H6) (a := T1) (o := .tup [V.ref qa, vN x])
        generalize (upd H6 T1 (.tup [V.ref qa, vN x])) = H8 at I7 g7 q7 T7 ⊢
        have lM := I7.due.fr.len
        have el : M[r]? = some (M[r]'(by omega)) := List.getElem?_eq_getElem _
        generalize M[r]'(by omega) = l0 at el
        obtain ⟨gl, ll, I8⟩ := I7.put (y := c) hr0 el (dot_two hx2)
        refine ⟨T1, [_, _], rfl, .inl (.inl T7), rfl, _, [_], rfl, _, [], rfl, rfl, ?_⟩
        refine ⟨_, rfl, _, rfl, _, rfl, qa, _, 0, vN r, false, rfl, rfl, .inl (.inl q7), rfl, D, _, _, .ref l0, rfl, rfl, .inl (.inl I7.due.fr.out), atI_nat (by rw [List.getElem?_map, el]; rfl), ?_⟩
        refine ⟨_, rfl, qa, _, 1, vN c, false, rfl, rfl, .inl (.inl q7), rfl, l0, _, _, c, rfl, rfl, gl, ixN_nat (by rw [List.length_map, ll]; exact hc0), ?_⟩
        refine ⟨_, _, rfl, ?_, ?_⟩
        · rw [putAll_step ep]
          rw [List.map_set] at I8
          exact I8
        · rw [upd_ne (fun e => by rw [← e, g7] at gl; cases gl)]
          exact g7
      · rintro σ H7 ⟨z7, z8, rfl, I7, g7⟩
        rw [lf, List.take_length, frame_grid hs] at I7
        clear g7
        have hb := bits_wd hs
        have b8 : bitsF s0 ≤ 8 ∧ 4 ≤ bitsF s0 := by rcases hb with h | h <;> omega
        have hW := wordsB_lt (bitsF s0) ws
        have lW : (wordsB (bitsF s0) ws).length = ptF s0 := by rw [wordsB_len, hl, tot_pt hs]
        have tp := tot_pt hs
        have t58 := tot_le hs
        rw [← mid_zero s0 (wordsB (bitsF s0) ws)] at I7
        refine ⟨_, rfl, a, _, rfl, I7.due.fr.same.seq hq, ?_⟩
        refine for_it (walk_enum (K := K) (a := a) (xs := ws.map vN)) (fun i σ H' => ∃ z4 z7 z8 z9 z10 z11 z12 : Option V, σ = [some (.int ((s0 : Int) + 1)), some (.ref a), some (vN (sdF s0)), some (vN (bitsF s0)), z4, some (.ref D), some (.ref F), z7, z8, z9, z10, z11, z12] ∧ LaidI H H' D M (gridT s0 (midO s0 (wordsB (bitsF s0) ws) (i * bitsF s0))) (sdF s0) F L (wayF (sdF s0))) ⟨_, _, _, _, _, _, _, rfl, by rw [Nat.zero_mul]; exact I7⟩ (fun i σ H' _ ⟨_, _, _, _, _, _, _, _, h⟩ => h.due.fr.same.seq hq) ?_ ?_
        · clear I7 H7 z7 z8
          rintro i v σ H7 H8 hi ⟨z4, z7, z8, z9, z10, z11, z12, rfl, I7⟩ ⟨T1, x1, y1, rfl, hT, rfl, e1, e2⟩
          rw [List.length_map] at hi
          have ex : x1 = .int (i : Int) := (Option.some.inj e1).symm
          replace e2 : (ws.map vN)[i]? = some y1 := e2
          have ew : ws[i]? = some ws[i] := List.getElem?_eq_getElem hi
          generalize ws[i] = w0 at ew
          rw [List.getElem?_map, ew] at e2
          obtain rfl := (Option.some.inj e2).symm
          subst ex
          have sT := same_upd (o := .tup [.int (i : Int), vN w0]) hT
          have I8 := I7.ext sT
          have T7 := upd_same (H := H7) (a := T1) (o := .tup [.int (i : Int), vN w0])
          generalize (upd H7 T1 (.tup [.int (i : Int), vN w0])) = H9 at I8 T7 ⊢
          refine ⟨T1, [_, _], rfl, .inl (.inl T7), rfl, _, [_], rfl, _, [], rfl, rfl, ?_⟩
          have hi58 : i < totF s0 := by omega
          have ib : i * bitsF s0 + bitsF s0 ≤ ptF s0 := by
            have : (i + 1) * bitsF s0 ≤ totF s0 * bitsF s0 := Nat.mul_le_mul_right _ hi58
            rw [Nat.succ_mul, Nat.mul_comm (totF s0), tp] at this
            exact this
          refine ⟨_, rfl, (bitsF s0 : Int), rfl, by omega, by omega, ?_⟩
          refine for_range (lo := 0) (n := bitsF s0) (fun j σ H' => ∃ z4 z7 z8 z11 z12 : Option V, σ = [some (.int ((s0 : Int) + 1)), some (.ref a), some (vN (sdF s0)), some (vN (bitsF s0)), z4, some (.ref D), some (.ref F), z7, z8, some (.int (i : Int)), some (vN w0), z11, z12] ∧ LaidI H H' D M (gridT s0 (midO s0 (wordsB (bitsF s0) ws) (i * bitsF s0 + j))) (sdF s0) F L (wayF (sdF s0))) ⟨_, _, _, _, _, rfl, I8⟩ ?_ ?_
          · clear I7 I8 T7 sT hT H7 H9 z4 z7 z8 z9 z10 z11 z12
            rintro j σ H9 hj ⟨z4, z7, z8, z11, z12, rfl, I9⟩
            have hk : i * bitsF s0 + j < ptF s0 := by omega
            have lWy := way_len hs
            have eq0 : (wayF (sdF s0))[i * bitsF s0 + j]? = some ((wayF (sdF s0))[i * bitsF s0 + j]'(by rw [lWy]; exact hk)) := List.getElem?_eq_getElem _
            generalize (wayF (sdF s0))[i * bitsF s0 + j]'(by rw [lWy]; exact hk) = qq at eq0
            obtain ⟨x, y⟩ := qq
            obtain ⟨hx1, hy1⟩ := way_in hs (List.mem_of_getElem? eq0)
            have hx1 : x < sdF s0 := hx1
            have hy1 : y < sdF s0 := hy1
            have eL : L[i * bitsF s0 + j]? = some (L[i * bitsF s0 + j]'(by rw [I9.sp.len, lWy]; exact hk)) := List.getElem?_eq_getElem _
            generalize L[i * bitsF s0 + j]'(by rw [I9.sp.len, lWy]; exact hk) = tq at eL
            have gq := I9.sp.at' _ tq _ eL eq0
            have ebit : (wordsB (bitsF s0) ws).getD (i * bitsF s0 + j) 0 = w0 / 2 ^ (bitsF s0 - 1 - j) % 2 := by
              rw [List.getD_eq_getElem?_getD, wordsB_at ew hj]
              rfl
            have lM := I9.due.fr.len
            have el : M[x]? = some (M[x]'(by omega)) := List.getElem?_eq_getElem _
            generalize M[x]'(by omega) = l0 at el
            obtain ⟨gl, ll, I10⟩ := I9.put (y := y) (o := some (w0 / 2 ^ (bitsF s0 - 1 - j) % 2)) hx1 el (dot_two (Nat.mod_lt _ (by decide)))
            have ms := mid_step hs hk eq0 hW lW
            rw [ebit] at ms
            rw [ms, List.map_set, show vG (some (w0 / 2 ^ (bitsF s0 - 1 - j) % 2)) = vN (w0 / 2 ^ (bitsF s0 - 1 - j) % 2) from rfl, ← bit_val hj] at I10
            have eix : (i : Int) * (bitsF s0 : Int) + (0 + (j : Int)) = ((i * bitsF s0 + j : Nat) : Int) := by
              rw [Int.zero_add, Int.natCast_add, Int.natCast_mul]
            refine ⟨_, rfl, _, rfl, _, rfl, _, _, rfl, rfl, .inl ⟨by omega, by omega⟩, _, rfl, _, _, rfl, rfl, F, _, _, .ref tq, rfl, rfl, .inl (.inl I9.gF), (by rw [eix]; exact atI_nat (by rw [List.getElem?_map, eL]; rfl)), ?_⟩
            refine ⟨tq, [_, _], rfl, .inl (.inl gq), rfl, _, [_], rfl, _, [], rfl, rfl, ?_⟩
            refine ⟨_, rfl, _, rfl, _, _, rfl, rfl, _, rfl, _, _, rfl, rfl, _, _, rfl, rfl, (by show (0 : Int) ≤ (bitsF s0 : Int) - 1 - (0 + (j : Int)); omega), _, _, rfl, rfl, ?_⟩
            refine ⟨_, rfl, _, rfl, D, _, _, .ref l0, rfl, rfl, .inl (.inl I9.due.fr.out), atI_nat (by rw [List.getElem?_map, el]; rfl), _, rfl, l0, _, _, y, rfl, rfl, gl, ixN_nat (by rw [List.length_map, ll]; exact hy1), ?_⟩
            exact ⟨_, _, _, _, _, rfl, I10⟩
          · rintro σ H10 ⟨z4, z7, z8, z11, z12, rfl, I10⟩
            refine ⟨_, _, _, _, _, _, _, rfl, ?_⟩
            rw [Nat.succ_mul]
            exact I10
        · rintro σ H8 ⟨z4, z7, z8, z9, z10, z11, z12, rfl, I8⟩
          rw [List.length_map, hl, Nat.mul_comm, tp, mid_end hs hl] at I8
          exact ⟨_, rfl, q D M H8 hD0 I8.due⟩
/-! CUT -/
/-! ### the law's reading -/
theorem join_onesB : ∀ l : List Nat, TL.joinL [] (l.map fun x => [x]) = l
  | [] => rfl
  | [x] => rfl
  | x :: y :: r => by
    have ih := join_onesB (y :: r)
    show [x] ++ ([] ++ TL.joinL [] ((y :: r).map fun x => [x])) = x :: y :: r
    rw [ih]
    rfl
theorem row_text (r : List Nat) : Txt.join (SX.S []) (r.map fun x => SX.S [sgn x]) = SX.S (r.map sgn) := by
  have e : (r.map fun x => SX.S [sgn x]) = ((r.map sgn).map fun x => [x]).map SX.S := by
    rw [List.map_map, List.map_map]
    rfl
  rw [e, SX.join_S, join_onesB]
theorem sum_ones (r : List Nat) : ((r.map fun x => SX.S [sgn x]).map (·.length)).sum = r.length := by
  induction r with
  | nil => rfl
  | cons x r ih =>
    rw [List.map_cons, List.map_cons, List.sum_cons, ih, SX.S_len, List.length_cons]
    show 1 + r.length = r.length + 1
    omega
theorem bit_sgn {r : List Nat} (h : ∀ x ∈ r, x = 0 ∨ x = 1) : ∀ c ∈ r.map sgn, IsBin c := fun c hc => by
  obtain ⟨x, hx, rfl⟩ := List.mem_map.mp hc
  rcases h x hx with rfl | rfl
  · exact .inl rfl
  · exact .inr rfl
theorem bin_fold (l : List Nat) : binNum (l.map sgn) = foldB l := by
  unfold binNum foldB
  have h : ∀ (l : List Nat) (a : Nat), (l.map sgn).foldl (fun a c => a * 2 + (c - 48)) a = l.foldl stp a := by
    intro l
    induction l with
    | nil => intro a; rfl
    | cons x l ih =>
      intro a
      rw [List.map_cons, List.foldl_cons, List.foldl_cons, ih]
      congr 1
      show a * 2 + (x + 48 - 48) = 2 * a + x
      omega
  exact h l 0
theorem none_in (l : List (Option Nat)) : inV .non (l.map vG) = !(l.all Option.isSome) := by
  unfold inV
  induction l with
  | nil => rfl
  | cons o l ih =>
    rw [List.map_cons, List.any_cons, ih, List.all_cons]
    cases o <;> rfl
theorem dots_flat (l : List (Option Nat)) : (l.map vG).all flatV = true := by
  rw [List.all_map]
  exact List.all_eq_true.mpr fun o _ => by cases o <;> rfl
theorem all_told {l : List (Option Nat)} (h : l.all Option.isSome = true) : l = (l.map fun o => o.getD 0).map some := by
  rw [List.map_map]
  have : ∀ l : List (Option Nat), l.all Option.isSome = true → l = l.map (some ∘ fun o => o.getD 0) := by
    intro l
    induction l with
    | nil => intro _; rfl
    | cons o l ih =>
      intro h
      rw [List.all_cons, Bool.and_eq_true] at h
      rw [List.map_cons, ← ih h.2]
      cases o with
      | none => cases h.1
      | some x => rfl
  exact this l h
theorem rg_parts {s : Nat} (hs : s < 5) : RgC 0 (ptF s : Int) (bitsF s : Int) (totF s) := by
  have h := all5 (P := fun s => decide ((bitsF s : Int) ≠ 0 ∧ ((bitsF s : Int)).natAbs < 1073741824 ∧ Builtin.Range.small 0 (ptF s : Int) (bitsF s : Int) = true ∧ Builtin.Range.rangeSize 0 (ptF s : Int) (bitsF s : Int) = totF s)) (by decide +kernel) hs
  unfold RgC
  exact of_decide_eq_true h
theorem part_cut {os : List (Option Nat)} {b n i : Nat} (hl : os.length = b * n) (hi : i < n) : cutV (os.map vG) (some (0 + (i : Int) * (b : Int))) (some (0 + (i : Int) * (b : Int) + (b : Int))) = (partO os b i).map vG := by
  have e1 : (0 : Int) + (i : Int) * (b : Int) = ((i * b : Nat) : Int) := by rw [Int.zero_add, Int.natCast_mul]
  have e2 : (0 : Int) + (i : Int) * (b : Int) + (b : Int) = ((i * b + b : Nat) : Int) := by rw [e1, Int.natCast_add]
  have h1 : (i + 1) * b ≤ n * b := Nat.mul_le_mul_right b hi
  rw [Nat.succ_mul, Nat.mul_comm n] at h1
  unfold cutV partO
  rw [e2, e1, HT.sIx_nat, HT.sIx_nat, List.length_map, hl, Nat.min_eq_left h1, Nat.min_eq_left (by omega), show i * b + b - i * b = b by omega, Nat.mul_comm i b, List.map_take, List.map_drop]
def sp_heard (K : PySem.W.Frag) : Sp := fun vs H Q _ => ∃ (s : Nat) (a : Addr) (g : Grid), vs = [.int ((s : Int) + 1), .ref a] ∧ s < 5 ∧ GrB true K H a g ∧ Sq (sdF s) g ∧ ∀ D H', Same H H' → H D = none → H' D = some (.lst ((heardF (bitsF s) (dotsF s g)).map vG)) → Q (.ref D) H'
theorem ok__law_heard (T : Txt K mg) : FnOk P w K mg base CX0 3 T.f__law_heard T.d__law_heard ["_law_size_so", "_law_rows"] (sp_heard K) := by
  refine T.F__law_heard.ok sc__law_heard (fun vs H Q E h => ?_) (fun cdv A outer s H vs Q E hr h => ?_)
  · obtain ⟨s, a, g, rfl, _⟩ := h
    rfl
  · obtain ⟨s0, a, g, rfl, hs, hG, sq, q⟩ := h
    refine ⟨_, (pss_cons (ps_asg (pe_slice sl_tup (pe_call (ok__law_table T) (hr.mono (by decide)) (by rfl) T.g__law_table T.F__law_table.kp T.b__law_table .nil pass0 (pa_cons (pv 0) pa_nil)) po_none (po_some pe_int)) (pg_tup rfl (pgs_cons (pg_name (i := 2) sc__law_heard.nd rfl (.inl rfl)) (pgs_cons (pg_name (i := 3) sc__law_heard.nd rfl (.inl rfl)) pgs_nil))))
      (pss_cons (ps_par (i := 4) (j := 5) (by rfl) sc__law_heard.nd rfl rfl (by decide) rfl rfl (pa_cons (pe_lc (own := [("_law_row", 8), ("_law_column", 9)]) (g := gTup K 2 (gCons (gName 8) (gCons (gName 9) gNil))) rfl sc__law_heard.nd (pi_list (pe_call (ok__law_way T) (hr.mono (by decide)) (by rfl) T.g__law_way T.F__law_way.kp T.b__law_way .nil pass0 (pa_cons (pv 2) pa_nil))) (blkOk_by (N := ["_law_size_so", "_law_rows", "_law_many", "_law_bits", "_law_dots", "_law_found", "_law_at", "_law_some", "_law_row", "_law_column", "_law_one"]) (sc := defScope s__law_heard) (by decide +kernel)) (fun _ _ _ _ _ => by (refine pg_tup ?_ ?_); (exact rfl); (refine pgs_cons ?_ ?_); (exact (pg_name (i := 8) sc__law_heard.nd rfl (.inl rfl))); (refine pgs_cons ?_ ?_); (exact (pg_name (i := 9) sc__law_heard.nd rfl (.inl rfl))); (exact pgs_nil)) (fun _ _ _ _ _ => by exact pts_nil) (fun _ _ _ _ _ => by exact (pe_ix (ix_rowBK (K := K) rfl) (pe_ix (ix_rowBK (K := K) rfl) (pv 1) (pv 8) (fun _ _ => rfl)) (pv 9) (fun _ _ => rfl)))) (pa_cons (pe_lst pa_nil) pa_nil)) (by rfl))
      (pss_cons (ps_for PassesOwn.never rfl (pi_range3 (by rfl) T.n_range (pa_cons pe_int (pa_cons (pe_callB call_len_seq (by rfl) T.n_len (by decide +kernel) (pa_cons (pv 4) pa_nil)) (pa_cons (pv 3) pa_nil)))) (pg_name (i := 6) sc__law_heard.nd rfl (.inl rfl)) (pss_cons (ps_set (i := 7) sc__law_heard.nd rfl (.inl rfl) (pe_slice sl_list (pv 4) (po_some (pv 6)) (po_some (pe_op op_add (pv 6) (pv 3)))))
      (pss_one (ps_expr (pe_bm PySem.F.plainAttrs_list PySem.F.slot_list_append PySem.F.type_list_append mt_append (pv 5) (pa_cons (pe_ifExp (pt_cmpR op_in_seq pe_non (pv 7) (by rfl)) pe_non (pe_callTy call_int_bin (by rfl) T.n_int (by decide +kernel) (pa_cons (pe_join pe_str (pe_lc (own := [("_law_one", 10)]) rfl sc__law_heard.nd (pi_list (pv 7)) (blkOk_by (N := ["_law_size_so", "_law_rows", "_law_many", "_law_bits", "_law_dots", "_law_found", "_law_at", "_law_some", "_law_row", "_law_column", "_law_one"]) (sc := defScope s__law_heard) (by decide +kernel)) (fun _ _ _ _ _ => by exact (pg_name (i := 10) sc__law_heard.nd rfl (.inl rfl))) (fun _ _ _ _ _ => by exact pts_nil) (fun _ _ _ _ _ => by exact (pe_callTy call_str_int (by rfl) T.n_str (by decide +kernel) (pa_cons (pv 10) pa_nil))))) (pa_cons pe_int pa_nil)))) pa_nil))))))
      (pss_one (ps_ret (pv 5)))))), ?_⟩
    obtain ⟨hm1, hm2⟩ := side_le (sd_ok hs)
    obtain ⟨LG, h1, h2, h3⟩ := hG.ex
    have lWy := way_len hs
    refine ⟨_, rfl, s0, rfl, hs, fun t0 c1 c2 c3 H1 s1 n0 n1 g0 g1 g2 => ?_⟩
    refine ⟨_, rfl, t0, _, rfl, .inl (.inl g0), ?_, fun p hp => ?_⟩
    · rintro ⟨_, h⟩
      exact absurd h (by show ¬ (2 : Nat) = 5; decide)
    have s2 := same_upd (o := .tup (cutV [vN (sideL.getD s0 0), vN (bitsF s0), V.ref c1, V.ref c2, V.ref c3] none (some 2))) hp
    have g3 := upd_same (H := H1) (a := p) (o := .tup [vN (sdF s0), vN (bitsF s0)])
    refine ⟨p, [_, _], rfl, .inl (.inl g3), rfl, _, [_], rfl, _, [], rfl, rfl, ?_⟩
    have s12 := s1.trans s2
    generalize (upd H1 p (.tup (cutV [vN (sideL.getD s0 0), vN (bitsF s0), V.ref c1, V.ref c2, V.ref c3] none (some 2)))) = H2 at s12 ⊢
    clear s1 s2 g0 g1 g2 n0 n1 g3
    refine ⟨_, rfl, sdF s0, rfl, sd_ok hs, fun F L H3 s3 gF spF => ⟨F, rfl, ⟨_, .inl (.inl gF)⟩, fun D hD => ?_⟩⟩
    have s23 := s12.trans s3
    refine lc_it (walk_list (K := K) (a := F) (xs := L.map V.ref)) (fun i H' => Same H3 H' ∧ H' D = some (.lst (((dotsF s0 g).take i).map vG))) ⟨same_upd hD, upd_same⟩ (fun i H' _ h => .inl (.inl (h.1 _ _ gF))) ?_ ?_
    · rintro i v H4 H5 hi ⟨sm, gD⟩ ⟨rfl, e2⟩
      rw [List.length_map, spF.len, lWy] at hi
      have eq0 : (wayF (sdF s0))[i]? = some ((wayF (sdF s0))[i]'(by rw [lWy]; exact hi)) := List.getElem?_eq_getElem _
      generalize (wayF (sdF s0))[i]'(by rw [lWy]; exact hi) = qq at eq0
      obtain ⟨x, y⟩ := qq
      obtain ⟨hx1, hy1⟩ := way_in hs (List.mem_of_getElem? eq0)
      have hx1 : x < sdF s0 := hx1
      have hy1 : y < sdF s0 := hy1
      have eL : L[i]? = some (L[i]'(by rw [spF.len, lWy]; exact hi)) := List.getElem?_eq_getElem _
      generalize L[i]'(by rw [spF.len, lWy]; exact hi) = tq at eL
      rw [List.getElem?_map, eL] at e2
      obtain rfl := (Option.some.inj e2).symm
      have gq := sm _ _ (spF.at' _ tq _ eL eq0)
      have ed : (dotsF s0 g)[i]? = some (cell g x y) := by
        unfold dotsF
        rw [List.getElem?_map, eq0]
        rfl
      have er : g[x]? = some (g.getD x []) := by
        rw [getD_in (by rw [sq.len]; exact hx1)]
        exact List.getElem?_eq_getElem _
      have lr : (g.getD x []).length = sdF s0 := sq.row _ (List.mem_of_getElem? er)
      have ey : (g.getD x [])[y]? = some (cell g x y) := by
        unfold cell
        rw [List.getD_eq_getElem?_getD (l := g.getD x []), List.getElem?_eq_getElem (by rw [lr]; exact hy1)]
        rfl
      have el : LG[x]? = some (LG[x]'(by rw [h2, sq.len]; exact hx1)) := List.getElem?_eq_getElem _
      generalize LG[x]'(by rw [h2, sq.len]; exact hx1) = la at el
      have s05 := s23.trans sm
      refine ⟨tq, [_, _], rfl, .inl (.inl gq), rfl, _, [_], rfl, _, [], rfl, rfl, rfl, ?_⟩
      refine ⟨_, rfl, _, rfl, a, _, _, .ref la, true, rfl, rfl, Same.sqb s05 h1, atI_nat (by rw [List.getElem?_map, el]; rfl), _, rfl, la, _, _, vG (cell g x y), true, rfl, rfl, Same.sqb s05 (h3 x la _ el er), atI_nat (by rw [List.getElem?_map, ey]; rfl), _, gD, ?_, fun c o' hc => ?_, ?_⟩
      · rw [List.length_map, List.length_take]
        have := (pt_parts hs)
        exact small1000 (by omega)
      · rw [upd_ne (ne_of_none hc hD)]
        exact sm _ _ hc
      · rw [upd_same, List.take_add_one, ed, Option.toList_some, List.map_append]
        rfl
    · rintro H4 ⟨s4, gD⟩
      rw [List.length_map, spF.len, lWy, List.take_of_length_le (by rw [wdots_len hs]; exact Nat.le_refl _)] at gD
      have s04 := s23.trans s4
      refine ⟨(by show 0 ≤ sizeLine; decide), fun Dt hDt => ⟨_, _, rfl, ?_⟩⟩
      have hDt0 : H Dt = none := Same.free s04 hDt
      have sD := same_upd (o := .lst []) hDt
      have ld := wdots_len hs g
      refine ⟨_, rfl, D, _, rfl, .inl (.inl (.inl (sD _ _ gD))), _, rfl, 0, (ptF s0 : Int), (bitsF s0 : Int), totF s0, (by rw [List.length_map, ld]; rfl), rg_parts hs, ?_⟩
      refine for_rangeC (lo := 0) (c := (bitsF s0 : Int)) (n := totF s0) (fun i σ H' => ∃ z6 z7 : Option V, σ = [some (.int ((s0 : Int) + 1)), some (.ref a), some (vN (sdF s0)), some (vN (bitsF s0)), some (.ref D), some (.ref Dt), z6, z7, none, none, none] ∧ Same H4 H' ∧ H' Dt = some (.lst (((List.range i).map fun i => wordO (partO (dotsF s0 g) (bitsF s0) i)).map vG))) ⟨_, _, rfl, sD, upd_same⟩ ?_ ?_
      · rintro i σ H5 hi ⟨z6, z7, rfl, s5, g5⟩
        refine ⟨_, rfl, _, rfl, _, rfl, _, rfl, ?_⟩
        have tp := tot_pt hs
        have hb := bits_wd hs
        have b8 : bitsF s0 ≤ 8 ∧ 4 ≤ bitsF s0 := by rcases hb with h | h <;> omega
        have t58 := tot_le hs
        have ldp : (dotsF s0 g).length = bitsF s0 * totF s0 := by rw [ld, tp]
        have dok := wdots_ok hs sq
        have lp := part_len ldp hi
        refine ⟨_, rfl, _, _, rfl, rfl, _, rfl, D, _, rfl, .inl (.inl (s5 _ _ gD)), fun p hp => ?_⟩
        rw [part_cut ldp hi]
        have sp := same_upd (o := .lst ((partO (dotsF s0 g) (bitsF s0) i).map vG)) hp
        have g6 := sp _ _ g5
        have s6 := s5.trans sp
        have gp := upd_same (H := H5) (a := p) (o := .lst ((partO (dotsF s0 g) (bitsF s0) i).map vG))
        generalize (upd H5 p (.lst ((partO (dotsF s0 g) (bitsF s0) i).map vG))) = H6 at g6 s6 gp ⊢
        have fin : ∀ (v : V) (H7 : Hp), Same H6 H7 → v = vG (wordO (partO (dotsF s0 g) (bitsF s0) i)) → rAppend (.ref Dt) [v] H7 fun x H' => ∃ z6 z7 : Option V, [some (.int ((s0 : Int) + 1)), some (.ref a), some (vN (sdF s0)), some (vN (bitsF s0)), some (.ref D), some (.ref Dt), some (V.int (0 + (i : Int) * (bitsF s0 : Int))), some (V.ref p), none, none, none] = [some (.int ((s0 : Int) + 1)), some (.ref a), some (vN (sdF s0)), some (vN (bitsF s0)), some (.ref D), some (.ref Dt), z6, z7, none, none, none] ∧ Same H4 H' ∧ H' Dt = some (.lst (((List.range (i + 1)).map fun i => wordO (partO (dotsF s0 g) (bitsF s0) i)).map vG)) := fun v H7 s7 ev => by
          subst ev
          refine ⟨Dt, _, _, rfl, rfl, s7 _ _ g6, ?_, _, _, rfl, fun c o' hc => ?_, ?_⟩
          · rw [List.length_map, List.length_map, List.length_range]
            exact small1000 (by omega)
          · rw [upd_ne (ne_of_none hc hDt)]
            exact s7 _ _ (s6 _ _ hc)
          · rw [upd_same, List.range_succ, List.map_append, List.map_append]
            rfl
        refine ⟨_, rfl, .inl ⟨rfl, _, .inl (.inl g6)⟩, _, rfl, p, _, rfl, .inl (.inl (.inl gp)), rfl, dots_flat _, _, rfl, ?_⟩
        rw [none_in]
        cases eall : (partO (dotsF s0 g) (bitsF s0) i).all Option.isSome with
        | false =>
          have ew : wordO (partO (dotsF s0 g) (bitsF s0) i) = none := by
            unfold wordO
            rw [eall]
            rfl
          exact iteT (fin _ H6 (Same.refl _) (by rw [ew]; rfl))
        | true =>
          refine iteF ?_
          have pd := part_dot (b := bitsF s0) (i := i) dok
          have e0 := all_told eall
          have ew : wordO (partO (dotsF s0 g) (bitsF s0) i) = some (foldB ((partO (dotsF s0 g) (bitsF s0) i).map fun o => o.getD 0)) := by
            unfold wordO
            rw [eall]
            rfl
          have hx : ∀ x ∈ (partO (dotsF s0 g) (bitsF s0) i).map (fun o => o.getD 0), x = 0 ∨ x = 1 := fun x hx => by
            obtain ⟨o, ho, rfl⟩ := List.mem_map.mp hx
            rcases pd o ho with rfl | rfl | rfl
            · exact .inl rfl
            · exact .inl rfl
            · exact .inr rfl
          have lx : ((partO (dotsF s0 g) (bitsF s0) i).map fun o => o.getD 0).length = bitsF s0 := by rw [List.length_map, lp]
          rw [ew] at fin
          rw [e0] at gp
          generalize ((partO (dotsF s0 g) (bitsF s0) i).map fun o => o.getD 0) = xs at gp hx lx fin
          have lt8 : xs.length ≤ 8 := by omega
          have gp' : H6 p = some (.lst (xs.map vN)) := by
            rw [gp, List.map_map]
            rfl
          refine ⟨⟨_, rfl⟩, _, rfl, p, rfl, ⟨_, .inl (.inl gp')⟩, fun Dj hDj => ?_⟩
          refine lc_it (walk_list (K := K) (a := p) (xs := xs.map vN)) (fun i H' => Same H6 H' ∧ H' Dj = some (.lst (((xs.take i).map fun x => SX.S [sgn x]).map V.str))) ⟨same_upd hDj, upd_same⟩ (fun i H' _ h => .inl (.inl (h.1 _ _ gp'))) ?_ ?_
          · rintro j v H1' H2' hj ⟨sm, gj⟩ ⟨rfl, e2⟩
            rw [List.length_map] at hj
            rw [List.getElem?_map, List.getElem?_eq_getElem hj] at e2
            obtain rfl := (Option.some.inj e2).symm
            have hxj := hx _ (List.getElem_mem hj)
            have er : xs[j]? = some xs[j] := List.getElem?_eq_getElem hj
            generalize xs[j] = x at hxj er
            refine ⟨rfl, ?_⟩
            refine ⟨_, rfl, (x : Int), rfl, ?_, ?_⟩
            · rcases hxj with rfl | rfl <;> decide
            refine ⟨_, gj, ?_, fun c o hc => ?_, ?_⟩
            · rw [List.length_map, List.length_map, List.length_take]
              exact small1000 (by omega)
            · rw [upd_ne (ne_of_none hc hDj)]
              exact sm _ _ hc
            · rw [upd_same, List.take_add_one, er, List.map_append, List.map_append]
              rcases hxj with rfl | rfl <;> rfl
          · rintro H7 ⟨s7, g7⟩
            rw [List.length_map, List.take_length] at g7
            refine ⟨_, Dj, _, rfl, rfl, .inl (.inl (.inl g7)), ?_, ?_⟩
            · rw [sum_ones, show (Str.ofString "").length = 0 from rfl]
              omega
            refine ⟨xs.map sgn, ?_, ?_, ?_, bit_sgn hx, ?_⟩
            · exact congrArg (fun z => [V.str z, V.int 2]) (row_text xs)
            · intro e
              have := congrArg List.length e
              rw [List.length_map] at this
              have this : xs.length = 0 := this
              omega
            · rw [List.length_map]
              omega
            · rw [bin_fold]
              exact fin _ H7 s7 rfl
      · rintro σ H5 ⟨z6, z7, rfl, s5, g5⟩
        refine ⟨_, rfl, q Dt H5 (s04.trans s5) hDt0 ?_⟩
        unfold heardF
        rw [ld, ← tot_pt hs, Nat.mul_div_cancel_left _ (by rcases bits_wd hs with h | h <;> omega)]
        exact g5
/-! CUT -/
/-! ### there and back -/
theorem lay_dots {s : Nat} (hs : s < 5) {ws : List Nat} (hl : ws.length = totF s) : dotsF s (layF s ws) = (wordsB (bitsF s) ws).map some := by
  have lw : (wordsB (bitsF s) ws).length = ptF s := by rw [wordsB_len, hl, tot_pt hs]
  refine List.ext_getElem? fun i => ?_
  by_cases hi : i < ptF s
  · obtain ⟨⟨x, y⟩, eq0, epl⟩ := pl_way hs hi
    have epl : plF s x y = i := epl
    obtain ⟨hx, hy⟩ := way_in hs (List.mem_of_getElem? eq0)
    have e1 : (dotsF s (layF s ws))[i]? = some (cell (layF s ws) x y) := by
      unfold dotsF
      rw [List.getElem?_map, eq0]
      rfl
    rw [e1, show layF s ws = gridT s (fun p => (shadesF s ws).getD p none) from rfl, gridT_cell _ hx hy, epl]
    unfold shadesF
    rw [List.getD_eq_getElem?_getD, List.getElem?_append_left (by rw [List.length_map, lw]; exact hi), List.getElem?_map, List.getElem?_eq_getElem (by omega)]
    rfl
  · rw [List.getElem?_eq_none (by rw [wdots_len hs]; omega), List.getElem?_eq_none (by rw [List.length_map, lw]; omega)]
theorem word_back {b w : Nat} (hb : b = 4 ∨ b = 8) (hw : w < span b) : foldB (bitsW b w) = w := by
  rcases hb with rfl | rfl
  · have q : ((List.range 16).all fun w => foldB (bitsW 4 w) == w) = true := by decide +kernel
    exact eq_of_beq (List.all_eq_true.mp q w (List.mem_range.mpr hw))
  · have q : ((List.range 256).all fun w => foldB (bitsW 8 w) == w) = true := by decide +kernel
    exact eq_of_beq (List.all_eq_true.mp q w (List.mem_range.mpr hw))
theorem wordO_some (l : List Nat) : wordO (l.map some) = some (foldB l) := by
  unfold wordO
  rw [if_pos (by rw [List.all_map]; exact List.all_eq_true.mpr fun _ _ => rfl), List.map_map]
  congr 1
  exact congrArg foldB (List.map_id l)
theorem heard_lay {s : Nat} (hs : s < 5) {ws : List Nat} (hl : ws.length = totF s) (hw : ∀ x ∈ ws, x < span (bitsF s)) : heardF (bitsF s) (dotsF s (layF s ws)) = ws.map some := by
  rw [lay_dots hs hl]
  have hb : bitsF s = 4 ∨ bitsF s = 8 := bits_wd hs
  have lw : ((wordsB (bitsF s) ws).map some).length = bitsF s * totF s := by rw [List.length_map, wordsB_len, hl]
  have b0 : 0 < bitsF s := by rcases hb with h | h <;> omega
  refine List.ext_getElem? fun i => ?_
  by_cases hi : i < totF s
  · rw [heard_at b0 lw hi]
    have ew : ws[i]? = some ws[i] := List.getElem?_eq_getElem (by omega)
    have hx := hw _ (List.getElem_mem (show i < ws.length by omega))
    generalize ws[i] = w0 at ew hx
    have ep : partO ((wordsB (bitsF s) ws).map some) (bitsF s) i = (bitsW (bitsF s) w0).map some := by
      refine List.ext_getElem? fun j => ?_
      by_cases hj : j < bitsF s
      · rw [part_at hj, List.getElem?_map, Nat.mul_comm, wordsB_at ew hj, List.getElem?_map]
        unfold bitsW
        rw [List.getElem?_map, List.getElem?_range hj]
        rfl
      · rw [List.getElem?_eq_none (by rw [part_len lw hi]; omega), List.getElem?_eq_none (by rw [List.length_map, bitsW_len]; omega)]
    rw [ep, wordO_some, word_back hb hx, List.getElem?_map, ew]
    rfl
  · rw [List.getElem?_eq_none (by rw [heard_len b0 lw]; omega), List.getElem?_eq_none (by rw [List.length_map]; omega)]
/-! CUT -/
structure RwI (p : Addr) (H H' : Hp) (D : Addr) (M : List Addr) (g : Grid) (n : Nat) : Prop where
  kp : Kp p H H'
  out : H' D = some (.lst (M.map V.ref))
  len : M.length = g.length
  row : ∀ (j : Nat) (l : Addr) (r : List (Option Nat)), M[j]? = some l → g[j]? = some r → H' l = some (.lst (r.map vG)) ∧ l ≠ D
  sq : ∀ r ∈ g, r.length = n ∧ ∀ o ∈ r, DotOk o
  nod : M.Nodup
  new : ∀ (j : Nat) (l : Addr), M[j]? = some l → H l = none
  newD : H D = none
theorem RwI.ext {p : Addr} {H H' H2 : Hp} {D : Addr} {M : List Addr} {g : Grid} {n : Nat} {o : HO} (F : RwI p H H' D M g n) (hp : H p = some o) (s : Kp p H' H2) : RwI p H H2 D M g n where
  kp := F.kp.trans s
  out := s _ _ F.out fun e => by rw [← e, F.newD] at hp; cases hp
  len := F.len
  row j l r e1 e2 := ⟨s _ _ (F.row j l r e1 e2).1 (fun e => by rw [← e, F.new j l e1] at hp; cases hp), (F.row j l r e1 e2).2⟩
  sq := F.sq
  nod := F.nod
  new := F.new
  newD := F.newD
theorem RwI.Sq {p : Addr} {H H' : Hp} {D : Addr} {M : List Addr} {g : Grid} {n : Nat} (F : RwI p H H' D M g n) (lg : g.length = n) : My.Sq n g := ⟨lg, fun r hr => (F.sq r hr).1, fun r hr o ho => (F.sq r hr).2 o ho⟩
theorem RwI.gr {K : PySem.W.Frag} {p : Addr} {H H' : Hp} {D : Addr} {M : List Addr} {g : Grid} {n : Nat} (F : RwI p H H' D M g n) : GrB true K H' D g :=
  ⟨M, .lst F.out, F.len, fun j l r e1 e2 => .lst (F.row j l r e1 e2).1⟩
theorem RwI.back {p : Addr} {H0 H H' : Hp} {D : Addr} {M : List Addr} {g : Grid} {n : Nat} (F : RwI p H H' D M g n) (s : Same H0 H) : RwI p H0 H' D M g n where
  kp := (Same.kp s).trans F.kp
  out := F.out
  len := F.len
  row := F.row
  sq := F.sq
  nod := F.nod
  new j l e := Same.free s (F.new j l e)
  newD := Same.free s F.newD
theorem some_dots (b : Bool) : ∃ os : List (Option Nat), cutV [V.int 0, V.int 1, V.non] none (some (2 + if b = true then 1 else 0)) = os.map vG ∧ (∀ o ∈ os, DotOk o) ∧ 0 < os.length ∧ os.length ≤ 1000 := by
  cases b with
  | true => exact ⟨[some 0, some 1, none], rfl, fun o ho => by
      simp at ho
      rcases ho with rfl | rfl | rfl
      · exact .inr (.inl rfl)
      · exact .inr (.inr rfl)
      · exact .inl rfl, by decide, by decide⟩
  | false => exact ⟨[some 0, some 1], rfl, fun o ho => by
      simp at ho
      rcases ho with rfl | rfl
      · exact .inr (.inl rfl)
      · exact .inr (.inr rfl), by decide, by decide⟩
def sp_right : Sp := fun vs H Q _ => ∃ (p : Addr) (a b c : Int), vs = [.ref p] ∧ H p = some (WellL a b c) ∧ ∀ (a' b' c' : Int) (H' : Hp), Kp p H H' → H' p = some (WellL a' b' c') → Q (.bl true) H'
theorem ok__law_right (T : Txt K mg) : FnG P w K mg base CX0 7 T.f__law_right T.d__law_right ["_law_source"] sp_right := by
  refine okStill T.F__law_right sc__law_right (fun vs H Q E h => ?_) (fun cdv A outer s H vs Q E sg hr h => ?_)
  · obtain ⟨p, a, b, c, rfl, _⟩ := h
    rfl
  · obtain ⟨p, a, b0, c, rfl, hp, q⟩ := h
    refine ⟨_, (pss_cons (ps_set (i := 1) sc__law_right.nd rfl (.inl rfl) (pe_op op_add pe_int (pe_call (ok__law_next T) (hr.mono (by decide)) (by rfl) T.g__law_next T.F__law_next.kp T.b__law_next .nil pass0 (pa_cons (pv 0) (pa_cons pe_int pa_nil)))))
      (pss_cons (ps_asg (pe_slice sl_tup (pe_call (ok__law_table T) (hr.mono (by decide)) (by rfl) T.g__law_table T.F__law_table.kp T.b__law_table .nil pass0 (pa_cons (pv 1) pa_nil)) po_none (po_some pe_int)) (pg_tup rfl (pgs_cons (pg_name (i := 2) sc__law_right.nd rfl (.inl rfl)) (pgs_cons (by first | exact (pg_name (i := 3) sc__law_right.nd rfl (.inr rfl)) | exact (pg_name (i := 3) sc__law_right.nd rfl (.inl rfl))) (pgs_cons (pg_name (i := 4) sc__law_right.nd rfl (.inl rfl)) pgs_nil)))))
      (pss_cons (ps_set (i := 5) sc__law_right.nd rfl (.inl rfl) (pe_call (ok__law_next T) (hr.mono (by decide)) (by rfl) T.g__law_next T.F__law_next.kp T.b__law_next .nil pass0 (pa_cons (pv 0) (pa_cons pe_int pa_nil))))
      (pss_cons (ps_setLc (i := 7) (own := [("_law_at", 6)]) rfl sc__law_right.nd rfl rfl (sw_true rfl rfl rfl (by decide +kernel)) (pi_range1 (by rfl) T.n_range (pa_cons (pe_callB (cr_sum rfl) (by rfl) T.n_sum (by decide +kernel) (pa_cons (pv 4) pa_nil)) pa_nil)) (blkOk_by (N := ["_law_source", "_law_size_so", "_law_many", "_law_bits", "_law_sizes_so", "_law_way_here", "_law_at", "_law_words_so", "_law_due", "_law_shown", "_law_found", "_law_share", "_law_rows", "_law_turn", "_law_row", "_law_heard_here"]) (sc := defScope s__law_right) (by decide +kernel)) (fun _ _ _ _ _ => by exact (pg_name (i := 6) sc__law_right.nd rfl (.inl rfl))) (fun _ _ _ _ _ => by exact pts_nil) (fun _ _ _ _ _ => by exact (pe_call (ok__law_next T) (hr.mono (by decide)) (by rfl) T.g__law_next T.F__law_next.kp T.b__law_next .nil pass0 (pa_cons (pv 0) (pa_cons (pe_op op_shl pe_int (pv 3)) pa_nil)))))
      (Evl.pss_cut (ps_if (pt_cmpR op_lt (pv 5) pe_int (nomark _)) (pss_one (ps_set (i := 7) sc__law_right.nd rfl (.inl rfl) (pe_op op_rep (pe_lst (pa_cons (pe_ix ix_list (pe_lst (pa_cons pe_int (pa_cons (pe_op op_sub (pe_op op_shl pe_int (pv 3)) pe_int) pa_nil))) (pv 5) (fun _ _ => rfl)) pa_nil)) (pe_callB (cr_sum rfl) (by rfl) T.n_sum (by decide +kernel) (pa_cons (pv 4) pa_nil))))) pss_nil)
      (pss_cons (ps_par (i := 8) (j := 9) (by rfl) sc__law_right.nd rfl rfl (by decide) rfl rfl (pa_cons (pe_call (ok__law_laid T) (hr.mono (by decide)) (by rfl) T.g__law_laid T.F__law_laid.kp T.b__law_laid .nil pass0 (pa_cons (pv 1) (pa_cons (pv 7) pa_nil))) (pa_cons (pe_callB (call_reprD sg hr.units) (by rfl) T.n_repr (by decide +kernel) (pa_cons (pv 7) pa_nil)) pa_nil)) (by rfl))
      (pss_cons (ps_set (i := 10) sc__law_right.nd rfl (.inl rfl) (pe_call (ok_with_words T) (hr.mono (by decide)) (by rfl) T.g_with_words T.F_with_words.kp T.b_with_words .nil pass0 (pa_cons (pv 1) (pa_cons (pv 7) pa_nil))))
      (pss_cons (ps_if (PW.pt (pw_or (pt_cmpR (op_neD hr.units) (pv 10) (pv 8) (nomark _)) (pw_or (pt_cmpR (op_neD hr.units) (pe_call (ok_words_in T) (hr.mono (by decide)) (by rfl) T.g_words_in T.F_words_in.kp T.b_words_in .nil pass0 (pa_cons (pv 1) (pa_cons (pv 10) pa_nil))) (pv 7) (nomark _)) (pw_or1 (pt_cmpR op_ne (pe_callB (call_reprD sg hr.units) (by rfl) T.n_repr (by decide +kernel) (pa_cons (pv 7) pa_nil)) (pv 9) (nomark _)))))) (pss_one (ps_ret pe_bl)) pss_nil)
      (pss_cons (ps_expr (pe_bm0 PySem.F.plainAttrs_list PySem.F.slot_list_clear PySem.F.type_list_clear mt_clear (pe_ix ix_list (pv 10) pe_int (fun _ _ => rfl))))
      (pss_cons (ps_expr (pe_bm PySem.F.plainAttrs_list PySem.F.slot_list_append PySem.F.type_list_append mt_append (pv 10) (pa_cons pe_non pa_nil)))
      (Evl.pss_cut (ps_if (pt_cmpR (op_neD hr.units) (pe_callZ (ok_with_words T) (hr.mono (by decide)) (by rfl) T.g_with_words T.F_with_words.kp (kb0 (ks := ["words", "size"]) T.F_with_words rev2 rev2_rel (fun _ _ _ _ _ _ ws hl => match ws, hl with | [_, _], _ => rfl)) pass0 (pk_cons (pe_tupleOf (by rfl) T.n_tuple (pv 7)) (pk_cons (pv 1) pk_nil))) (pv 8) (nomark _)) (pss_one (ps_ret pe_bl)) pss_nil)
      (pss_cons (ps_set (i := 11) sc__law_right.nd rfl (.inr rfl) (pe_call (ok__law_pick T) (hr.mono (by decide)) (by rfl) T.g__law_pick T.F__law_pick.kp T.b__law_pick .nil pass0 (pa_cons (pv 0) (pa_cons (pe_lst (pa_cons pe_int (pa_cons pe_int (pa_cons pe_int pa_nil)))) pa_nil))))
      (pss_cons (ps_set (i := 12) sc__law_right.nd rfl (.inl rfl) (pe_lst (pa_cons (pe_lc (own := [("_law_at", 6)]) rfl sc__law_right.nd (pi_range1 (by rfl) T.n_range (pa_cons (pv 2) pa_nil)) (blkOk_by (N := ["_law_source", "_law_size_so", "_law_many", "_law_bits", "_law_sizes_so", "_law_way_here", "_law_at", "_law_words_so", "_law_due", "_law_shown", "_law_found", "_law_share", "_law_rows", "_law_turn", "_law_row", "_law_heard_here"]) (sc := defScope s__law_right) (by decide +kernel)) (fun _ _ _ _ _ => by exact (pg_name (i := 6) sc__law_right.nd rfl (.inl rfl))) (fun _ _ _ _ _ => by exact pts_nil) (fun _ _ _ _ _ => by exact (pe_call (ok__law_pick T) (hr.mono (by decide)) (by rfl) T.g__law_pick T.F__law_pick.kp T.b__law_pick .nil pass0 (pa_cons (pv 0) (pa_cons (pe_slice (sl_listK (K := K) rfl) (pe_lst (pa_cons pe_int (pa_cons pe_int (pa_cons pe_non pa_nil)))) po_none (po_some (pe_op op_add pe_int (pe_callTy call_int1 (by rfl) T.n_int (by decide +kernel) (pa_cons (pe_cmpR op_eq (pe_call (ok__law_next T) (hr.mono (by decide)) (by rfl) T.g__law_next T.F__law_next.kp T.b__law_next .nil pass0 (pa_cons (pv 0) (pa_cons (pv 11) pa_nil))) pe_int (nomark _)) pa_nil))))) pa_nil))))) pa_nil)))
      (Evl.pss_cut (ps_for PassesOwn.never rfl (pi_range1 (by rfl) T.n_range (pa_cons (pe_op op_sub (pv 2) pe_int) pa_nil)) (pg_name (i := 13) sc__law_right.nd rfl (.inl rfl)) (pss_cons (ps_set (i := 14) sc__law_right.nd rfl (.inl rfl) (pe_lst pa_nil))
      (pss_cons (ps_for PassesOwn.never rfl (pi_range1 (by rfl) T.n_range (pa_cons (pv 2) pa_nil)) (pg_name (i := 6) sc__law_right.nd rfl (.inl rfl)) (pss_one (ps_expr (pe_bm PySem.F.plainAttrs_list PySem.F.slot_list_append PySem.F.type_list_append mt_append (pv 14) (pa_cons (pe_ifExp (pt_cmpR op_eq (pe_call (ok__law_next T) (hr.mono (by decide)) (by rfl) T.g__law_next T.F__law_next.kp T.b__law_next .nil pass0 (pa_cons (pv 0) (pa_cons (pv 11) pa_nil))) pe_int (nomark _)) pe_non (pe_call (ok__law_next T) (hr.mono (by decide)) (by rfl) T.g__law_next T.F__law_next.kp T.b__law_next .nil pass0 (pa_cons (pv 0) (pa_cons pe_int pa_nil)))) pa_nil)))))
      (pss_one (ps_expr (pe_bm PySem.F.plainAttrs_list PySem.F.slot_list_append PySem.F.type_list_append mt_append (pv 12) (pa_cons (pv 14) pa_nil)))))))
      (pss_cons (ps_set (i := 9) sc__law_right.nd rfl (.inl rfl) (pe_callB (call_reprD sg hr.units) (by rfl) T.n_repr (by decide +kernel) (pa_cons (pv 12) pa_nil)))
      (pss_cons (ps_set (i := 15) sc__law_right.nd rfl (.inl rfl) (pe_call (ok_words_in T) (hr.mono (by decide)) (by rfl) T.g_words_in T.F_words_in.kp T.b_words_in .nil pass0 (pa_cons (pv 1) (pa_cons (pe_tupleOf (by rfl) T.n_tuple (pe_lc (own := [("_law_row", 14)]) rfl sc__law_right.nd (pi_seq (pv 12)) (blkOk_by (N := ["_law_source", "_law_size_so", "_law_many", "_law_bits", "_law_sizes_so", "_law_way_here", "_law_at", "_law_words_so", "_law_due", "_law_shown", "_law_found", "_law_share", "_law_rows", "_law_turn", "_law_row", "_law_heard_here"]) (sc := defScope s__law_right) (by decide +kernel)) (fun _ _ _ _ _ => by exact (pg_name (i := 14) sc__law_right.nd rfl (.inl rfl))) (fun _ _ _ _ _ => by exact pts_nil) (fun _ _ _ _ _ => by exact (pe_tupleOfK (K := K) rfl (by rfl) T.n_tuple (pv 14))))) pa_nil))))
      (pss_cons (ps_if (PW.pt (pw_or (pt_cmpR (op_neD hr.units) (pv 15) (pe_call (ok__law_heard T) (hr.mono (by decide)) (by rfl) T.g__law_heard T.F__law_heard.kp T.b__law_heard .nil pass0 (pa_cons (pv 1) (pa_cons (pv 12) pa_nil))) (nomark _)) (pw_or (pt_cmpR (op_neD hr.units) (pe_callZ (ok_words_in T) (hr.mono (by decide)) (by rfl) T.g_words_in T.F_words_in.kp (kb0 (ks := ["grid", "size"]) T.F_words_in rev2 rev2_rel (fun _ _ _ _ _ _ ws hl => match ws, hl with | [_, _], _ => rfl)) pass0 (pk_cons (pv 12) (pk_cons (pv 1) pk_nil))) (pv 15) (nomark _)) (pw_or1 (pt_cmpR op_ne (pe_callB (call_reprD sg hr.units) (by rfl) T.n_repr (by decide +kernel) (pa_cons (pv 12) pa_nil)) (pv 9) (nomark _)))))) (pss_one (ps_ret pe_bl)) pss_nil)
      (pss_cons (ps_expr (pe_bm PySem.F.plainAttrs_list PySem.F.slot_list_append PySem.F.type_list_append mt_append (pv 15) (pa_cons pe_non pa_nil)))
      (pss_one (ps_ret (pe_cmpR (op_eqD hr.units) (pe_call (ok_words_in T) (hr.mono (by decide)) (by rfl) T.g_words_in T.F_words_in.kp T.b_words_in .nil pass0 (pa_cons (pv 1) (pa_cons (pv 12) pa_nil))) (pe_call (ok__law_heard T) (hr.mono (by decide)) (by rfl) T.g__law_heard T.F__law_heard.kp T.b__law_heard .nil pass0 (pa_cons (pv 1) (pa_cons (pv 12) pa_nil))) (nomark _)))))))))))))))))))))), ?_⟩
    refine ⟨_, rfl, p, a, b0, c, 5, rfl, hp, by decide, by decide, fun s' a1 c1 s00 s01 => ⟨_, _, rfl, rfl, ?_⟩⟩
    obtain ⟨s0, rfl⟩ := Int.eq_ofNat_of_zero_le s00
    have hs : s0 < 5 := by omega
    have hm24 := side_le (sd_ok hs)
    have k1 : Kp p H (upd H p (WellL a1 b0 c1)) := Kp.upd
    have w1 := upd_same (H := H) (a := p) (o := WellL a1 b0 c1)
    generalize (upd H p (WellL a1 b0 c1)) = H0 at k1 w1 ⊢
    have cm : (fun i j : Int => V.int (i + j)) 1 (s0 : Int) = V.int ((s0 : Int) + 1) := congrArg V.int (Int.add_comm _ _)
    rw [cm]
    refine ⟨_, rfl, s0, rfl, hs, fun t0 c1 c2 c3 H1 s1 n0 n1 g0 g1 g2 => ?_⟩
    refine ⟨_, rfl, t0, _, rfl, .inl (.inl g0), ?_, fun pt hpt => ?_⟩
    · rintro ⟨_, h⟩
      exact absurd h (by show ¬ (3 : Nat) = 5; decide)
    have s2 := same_upd (o := .tup (cutV [vN (sideL.getD s0 0), vN (bitsF s0), V.ref c1, V.ref c2, V.ref c3] none (some 3))) hpt
    have g3 := upd_same (H := H1) (a := pt) (o := .tup [vN (sdF s0), vN (bitsF s0), V.ref c1])
    refine ⟨pt, [_, _, _], rfl, .inl (.inl g3), rfl, _, [_, _], rfl, _, [_], rfl, _, [], rfl, rfl, ?_⟩
    have s12 := s1.trans s2
    have gc := s2 _ _ g1
    generalize (upd H1 pt (.tup (cutV [vN (sideL.getD s0 0), vN (bitsF s0), V.ref c1, V.ref c2, V.ref c3] none (some 3)))) = H2 at s12 gc ⊢
    have ncp : c1 ≠ p := fun e => by rw [e, w1] at n1; cases n1
    have k2 : Kp p H H2 := k1.trans (Same.kp s12)
    have w2 := s12 _ _ w1
    clear s1 s2 g0 g1 g2 n0 n1 g3 k1 w1 s12 hpt
    refine ⟨_, rfl, p, a1, b0, _, 5, rfl, w2, by decide, by decide, fun way a2 d2 y00 y01 => ?_⟩
    obtain ⟨way, rfl⟩ := Int.eq_ofNat_of_zero_le y00
    have gc3 : (upd H2 p (WellL a2 b0 d2)) c1 = some (.lst ((blkF s0).map vN)) := by rw [upd_ne ncp]; exact gc
    have k3 : Kp p H (upd H2 p (WellL a2 b0 d2)) := k2.trans Kp.upd
    have w3 := upd_same (H := H2) (a := p) (o := WellL a2 b0 d2)
    generalize (upd H2 p (WellL a2 b0 d2)) = H3 at gc3 k3 w3 ⊢
    clear gc k2 w2 H2
    have t58 := tot_le hs
    have hb := bits_wd hs
    have em : (1 : Int) * 2 ^ ((bitsF s0 : Nat) : Int).toNat = (span (bitsF s0) : Int) := by rcases hb with h | h <;> rw [h] <;> rfl
    have sp0 : 0 < (span (bitsF s0) : Int) ∧ (span (bitsF s0) : Int) < 1073741824 ∧ span (bitsF s0) ≤ 256 := by rcases hb with h | h <;> rw [h] <;> decide
    have sumt : ((blkF s0).map fun n : Nat => (n : Int)).sum = (totF s0 : Int) := by rw [sum_vN]; rfl
    refine ⟨_, rfl, c1, (blkF s0).map fun n : Nat => (n : Int), rfl, .inl (.inl (by rw [gc3, vN_ints])), ?_⟩
    rw [sumt]
    refine ⟨(totF s0 : Int), rfl, by omega, by omega, fun D2 hD2 => ?_⟩
    have nD2p : D2 ≠ p := fun e => by rw [e, w3] at hD2; cases hD2
    refine lc_range (lo := 0) (n := totF s0) (fun j H' => ∃ r : List Nat, Kp p H3 H' ∧ (∃ x z, H' p = some (WellL x b0 z)) ∧ r.length = j ∧ (∀ x ∈ r, x < span (bitsF s0)) ∧ H' D2 = some (.lst (r.map vN))) ⟨[], Same.kp (same_upd hD2), ⟨_, _, same_upd hD2 _ _ w3⟩, rfl, (fun o ho => by cases ho), upd_same⟩ ?_ ?_
    · rintro j H5 hj ⟨r, k5, ⟨x5, z5, w5⟩, lr5, dr, g5⟩
      refine ⟨rfl, ?_⟩
      refine ⟨_, rfl, _, rfl, _, _, rfl, rfl, ⟨by omega, by rcases hb with h | h <;> rw [h] <;> decide, by decide⟩, p, x5, b0, z5, _, rfl, w5, by rw [em]; exact sp0.1, by rw [em]; exact sp0.2.1, fun n a' c' n0 n1 => ?_⟩
      rw [em] at n1
      obtain ⟨v, rfl⟩ := Int.eq_ofNat_of_zero_le n0
      refine ⟨_, (Kp.upd (o := WellL a' b0 c')) _ _ g5 nD2p, ?_, r ++ [v], ?_, ⟨a', c', ?_⟩, by rw [List.length_append, lr5]; rfl, ?_, ?_⟩
      · rw [List.length_map, lr5]
        exact small1000 (by omega)
      · intro c0 o0 hc n0
        rw [upd_ne (ne_of_none hc hD2), upd_ne n0]
        exact k5 _ _ hc n0
      · rw [upd_ne nD2p.symm]
        exact upd_same
      · intro o' ho'
        rcases List.mem_append.mp ho' with h | h
        · exact dr o' h
        · rw [List.mem_singleton.mp h]
          omega
      · rw [upd_same, List.map_append]
        rfl
    · rintro H5 ⟨r, k5, ⟨x5, z5, w5⟩, lr, dr, g5⟩
      have k35 : Kp p H H5 := k3.trans k5
      have gc5 := k5 _ _ gc3 ncp
      clear gc3 k3 w3 hD2 k5 H3
      refine ⟨fun σ' H' => ∃ (W : Addr) (ws : List Nat), σ' = [some (.ref p), some (.int ((s0 : Int) + 1)), some (vN (sdF s0)), some (vN (bitsF s0)), some (.ref c1), some (.int (way : Int)), none, some (.ref W), none, none, none, none, none, none, none, none] ∧ Kp p H H' ∧ (∃ x z, H' p = some (WellL x b0 z)) ∧ H' W = some (.lst (ws.map vN)) ∧ ws.length = totF s0 ∧ (∀ x ∈ ws, x < span (bitsF s0)), ?_, ?_⟩
      · refine ⟨_, rfl, _, _, rfl, rfl, _, rfl, ?_⟩
        refine ite2 (fun c => ?_) (fun c => ⟨D2, r, rfl, k35, ⟨_, _, w5⟩, g5, lr, dr⟩)
        have way2 : way = 0 ∨ way = 1 := by
          have := of_decide_eq_true c
          omega
        refine ⟨_, rfl, _, _, rfl, rfl, ⟨by omega, by rcases hb with h | h <;> rw [h] <;> decide, by decide⟩, _, _, rfl, rfl, (by show 2 ≤ sizeLine; decide), fun l hl => ?_⟩
        have sl := same_upd (o := .lst [V.int 0, V.int (1 * 2 ^ ((bitsF s0 : Nat) : Int).toNat - 1)]) hl
        obtain ⟨wv, ewv, lwv⟩ : ∃ wv : Nat, atI [V.int 0, V.int (1 * 2 ^ ((bitsF s0 : Nat) : Int).toNat - 1)] (way : Int) = some (vN wv) ∧ wv < span (bitsF s0) := by
          rcases way2 with rfl | rfl
          · exact ⟨0, rfl, by omega⟩
          · refine ⟨span (bitsF s0) - 1, ?_, by omega⟩
            rw [em, show ((span (bitsF s0) : Int) - 1) = ((span (bitsF s0) - 1 : Nat) : Int) by omega]
            rfl
        refine ⟨_, rfl, l, _, _, vN wv, rfl, rfl, .inl (.inl upd_same), ewv, (by show 1 ≤ sizeLine; decide), fun l2 hl2 => ?_⟩
        have sl2 := same_upd (o := .lst [vN wv]) hl2
        refine ⟨_, rfl, c1, (blkF s0).map fun n : Nat => (n : Int), rfl, .inl (.inl (by rw [sl2 _ _ (sl _ _ gc5), vN_ints])), ?_⟩
        rw [sumt]
        refine ⟨l2, (totF s0 : Int), _, rfl, rfl, upd_same, by omega, by omega, ?_, fun W hW => ?_⟩
        · show 1 * (totF s0 : Int).toNat ≤ sizeLine
          exact Nat.le_of_lt (small1000 (by omega))
        have sl3 := same_upd (o := .lst (List.replicate (totF s0 : Int).toNat [vN wv]).flatten) hW
        refine ⟨W, List.replicate (totF s0) wv, rfl, k35.trans (Same.kp ((sl.trans sl2).trans sl3)), ⟨_, _, sl3 _ _ (sl2 _ _ (sl _ _ w5))⟩, ?_, List.length_replicate, fun x hx => by rw [List.eq_of_mem_replicate hx]; exact lwv⟩
        rw [upd_same, rep_one, Int.toNat_natCast, List.map_replicate]
      · clear g5 lr dr w5 gc5 k35 H5 r x5 z5 nD2p D2
        rintro σ H5 ⟨W, ws, rfl, k5, ⟨x5, z5, w5⟩, gW, lw, hw⟩
        have w256 : ∀ x ∈ ws, x < 256 := fun x hx => Nat.lt_of_lt_of_le (hw x hx) sp0.2.2
        have sqL := lay_sq hs lw
        have lM : (layF s0 ws).length = sdF s0 := lay_len s0 ws
        refine ⟨_, rfl, _, rfl, s0, W, ws, rfl, hs, .inl (.inl gW), hw, lw, fun D M H6 hD due => ?_⟩
        have gW6 := due.fr.same _ _ gW
        have rp := words_reprs (K := K) (.inl (.inl gW6)) w256 (by omega)
        refine ⟨_, rfl, W, dRow (ws.map some), rfl, rp.1, rp.2.1, rp.2.2.1, rp.2.2.2.1, rp.2.2.2.2, ⟨_, _, rfl, ?_⟩⟩
        refine ⟨_, rfl, _, rfl, s0, W, true, ws, rfl, hs, .lst gW6, hw, lw, fun D2 H7 F7 => ?_⟩
        have s67 := F7.same0
        have due7 := due.ext s67
        refine ⟨_, rfl, _, rfl, dGr (layF s0 ws), dGr (layF s0 ws), F7.gr.dp, (due7.gr lM).dp, dGr_shaped _, dGr_shaped _, _, rfl, ?_⟩
        rw [dGr_eq]
        refine iteF ?_
        refine ⟨_, rfl, _, rfl, s0, D2, true, layF s0 ws, rfl, hs, F7.gr, sqL, fun D3 H8 s8 n8 g8 => ?_⟩
        rw [heard_lay hs lw hw] at g8
        have gW8 := s8 _ _ (s67 _ _ gW6)
        have rp8 := words_reprs (K := K) (.inl (.inl gW8)) w256 (by omega)
        refine ⟨_, rfl, dRow (ws.map some), dRow (ws.map some), dRow_dp (.inl (.inl g8)), rp8.1, dRow_shaped _, dRow_shaped _, _, rfl, ?_⟩
        rw [dRow_eq]
        refine iteF ?_
        refine ⟨_, rfl, W, dRow (ws.map some), rfl, rp8.1, rp8.2.1, rp8.2.2.1, rp8.2.2.2.1, rp8.2.2.2.2, ?_⟩
        refine ⟨_, rfl, rfl, _, rfl, ite2 (fun c => absurd c (by simp)) (fun _ => ?_)⟩
        have F8 := F7.ext s8
        have due8 := due7.ext s8
        have s68 := s67.trans s8
        obtain ⟨hE, ME, I8⟩ := F8
        rw [lM] at I8
        have e0 : ME[0]? = some (ME[0]'(by rw [I8.len]; omega)) := List.getElem?_eq_getElem _
        generalize ME[0]'(by rw [I8.len]; omega) = l0 at e0
        obtain ⟨j1, j2, j3⟩ := I8.row 0 l0 ((layF s0 ws).getD 0 []) e0 (by rw [getD_in (by omega)]; exact List.getElem?_eq_getElem _)
        have gE := I8.out
        refine ⟨_, rfl, D2, _, 0, .ref l0, rfl, rfl, .inl (.inl gE), atI_nat (j := 0) (by rw [List.getElem?_map, e0]; rfl), .inl ⟨rfl, _, .inl (.inl j3)⟩, l0, _, rfl, rfl, j3, ?_⟩
        have gE2 : (upd H8 l0 (.lst [])) D2 = some (.lst (ME.map V.ref)) := by rw [upd_ne j2.symm]; exact gE
        refine ⟨_, rfl, .inl ⟨rfl, _, .inl (.inl gE2)⟩, D2, _, _, rfl, rfl, gE2, ?_, ?_⟩
        · rw [List.length_map, I8.len]
          exact small1000 (by omega)
        have sM : Same H6 (upd (upd H8 l0 (.lst [])) D2 (.lst (ME.map V.ref ++ [V.non]))) := fun x o hx => by
          rw [upd_ne (ne_of_none hx hE), upd_ne (ne_of_none hx j1)]
          exact s68 _ _ hx
        generalize (upd (upd H8 l0 (.lst [])) D2 (.lst (ME.map V.ref ++ [V.non]))) = H9 at sM ⊢
        have due9 := due.ext sM
        have gW9 := sM _ _ gW6
        have kp9 : Kp p H H9 := k5.trans (Same.kp due9.fr.same)
        have w9 := due9.fr.same _ _ w5
        clear gE gE2 j1 j2 j3 e0 I8 hE ME due8 s68 rp8 gW8 g8 n8 s8 due7 F7 s67 rp gW6 k5 w5 gW due sM
        refine ⟨fun σ' H' => ∃ z4 z5 z6 z7 z8 z9 z10 : Option V, σ' = [some (.ref p), some (.int ((s0 : Int) + 1)), some (vN (sdF s0)), some (vN (bitsF s0)), z4, z5, z6, z7, z8, z9, z10, none, none, none, none, none] ∧ Kp p H H' ∧ ∃ x z, H' p = some (WellL x b0 z), ?_, ?_⟩
        · refine ⟨_, rfl, .inl ⟨W, _, rfl, .inl (.inl gW9), fun S hS => ?_⟩⟩
          have sS := same_upd (o := .tup (ws.map vN)) hS
          refine ⟨_, rfl, rfl, s0, S, false, ws, rfl, hs, .tup upd_same, hw, lw, fun D4 H10 F10 => ?_⟩
          have due10 := (due9.ext sS).ext F10.same0
          refine ⟨_, rfl, dGr (layF s0 ws), dGr (layF s0 ws), F10.gr.dp, (due10.gr lM).dp, dGr_shaped _, dGr_shaped _, _, rfl, ?_⟩
          rw [dGr_eq]
          exact iteF ⟨_, _, _, _, _, _, _, rfl, kp9.trans (Same.kp (sS.trans F10.same0)), _, _, F10.same0 _ _ (sS _ _ w9)⟩
        · clear due9 gW9 kp9 w9 sqL lM
          rintro σ H5 ⟨z4, z5, z6, z7, z8, z9, z10, rfl, k5, x5, z5', w5⟩
          refine ⟨_, rfl, (by show 3 ≤ sizeLine; decide), fun l hl => ?_⟩
          have npl := ne_of_none w5 hl
          refine ⟨p, l, x5, b0, z5', _, rfl, npl, (same_upd hl) _ _ w5, upd_same, (by show 0 < 3; decide), (by show 3 ≤ 1000; decide), fun i v a1 c1' hv => ?_⟩
          obtain ⟨sh, rfl, h0, h1⟩ : ∃ sh : Int, v = .int sh ∧ 0 < sh ∧ sh < 1073741824 := by
            have hm := List.mem_of_getElem? hv
            simp at hm
            rcases hm with rfl | rfl | rfl
            · exact ⟨2, rfl, by decide, by decide⟩
            · exact ⟨9, rfl, by decide, by decide⟩
            · exact ⟨200, rfl, by decide, by decide⟩
          have k1 : Kp p H (upd (upd H5 l (.lst [.int 2, .int 9, .int 200])) p (WellL a1 b0 c1')) := (k5.trans (Same.kp (same_upd hl))).trans Kp.upd
          have w1 : (upd (upd H5 l (.lst [.int 2, .int 9, .int 200])) p (WellL a1 b0 c1')) p = some (WellL a1 b0 c1') := upd_same
          generalize (upd (upd H5 l (.lst [.int 2, .int 9, .int 200])) p (WellL a1 b0 c1')) = H1 at k1 w1 ⊢
          clear hv i npl hl k5 w5
          refine ⟨_, rfl, (sdF s0 : Int), rfl, by omega, by omega, fun D0 hD0 => ?_⟩
          have nD0p : D0 ≠ p := fun e => by rw [e, w1] at hD0; cases hD0
          refine lc_range (lo := 0) (n := sdF s0) (fun j H' => ∃ r : List (Option Nat), Kp p H1 H' ∧ (∃ x z, H' p = some (WellL x b0 z)) ∧ r.length = j ∧ (∀ o ∈ r, DotOk o) ∧ H' D0 = some (.lst (r.map vG))) ⟨[], Same.kp (same_upd hD0), ⟨_, _, same_upd hD0 _ _ w1⟩, rfl, (fun o ho => by cases ho), upd_same⟩ ?_ ?_
          · rintro j H7 hj ⟨r, k7, ⟨x7, z7, w7⟩, lr, dr, g7⟩
            refine ⟨rfl, ?_⟩
            refine ⟨_, rfl, (by show 3 ≤ sizeLine; decide), fun l hl => ?_⟩
            have sl := same_upd (o := .lst [V.int 0, V.int 1, V.non]) hl
            have npl := ne_of_none w7 hl
            refine ⟨_, rfl, _, rfl, p, x7, b0, z7, sh, rfl, sl _ _ w7, h0, h1, fun n a' c' n0 n1 => ⟨rfl, .inr ⟨_, rfl, _, _, rfl, rfl, _, rfl, l, _, rfl, .inl (.inl (by rw [upd_ne npl.symm]; exact upd_same)), fun l2 hl2 => ?_⟩⟩⟩
            obtain ⟨os, ecs, dcs, l0s, l1s⟩ := some_dots (decide (V.int n = V.int 0))
            rw [ecs]
            have w8 := upd_same (H := upd H7 l (.lst [V.int 0, V.int 1, V.non])) (a := p) (o := WellL a' b0 c')
            have k8 : Kp p H1 (upd (upd H7 l (.lst [V.int 0, V.int 1, V.non])) p (WellL a' b0 c')) := (k7.trans (Same.kp sl)).trans Kp.upd
            have g8 : (upd (upd H7 l (.lst [V.int 0, V.int 1, V.non])) p (WellL a' b0 c')) D0 = some (.lst (r.map vG)) := by rw [upd_ne nD0p]; exact sl _ _ g7
            generalize (upd (upd H7 l (.lst [V.int 0, V.int 1, V.non])) p (WellL a' b0 c')) = H8' at w8 k8 g8 hl2 ⊢
            have sl2 := same_upd (o := .lst (os.map vG)) hl2
            refine ⟨p, l2, a', b0, c', _, rfl, ne_of_none w8 hl2, sl2 _ _ w8, upd_same, by rw [List.length_map]; exact l0s, by rw [List.length_map]; exact l1s, fun i v a2' c2' hv => ?_⟩
            rw [List.getElem?_map] at hv
            obtain ⟨o, ho, rfl⟩ := Option.map_eq_some_iff.mp hv
            have k9 := (k8.trans (Same.kp sl2)).trans (Kp.upd (o := WellL a2' b0 c2'))
            have g9 := (Kp.upd (o := WellL a2' b0 c2')) _ _ (sl2 _ _ g8) nD0p
            refine ⟨_, g9, ?_, r ++ [o], ?_, ⟨a2', c2', ?_⟩, by rw [List.length_append, lr]; rfl, fun o' ho' => ?_, ?_⟩
            · rw [List.length_map, lr]
              exact small1000 (by omega)
            · intro c0 o0 hc n0
              rw [upd_ne (ne_of_none hc hD0)]
              exact k9 _ _ hc n0
            · rw [upd_ne nD0p.symm]
              exact upd_same
            · rcases List.mem_append.mp ho' with h | h
              · exact dr o' h
              · rw [List.mem_singleton.mp h]
                exact dcs o (List.mem_of_getElem? ho)
            · rw [upd_same, List.map_append]
              rfl
          · rintro H7 ⟨r, k7, ⟨x7, z7, w7⟩, lr, dr, g7⟩
            refine ⟨(by show 1 ≤ sizeLine; decide), fun DR hDR => ?_⟩
            have sR := same_upd (o := .lst [V.ref D0]) hDR
            have nRp : DR ≠ p := fun e => by rw [e, w7] at hDR; cases hDR
            have n0R : D0 ≠ DR := fun e => by rw [← e, g7] at hDR; cases hDR
            have k17 := k1.trans k7
            have newO : ∀ q, q ≠ p → H7 q = none → H q = none := fun q nq hq => by
              cases e : H q with
              | none => rfl
              | some o =>
                have := k17 _ _ e nq
                rw [hq] at this
                cases this
            have newD0 : H D0 = none := by
              cases e : H D0 with
              | none => rfl
              | some o =>
                have := k1 _ _ e nD0p
                rw [hD0] at this
                cases this
            have R0 : RwI p H (upd H7 DR (.lst [V.ref D0])) DR [D0] [r] (sdF s0) := ⟨k17.trans (Same.kp sR), upd_same, rfl, (fun j l r' e1 e2 => by
              match j, e1, e2 with
              | 0, e1, e2 => cases e1; cases e2; exact ⟨sR _ _ g7, n0R⟩), (fun r' hr' => by rw [List.mem_singleton.mp hr']; exact ⟨lr, dr⟩), by simp, (fun j l e => by
              match j, e with
              | 0, e => cases e; exact newD0), newO DR nRp hDR⟩
            have w8 := sR _ _ w7
            generalize (upd H7 DR (.lst [V.ref D0])) = H8' at R0 w8 ⊢
            have hD0' := R0.newD
            clear sR g7 w7 k7 k17 newO newD0 n0R hDR hD0 nD0p k1 w1 H7 H1
            refine ⟨fun σ' H' => ∃ (z4 z5 z6 z7 z8 z9 z10 z13 z14 : Option V) (M : List Addr) (g : Grid) (x z : Int), σ' = [some (.ref p), some (.int ((s0 : Int) + 1)), some (vN (sdF s0)), some (vN (bitsF s0)), z4, z5, z6, z7, z8, z9, z10, some (.int sh), some (.ref DR), z13, z14, none] ∧ RwI p H H' DR M g (sdF s0) ∧ g.length = sdF s0 ∧ H' p = some (WellL x b0 z), ?_, ?_⟩
            · refine ⟨_, rfl, _, _, rfl, rfl, (sdF s0 : Int) - 1, rfl, by omega, by omega, ?_⟩
              rw [show ((sdF s0 : Int) - 1).toNat = sdF s0 - 1 by omega]
              refine for_range (lo := 0) (n := sdF s0 - 1) (fun i σ H' => ∃ (z4 z5 z6 z7 z8 z9 z10 z13 z14 : Option V) (M : List Addr) (g : Grid) (x z : Int), σ = [some (.ref p), some (.int ((s0 : Int) + 1)), some (vN (sdF s0)), some (vN (bitsF s0)), z4, z5, z6, z7, z8, z9, z10, some (.int sh), some (.ref DR), z13, z14, none] ∧ RwI p H H' DR M g (sdF s0) ∧ g.length = i + 1 ∧ H' p = some (WellL x b0 z))
                ⟨_, _, _, _, _, _, _, _, _, [D0], [r], _, _, rfl, R0, rfl, w8⟩ ?_ ?_
              · rintro i σ H2 hi ⟨z4, z5, z6, z7, z8, z9, z10, z13, z14, M, g, x0, z0, rfl, R, lg, w2⟩
                refine ⟨(by show 0 ≤ sizeLine; decide), fun D2 hD2 => ?_⟩
                have nD2p : D2 ≠ p := fun e => by rw [e, w2] at hD2; cases hD2
                have nDD : D2 ≠ DR := fun e => by rw [e, R.out] at hD2; cases hD2
                refine ⟨_, rfl, (sdF s0 : Int), rfl, by omega, by omega, ?_⟩
                refine for_range (lo := 0) (n := sdF s0) (fun j σ H' => ∃ (z6 : Option V) (r : List (Option Nat)) (x z : Int), σ = [some (.ref p), some (.int ((s0 : Int) + 1)), some (vN (sdF s0)), some (vN (bitsF s0)), z4, z5, z6, z7, z8, z9, z10, some (.int sh), some (.ref DR), some (.int (0 + (i : Int))), some (.ref D2), none] ∧ Kp p H2 H' ∧ H' p = some (WellL x b0 z) ∧ r.length = j ∧ (∀ o ∈ r, DotOk o) ∧ H' D2 = some (.lst (r.map vG)))
                  ⟨_, [], _, _, rfl, Same.kp (same_upd hD2), (same_upd hD2) _ _ w2, rfl, (fun o ho => by cases ho), upd_same⟩ ?_ ?_
                · rintro j σ H3 hj ⟨z6, r, x3, z3, rfl, k3, w3, lr, dr, g3⟩
                  have push : ∀ (o : Option Nat) (v : V) (x z : Int) (H5 : Hp) (z6 : Option V), v = vG o → DotOk o → Kp p H2 H5 → H5 p = some (WellL x b0 z) → H5 D2 = some (.lst (r.map vG)) →
                      ∃ (z6' : Option V) (r' : List (Option Nat)) (x z : Int), [some (.ref p), some (.int ((s0 : Int) + 1)), some (vN (sdF s0)), some (vN (bitsF s0)), z4, z5, z6, z7, z8, z9, z10, some (.int sh), some (.ref DR), some (.int (0 + (i : Int))), some (.ref D2), none] = [some (V.ref p), some (.int ((s0 : Int) + 1)), some (vN (sdF s0)), some (vN (bitsF s0)), z4, z5, z6', z7, z8, z9, z10, some (.int sh), some (.ref DR), some (.int (0 + (i : Int))), some (.ref D2), none] ∧ Kp p H2 (upd H5 D2 (.lst (r.map vG ++ [v]))) ∧ (upd H5 D2 (.lst (r.map vG ++ [v]))) p = some (WellL x b0 z) ∧ r'.length = j + 1 ∧ (∀ o ∈ r', DotOk o) ∧ (upd H5 D2 (.lst (r.map vG ++ [v]))) D2 = some (.lst (r'.map vG)) := by
                    rintro o v x z H5 z6 rfl ho k5 w5 g5
                    refine ⟨_, r ++ [o], x, z, rfl, fun c0 o0 hc n0 => ?_, ?_, by rw [List.length_append, lr]; rfl, fun o' ho' => ?_, ?_⟩
                    · rw [upd_ne (ne_of_none hc hD2)]
                      exact k5 _ _ hc n0
                    · rw [upd_ne nD2p.symm]
                      exact w5
                    · rcases List.mem_append.mp ho' with h | h
                      · exact dr o' h
                      · rw [List.mem_singleton.mp h]
                        exact ho
                    · rw [upd_same, List.map_append]
                      rfl
                  have small : (r.map vG).length < 1000 := by
                    rw [List.length_map, lr]
                    omega
                  refine ⟨_, rfl, .inl ⟨rfl, _, .inl (.inl g3)⟩, _, rfl, _, rfl, p, x3, b0, z3, sh, rfl, w3, h0, h1, fun m x4 z4 m0 m1 => ⟨rfl, _, rfl, ?_⟩⟩
                  have k4 : Kp p H2 (upd H3 p (WellL x4 b0 z4)) := k3.trans Kp.upd
                  have g4 : (upd H3 p (WellL x4 b0 z4)) D2 = some (.lst (r.map vG)) := by rw [upd_ne nD2p]; exact g3
                  refine ite2 (fun _ => ?_) (fun _ => ?_)
                  · exact ⟨D2, _, _, rfl, rfl, g4, small1000 (Nat.le_of_lt small), push none _ _ _ _ _ rfl (.inl rfl) k4 upd_same g4⟩
                  · refine ⟨_, rfl, p, x4, b0, z4, 2, rfl, upd_same, by decide, by decide, fun m2 x5 z5 m20 m21 => ?_⟩
                    have k5 : Kp p H2 (upd (upd H3 p (WellL x4 b0 z4)) p (WellL x5 b0 z5)) := k4.trans Kp.upd
                    have g5 : (upd (upd H3 p (WellL x4 b0 z4)) p (WellL x5 b0 z5)) D2 = some (.lst (r.map vG)) := by rw [upd_ne nD2p]; exact g4
                    obtain ⟨o, eo, ho⟩ : ∃ o, V.int m2 = vG o ∧ DotOk o := by
                      have : m2 = 0 ∨ m2 = 1 := by omega
                      rcases this with rfl | rfl
                      · exact ⟨some 0, rfl, .inr (.inl rfl)⟩
                      · exact ⟨some 1, rfl, .inr (.inr rfl)⟩
                    exact ⟨D2, _, _, rfl, rfl, g5, small1000 (Nat.le_of_lt small), push o _ _ _ _ _ eo ho k5 upd_same g5⟩
                · rintro σ H3 ⟨z6, r, x3, z3, rfl, k3, w3, lr, dr, g3⟩
                  have gD3 := k3 _ _ R.out nRp
                  refine ⟨_, rfl, .inl ⟨rfl, _, .inl (.inl gD3)⟩, _, rfl, DR, _, _, rfl, rfl, gD3, ?_, ?_⟩
                  · rw [List.length_map, R.len, lg]
                    exact small1000 (by omega)
                  refine ⟨_, _, _, _, _, _, _, _, _, M ++ [D2], g ++ [r], x3, z3, rfl, ⟨?_, ?_, ?_, ?_, ?_, ?_, ?_, R.newD⟩, by rw [List.length_append, lg]; rfl, ?_⟩
                  · intro c0 o0 hc n0
                    rw [upd_ne (ne_of_none hc hD0')]
                    exact k3 _ _ (R.kp _ _ hc n0) n0
                  · rw [upd_same, List.map_append]
                    rfl
                  · rw [List.length_append, List.length_append, R.len]
                    rfl
                  · intro j l0 r0 e1 e2
                    by_cases cj : j < M.length
                    · rw [List.getElem?_append_left cj] at e1
                      rw [List.getElem?_append_left (by rw [← R.len]; exact cj)] at e2
                      obtain ⟨q1, q2⟩ := R.row j l0 r0 e1 e2
                      have nl : l0 ≠ p := fun e => by
                        rw [e, w2] at q1
                        have h3 := congrArg List.length (HO.lst.inj (Option.some.inj q1))
                        rw [List.length_map, (R.sq r0 (List.mem_of_getElem? e2)).1] at h3
                        have : 3 = sdF s0 := h3
                        omega
                      exact ⟨by rw [upd_ne q2]; exact k3 _ _ q1 nl, q2⟩
                    · have hl := (List.getElem?_eq_some_iff.mp e1).1
                      rw [List.length_append] at hl
                      have ej : j = M.length := by simp at hl; omega
                      subst ej
                      rw [List.getElem?_append_right (Nat.le_refl _), Nat.sub_self] at e1
                      rw [List.getElem?_append_right (by rw [← R.len]; exact Nat.le_refl _), ← R.len, Nat.sub_self] at e2
                      cases e1
                      cases e2
                      exact ⟨by rw [upd_ne nDD]; exact g3, nDD⟩
                  · intro r0 hr0
                    rcases List.mem_append.mp hr0 with h | h
                    · exact R.sq r0 h
                    · rw [List.mem_singleton.mp h]
                      exact ⟨lr, dr⟩
                  · rw [List.nodup_append]
                    refine ⟨R.nod, List.nodup_cons.mpr ⟨by simp, .nil⟩, fun a ha b hb e => ?_⟩
                    rw [List.mem_singleton.mp hb] at e
                    obtain ⟨j, hj, rfl⟩ := List.getElem_of_mem ha
                    have lj := R.len
                    have q := (R.row j _ _ (List.getElem?_eq_getElem hj) (List.getElem?_eq_getElem (show j < g.length by omega))).1
                    rw [e, hD2] at q
                    cases q
                  · intro j l0 e1
                    by_cases cj : j < M.length
                    · rw [List.getElem?_append_left cj] at e1
                      exact R.new j l0 e1
                    · have hl := (List.getElem?_eq_some_iff.mp e1).1
                      rw [List.length_append] at hl
                      have ej : j = M.length := by simp at hl; omega
                      subst ej
                      rw [List.getElem?_append_right (Nat.le_refl _), Nat.sub_self] at e1
                      cases e1
                      cases e : H D2 with
                      | none => rfl
                      | some o =>
                        have := R.kp _ _ e nD2p
                        rw [hD2] at this
                        cases this
                  · rw [upd_ne nRp.symm]
                    exact w3
              · rintro σ H2 ⟨z4, z5, z6, z7, z8, z9, z10, z13, z14, M, g, x0, z0, rfl, R, lg, w2⟩
                exact ⟨_, _, _, _, _, _, _, _, _, M, g, _, _, rfl, R, by omega, w2⟩
            · clear R0 w8 H8'
              rintro σ H2 ⟨z4, z5, z6, z7, z8, z9, z10, z13, z14, M, g, x2, z2, rfl, R, lg, w2⟩
              have gr := R.gr (K := K)
              have sq := R.Sq lg
              have lg' : g.length = sdF s0 := lg
              have rp := dots_reprs gr sq hm24.2
              refine ⟨_, rfl, DR, dGr g, rfl, rp.1, rp.2.1, rp.2.2.1, rp.2.2.2.1, rp.2.2.2.2, ?_⟩
              refine ⟨_, rfl, ?_⟩
              obtain ⟨LG, h1, h2, h3⟩ := gr.ex
              refine ⟨_, rfl, DR, _, true, rfl, h1, fun D3 hD3 => ?_⟩
              refine lc_it (walk_seq (b := true) (K := K) (a := DR) (xs := LG.map V.ref)) (fun i H' => ∃ M : List Addr, Same H2 H' ∧ H' D3 = some (.lst (M.map V.ref)) ∧ M.length = i ∧ ∀ (j : Nat) (l : Addr) (r : List (Option Nat)), M[j]? = some l → g[j]? = some r → H' l = some (.tup (r.map vG))) ⟨[], same_upd hD3, upd_same, rfl, fun j l r e => by cases e⟩ (fun i H' _ ⟨_, sm, _⟩ => Same.sqb sm h1) ?_ ?_
              · rintro i v9 H9 H10 hi ⟨N, sm, out, lN, rw0⟩ ⟨rfl, e2⟩
                rw [List.length_map] at hi
                have eL : LG[i]? = some LG[i] := List.getElem?_eq_getElem hi
                have eg : g[i]? = some (g[i]'(by omega)) := List.getElem?_eq_getElem _
                rw [List.getElem?_map, eL] at e2
                obtain rfl := (Option.some.inj e2).symm
                have hq := Same.sqb sm (h3 i _ _ eL eg)
                refine ⟨rfl, ?_⟩
                refine ⟨_, rfl, .inl ⟨LG[i], _, rfl, hq, fun c hc => ?_⟩⟩
                have s4 := same_upd (o := .tup ((g[i]'(by omega)).map vG)) hc
                have ncD : c ≠ D3 := fun e => by rw [e, out] at hc; cases hc
                refine ⟨_, s4 _ _ out, ?_, N ++ [c], ?_, ?_, by rw [List.length_append, lN]; rfl, ?_⟩
                · rw [List.length_map, lN]
                  exact small1000 (by omega)
                · intro c0 o0 h0
                  rw [upd_ne (ne_of_none h0 hD3)]
                  exact s4 _ _ (sm _ _ h0)
                · rw [upd_same, List.map_append]
                  rfl
                · intro j l1 r1 e1 e3
                  by_cases cj : j < i
                  · rw [List.getElem?_append_left (by rw [lN]; exact cj)] at e1
                    have q1 := rw0 j l1 r1 e1 e3
                    rw [upd_ne (fun e => by rw [e, out] at q1; cases q1)]
                    exact s4 _ _ q1
                  · have hl := (List.getElem?_eq_some_iff.mp e1).1
                    rw [List.length_append, lN] at hl
                    have ej : j = i := by simp at hl; omega
                    subst ej
                    rw [List.getElem?_append_right (by rw [lN]; exact Nat.le_refl _), lN, Nat.sub_self] at e1
                    cases e1
                    rw [eg] at e3
                    cases e3
                    rw [upd_ne ncD]
                    exact upd_same
              · rintro H9 ⟨N, sm, out, lN, rw0⟩
                refine .inl ⟨D3, _, rfl, .inl (.inl out), fun S hS => ?_⟩
                have s4 := same_upd (o := .tup (N.map V.ref)) hS
                have G9 : GrB false K (upd H9 S (.tup (N.map V.ref))) S g := ⟨N, .tup upd_same, by rw [lN, List.length_map, h2], fun j l r e1 e3 => .tup (s4 _ _ (rw0 j l r e1 e3))⟩
                have s210 := sm.trans s4
                generalize (upd H9 S (.tup (N.map V.ref))) = H10 at G9 s210 ⊢
                refine ⟨s0, S, false, g, rfl, hs, G9, sq, fun Dh H11 s11 n11 g11 => ?_⟩
                have s211 := s210.trans s11
                refine ⟨_, rfl, _, rfl, _, rfl, s0, DR, g, rfl, hs, gr.same s211, sq, fun D4 H12 s12 n12 g12 => ?_⟩
                refine ⟨dRow (heardF (bitsF s0) (dotsF s0 g)), dRow (heardF (bitsF s0) (dotsF s0 g)), dRow_dp (.inl (.inl (s12 _ _ g11))), dRow_dp (.inl (.inl g12)), dRow_shaped _, dRow_shaped _, _, rfl, ?_⟩
                rw [dRow_eq]
                refine iteF ?_
                have s212 := s211.trans s12
                refine ⟨_, rfl, _, rfl, rfl, s0, DR, true, g, rfl, hs, gr.same s212, sq, fun D5 H13 s13 n13 g13 => ?_⟩
                have gh13 := s13 _ _ (s12 _ _ g11)
                refine ⟨_, rfl, dRow (heardF (bitsF s0) (dotsF s0 g)), dRow (heardF (bitsF s0) (dotsF s0 g)), dRow_dp (.inl (.inl g13)), dRow_dp (.inl (.inl gh13)), dRow_shaped _, dRow_shaped _, _, rfl, ?_⟩
                rw [dRow_eq]
                refine iteF ?_
                have s213 := s212.trans s13
                have rp2 := dots_reprs (gr.same s213) sq hm24.2
                refine ⟨_, rfl, DR, dGr g, rfl, rp2.1, rp2.2.1, rp2.2.2.1, rp2.2.2.2.1, rp2.2.2.2.2, ?_⟩
                refine ⟨_, rfl, rfl, _, rfl, ite2 (fun c => absurd c (by simp)) (fun _ => ?_)⟩
                have lh : (heardF (bitsF s0) (dotsF s0 g)).length = totF s0 := heard_len (b := bitsF s0) (by rcases hb with h | h <;> omega) (by rw [wdots_len hs, tot_pt hs])
                refine ⟨_, rfl, .inl ⟨rfl, _, .inl (.inl gh13)⟩, Dh, _, _, rfl, rfl, gh13, ?_, ?_⟩
                · rw [List.length_map, lh]
                  exact small1000 (by omega)
                have nDh := Same.free s210 n11
                have s214 : Same H2 (upd H13 Dh (.lst ((heardF (bitsF s0) (dotsF s0 g)).map vG ++ [V.non]))) := fun c o hc => by
                  rw [upd_ne (ne_of_none hc nDh)]
                  exact s213 _ _ hc
                generalize (upd H13 Dh (.lst ((heardF (bitsF s0) (dotsF s0 g)).map vG ++ [V.non]))) = H14 at s214 ⊢
                refine ⟨_, rfl, _, rfl, s0, DR, true, g, rfl, hs, gr.same s214, sq, fun D6 H15 s15 n15 g15 => ?_⟩
                have s215 := s214.trans s15
                refine ⟨_, rfl, _, rfl, s0, DR, g, rfl, hs, gr.same s215, sq, fun D7 H16 s16 n16 g16 => ?_⟩
                have s216 := s215.trans s16
                refine ⟨dRow (heardF (bitsF s0) (dotsF s0 g)), dRow (heardF (bitsF s0) (dotsF s0 g)), dRow_dp (.inl (.inl (s16 _ _ g15))), dRow_dp (.inl (.inl g16)), dRow_shaped _, dRow_shaped _, ?_⟩
                rw [dRow_eq]
                exact q _ _ _ _ (R.kp.trans (Same.kp s216)) (s216 _ _ w2)
/-! CUT -/
def voidG : Grid := List.replicate 8 (List.replicate 8 none)
theorem void_sq : Sq (sdF 0) voidG := ⟨rfl, fun r hr => by rw [List.eq_of_mem_replicate hr]; rfl, fun r hr o ho => by
  rw [List.eq_of_mem_replicate hr] at ho
  exact .inl (List.eq_of_mem_replicate ho)⟩
theorem void_heard : heardF (bitsF 0) (dotsF 0 voidG) = List.replicate 4 none := by
  unfold dotsF
  rw [way_at (by decide)]
  decide +kernel
def sp_law (K : PySem.W.Frag) : Sp := fun vs H Q _ => ∃ (a : Addr) (ns : List Int), vs = [.ref a] ∧ SqL K H a (ns.map V.int) ∧ ns.length ≤ 63 ∧ ∀ H', Q (.bl true) H'
theorem ok_law (T : Txt K mg) : FnG P w K mg base CX0 8 T.f_law T.d_law ["_law_script"] (sp_law K) := by
  refine okStill T.F_law sc_law (fun vs H Q E h => ?_) (fun cdv A outer s H vs Q E sg hr h => ?_)
  · obtain ⟨a, ns, rfl, _⟩ := h
    rfl
  · obtain ⟨a, ns, rfl, hS, hlen, q⟩ := h
    refine ⟨_, (pss_cons (ps_for PassesOwn.never rfl (pi_range1 (by rfl) T.n_range (pa_cons (pe_callB (call_max2 rfl) (by rfl) T.n_max (by decide +kernel) (pa_cons pe_int (pa_cons (pe_callB (call_min2 rfl) (by rfl) T.n_min (by decide +kernel) (pa_cons pe_int (pa_cons (pe_callB call_len_seq (by rfl) T.n_len (by decide +kernel) (pa_cons (pv 0) pa_nil)) pa_nil))) pa_nil))) pa_nil)) (pg_name (i := 1) sc_law.nd rfl (.inl rfl)) (pss_cons (ps_set (i := 2) sc_law.nd rfl (.inl rfl) (pe_call (ok__law_source_of T) (hr.mono (by decide)) (by rfl) T.g__law_source_of T.F__law_source_of.kp T.b__law_source_of .nil pass0 (pa_cons (pe_call (ok__law_cell_at T) (hr.mono (by decide)) (by rfl) T.g__law_cell_at T.F__law_cell_at.kp T.b__law_cell_at .nil pass0 (pa_cons (pv 0) (pa_cons (pv 1) pa_nil))) pa_nil)))
      (pss_one (ps_if (PW.pt (pw_or (pt_not (pt_val (pe_callG (ok__law_right T) sg (hr.mono (by decide)) (by rfl) T.g__law_right T.F__law_right.kp T.b__law_right .nil pass0 (pa_cons (pv 2) pa_nil)))) (pw_or1 (pt_not (pt_val (pe_callG (ok__law_right T) sg (hr.mono (by decide)) (by rfl) T.g__law_right T.F__law_right.kp T.b__law_right .nil pass0 (pa_cons (pv 2) pa_nil))))))) (pss_one (ps_ret pe_bl)) pss_nil))))
      (pss_one (ps_ret (pe_cmpR (op_eqD hr.units) (pe_call (ok_words_in T) (hr.mono (by decide)) (by rfl) T.g_words_in T.F_words_in.kp T.b_words_in .nil pass0 (pa_cons pe_int (pa_cons (pe_op op_rep (pe_lst (pa_cons (pe_op op_rep (pe_lst (pa_cons pe_non pa_nil)) pe_int) pa_nil)) pe_int) pa_nil))) (pe_op op_rep (pe_lst (pa_cons pe_non pa_nil)) pe_int) (nomark _))))), ?_⟩
    refine ⟨_, rfl, a, _, rfl, .inl hS, ?_⟩
    rw [List.length_map]
    refine ⟨_, _, rfl, _, _, rfl, ?_⟩
    obtain ⟨m, hm⟩ : ∃ m : Nat, (if (if ((ns.length : Nat) : Int) < 4 then ((ns.length : Nat) : Int) else 4) > 1 then (if ((ns.length : Nat) : Int) < 4 then ((ns.length : Nat) : Int) else 4) else 1) = (m : Int) ∧ m ≤ 4 := by
      refine ⟨max 1 (min 4 ns.length), ?_, by omega⟩
      split <;> split at * <;> omega
    obtain ⟨hm1, hm2⟩ := hm
    refine ⟨(m : Int), congrArg (fun z => [V.int z]) hm1, by omega, by omega, ?_⟩
    refine for_range (lo := 0) (n := m) (fun i σ H' => ∃ z1 z2 : Option V, σ = [some (.ref a), z1, z2] ∧ Same H H') ⟨_, _, rfl, Same.refl _⟩ ?_ ?_
    · rintro i σ H1 hi ⟨z1, z2, rfl, s1⟩
      refine ⟨_, rfl, _, rfl, a, ns, i, congrArg (fun z => [V.ref a, V.int z]) (Int.zero_add _), s1.seq hS, fun n => ⟨n, rfl, fun p x y z np => ?_⟩⟩
      have np0 : H p = none := Same.free s1 np
      refine ⟨_, rfl, p, x, y, z, rfl, upd_same, fun a2 b2 c2 H3 k3 w3 => ⟨_, rfl, iteF ?_⟩⟩
      refine ⟨_, rfl, p, a2, b2, c2, rfl, w3, fun a4 b4 c4 H4 k4 w4 => ⟨_, rfl, iteF ?_⟩⟩
      refine ⟨_, _, rfl, fun c o hc => k4 _ _ (k3 _ _ ((s1.trans (same_upd np)) _ _ hc) (ne_of_none hc np0)) (ne_of_none hc np0)⟩
    · rintro σ H2 ⟨z1, z2, rfl, s2⟩
      refine ⟨(by show 1 ≤ sizeLine; decide), fun l1 h1 => ?_⟩
      refine ⟨l1, 8, _, rfl, rfl, upd_same, (by decide), (by decide), (by show 8 ≤ sizeLine; decide), fun l2 h2 => ?_⟩
      refine ⟨(by show 1 ≤ sizeLine; decide), fun l3 h3 => ?_⟩
      refine ⟨l3, 8, _, rfl, rfl, upd_same, (by decide), (by decide), (by show 8 ≤ sizeLine; decide), fun l4 h4 => ?_⟩
      have g2 := same_upd (o := .lst (List.replicate (8 : Int).toNat [V.ref l2]).flatten) h4 _ _ (same_upd (o := .lst [V.ref l2]) h3 _ _ (upd_same (a := l2)))
      refine ⟨0, l4, true, voidG, rfl, by decide, ⟨List.replicate 8 l2, .lst upd_same, rfl, fun j l r e1 e2 => ?_⟩, void_sq, fun D H' sm nD gD => ?_⟩
      · obtain rfl := List.eq_of_mem_replicate (List.mem_of_getElem? e1)
        obtain rfl := List.eq_of_mem_replicate (List.mem_of_getElem? e2)
        exact .lst g2
      · rw [void_heard] at gD
        refine ⟨(by show 1 ≤ sizeLine; decide), fun m1 j1 => ?_⟩
        have sm1 := same_upd (o := .lst [V.non]) j1
        refine ⟨m1, 4, _, rfl, rfl, upd_same, (by decide), (by decide), (by show 4 ≤ sizeLine; decide), fun m2 j2 => ?_⟩
        have sm2 := same_upd (o := .lst (List.replicate (4 : Int).toNat [V.non]).flatten) j2
        refine ⟨dRow (List.replicate 4 none), dRow (List.replicate 4 none), dRow_dp (.inl (.inl (sm2 _ _ (sm1 _ _ gD)))), dRow_dp (.inl (.inl upd_same)), dRow_shaped _, dRow_shaped _, ?_⟩
        rw [dRow_eq]
        exact q _
/-! CUT -/
end
theorem all_mk {P : Program} {w : World} {K : PySem.W.Frag} {h : Heap} {mg : Str → Option Value} {fa : Addr} (X : K.In h) (G : h.Ns mainGlobals mg) (hfa : mg "law" = some (.ref fa))
    {f0 : Addr} {od0 an0 : Option Addr} {sl0 : Array (Option Value)} {oc0 kV0 dc0 pm0 cd0 ct0 : Value}
    (a0 : PySem.W.nsIn K mainGlobals "is_number_to" = some (some (.ref f0)))
    (l0 : K.lookup f0 = some ⟨oc0, od0, .func (PySem.W.fnOf "is_number_to" "is_number_to" (defArgs s_is_number_to) (defBody s_is_number_to) (defScope s_is_number_to) .none kV0 dc0 pm0 an0 cd0 ct0), sl0⟩) (c0 : PySem.W.codeIn K cd0 "is_number_to" = true) (k0 : PySem.W.keepIn K (.ref f0) = true)
    {f1 : Addr} {od1 an1 : Option Addr} {sl1 : Array (Option Value)} {oc1 kV1 dc1 pm1 cd1 ct1 : Value}
    (a1 : PySem.W.nsIn K mainGlobals "is_row" = some (some (.ref f1)))
    (l1 : K.lookup f1 = some ⟨oc1, od1, .func (PySem.W.fnOf "is_row" "is_row" (defArgs s_is_row) (defBody s_is_row) (defScope s_is_row) .none kV1 dc1 pm1 an1 cd1 ct1), sl1⟩) (c1 : PySem.W.codeIn K cd1 "is_row" = true) (k1 : PySem.W.keepIn K (.ref f1) = true)
    {f2 : Addr} {od2 an2 : Option Addr} {sl2 : Array (Option Value)} {oc2 kV2 dc2 pm2 cd2 ct2 : Value}
    (a2 : PySem.W.nsIn K mainGlobals "are_plain_words" = some (some (.ref f2)))
    (l2 : K.lookup f2 = some ⟨oc2, od2, .func (PySem.W.fnOf "are_plain_words" "are_plain_words" (defArgs s_are_plain_words) (defBody s_are_plain_words) (defScope s_are_plain_words) .none kV2 dc2 pm2 an2 cd2 ct2), sl2⟩) (c2 : PySem.W.codeIn K cd2 "are_plain_words" = true) (k2 : PySem.W.keepIn K (.ref f2) = true)
    {f3 : Addr} {od3 an3 : Option Addr} {sl3 : Array (Option Value)} {oc3 kV3 dc3 pm3 cd3 ct3 : Value}
    (a3 : PySem.W.nsIn K mainGlobals "need_size" = some (some (.ref f3)))
    (l3 : K.lookup f3 = some ⟨oc3, od3, .func (PySem.W.fnOf "need_size" "need_size" (defArgs s_need_size) (defBody s_need_size) (defScope s_need_size) .none kV3 dc3 pm3 an3 cd3 ct3), sl3⟩) (c3 : PySem.W.codeIn K cd3 "need_size" = true) (k3 : PySem.W.keepIn K (.ref f3) = true)
    {f4 : Addr} {od4 an4 : Option Addr} {sl4 : Array (Option Value)} {oc4 kV4 dc4 pm4 cd4 ct4 : Value}
    (a4 : PySem.W.nsIn K mainGlobals "block_sizes" = some (some (.ref f4)))
    (l4 : K.lookup f4 = some ⟨oc4, od4, .func (PySem.W.fnOf "block_sizes" "block_sizes" (defArgs s_block_sizes) (defBody s_block_sizes) (defScope s_block_sizes) .none kV4 dc4 pm4 an4 cd4 ct4), sl4⟩) (c4 : PySem.W.codeIn K cd4 "block_sizes" = true) (k4 : PySem.W.keepIn K (.ref f4) = true)
    {f5 : Addr} {od5 an5 : Option Addr} {sl5 : Array (Option Value)} {oc5 kV5 dc5 pm5 cd5 ct5 : Value}
    (a5 : PySem.W.nsIn K mainGlobals "word_count" = some (some (.ref f5)))
    (l5 : K.lookup f5 = some ⟨oc5, od5, .func (PySem.W.fnOf "word_count" "word_count" (defArgs s_word_count) (defBody s_word_count) (defScope s_word_count) .none kV5 dc5 pm5 an5 cd5 ct5), sl5⟩) (c5 : PySem.W.codeIn K cd5 "word_count" = true) (k5 : PySem.W.keepIn K (.ref f5) = true)
    {f6 : Addr} {od6 an6 : Option Addr} {sl6 : Array (Option Value)} {oc6 kV6 dc6 pm6 cd6 ct6 : Value}
    (a6 : PySem.W.nsIn K mainGlobals "is_plain_grid" = some (some (.ref f6)))
    (l6 : K.lookup f6 = some ⟨oc6, od6, .func (PySem.W.fnOf "is_plain_grid" "is_plain_grid" (defArgs s_is_plain_grid) (defBody s_is_plain_grid) (defScope s_is_plain_grid) .none kV6 dc6 pm6 an6 cd6 ct6), sl6⟩) (c6 : PySem.W.codeIn K cd6 "is_plain_grid" = true) (k6 : PySem.W.keepIn K (.ref f6) = true)
    {f7 : Addr} {od7 an7 : Option Addr} {sl7 : Array (Option Value)} {oc7 kV7 dc7 pm7 cd7 ct7 : Value}
    (a7 : PySem.W.nsIn K mainGlobals "need_dot_rows" = some (some (.ref f7)))
    (l7 : K.lookup f7 = some ⟨oc7, od7, .func (PySem.W.fnOf "need_dot_rows" "need_dot_rows" (defArgs s_need_dot_rows) (defBody s_need_dot_rows) (defScope s_need_dot_rows) .none kV7 dc7 pm7 an7 cd7 ct7), sl7⟩) (c7 : PySem.W.codeIn K cd7 "need_dot_rows" = true) (k7 : PySem.W.keepIn K (.ref f7) = true)
    {f8 : Addr} {od8 an8 : Option Addr} {sl8 : Array (Option Value)} {oc8 kV8 dc8 pm8 cd8 ct8 : Value}
    (a8 : PySem.W.nsIn K mainGlobals "need_grid" = some (some (.ref f8)))
    (l8 : K.lookup f8 = some ⟨oc8, od8, .func (PySem.W.fnOf "need_grid" "need_grid" (defArgs s_need_grid) (defBody s_need_grid) (defScope s_need_grid) .none kV8 dc8 pm8 an8 cd8 ct8), sl8⟩) (c8 : PySem.W.codeIn K cd8 "need_grid" = true) (k8 : PySem.W.keepIn K (.ref f8) = true)
    {f9 : Addr} {od9 an9 : Option Addr} {sl9 : Array (Option Value)} {oc9 kV9 dc9 pm9 cd9 ct9 : Value}
    (a9 : PySem.W.nsIn K mainGlobals "need_symbol_words" = some (some (.ref f9)))
    (l9 : K.lookup f9 = some ⟨oc9, od9, .func (PySem.W.fnOf "need_symbol_words" "need_symbol_words" (defArgs s_need_symbol_words) (defBody s_need_symbol_words) (defScope s_need_symbol_words) .none kV9 dc9 pm9 an9 cd9 ct9), sl9⟩) (c9 : PySem.W.codeIn K cd9 "need_symbol_words" = true) (k9 : PySem.W.keepIn K (.ref f9) = true)
    {f10 : Addr} {od10 an10 : Option Addr} {sl10 : Array (Option Value)} {oc10 kV10 dc10 pm10 cd10 ct10 : Value}
    (a10 : PySem.W.nsIn K mainGlobals "_law_cell_at" = some (some (.ref f10)))
    (l10 : K.lookup f10 = some ⟨oc10, od10, .func (PySem.W.fnOf "_law_cell_at" "_law_cell_at" (defArgs s__law_cell_at) (defBody s__law_cell_at) (defScope s__law_cell_at) .none kV10 dc10 pm10 an10 cd10 ct10), sl10⟩) (c10 : PySem.W.codeIn K cd10 "_law_cell_at" = true) (k10 : PySem.W.keepIn K (.ref f10) = true)
    {f11 : Addr} {od11 an11 : Option Addr} {sl11 : Array (Option Value)} {oc11 kV11 dc11 pm11 cd11 ct11 : Value}
    (a11 : PySem.W.nsIn K mainGlobals "_law_source_of" = some (some (.ref f11)))
    (l11 : K.lookup f11 = some ⟨oc11, od11, .func (PySem.W.fnOf "_law_source_of" "_law_source_of" (defArgs s__law_source_of) (defBody s__law_source_of) (defScope s__law_source_of) .none kV11 dc11 pm11 an11 cd11 ct11), sl11⟩) (c11 : PySem.W.codeIn K cd11 "_law_source_of" = true) (k11 : PySem.W.keepIn K (.ref f11) = true)
    {f12 : Addr} {od12 an12 : Option Addr} {sl12 : Array (Option Value)} {oc12 kV12 dc12 pm12 cd12 ct12 : Value}
    (a12 : PySem.W.nsIn K mainGlobals "_law_next" = some (some (.ref f12)))
    (l12 : K.lookup f12 = some ⟨oc12, od12, .func (PySem.W.fnOf "_law_next" "_law_next" (defArgs s__law_next) (defBody s__law_next) (defScope s__law_next) .none kV12 dc12 pm12 an12 cd12 ct12), sl12⟩) (c12 : PySem.W.codeIn K cd12 "_law_next" = true) (k12 : PySem.W.keepIn K (.ref f12) = true)
    {f13 : Addr} {od13 an13 : Option Addr} {sl13 : Array (Option Value)} {oc13 kV13 dc13 pm13 cd13 ct13 : Value}
    (a13 : PySem.W.nsIn K mainGlobals "_law_table" = some (some (.ref f13)))
    (l13 : K.lookup f13 = some ⟨oc13, od13, .func (PySem.W.fnOf "_law_table" "_law_table" (defArgs s__law_table) (defBody s__law_table) (defScope s__law_table) .none kV13 dc13 pm13 an13 cd13 ct13), sl13⟩) (c13 : PySem.W.codeIn K cd13 "_law_table" = true) (k13 : PySem.W.keepIn K (.ref f13) = true)
    {f14 : Addr} {od14 an14 : Option Addr} {sl14 : Array (Option Value)} {oc14 kV14 dc14 pm14 cd14 ct14 : Value}
    (a14 : PySem.W.nsIn K mainGlobals "words_as_bits" = some (some (.ref f14)))
    (l14 : K.lookup f14 = some ⟨oc14, od14, .func (PySem.W.fnOf "words_as_bits" "words_as_bits" (defArgs s_words_as_bits) (defBody s_words_as_bits) (defScope s_words_as_bits) .none kV14 dc14 pm14 an14 cd14 ct14), sl14⟩) (c14 : PySem.W.codeIn K cd14 "words_as_bits" = true) (k14 : PySem.W.keepIn K (.ref f14) = true)
    {f15 : Addr} {od15 an15 : Option Addr} {sl15 : Array (Option Value)} {oc15 kV15 dc15 pm15 cd15 ct15 : Value}
    (a15 : PySem.W.nsIn K mainGlobals "_law_pick" = some (some (.ref f15)))
    (l15 : K.lookup f15 = some ⟨oc15, od15, .func (PySem.W.fnOf "_law_pick" "_law_pick" (defArgs s__law_pick) (defBody s__law_pick) (defScope s__law_pick) .none kV15 dc15 pm15 an15 cd15 ct15), sl15⟩) (c15 : PySem.W.codeIn K cd15 "_law_pick" = true) (k15 : PySem.W.keepIn K (.ref f15) = true)
    {f16 : Addr} {od16 an16 : Option Addr} {sl16 : Array (Option Value)} {oc16 kV16 dc16 pm16 cd16 ct16 : Value}
    (a16 : PySem.W.nsIn K mainGlobals "_law_ribbons" = some (some (.ref f16)))
    (l16 : K.lookup f16 = some ⟨oc16, od16, .func (PySem.W.fnOf "_law_ribbons" "_law_ribbons" (defArgs s__law_ribbons) (defBody s__law_ribbons) (defScope s__law_ribbons) .none kV16 dc16 pm16 an16 cd16 ct16), sl16⟩) (c16 : PySem.W.codeIn K cd16 "_law_ribbons" = true) (k16 : PySem.W.keepIn K (.ref f16) = true)
    {f17 : Addr} {od17 an17 : Option Addr} {sl17 : Array (Option Value)} {oc17 kV17 dc17 pm17 cd17 ct17 : Value}
    (a17 : PySem.W.nsIn K mainGlobals "_law_way" = some (some (.ref f17)))
    (l17 : K.lookup f17 = some ⟨oc17, od17, .func (PySem.W.fnOf "_law_way" "_law_way" (defArgs s__law_way) (defBody s__law_way) (defScope s__law_way) .none kV17 dc17 pm17 an17 cd17 ct17), sl17⟩) (c17 : PySem.W.codeIn K cd17 "_law_way" = true) (k17 : PySem.W.keepIn K (.ref f17) = true)
    {f18 : Addr} {od18 an18 : Option Addr} {sl18 : Array (Option Value)} {oc18 kV18 dc18 pm18 cd18 ct18 : Value}
    (a18 : PySem.W.nsIn K mainGlobals "bits_as_words" = some (some (.ref f18)))
    (l18 : K.lookup f18 = some ⟨oc18, od18, .func (PySem.W.fnOf "bits_as_words" "bits_as_words" (defArgs s_bits_as_words) (defBody s_bits_as_words) (defScope s_bits_as_words) .none kV18 dc18 pm18 an18 cd18 ct18), sl18⟩) (c18 : PySem.W.codeIn K cd18 "bits_as_words" = true) (k18 : PySem.W.keepIn K (.ref f18) = true)
    {f19 : Addr} {od19 an19 : Option Addr} {sl19 : Array (Option Value)} {oc19 kV19 dc19 pm19 cd19 ct19 : Value}
    (a19 : PySem.W.nsIn K mainGlobals "words_on" = some (some (.ref f19)))
    (l19 : K.lookup f19 = some ⟨oc19, od19, .func (PySem.W.fnOf "words_on" "words_on" (defArgs s_words_on) (defBody s_words_on) (defScope s_words_on) .none kV19 dc19 pm19 an19 cd19 ct19), sl19⟩) (c19 : PySem.W.codeIn K cd19 "words_on" = true) (k19 : PySem.W.keepIn K (.ref f19) = true)
    {f20 : Addr} {od20 an20 : Option Addr} {sl20 : Array (Option Value)} {oc20 kV20 dc20 pm20 cd20 ct20 : Value}
    (a20 : PySem.W.nsIn K mainGlobals "words_in" = some (some (.ref f20)))
    (l20 : K.lookup f20 = some ⟨oc20, od20, .func (PySem.W.fnOf "words_in" "words_in" (defArgs s_words_in) (defBody s_words_in) (defScope s_words_in) .none kV20 dc20 pm20 an20 cd20 ct20), sl20⟩) (c20 : PySem.W.codeIn K cd20 "words_in" = true) (k20 : PySem.W.keepIn K (.ref f20) = true)
    {f21 : Addr} {od21 an21 : Option Addr} {sl21 : Array (Option Value)} {oc21 kV21 dc21 pm21 cd21 ct21 : Value}
    (a21 : PySem.W.nsIn K mainGlobals "grid_of_words" = some (some (.ref f21)))
    (l21 : K.lookup f21 = some ⟨oc21, od21, .func (PySem.W.fnOf "grid_of_words" "grid_of_words" (defArgs s_grid_of_words) (defBody s_grid_of_words) (defScope s_grid_of_words) .none kV21 dc21 pm21 an21 cd21 ct21), sl21⟩) (c21 : PySem.W.codeIn K cd21 "grid_of_words" = true) (k21 : PySem.W.keepIn K (.ref f21) = true)
    {f22 : Addr} {od22 an22 : Option Addr} {sl22 : Array (Option Value)} {oc22 kV22 dc22 pm22 cd22 ct22 : Value}
    (a22 : PySem.W.nsIn K mainGlobals "with_words" = some (some (.ref f22)))
    (l22 : K.lookup f22 = some ⟨oc22, od22, .func (PySem.W.fnOf "with_words" "with_words" (defArgs s_with_words) (defBody s_with_words) (defScope s_with_words) .none kV22 dc22 pm22 an22 cd22 ct22), sl22⟩) (c22 : PySem.W.codeIn K cd22 "with_words" = true) (k22 : PySem.W.keepIn K (.ref f22) = true)
    {f23 : Addr} {od23 an23 : Option Addr} {sl23 : Array (Option Value)} {oc23 kV23 dc23 pm23 cd23 ct23 : Value}
    (a23 : PySem.W.nsIn K mainGlobals "_law_frame" = some (some (.ref f23)))
    (l23 : K.lookup f23 = some ⟨oc23, od23, .func (PySem.W.fnOf "_law_frame" "_law_frame" (defArgs s__law_frame) (defBody s__law_frame) (defScope s__law_frame) .none kV23 dc23 pm23 an23 cd23 ct23), sl23⟩) (c23 : PySem.W.codeIn K cd23 "_law_frame" = true) (k23 : PySem.W.keepIn K (.ref f23) = true)
    {f24 : Addr} {od24 an24 : Option Addr} {sl24 : Array (Option Value)} {oc24 kV24 dc24 pm24 cd24 ct24 : Value}
    (a24 : PySem.W.nsIn K mainGlobals "_law_laid" = some (some (.ref f24)))
    (l24 : K.lookup f24 = some ⟨oc24, od24, .func (PySem.W.fnOf "_law_laid" "_law_laid" (defArgs s__law_laid) (defBody s__law_laid) (defScope s__law_laid) .none kV24 dc24 pm24 an24 cd24 ct24), sl24⟩) (c24 : PySem.W.codeIn K cd24 "_law_laid" = true) (k24 : PySem.W.keepIn K (.ref f24) = true)
    {f25 : Addr} {od25 an25 : Option Addr} {sl25 : Array (Option Value)} {oc25 kV25 dc25 pm25 cd25 ct25 : Value}
    (a25 : PySem.W.nsIn K mainGlobals "_law_heard" = some (some (.ref f25)))
    (l25 : K.lookup f25 = some ⟨oc25, od25, .func (PySem.W.fnOf "_law_heard" "_law_heard" (defArgs s__law_heard) (defBody s__law_heard) (defScope s__law_heard) .none kV25 dc25 pm25 an25 cd25 ct25), sl25⟩) (c25 : PySem.W.codeIn K cd25 "_law_heard" = true) (k25 : PySem.W.keepIn K (.ref f25) = true)
    {f26 : Addr} {od26 an26 : Option Addr} {sl26 : Array (Option Value)} {oc26 kV26 dc26 pm26 cd26 ct26 : Value}
    (a26 : PySem.W.nsIn K mainGlobals "_law_right" = some (some (.ref f26)))
    (l26 : K.lookup f26 = some ⟨oc26, od26, .func (PySem.W.fnOf "_law_right" "_law_right" (defArgs s__law_right) (defBody s__law_right) (defScope s__law_right) .none kV26 dc26 pm26 an26 cd26 ct26), sl26⟩) (c26 : PySem.W.codeIn K cd26 "_law_right" = true) (k26 : PySem.W.keepIn K (.ref f26) = true)
    {f27 : Addr} {od27 an27 : Option Addr} {sl27 : Array (Option Value)} {oc27 kV27 dc27 pm27 cd27 ct27 : Value}
    (a27 : PySem.W.nsIn K mainGlobals "law" = some (some (.ref f27)))
    (l27 : K.lookup f27 = some ⟨oc27, od27, .func (PySem.W.fnOf "law" "law" (defArgs s_law) (defBody s_law) (defScope s_law) .none kV27 dc27 pm27 an27 cd27 ct27), sl27⟩) (c27 : PySem.W.codeIn K cd27 "law" = true) (k27 : PySem.W.keepIn K (.ref f27) = true)
    (z_bool : PySem.W.nsIn K mainGlobals "bool" = some none)
    (z_enumerate : PySem.W.nsIn K mainGlobals "enumerate" = some none)
    (z_int : PySem.W.nsIn K mainGlobals "int" = some none)
    (z_isinstance : PySem.W.nsIn K mainGlobals "isinstance" = some none)
    (z_len : PySem.W.nsIn K mainGlobals "len" = some none)
    (z_list : PySem.W.nsIn K mainGlobals "list" = some none)
    (z_max : PySem.W.nsIn K mainGlobals "max" = some none)
    (z_min : PySem.W.nsIn K mainGlobals "min" = some none)
    (z_range : PySem.W.nsIn K mainGlobals "range" = some none)
    (z_repr : PySem.W.nsIn K mainGlobals "repr" = some none)
    (z_str : PySem.W.nsIn K mainGlobals "str" = some none)
    (z_sum : PySem.W.nsIn K mainGlobals "sum" = some none)
    (z_tuple : PySem.W.nsIn K mainGlobals "tuple" = some none)
    (z_type : PySem.W.nsIn K mainGlobals "type" = some none)
    (z_zip : PySem.W.nsIn K mainGlobals "zip" = some none)
    {d_BLOCKS : Addr} {n_BLOCKS : Nat} {s_BLOCKS : Array (Option Value)} {c_BLOCKS0 : Addr} {c_BLOCKS1 : Addr} {c_BLOCKS2 : Addr} {c_BLOCKS3 : Addr} {c_BLOCKS4 : Addr}
    (a_BLOCKS : PySem.W.nsIn K mainGlobals "BLOCKS" = some (some (.ref d_BLOCKS)))
    (l_BLOCKS : K.lookup d_BLOCKS = some ⟨.type "tuple", none, .seq #[.ref c_BLOCKS0, .ref c_BLOCKS1, .ref c_BLOCKS2, .ref c_BLOCKS3, .ref c_BLOCKS4] n_BLOCKS, s_BLOCKS⟩)
    (t_BLOCKS0 : tupB K c_BLOCKS0 [4] = true)
    (t_BLOCKS1 : tupB K c_BLOCKS1 [10, 10] = true)
    (t_BLOCKS2 : tupB K c_BLOCKS2 [22] = true)
    (t_BLOCKS3 : tupB K c_BLOCKS3 [19, 19] = true)
    (t_BLOCKS4 : tupB K c_BLOCKS4 [20, 19, 19] = true)
    {d_PATHS : Addr} {n_PATHS : Nat} {s_PATHS : Array (Option Value)} {c_PATHS0 : Addr} {c_PATHS1 : Addr} {c_PATHS2 : Addr} {c_PATHS3 : Addr} {c_PATHS4 : Addr}
    (a_PATHS : PySem.W.nsIn K mainGlobals "PATHS" = some (some (.ref d_PATHS)))
    (l_PATHS : K.lookup d_PATHS = some ⟨.type "tuple", none, .seq #[.ref c_PATHS0, .ref c_PATHS1, .ref c_PATHS2, .ref c_PATHS3, .ref c_PATHS4] n_PATHS, s_PATHS⟩)
    (t_PATHS0 : tupB K c_PATHS0 [54, 53, 46, 45, 38, 37, 30, 29, 22, 21, 28, 27, 36, 35, 44, 52] = true)
    (t_PATHS1 : tupB K c_PATHS1 [130, 129, 118, 117, 106, 105, 94, 93, 82, 81, 70, 69, 58, 57, 46, 45, 34, 33, 32, 31, 44, 43, 56, 55, 68, 67, 80, 79, 92, 91, 104, 103, 116, 115, 128, 127, 126, 125, 114, 113, 102, 101, 90, 89, 78, 77, 66, 65, 54, 53, 42, 41, 30, 29, 28, 27, 40, 39, 52, 51, 64, 63, 76, 75, 88, 87, 100, 99, 112, 111, 124, 123, 110, 98, 86, 74, 62, 50, 38, 26] = true)
    (t_PATHS2 : tupB K c_PATHS2 [238, 237, 222, 221, 206, 205, 190, 189, 174, 173, 158, 157, 142, 141, 126, 125, 110, 109, 94, 93, 78, 77, 62, 61, 46, 45, 30, 29, 28, 27, 44, 43, 60, 59, 76, 75, 92, 91, 108, 107, 124, 123, 140, 139, 156, 155, 172, 171, 188, 187, 204, 203, 220, 219, 236, 235, 234, 233, 218, 217, 202, 201, 186, 185, 170, 169, 154, 153, 138, 137, 122, 121, 106, 105, 90, 89, 74, 73, 58, 57, 42, 41, 40, 39, 56, 55, 72, 71, 88, 87, 104, 103, 120, 119, 136, 135, 152, 151, 168, 167, 184, 183, 200, 199, 216, 215, 232, 231, 230, 229, 214, 213, 198, 197, 182, 181, 166, 165, 150, 149, 134, 133, 118, 117, 102, 101, 86, 85, 70, 69, 54, 53, 38, 37, 36, 35, 52, 51, 68, 67, 84, 83, 100, 99, 116, 115, 132, 131, 148, 147, 164, 163, 180, 179, 196, 195, 212, 211, 228, 227, 226, 210, 194, 178, 162, 146, 130, 114, 98, 82, 66, 65, 50, 49, 34, 33] = true)
    (t_PATHS3 : tupB K c_PATHS3 [378, 377, 358, 357, 338, 337, 318, 317, 298, 297, 278, 277, 258, 257, 238, 237, 218, 217, 198, 197, 178, 177, 158, 157, 138, 137, 118, 117, 98, 97, 78, 77, 58, 57, 38, 37, 36, 35, 56, 55, 76, 75, 96, 95, 116, 115, 136, 135, 156, 155, 176, 175, 196, 195, 216, 215, 236, 235, 256, 255, 276, 275, 296, 295, 316, 315, 336, 335, 356, 355, 376, 375, 374, 373, 354, 353, 334, 333, 314, 313, 294, 293, 274, 273, 254, 253, 234, 233, 214, 213, 194, 193, 174, 173, 154, 153, 134, 133, 114, 113, 94, 93, 74, 73, 54, 53, 34, 33, 32, 31, 52, 51, 72, 71, 92, 91, 112, 111, 132, 131, 152, 151, 172, 171, 192, 191, 212, 211, 232, 231, 252, 251, 272, 271, 292, 291, 312, 311, 332, 331, 352, 351, 372, 371, 370, 369, 350, 349, 330, 329, 310, 309, 290, 289, 270, 269, 250, 249, 230, 229, 210, 209, 190, 189, 170, 169, 150, 149, 130, 129, 110, 109, 90, 89, 70, 69, 50, 49, 48, 47, 68, 67, 88, 87, 108, 107, 128, 127, 148, 147, 168, 167, 188, 187, 208, 207, 228, 227, 248, 247, 268, 267, 288, 287, 308, 307, 328, 327, 348, 347, 368, 367, 366, 365, 346, 345, 326, 325, 306, 305, 286, 285, 266, 265, 246, 245, 226, 225, 206, 205, 186, 185, 166, 165, 146, 145, 126, 125, 106, 105, 86, 85, 66, 65, 46, 45, 44, 43, 64, 63, 84, 83, 104, 103, 124, 123, 144, 143, 164, 163, 184, 183, 204, 203, 224, 223, 244, 243, 264, 263, 284, 283, 304, 303, 324, 323, 344, 343, 364, 363, 362, 342, 322, 302, 282, 262, 242, 222, 202, 182, 162, 161, 142, 141, 122, 121, 102, 101, 82, 81, 62, 61, 42, 41] = true)
    (t_PATHS4 : tupB K c_PATHS4 [550, 549, 526, 525, 502, 501, 478, 477, 454, 453, 430, 429, 406, 405, 382, 381, 358, 357, 334, 333, 310, 309, 286, 285, 262, 261, 238, 237, 214, 213, 190, 189, 166, 165, 142, 141, 118, 117, 94, 93, 70, 69, 46, 45, 44, 43, 68, 67, 92, 91, 116, 115, 140, 139, 164, 163, 188, 187, 212, 211, 236, 235, 260, 259, 284, 283, 308, 307, 332, 331, 356, 355, 380, 379, 404, 403, 428, 427, 452, 451, 476, 475, 500, 499, 524, 523, 548, 547, 546, 545, 522, 521, 498, 497, 474, 473, 450, 449, 426, 425, 402, 401, 378, 377, 354, 353, 330, 329, 306, 305, 282, 281, 258, 257, 234, 233, 210, 209, 186, 185, 162, 161, 138, 137, 114, 113, 90, 89, 66, 65, 42, 41, 40, 39, 64, 63, 88, 87, 112, 111, 136, 135, 160, 159, 184, 183, 208, 207, 232, 231, 256, 255, 280, 279, 304, 303, 328, 327, 352, 351, 376, 375, 400, 399, 424, 423, 448, 447, 472, 471, 496, 495, 520, 519, 544, 543, 542, 541, 518, 517, 494, 493, 470, 469, 446, 445, 422, 421, 398, 397, 374, 373, 350, 349, 326, 325, 302, 301, 278, 277, 254, 253, 230, 229, 206, 205, 182, 181, 158, 157, 134, 133, 110, 109, 86, 85, 62, 61, 38, 37, 36, 35, 60, 59, 84, 83, 108, 107, 132, 131, 156, 155, 180, 179, 204, 203, 228, 227, 252, 251, 276, 275, 300, 299, 324, 323, 348, 347, 372, 371, 396, 395, 420, 419, 444, 443, 468, 467, 492, 491, 516, 515, 540, 539, 538, 537, 514, 513, 490, 489, 466, 465, 442, 441, 418, 417, 394, 393, 370, 369, 346, 345, 322, 321, 298, 297, 274, 273, 250, 249, 226, 225, 202, 201, 178, 177, 154, 153, 130, 129, 106, 105, 82, 81, 58, 57, 56, 55, 80, 79, 104, 103, 128, 127, 152, 151, 176, 175, 200, 199, 224, 223, 248, 247, 272, 271, 296, 295, 320, 319, 344, 343, 368, 367, 392, 391, 416, 415, 440, 439, 464, 463, 488, 487, 512, 511, 536, 535, 534, 533, 510, 509, 486, 485, 462, 461, 438, 437, 414, 413, 390, 389, 366, 365, 342, 341, 318, 317, 294, 293, 270, 269, 246, 245, 222, 221, 198, 197, 174, 173, 150, 149, 126, 125, 102, 101, 78, 77, 54, 53, 52, 51, 76, 75, 100, 99, 124, 123, 148, 147, 172, 171, 196, 195, 220, 219, 244, 243, 268, 267, 292, 291, 316, 315, 340, 339, 364, 363, 388, 387, 412, 411, 436, 435, 460, 459, 484, 483, 508, 507, 532, 531, 530, 506, 482, 458, 434, 410, 386, 362, 338, 314, 290, 289, 266, 265, 242, 241, 218, 217, 194, 193, 170, 169, 146, 145, 122, 121, 98, 97, 74, 73, 50, 49] = true)
    {d_PLACES : Addr} (a_PLACES : PySem.W.nsIn K mainGlobals "PLACES" = some (some (.ref d_PLACES))) (t_PLACES : tup3B K d_PLACES [[[37, 36, 37, 36, 37, 36, 37, 36], [37, 16, 17, 18, 19, 20, 21, 36], [37, 22, 23, 24, 25, 9, 8, 37], [37, 29, 33, 11, 10, 7, 6, 37], [37, 28, 32, 13, 12, 5, 4, 36], [37, 27, 31, 35, 14, 3, 2, 36], [37, 26, 30, 34, 15, 1, 0, 37], [37, 37, 37, 37, 37, 37, 37, 37]], [[101, 100, 101, 100, 101, 100, 101, 100, 101, 100, 101, 100], [101, 80, 81, 82, 83, 84, 85, 86, 87, 88, 89, 100], [101, 98, 79, 55, 54, 53, 52, 19, 18, 17, 16, 101], [101, 97, 78, 57, 56, 51, 50, 21, 20, 15, 14, 101], [101, 96, 77, 59, 58, 49, 48, 23, 22, 13, 12, 100], [101, 95, 76, 61, 60, 47, 46, 25, 24, 11, 10, 100], [101, 94, 75, 63, 62, 45, 44, 27, 26, 9, 8, 101], [101, 93, 74, 65, 64, 43, 42, 29, 28, 7, 6, 101], [101, 92, 73, 67, 66, 41, 40, 31, 30, 5, 4, 100], [101, 91, 72, 69, 68, 39, 38, 33, 32, 3, 2, 100], [101, 90, 99, 71, 70, 37, 36, 35, 34, 1, 0, 101], [101, 101, 101, 101, 101, 101, 101, 101, 101, 101, 101, 101]], [[197, 196, 197, 196, 197, 196, 197, 196, 197, 196, 197, 196, 197, 196, 197, 196], [197, 176, 177, 178, 179, 180, 181, 182, 183, 184, 185, 29, 28, 27, 26, 196], [197, 175, 174, 135, 134, 133, 132, 83, 82, 81, 80, 31, 30, 25, 24, 197], [197, 173, 172, 137, 136, 131, 130, 85, 84, 79, 78, 33, 32, 23, 22, 197], [197, 171, 170, 139, 138, 129, 128, 87, 86, 77, 76, 35, 34, 21, 20, 196], [197, 195, 169, 141, 140, 127, 126, 89, 88, 75, 74, 37, 36, 19, 18, 196], [197, 194, 168, 143, 142, 125, 124, 91, 90, 73, 72, 39, 38, 17, 16, 197], [197, 193, 167, 145, 144, 123, 122, 93, 92, 71, 70, 41, 40, 15, 14, 197], [197, 192, 166, 147, 146, 121, 120, 95, 94, 69, 68, 43, 42, 13, 12, 196], [197, 191, 165, 149, 148, 119, 118, 97, 96, 67, 66, 45, 44, 11, 10, 196], [197, 190, 164, 151, 150, 117, 116, 99, 98, 65, 64, 47, 46, 9, 8, 197], [197, 189, 163, 153, 152, 115, 114, 101, 100, 63, 62, 49, 48, 7, 6, 197], [197, 188, 162, 155, 154, 113, 112, 103, 102, 61, 60, 51, 50, 5, 4, 196], [197, 187, 161, 157, 156, 111, 110, 105, 104, 59, 58, 53, 52, 3, 2, 196], [197, 186, 160, 159, 158, 109, 108, 107, 106, 57, 56, 55, 54, 1, 0, 197], [197, 197, 197, 197, 197, 197, 197, 197, 197, 197, 197, 197, 197, 197, 197, 197]], [[325, 324, 325, 324, 325, 324, 325, 324, 325, 324, 325, 324, 325, 324, 325, 324, 325, 324, 325, 324], [325, 304, 305, 306, 307, 308, 309, 310, 311, 312, 313, 109, 108, 107, 106, 37, 36, 35, 34, 324], [325, 303, 302, 247, 246, 245, 244, 179, 178, 177, 176, 111, 110, 105, 104, 39, 38, 33, 32, 325], [325, 301, 300, 249, 248, 243, 242, 181, 180, 175, 174, 113, 112, 103, 102, 41, 40, 31, 30, 325], [325, 299, 298, 251, 250, 241, 240, 183, 182, 173, 172, 115, 114, 101, 100, 43, 42, 29, 28, 324], [325, 297, 296, 253, 252, 239, 238, 185, 184, 171, 170, 117, 116, 99, 98, 45, 44, 27, 26, 324], [325, 295, 294, 255, 254, 237, 236, 187, 186, 169, 168, 119, 118, 97, 96, 47, 46, 25, 24, 325], [325, 293, 292, 257, 256, 235, 234, 189, 188, 167, 166, 121, 120, 95, 94, 49, 48, 23, 22, 325], [325, 291, 290, 259, 258, 233, 232, 191, 190, 165, 164, 123, 122, 93, 92, 51, 50, 21, 20, 324], [325, 323, 289, 261, 260, 231, 230, 193, 192, 163, 162, 125, 124, 91, 90, 53, 52, 19, 18, 324], [325, 322, 288, 263, 262, 229, 228, 195, 194, 161, 160, 127, 126, 89, 88, 55, 54, 17, 16, 325], [325, 321, 287, 265, 264, 227, 226, 197, 196, 159, 158, 129, 128, 87, 86, 57, 56, 15, 14, 325], [325, 320, 286, 267, 266, 225, 224, 199, 198, 157, 156, 131, 130, 85, 84, 59, 58, 13, 12, 324], [325, 319, 285, 269, 268, 223, 222, 201, 200, 155, 154, 133, 132, 83, 82, 61, 60, 11, 10, 324], [325, 318, 284, 271, 270, 221, 220, 203, 202, 153, 152, 135, 134, 81, 80, 63, 62, 9, 8, 325], [325, 317, 283, 273, 272, 219, 218, 205, 204, 151, 150, 137, 136, 79, 78, 65, 64, 7, 6, 325], [325, 316, 282, 275, 274, 217, 216, 207, 206, 149, 148, 139, 138, 77, 76, 67, 66, 5, 4, 324], [325, 315, 281, 277, 276, 215, 214, 209, 208, 147, 146, 141, 140, 75, 74, 69, 68, 3, 2, 324], [325, 314, 280, 279, 278, 213, 212, 211, 210, 145, 144, 143, 142, 73, 72, 71, 70, 1, 0, 325], [325, 325, 325, 325, 325, 325, 325, 325, 325, 325, 325, 325, 325, 325, 325, 325, 325, 325, 325, 325]], [[485, 484, 485, 484, 485, 484, 485, 484, 485, 484, 485, 484, 485, 484, 485, 484, 485, 484, 485, 484, 485, 484, 485, 484], [485, 464, 465, 466, 467, 468, 469, 470, 471, 472, 473, 221, 220, 219, 218, 133, 132, 131, 130, 45, 44, 43, 42, 484], [485, 463, 462, 391, 390, 389, 388, 307, 306, 305, 304, 223, 222, 217, 216, 135, 134, 129, 128, 47, 46, 41, 40, 485], [485, 461, 460, 393, 392, 387, 386, 309, 308, 303, 302, 225, 224, 215, 214, 137, 136, 127, 126, 49, 48, 39, 38, 485], [485, 459, 458, 395, 394, 385, 384, 311, 310, 301, 300, 227, 226, 213, 212, 139, 138, 125, 124, 51, 50, 37, 36, 484], [485, 457, 456, 397, 396, 383, 382, 313, 312, 299, 298, 229, 228, 211, 210, 141, 140, 123, 122, 53, 52, 35, 34, 484], [485, 455, 454, 399, 398, 381, 380, 315, 314, 297, 296, 231, 230, 209, 208, 143, 142, 121, 120, 55, 54, 33, 32, 485], [485, 453, 452, 401, 400, 379, 378, 317, 316, 295, 294, 233, 232, 207, 206, 145, 144, 119, 118, 57, 56, 31, 30, 485], [485, 451, 450, 403, 402, 377, 376, 319, 318, 293, 292, 235, 234, 205, 204, 147, 146, 117, 116, 59, 58, 29, 28, 484], [485, 449, 448, 405, 404, 375, 374, 321, 320, 291, 290, 237, 236, 203, 202, 149, 148, 115, 114, 61, 60, 27, 26, 484], [485, 447, 446, 407, 406, 373, 372, 323, 322, 289, 288, 239, 238, 201, 200, 151, 150, 113, 112, 63, 62, 25, 24, 485], [485, 445, 444, 409, 408, 371, 370, 325, 324, 287, 286, 241, 240, 199, 198, 153, 152, 111, 110, 65, 64, 23, 22, 485], [485, 443, 442, 411, 410, 369, 368, 327, 326, 285, 284, 243, 242, 197, 196, 155, 154, 109, 108, 67, 66, 21, 20, 484], [485, 483, 441, 413, 412, 367, 366, 329, 328, 283, 282, 245, 244, 195, 194, 157, 156, 107, 106, 69, 68, 19, 18, 484], [485, 482, 440, 415, 414, 365, 364, 331, 330, 281, 280, 247, 246, 193, 192, 159, 158, 105, 104, 71, 70, 17, 16, 485], [485, 481, 439, 417, 416, 363, 362, 333, 332, 279, 278, 249, 248, 191, 190, 161, 160, 103, 102, 73, 72, 15, 14, 485], [485, 480, 438, 419, 418, 361, 360, 335, 334, 277, 276, 251, 250, 189, 188, 163, 162, 101, 100, 75, 74, 13, 12, 484], [485, 479, 437, 421, 420, 359, 358, 337, 336, 275, 274, 253, 252, 187, 186, 165, 164, 99, 98, 77, 76, 11, 10, 484], [485, 478, 436, 423, 422, 357, 356, 339, 338, 273, 272, 255, 254, 185, 184, 167, 166, 97, 96, 79, 78, 9, 8, 485], [485, 477, 435, 425, 424, 355, 354, 341, 340, 271, 270, 257, 256, 183, 182, 169, 168, 95, 94, 81, 80, 7, 6, 485], [485, 476, 434, 427, 426, 353, 352, 343, 342, 269, 268, 259, 258, 181, 180, 171, 170, 93, 92, 83, 82, 5, 4, 484], [485, 475, 433, 429, 428, 351, 350, 345, 344, 267, 266, 261, 260, 179, 178, 173, 172, 91, 90, 85, 84, 3, 2, 484], [485, 474, 432, 431, 430, 349, 348, 347, 346, 265, 264, 263, 262, 177, 176, 175, 174, 89, 88, 87, 86, 1, 0, 485], [485, 485, 485, 485, 485, 485, 485, 485, 485, 485, 485, 485, 485, 485, 485, 485, 485, 485, 485, 485, 485, 485, 485, 485]]] = true)
    {d_QUADS : Addr} {n_QUADS : Nat} {s_QUADS : Array (Option Value)} {c_QUADS0 : Addr} {c_QUADS1 : Addr} {c_QUADS2 : Addr} {c_QUADS3 : Addr} {c_QUADS4 : Addr} {c_QUADS5 : Addr} {c_QUADS6 : Addr} {c_QUADS7 : Addr} {c_QUADS8 : Addr} {c_QUADS9 : Addr} {c_QUADS10 : Addr} {c_QUADS11 : Addr} {c_QUADS12 : Addr} {c_QUADS13 : Addr} {c_QUADS14 : Addr} {c_QUADS15 : Addr}
    (a_QUADS : PySem.W.nsIn K mainGlobals "QUADS" = some (some (.ref d_QUADS)))
    (l_QUADS : K.lookup d_QUADS = some ⟨.type "tuple", none, .seq #[.ref c_QUADS0, .ref c_QUADS1, .ref c_QUADS2, .ref c_QUADS3, .ref c_QUADS4, .ref c_QUADS5, .ref c_QUADS6, .ref c_QUADS7, .ref c_QUADS8, .ref c_QUADS9, .ref c_QUADS10, .ref c_QUADS11, .ref c_QUADS12, .ref c_QUADS13, .ref c_QUADS14, .ref c_QUADS15] n_QUADS, s_QUADS⟩)
    (t_QUADS0 : tupB K c_QUADS0 [0, 0, 0, 0] = true)
    (t_QUADS1 : tupB K c_QUADS1 [0, 0, 0, 1] = true)
    (t_QUADS2 : tupB K c_QUADS2 [0, 0, 1, 0] = true)
    (t_QUADS3 : tupB K c_QUADS3 [0, 0, 1, 1] = true)
    (t_QUADS4 : tupB K c_QUADS4 [0, 1, 0, 0] = true)
    (t_QUADS5 : tupB K c_QUADS5 [0, 1, 0, 1] = true)
    (t_QUADS6 : tupB K c_QUADS6 [0, 1, 1, 0] = true)
    (t_QUADS7 : tupB K c_QUADS7 [0, 1, 1, 1] = true)
    (t_QUADS8 : tupB K c_QUADS8 [1, 0, 0, 0] = true)
    (t_QUADS9 : tupB K c_QUADS9 [1, 0, 0, 1] = true)
    (t_QUADS10 : tupB K c_QUADS10 [1, 0, 1, 0] = true)
    (t_QUADS11 : tupB K c_QUADS11 [1, 0, 1, 1] = true)
    (t_QUADS12 : tupB K c_QUADS12 [1, 1, 0, 0] = true)
    (t_QUADS13 : tupB K c_QUADS13 [1, 1, 0, 1] = true)
    (t_QUADS14 : tupB K c_QUADS14 [1, 1, 1, 0] = true)
    (t_QUADS15 : tupB K c_QUADS15 [1, 1, 1, 1] = true)
    {d_QUAD_WORDS : Addr} (a_QUAD_WORDS : PySem.W.nsIn K mainGlobals "QUAD_WORDS" = some (some (.ref d_QUAD_WORDS))) (t_QUAD_WORDS : dTupB K d_QUAD_WORDS [([0, 0, 0, 0], 0), ([0, 0, 0, 1], 1), ([0, 0, 1, 0], 2), ([0, 0, 1, 1], 3), ([0, 1, 0, 0], 4), ([0, 1, 0, 1], 5), ([0, 1, 1, 0], 6), ([0, 1, 1, 1], 7), ([1, 0, 0, 0], 8), ([1, 0, 0, 1], 9), ([1, 0, 1, 0], 10), ([1, 0, 1, 1], 11), ([1, 1, 0, 0], 12), ([1, 1, 0, 1], 13), ([1, 1, 1, 0], 14), ([1, 1, 1, 1], 15)] = true)
    {d_SIDES : Addr} (a_SIDES : PySem.W.nsIn K mainGlobals "SIDES" = some (some (.ref d_SIDES))) (t_SIDES : tupB K d_SIDES [8, 12, 16, 20, 24] = true)
    {t_STRIP : Tok} (a_STRIP : PySem.W.nsIn K mainGlobals "STRIP" = some (some (.int 10 t_STRIP)))
    {d_WORD_BITS : Addr} (a_WORD_BITS : PySem.W.nsIn K mainGlobals "WORD_BITS" = some (some (.ref d_WORD_BITS))) (t_WORD_BITS : tupB K d_WORD_BITS [4, 4, 8, 8, 8] = true)
    : ∃ fd : FuncData, (∀ (s : Shared) (v : Value), BindsTo s fd ⟨[v], []⟩ [("_law_script", v)]) ∧ ∀ base : Heap, K.In base → base.Ns mainGlobals mg → FnG P w K mg base CX0 8 fa fd ["_law_script"] (sp_law K) := by
  have e := hfa.symm.trans (PySem.W.mg_of X G a27)
  cases e
  let T : Txt K mg := {
    f_is_number_to := _
    d_is_number_to := _
    F_is_number_to := fun_mk (st := s_is_number_to) l0 c0 k0
    g_is_number_to := PySem.W.mg_of X G a0
    b_is_number_to := (fun_mk (st := s_is_number_to) l0 c0 k0).binds (ps := ["thing", "least", "most"]) (fun _ _ _ _ _ _ us hl => match us, hl with | [_, _, _], _ => rfl)
    f_is_row := _
    d_is_row := _
    F_is_row := fun_mk (st := s_is_row) l1 c1 k1
    g_is_row := PySem.W.mg_of X G a1
    b_is_row := (fun_mk (st := s_is_row) l1 c1 k1).binds (ps := ["thing"]) (fun _ _ _ _ _ _ us hl => match us, hl with | [_], _ => rfl)
    f_are_plain_words := _
    d_are_plain_words := _
    F_are_plain_words := fun_mk (st := s_are_plain_words) l2 c2 k2
    g_are_plain_words := PySem.W.mg_of X G a2
    b_are_plain_words := (fun_mk (st := s_are_plain_words) l2 c2 k2).binds (ps := ["bits", "things"]) (fun _ _ _ _ _ _ us hl => match us, hl with | [_, _], _ => rfl)
    f_need_size := _
    d_need_size := _
    F_need_size := fun_mk (st := s_need_size) l3 c3 k3
    g_need_size := PySem.W.mg_of X G a3
    b_need_size := (fun_mk (st := s_need_size) l3 c3 k3).binds (ps := ["size"]) (fun _ _ _ _ _ _ us hl => match us, hl with | [_], _ => rfl)
    f_block_sizes := _
    d_block_sizes := _
    F_block_sizes := fun_mk (st := s_block_sizes) l4 c4 k4
    g_block_sizes := PySem.W.mg_of X G a4
    b_block_sizes := (fun_mk (st := s_block_sizes) l4 c4 k4).binds (ps := ["size"]) (fun _ _ _ _ _ _ us hl => match us, hl with | [_], _ => rfl)
    f_word_count := _
    d_word_count := _
    F_word_count := fun_mk (st := s_word_count) l5 c5 k5
    g_word_count := PySem.W.mg_of X G a5
    b_word_count := (fun_mk (st := s_word_count) l5 c5 k5).binds (ps := ["size"]) (fun _ _ _ _ _ _ us hl => match us, hl with | [_], _ => rfl)
    f_is_plain_grid := _
    d_is_plain_grid := _
    F_is_plain_grid := fun_mk (st := s_is_plain_grid) l6 c6 k6
    g_is_plain_grid := PySem.W.mg_of X G a6
    b_is_plain_grid := (fun_mk (st := s_is_plain_grid) l6 c6 k6).binds (ps := ["many", "grid"]) (fun _ _ _ _ _ _ us hl => match us, hl with | [_, _], _ => rfl)
    f_need_dot_rows := _
    d_need_dot_rows := _
    F_need_dot_rows := fun_mk (st := s_need_dot_rows) l7 c7 k7
    g_need_dot_rows := PySem.W.mg_of X G a7
    b_need_dot_rows := (fun_mk (st := s_need_dot_rows) l7 c7 k7).binds (ps := ["many", "grid", "gapped"]) (fun _ _ _ _ _ _ us hl => match us, hl with | [_, _, _], _ => rfl)
    f_need_grid := _
    d_need_grid := _
    F_need_grid := fun_mk (st := s_need_grid) l8 c8 k8
    g_need_grid := PySem.W.mg_of X G a8
    b_need_grid := (fun_mk (st := s_need_grid) l8 c8 k8).binds (ps := ["size", "grid"]) (fun _ _ _ _ _ _ us hl => match us, hl with | [_, _], _ => rfl)
    f_need_symbol_words := _
    d_need_symbol_words := _
    F_need_symbol_words := fun_mk (st := s_need_symbol_words) l9 c9 k9
    g_need_symbol_words := PySem.W.mg_of X G a9
    b_need_symbol_words := (fun_mk (st := s_need_symbol_words) l9 c9 k9).binds (ps := ["size", "words", "gapped"]) (fun _ _ _ _ _ _ us hl => match us, hl with | [_, _, _], _ => rfl)
    f__law_cell_at := _
    d__law_cell_at := _
    F__law_cell_at := fun_mk (st := s__law_cell_at) l10 c10 k10
    g__law_cell_at := PySem.W.mg_of X G a10
    b__law_cell_at := (fun_mk (st := s__law_cell_at) l10 c10 k10).binds (ps := ["_law_script", "_law_k"]) (fun _ _ _ _ _ _ us hl => match us, hl with | [_, _], _ => rfl)
    f__law_source_of := _
    d__law_source_of := _
    F__law_source_of := fun_mk (st := s__law_source_of) l11 c11 k11
    g__law_source_of := PySem.W.mg_of X G a11
    b__law_source_of := (fun_mk (st := s__law_source_of) l11 c11 k11).binds (ps := ["_law_cell"]) (fun _ _ _ _ _ _ us hl => match us, hl with | [_], _ => rfl)
    f__law_next := _
    d__law_next := _
    F__law_next := fun_mk (st := s__law_next) l12 c12 k12
    g__law_next := PySem.W.mg_of X G a12
    b__law_next := (fun_mk (st := s__law_next) l12 c12 k12).binds (ps := ["_law_source", "_law_bound"]) (fun _ _ _ _ _ _ us hl => match us, hl with | [_, _], _ => rfl)
    f__law_table := _
    d__law_table := _
    F__law_table := fun_mk (st := s__law_table) l13 c13 k13
    g__law_table := PySem.W.mg_of X G a13
    b__law_table := (fun_mk (st := s__law_table) l13 c13 k13).binds (ps := ["_law_size_so"]) (fun _ _ _ _ _ _ us hl => match us, hl with | [_], _ => rfl)
    f_words_as_bits := _
    d_words_as_bits := _
    F_words_as_bits := fun_mk (st := s_words_as_bits) l14 c14 k14
    g_words_as_bits := PySem.W.mg_of X G a14
    b_words_as_bits := (fun_mk (st := s_words_as_bits) l14 c14 k14).binds (ps := ["words", "many"]) (fun _ _ _ _ _ _ us hl => match us, hl with | [_, _], _ => rfl)
    f__law_pick := _
    d__law_pick := _
    F__law_pick := fun_mk (st := s__law_pick) l15 c15 k15
    g__law_pick := PySem.W.mg_of X G a15
    b__law_pick := (fun_mk (st := s__law_pick) l15 c15 k15).binds (ps := ["_law_source", "_law_some"]) (fun _ _ _ _ _ _ us hl => match us, hl with | [_, _], _ => rfl)
    f__law_ribbons := _
    d__law_ribbons := _
    F__law_ribbons := fun_mk (st := s__law_ribbons) l16 c16 k16
    g__law_ribbons := PySem.W.mg_of X G a16
    b__law_ribbons := (fun_mk (st := s__law_ribbons) l16 c16 k16).binds (ps := ["_law_many"]) (fun _ _ _ _ _ _ us hl => match us, hl with | [_], _ => rfl)
    f__law_way := _
    d__law_way := _
    F__law_way := fun_mk (st := s__law_way) l17 c17 k17
    g__law_way := PySem.W.mg_of X G a17
    b__law_way := (fun_mk (st := s__law_way) l17 c17 k17).binds (ps := ["_law_many"]) (fun _ _ _ _ _ _ us hl => match us, hl with | [_], _ => rfl)
    f_bits_as_words := _
    d_bits_as_words := _
    F_bits_as_words := fun_mk (st := s_bits_as_words) l18 c18 k18
    g_bits_as_words := PySem.W.mg_of X G a18
    b_bits_as_words := (fun_mk (st := s_bits_as_words) l18 c18 k18).binds (ps := ["bits", "many"]) (fun _ _ _ _ _ _ us hl => match us, hl with | [_, _], _ => rfl)
    f_words_on := _
    d_words_on := _
    F_words_on := fun_mk (st := s_words_on) l19 c19 k19
    g_words_on := PySem.W.mg_of X G a19
    b_words_on := (fun_mk (st := s_words_on) l19 c19 k19).binds (ps := ["size", "grid"]) (fun _ _ _ _ _ _ us hl => match us, hl with | [_, _], _ => rfl)
    f_words_in := _
    d_words_in := _
    F_words_in := fun_mk (st := s_words_in) l20 c20 k20
    g_words_in := PySem.W.mg_of X G a20
    b_words_in := (fun_mk (st := s_words_in) l20 c20 k20).binds (ps := ["size", "grid"]) (fun _ _ _ _ _ _ us hl => match us, hl with | [_, _], _ => rfl)
    f_grid_of_words := _
    d_grid_of_words := _
    F_grid_of_words := fun_mk (st := s_grid_of_words) l21 c21 k21
    g_grid_of_words := PySem.W.mg_of X G a21
    b_grid_of_words := (fun_mk (st := s_grid_of_words) l21 c21 k21).binds (ps := ["size", "words", "strip_shades"]) (fun _ _ _ _ _ _ us hl => match us, hl with | [_, _, _], _ => rfl)
    f_with_words := _
    d_with_words := _
    F_with_words := fun_mk (st := s_with_words) l22 c22 k22
    g_with_words := PySem.W.mg_of X G a22
    b_with_words := (fun_mk (st := s_with_words) l22 c22 k22).binds (ps := ["size", "words"]) (fun _ _ _ _ _ _ us hl => match us, hl with | [_, _], _ => rfl)
    f__law_frame := _
    d__law_frame := _
    F__law_frame := fun_mk (st := s__law_frame) l23 c23 k23
    g__law_frame := PySem.W.mg_of X G a23
    b__law_frame := (fun_mk (st := s__law_frame) l23 c23 k23).binds (ps := ["_law_many"]) (fun _ _ _ _ _ _ us hl => match us, hl with | [_], _ => rfl)
    f__law_laid := _
    d__law_laid := _
    F__law_laid := fun_mk (st := s__law_laid) l24 c24 k24
    g__law_laid := PySem.W.mg_of X G a24
    b__law_laid := (fun_mk (st := s__law_laid) l24 c24 k24).binds (ps := ["_law_size_so", "_law_words_so"]) (fun _ _ _ _ _ _ us hl => match us, hl with | [_, _], _ => rfl)
    f__law_heard := _
    d__law_heard := _
    F__law_heard := fun_mk (st := s__law_heard) l25 c25 k25
    g__law_heard := PySem.W.mg_of X G a25
    b__law_heard := (fun_mk (st := s__law_heard) l25 c25 k25).binds (ps := ["_law_size_so", "_law_rows"]) (fun _ _ _ _ _ _ us hl => match us, hl with | [_, _], _ => rfl)
    f__law_right := _
    d__law_right := _
    F__law_right := fun_mk (st := s__law_right) l26 c26 k26
    g__law_right := PySem.W.mg_of X G a26
    b__law_right := (fun_mk (st := s__law_right) l26 c26 k26).binds (ps := ["_law_source"]) (fun _ _ _ _ _ _ us hl => match us, hl with | [_], _ => rfl)
    f_law := _
    d_law := _
    F_law := fun_mk (st := s_law) l27 c27 k27
    g_law := PySem.W.mg_of X G a27
    b_law := (fun_mk (st := s_law) l27 c27 k27).binds (ps := ["_law_script"]) (fun _ _ _ _ _ _ us hl => match us, hl with | [_], _ => rfl)
    n_bool := PySem.W.mg_none_of X G z_bool
    n_enumerate := PySem.W.mg_none_of X G z_enumerate
    n_int := PySem.W.mg_none_of X G z_int
    n_isinstance := PySem.W.mg_none_of X G z_isinstance
    n_len := PySem.W.mg_none_of X G z_len
    n_list := PySem.W.mg_none_of X G z_list
    n_max := PySem.W.mg_none_of X G z_max
    n_min := PySem.W.mg_none_of X G z_min
    n_range := PySem.W.mg_none_of X G z_range
    n_repr := PySem.W.mg_none_of X G z_repr
    n_str := PySem.W.mg_none_of X G z_str
    n_sum := PySem.W.mg_none_of X G z_sum
    n_tuple := PySem.W.mg_none_of X G z_tuple
    n_type := PySem.W.mg_none_of X G z_type
    n_zip := PySem.W.mg_none_of X G z_zip
    c_BLOCKS0 := c_BLOCKS0
    t_BLOCKS0 := t_BLOCKS0
    c_BLOCKS1 := c_BLOCKS1
    t_BLOCKS1 := t_BLOCKS1
    c_BLOCKS2 := c_BLOCKS2
    t_BLOCKS2 := t_BLOCKS2
    c_BLOCKS3 := c_BLOCKS3
    t_BLOCKS3 := t_BLOCKS3
    c_BLOCKS4 := c_BLOCKS4
    t_BLOCKS4 := t_BLOCKS4
    a_BLOCKS := d_BLOCKS
    g_BLOCKS := PySem.W.mg_of X G a_BLOCKS
    l_BLOCKS := ⟨_, _, l_BLOCKS⟩
    c_PATHS0 := c_PATHS0
    t_PATHS0 := t_PATHS0
    c_PATHS1 := c_PATHS1
    t_PATHS1 := t_PATHS1
    c_PATHS2 := c_PATHS2
    t_PATHS2 := t_PATHS2
    c_PATHS3 := c_PATHS3
    t_PATHS3 := t_PATHS3
    c_PATHS4 := c_PATHS4
    t_PATHS4 := t_PATHS4
    a_PATHS := d_PATHS
    g_PATHS := PySem.W.mg_of X G a_PATHS
    l_PATHS := ⟨_, _, l_PATHS⟩
    a_PLACES := d_PLACES
    g_PLACES := PySem.W.mg_of X G a_PLACES
    l_PLACES := t_PLACES
    c_QUADS0 := c_QUADS0
    t_QUADS0 := t_QUADS0
    c_QUADS1 := c_QUADS1
    t_QUADS1 := t_QUADS1
    c_QUADS2 := c_QUADS2
    t_QUADS2 := t_QUADS2
    c_QUADS3 := c_QUADS3
    t_QUADS3 := t_QUADS3
    c_QUADS4 := c_QUADS4
    t_QUADS4 := t_QUADS4
    c_QUADS5 := c_QUADS5
    t_QUADS5 := t_QUADS5
    c_QUADS6 := c_QUADS6
    t_QUADS6 := t_QUADS6
    c_QUADS7 := c_QUADS7
    t_QUADS7 := t_QUADS7
    c_QUADS8 := c_QUADS8
    t_QUADS8 := t_QUADS8
    c_QUADS9 := c_QUADS9
    t_QUADS9 := t_QUADS9
    c_QUADS10 := c_QUADS10
    t_QUADS10 := t_QUADS10
    c_QUADS11 := c_QUADS11
    t_QUADS11 := t_QUADS11
    c_QUADS12 := c_QUADS12
    t_QUADS12 := t_QUADS12
    c_QUADS13 := c_QUADS13
    t_QUADS13 := t_QUADS13
    c_QUADS14 := c_QUADS14
    t_QUADS14 := t_QUADS14
    c_QUADS15 := c_QUADS15
    t_QUADS15 := t_QUADS15
    a_QUADS := d_QUADS
    g_QUADS := PySem.W.mg_of X G a_QUADS
    l_QUADS := ⟨_, _, l_QUADS⟩
    a_QUAD_WORDS := d_QUAD_WORDS
    g_QUAD_WORDS := PySem.W.mg_of X G a_QUAD_WORDS
    l_QUAD_WORDS := t_QUAD_WORDS
    a_SIDES := d_SIDES
    g_SIDES := PySem.W.mg_of X G a_SIDES
    l_SIDES := t_SIDES
    g_STRIP := ⟨_, PySem.W.mg_of X G a_STRIP⟩
    a_WORD_BITS := d_WORD_BITS
    g_WORD_BITS := PySem.W.mg_of X G a_WORD_BITS
    l_WORD_BITS := t_WORD_BITS }
  exact ⟨T.d_law, fun s v => .of_eq rfl, fun base _ _ => ok_law T⟩
end My
open PySem PySem.W PyProof.Rows
set_option maxHeartbeats 0 in
theorem PySem.Challenge.cw_dotquilts_k28_whole_words_in_grids_holds : PySem.Challenge.rw_dotquilts_k28_whole_words_in_grids.Holds := by
  w_on; o_law; k_head; (case hw => w_witness2)
  k_fill
  refine My.walkG (l := PySem.Challenge.rw_dotquilts_k28_whole_words_in_grids) (n := 63) (k := 8) (x := "_law_script") (CX := fun _ => L2.CX0) (sp := fun w => My.sp_law _) rfl (by decide) rfl ⟨rfl, by decide, by decide⟩ (fun w h Y => PySem.W.kIn_of Y) ?F (fun _ _ a ns hl _ hS => ⟨a, ns, rfl, hS, hl, fun _ => rfl⟩) (fun _ _ _ _ _ h => h)
  case F =>
    intro w mg fa h KX G hmg
    refine' My.all_mk KX G hmg ?a0 ?l0 ?c0 ?k0 ?a1 ?l1 ?c1 ?k1 ?a2 ?l2 ?c2 ?k2 ?a3 ?l3 ?c3 ?k3 ?a4 ?l4 ?c4 ?k4 ?a5 ?l5 ?c5 ?k5 ?a6 ?l6 ?c6 ?k6 ?a7 ?l7 ?c7 ?k7 ?a8 ?l8 ?c8 ?k8 ?a9 ?l9 ?c9 ?k9 ?a10 ?l10 ?c10 ?k10 ?a11 ?l11 ?c11 ?k11 ?a12 ?l12 ?c12 ?k12 ?a13 ?l13 ?c13 ?k13 ?a14 ?l14 ?c14 ?k14 ?a15 ?l15 ?c15 ?k15 ?a16 ?l16 ?c16 ?k16 ?a17 ?l17 ?c17 ?k17 ?a18 ?l18 ?c18 ?k18 ?a19 ?l19 ?c19 ?k19 ?a20 ?l20 ?c20 ?k20 ?a21 ?l21 ?c21 ?k21 ?a22 ?l22 ?c22 ?k22 ?a23 ?l23 ?c23 ?k23 ?a24 ?l24 ?c24 ?k24 ?a25 ?l25 ?c25 ?k25 ?a26 ?l26 ?c26 ?k26 ?a27 ?l27 ?c27 ?k27 ?z_bool ?z_enumerate ?z_int ?z_isinstance ?z_len ?z_list ?z_max ?z_min ?z_range ?z_repr ?z_str ?z_sum ?z_tuple ?z_type ?z_zip ?a_BLOCKS ?l_BLOCKS ?t_BLOCKS0 ?t_BLOCKS1 ?t_BLOCKS2 ?t_BLOCKS3 ?t_BLOCKS4 ?a_PATHS ?l_PATHS ?t_PATHS0 ?t_PATHS1 ?t_PATHS2 ?t_PATHS3 ?t_PATHS4 ?a_PLACES ?t_PLACES ?a_QUADS ?l_QUADS ?t_QUADS0 ?t_QUADS1 ?t_QUADS2 ?t_QUADS3 ?t_QUADS4 ?t_QUADS5 ?t_QUADS6 ?t_QUADS7 ?t_QUADS8 ?t_QUADS9 ?t_QUADS10 ?t_QUADS11 ?t_QUADS12 ?t_QUADS13 ?t_QUADS14 ?t_QUADS15 ?a_QUAD_WORDS ?t_QUAD_WORDS ?a_SIDES ?t_SIDES ?a_STRIP ?a_WORD_BITS ?t_WORD_BITS
    (case a0 => k_is)
    (case l0 => k_is)
    (case c0 => k_is)
    (case k0 => k_is)
    (case a1 => k_is)
    (case l1 => k_is)
    (case c1 => k_is)
    (case k1 => k_is)
    (case a2 => k_is)
    (case l2 => k_is)
    (case c2 => k_is)
    (case k2 => k_is)
    (case a3 => k_is)
    (case l3 => k_is)
    (case c3 => k_is)
    (case k3 => k_is)
    (case a4 => k_is)
    (case l4 => k_is)
    (case c4 => k_is)
    (case k4 => k_is)
    (case a5 => k_is)
    (case l5 => k_is)
    (case c5 => k_is)
    (case k5 => k_is)
    (case a6 => k_is)
    (case l6 => k_is)
    (case c6 => k_is)
    (case k6 => k_is)
    (case a7 => k_is)
    (case l7 => k_is)
    (case c7 => k_is)
    (case k7 => k_is)
    (case a8 => k_is)
    (case l8 => k_is)
    (case c8 => k_is)
    (case k8 => k_is)
    (case a9 => k_is)
    (case l9 => k_is)
    (case c9 => k_is)
    (case k9 => k_is)
    (case a10 => k_is)
    (case l10 => k_is)
    (case c10 => k_is)
    (case k10 => k_is)
    (case a11 => k_is)
    (case l11 => k_is)
    (case c11 => k_is)
    (case k11 => k_is)
    (case a12 => k_is)
    (case l12 => k_is)
    (case c12 => k_is)
    (case k12 => k_is)
    (case a13 => k_is)
    (case l13 => k_is)
    (case c13 => k_is)
    (case k13 => k_is)
    (case a14 => k_is)
    (case l14 => k_is)
    (case c14 => k_is)
    (case k14 => k_is)
    (case a15 => k_is)
    (case l15 => k_is)
    (case c15 => k_is)
    (case k15 => k_is)
    (case a16 => k_is)
    (case l16 => k_is)
    (case c16 => k_is)
    (case k16 => k_is)
    (case a17 => k_is)
    (case l17 => k_is)
    (case c17 => k_is)
    (case k17 => k_is)
    (case a18 => k_is)
    (case l18 => k_is)
    (case c18 => k_is)
    (case k18 => k_is)
    (case a19 => k_is)
    (case l19 => k_is)
    (case c19 => k_is)
    (case k19 => k_is)
    (case a20 => k_is)
    (case l20 => k_is)
    (case c20 => k_is)
    (case k20 => k_is)
    (case a21 => k_is)
    (case l21 => k_is)
    (case c21 => k_is)
    (case k21 => k_is)
    (case a22 => k_is)
    (case l22 => k_is)
    (case c22 => k_is)
    (case k22 => k_is)
    (case a23 => k_is)
    (case l23 => k_is)
    (case c23 => k_is)
    (case k23 => k_is)
    (case a24 => k_is)
    (case l24 => k_is)
    (case c24 => k_is)
    (case k24 => k_is)
    (case a25 => k_is)
    (case l25 => k_is)
    (case c25 => k_is)
    (case k25 => k_is)
    (case a26 => k_is)
    (case l26 => k_is)
    (case c26 => k_is)
    (case k26 => k_is)
    (case a27 => k_is)
    (case l27 => k_is)
    (case c27 => k_is)
    (case k27 => k_is)
    (case z_bool => k_is)
    (case z_enumerate => k_is)
    (case z_int => k_is)
    (case z_isinstance => k_is)
    (case z_len => k_is)
    (case z_list => k_is)
    (case z_max => k_is)
    (case z_min => k_is)
    (case z_range => k_is)
    (case z_repr => k_is)
    (case z_str => k_is)
    (case z_sum => k_is)
    (case z_tuple => k_is)
    (case z_type => k_is)
    (case z_zip => k_is)
    (case a_BLOCKS => k_is)
    (case l_BLOCKS => k_is)
    (case t_BLOCKS0 => first | rfl | decide +kernel | k_is)
    (case t_BLOCKS1 => first | rfl | decide +kernel | k_is)
    (case t_BLOCKS2 => first | rfl | decide +kernel | k_is)
    (case t_BLOCKS3 => first | rfl | decide +kernel | k_is)
    (case t_BLOCKS4 => first | rfl | decide +kernel | k_is)
    (case a_PATHS => k_is)
    (case l_PATHS => k_is)
    (case t_PATHS0 => first | rfl | decide +kernel | k_is)
    (case t_PATHS1 => first | rfl | decide +kernel | k_is)
    (case t_PATHS2 => first | rfl | decide +kernel | k_is)
    (case t_PATHS3 => first | rfl | decide +kernel | k_is)
    (case t_PATHS4 => first | rfl | decide +kernel | k_is)
    (case a_PLACES => k_is)
    (case t_PLACES => first | rfl | decide +kernel | k_is)
    (case a_QUADS => k_is)
    (case l_QUADS => k_is)
    (case t_QUADS0 => first | rfl | decide +kernel | k_is)
    (case t_QUADS1 => first | rfl | decide +kernel | k_is)
    (case t_QUADS2 => first | rfl | decide +kernel | k_is)
    (case t_QUADS3 => first | rfl | decide +kernel | k_is)
    (case t_QUADS4 => first | rfl | decide +kernel | k_is)
    (case t_QUADS5 => first | rfl | decide +kernel | k_is)
    (case t_QUADS6 => first | rfl | decide +kernel | k_is)
    (case t_QUADS7 => first | rfl | decide +kernel | k_is)
    (case t_QUADS8 => first | rfl | decide +kernel | k_is)
    (case t_QUADS9 => first | rfl | decide +kernel | k_is)
    (case t_QUADS10 => first | rfl | decide +kernel | k_is)
    (case t_QUADS11 => first | rfl | decide +kernel | k_is)
    (case t_QUADS12 => first | rfl | decide +kernel | k_is)
    (case t_QUADS13 => first | rfl | decide +kernel | k_is)
    (case t_QUADS14 => first | rfl | decide +kernel | k_is)
    (case t_QUADS15 => first | rfl | decide +kernel | k_is)
    (case a_QUAD_WORDS => k_is)
    (case t_QUAD_WORDS => first | rfl | decide +kernel | k_is)
    (case a_SIDES => k_is)
    (case t_SIDES => first | rfl | decide +kernel | k_is)
    (case a_STRIP => k_is)
    (case a_WORD_BITS => k_is)
    (case t_WORD_BITS => first | rfl | decide +kernel | k_is)

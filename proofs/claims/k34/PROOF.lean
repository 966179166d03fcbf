import PyProof.Rows.All
import Wide.All
import PyProof.ZipIter
import PyProof.Draws
import KE.KStar
import OpenK.AllK
import Wide.FinOn
import HandS.ForMost
import HandS.IsInst
import HandS.SortInts
import HandS.Evl
import HandS.Conv
import HandS.Walk
import KE.GoesEnum
import KE.GoesMore
import HandS.Defaults
import HandS.Rev
import HandS.TupAny
import HandS.TupMul
import HandS.Star
import HandS.Style
import HandS.Strs
import HandS.List
import HandS.Flow
import HandS.More
import HandS.Zip
import HandS.TupLe
import HandS.Wide
import PyProof.ListRange
import PyProof.WalkInts
import PyProof.SumWalk
import HandS.ExcValue
import HandS.ExcOwn
import HandS.TupSets
import HandS.SortOrd
import HandS.SortRule
import PyProof.ReprRoads
import HandS.Ends
import HandS.Deep
import HandS.FStr
import PyProof.Rows.StrIntSpec
import HandS.IntHex
import PyProof.StrLawsIn
import HandS.DictTup
import HandS.Iter
import HandS.Sort
import HandS.DictSubView
import PyProof.MeetsSeq
import PyProof.TwoTypesSub
import PyProof.FactsAll.bool_2
import PyProof.FactsAll.bool_3
import PyProof.FactsAll.int_3
import HandS.CallLocal
import PySem.Challenge.RW_dotquilts_k34_whole_formats_read
set_option Elab.async false
set_option linter.all false
set_option maxRecDepth 100000
set_option maxHeartbeats 1000000
/-! ### zip of any number of lists -/
namespace My
open PySem
open PySem.Sem (wp)
section
variable {prog : Program} {w : World} {A : Around} {E : Value → Shared → Prop}
/-- a for over a list, with a word for each turn -/
theorem wp_for {α β : Type} {f : α → β → Sem (ForInStep β)} {Q : β → Shared → Prop} (W : Nat → β → Shared → Prop) : ∀ (l : List α) (k : Nat) (b : β) (s : Shared),
    (∀ j x b s, l[j]? = some x → W (k + j) b s → wpAny (model prog w) A (f x b) (fun r s' => ∃ b', r = .yield b' ∧ W (k + j + 1) b' s') E s) → W k b s → (∀ b s, W (k + l.length) b s → Q b s) → wpAny (model prog w) A (forIn l b f) Q E s
  | [], k, b, s, _, h0, hq => by
    rw [List.forIn_nil]
    exact wpAny_pure (hq b s h0)
  | x :: l, k, b, s, hs, h0, hq => by
    rw [List.forIn_cons]
    refine wpAny_bind (wpAny_mono (hs 0 x b s rfl h0) (fun r s' h => ?_) fun _ _ h => h)
    obtain ⟨b', e, h1⟩ := h
    subst e
    refine wp_for W l (k + 1) b' s' (fun j y b2 s2 hy h2 => ?_) h1 (fun b2 s2 h2 => hq b2 s2 ?_)
    · have e : k + 1 + j = k + (j + 1) := by omega
      rw [e] at h2 ⊢
      exact hs (j + 1) y b2 s2 (by simpa using hy) h2
    · have e : k + 1 + l.length = k + (x :: l).length := by rw [List.length_cons]; omega
      rw [← e]
      exact h2
/-- the iterators of a zip, made one behind the other -/
theorem wp_iterAll {L : List Addr} {s : Shared} {Q : List Value → Shared → Prop} (hl : ∀ l ∈ L, ∃ xs, s.heap.IsList l xs)
    (hq : ∀ h', h'.objs.size = s.heap.objs.size + L.length → (∀ j l, L[j]? = some l → h'.IsListIter (s.heap.objs.size + j) l 0) → (∀ c o, s.heap.get? c = some o → h'.get? c = some o) →
      Q ((List.range L.length).map fun j => .ref (s.heap.objs.size + j)) { s with heap := h' }) :
    wpAny (model prog w) A (Builtin.SmallTypes.iterAll (L.map .ref)) Q E s := by
  unfold Builtin.SmallTypes.iterAll
  refine wpAny_bind (wp_for (fun k (b : Array Value) s' => ∃ h', s' = { s with heap := h' } ∧ b.toList = (List.range k).map (fun j => Value.ref (s.heap.objs.size + j)) ∧ h'.objs.size = s.heap.objs.size + k ∧ (∀ j l, j < k → L[j]? = some l → h'.IsListIter (s.heap.objs.size + j) l 0) ∧ (∀ c o, s.heap.get? c = some o → h'.get? c = some o)) _ 0 _ _ ?_ ⟨s.heap, rfl, rfl, rfl, fun j l z _ => absurd z (Nat.not_lt_zero _), fun _ _ e => e⟩ ?_)
  · rintro j x b s' hx ⟨h', rfl, hb, hsz, hi, hk⟩
    rw [Nat.zero_add] at hb hsz hi ⊢
    rw [List.getElem?_map] at hx
    cases hL : L[j]? with
    | none => rw [hL] at hx; cases hx
    | some l =>
      rw [hL] at hx
      cases hx
      obtain ⟨xs, o, ho, hc, hd⟩ := hl l (List.mem_of_getElem? hL)
      have hl' : Heap.IsList h' l xs := ⟨o, hk _ _ ho, hc, hd⟩
      refine wpAny_bind (wpAny_holding (wpAny_pyIter_list (s := { s with heap := h' }) hl' (wpAny_pure ⟨_, rfl, _, rfl, ?_, ?_, ?_, ?_⟩)))
      · show (b.push _).toList = _
        rw [Array.toList_push, hb, List.range_succ, List.map_append, hsz]
        rfl
      · show (Heap.push h' _).objs.size = _
        rw [Heap.size_push, hsz]
        omega
      · intro j2 l2 hj h2
        by_cases e : j2 = j
        · subst e
          rw [hL] at h2
          cases h2
          rw [← hsz]
          exact ⟨_, Heap.get?_push_size _ rfl, rfl, rfl⟩
        · exact (hi j2 l2 (by omega) h2).at fun o q => Heap.get?_push_of_some _ q
      · exact fun c o q => Heap.get?_push_of_some _ (hk c o q)
  · rintro b s' ⟨h', rfl, hb, hsz, hi, hk⟩
    rw [List.length_map, Nat.zero_add] at hb hsz hi
    refine wpAny_pure ?_
    rw [hb]
    exact hq h' hsz (fun j l h => hi j l (List.getElem?_eq_some_iff.mp h).1 h) hk
theorem typeCall_zip (l : List Value) : checkTypeCall "zip" ⟨l, []⟩ = pure () := by kernel_rfl
theorem newCall_zip (a : Value) (l : List Value) : checkBuiltinCall "zip.__new__" ⟨.type "zip" :: a :: l, []⟩ = pure () := by kernel_rfl
theorem args_init_any (a : Value) (l : List Value) : argsOk "object.__init__" ⟨a :: l, []⟩ := by unfold argsOk; kernel_rfl
/-- a zip object, its parts in the two cells behind the iterators -/
abbrev ZRec (h : Heap) (z TI TO : Addr) (f0 : Value) (b : Bool) : Prop :=
  h.get? z = some { cls := .type "zip", dict := none, data := .fields #[f0, .bool b, .bool false, .ref TI, .ref TO], slots := #[] }
abbrev STup (h : Heap) (T : Addr) (a : Array Value) : Prop := h.get? T = some { cls := .type "tuple", data := .seq a }
def refsOf (b n : Nat) : List Value := (List.range n).map fun j => .ref (b + j)
theorem meets_zip_n (L : List Addr) (hn : L.length ≤ sizeLine) :
    Meets (Builtin.«zip.__new__» ⟨.type "zip" :: L.map .ref, []⟩) (fun _ R s => (∀ l ∈ L, ∃ xs, s.heap.IsList l xs) ∧
      ∀ h', ZRec h' (s.heap.objs.size + L.length + 2) (s.heap.objs.size + L.length) (s.heap.objs.size + L.length + 1) .none false → STup h' (s.heap.objs.size + L.length) (refsOf s.heap.objs.size L.length).toArray →
        (∃ a, STup h' (s.heap.objs.size + L.length + 1) a ∧ a.size = L.length) → (∀ j l, L[j]? = some l → h'.IsListIter (s.heap.objs.size + j) l 0) → (∀ c o, s.heap.get? c = some o → h'.get? c = some o) →
        R (.ok (.ret (.ref (s.heap.objs.size + L.length + 2)))) { s with heap := h' }) :=
  .of_wp fun prog w A R s h => by
    obtain ⟨hp, g, d, tk, os⟩ := s
    obtain ⟨hl, h⟩ := h
    have hsub := sub_zip
    wp_walk using wp_iterAll hl
    intro h1 hsz hi hk
    refine wpAny_bind (wpAny_newTuple ?_ (by simpa using hn))
    refine wpAny_bind (wpAny_newTuple ?_ (by simpa using hn))
    have n2 : (h1.push { cls := .type "tuple", data := .seq (refsOf hp.objs.size L.length).toArray }).objs.size = hp.objs.size + L.length + 1 := by rw [Heap.size_push, hsz]
    generalize ea : (List.map (fun _ => Value.none) (List.map (fun j => Value.ref (hp.objs.size + j)) (List.range L.length))).toArray = a0
    have la : a0.size = L.length := by rw [← ea]; simp
    have n3 : ((h1.push { cls := .type "tuple", data := .seq (refsOf hp.objs.size L.length).toArray }).push { cls := .type "tuple", data := .seq a0 }).objs.size = hp.objs.size + L.length + 2 := by rw [Heap.size_push, n2]
    unfold Builtin.SmallTypes.newRecord
    wp_walk
    refine ⟨_, rfl, ?_⟩
    have ev : (Shared.heap ⟨hp, g, d, tk, os⟩) = hp := rfl
    rw [ev] at h
    have key := h (((h1.push { cls := .type "tuple", data := .seq (refsOf hp.objs.size L.length).toArray }).push { cls := .type "tuple", data := .seq a0 }).push { cls := .type "zip", data := .fields #[.none, .bool false, .bool false, .ref (hp.objs.size + L.length), .ref (hp.objs.size + L.length + 1)] })
      (by rw [← n3]; exact Heap.get?_push_size _ rfl) (Heap.get?_push_of_some _ (Heap.get?_push_of_some _ (by rw [← hsz]; exact Heap.get?_push_size _ rfl))) ⟨a0, Heap.get?_push_of_some _ (by rw [← n2]; exact Heap.get?_push_size _ rfl), la⟩
      (fun j l e => (hi j l e).at fun o q => Heap.get?_push_of_some _ (Heap.get?_push_of_some _ (Heap.get?_push_of_some _ q))) (fun c o q => Heap.get?_push_of_some _ (Heap.get?_push_of_some _ (Heap.get?_push_of_some _ (hk c o q))))
    have hsz' : h1.objs.size = hp.objs.size + L.length := hsz
    show R (.ok (.ret (.ref (((h1.push { cls := .type "tuple", data := .seq (refsOf hp.objs.size L.length).toArray }).push { cls := .type "tuple", data := .seq a0 }).objs.size)))) ⟨((h1.push { cls := .type "tuple", data := .seq (refsOf hp.objs.size L.length).toArray }).push { cls := .type "tuple", data := .seq a0 }).push { cls := .type "zip", data := .fields #[.none, .bool false, .bool false, .ref h1.objs.size, .ref (h1.push { cls := .type "tuple", data := .seq (refsOf hp.objs.size L.length).toArray }).objs.size] }, g, d, tk, os⟩
    rw [n3, n2, hsz']
    exact key
end
section
variable {prog : Program} {w : World} {A : Around} {E : Value → Shared → Prop} {s : Shared}
/-- the parts of a zip of the lists L, all iterators at i -/
structure ZAt (L : List Addr) (b i : Nat) (h : Heap) : Prop where
  z : ∃ f0 c, ZRec h (b + L.length + 2) (b + L.length) (b + L.length + 1) f0 c ∧ (f0 = .none ∨ ∃ T : Nat, f0 = rawInt T)
  ti : STup h (b + L.length) (refsOf b L.length).toArray
  to : ∃ a, STup h (b + L.length + 1) a ∧ a.size = L.length
  its : ∀ j l, L[j]? = some l → h.IsListIter (b + j) l i
def Zpart (L : List Addr) (b : Nat) (c : Addr) : Prop := c = b + L.length + 2 ∨ c = b + L.length + 1 ∨ ∃ j, j < L.length ∧ c = b + j
theorem za1 (b n : Nat) : b + n ≠ b + n + 2 := by omega
theorem za2 (b n : Nat) : b + n + 1 ≠ b + n + 2 := by omega
theorem za3 {b n j : Nat} (h : j < n) : b + j ≠ b + n + 2 := by omega
theorem za4 {b n j : Nat} (h : j < n) : b + j ≠ b + n + 1 := by omega
theorem za5 {b n l : Nat} (h : l < b) : l ≠ b + n + 2 := by omega
theorem za6 {b n l : Nat} (h : l < b) : l ≠ b + n + 1 := by omega
theorem za7 {b j l : Nat} (h : l < b) : l ≠ b + j := by omega
theorem za8 (b n : Nat) : b + n ≠ b + n + 1 := by omega
theorem za9 {b n j : Nat} (h : j < n) : b + n ≠ b + j := by omega
theorem zb1 {b n j : Nat} (h : j < n) : b + n + 1 ≠ b + j := by omega
theorem zb2 {b n j : Nat} (h : j < n) : b + n + 2 ≠ b + j := by omega
theorem zb3 {b j k : Nat} (h : j ≠ k) : b + j ≠ b + k := by omega
theorem low_not {L : List Addr} {b c : Nat} (h : c < b) : ¬ Zpart L b c := by
  rintro (e | e | ⟨j, _, e⟩)
  · exact za5 h e
  · exact za6 h e
  · exact za7 h e
theorem ti_not {L : List Addr} {b : Nat} : ¬ Zpart L b (b + L.length) := by
  rintro (e | e | ⟨j, h, e⟩)
  · exact za1 _ _ e
  · exact za8 _ _ e
  · exact za9 h e
theorem alive_any {a : Addr} {Q : Option Obj → Shared → Prop} (h : Q (s.heap.get? a) s) : wpAny (model prog w) A (loadIfAlive a) Q E s := fun _ _ _ => h
theorem owned_ask {z TI TO : Addr} {f0 : Value} {c0 : Bool} {Q : Bool → Shared → Prop} (hz : ZRec s.heap z TI TO f0 c0) (hf : f0 = .none ∨ ∃ T : Nat, f0 = rawInt T)
    (hQ : ∀ r h' c', ZRec h' z TI TO f0 c' → Heap.SameBut z s.heap h' → Q r { s with heap := h' }) : wpAny (model prog w) A (Builtin.SmallTypes.ownedTupleIsFree (.ref z)) Q E s := by
  unfold Builtin.SmallTypes.ownedTupleIsFree
  rcases hf with rfl | ⟨T, rfl⟩
  · exact wpAny_bind (wpAny_field hz rfl (x := .none) rfl (wpAny_pure (hQ true s.heap c0 hz (Heap.SameBut.refl _ _))))
  · refine wpAny_bind (wpAny_field hz rfl (x := rawInt T) rfl ?_)
    show wpAny _ _ (loadIfAlive ((T : Int).toNat) >>= _) _ _ _
    rw [Int.toNat_natCast]
    refine wpAny_bind (alive_any ?_)
    cases s.heap.get? T with
    | none =>
      simp only [Option.isNone_none, if_true]
      exact wpAny_pure (hQ true s.heap c0 hz (Heap.SameBut.refl _ _))
    | some oT =>
      simp only [Option.isNone_some, Bool.false_eq_true, if_false]
      refine wpAny_bind (wpAny_field hz rfl (x := .bool c0) rfl ?_)
      cases c0 with
      | true =>
        rw [if_neg (show ¬ ((Value.bool true != Value.bool true) = true) from Bool.false_ne_true)]
        exact wpAny_pure (hQ false s.heap true hz (Heap.SameBut.refl _ _))
      | false =>
        rw [if_pos (show (Value.bool false != Value.bool true) = true from rfl)]
        exact wpAny_bind (wpAny_setField_rec hz (by simp) fun h₁ hz₁ hs₁ => wpAny_pure (hQ false h₁ true hz₁ hs₁))
theorem refs_at {b n j : Nat} {x : Value} (h : (refsOf b n)[j]? = some x) : j < n ∧ x = .ref (b + j) := by
  unfold refsOf at h
  rw [List.getElem?_map] at h
  by_cases c : j < n
  · rw [List.getElem?_range c] at h
    exact ⟨c, (Option.some.inj h).symm⟩
  · rw [List.getElem?_eq_none (by rw [List.length_range]; omega)] at h
    cases h
theorem zipN_next {L : List Addr} {b i : Nat} {col : Nat → Value} {Q : Value → Shared → Prop} (hn : L.length ≤ sizeLine) (h0 : L ≠ []) (hlow : ∀ l ∈ L, l < b) (Z : ZAt L b i s.heap)
    (hl : ∀ j l, L[j]? = some l → ∃ xs, s.heap.IsList l xs ∧ xs[i]? = some (col j))
    (hQ : ∀ h', ZAt L b (i + 1) h' → STup h' s.heap.objs.size ((List.range L.length).map col).toArray → (∀ c o, ¬ Zpart L b c → s.heap.get? c = some o → h'.get? c = some o) → Q (.ref s.heap.objs.size) { s with heap := h' }) :
    wpAny (model prog w) A (Builtin.«zip.__next__» ⟨[.ref (b + L.length + 2)], []⟩) (fun fin s' => ∃ v, fin = .done (.ret v) ∧ Q v s') E s := by
  obtain ⟨⟨f0, c0, hz, hf⟩, ti, to, its⟩ := Z
  have n0 : 0 < L.length := List.length_pos_iff.mpr h0
  show wpAny _ _ (field (.ref _) 2 >>= _) _ _ _
  refine wpAny_bind (wpAny_field hz rfl (x := .bool false) rfl ?_)
  show wpAny _ _ (field (.ref _) 3 >>= _) _ _ _
  refine wpAny_bind (wpAny_field hz rfl (x := .ref (b + L.length)) rfl (wpAny_bind (wpAny_seqItems ti rfl ?_)))
  have he : (refsOf b L.length).toArray.isEmpty = false := by
    unfold refsOf
    simp
    omega
  show wpAny (model prog w) A (if (refsOf b L.length).toArray.isEmpty = true then _ else _) _ E s
  rw [if_neg (by rw [he]; exact Bool.false_ne_true)]
  refine wpAny_bind (owned_ask hz hf fun r h1 c1 hz1 sb1 => ?_)
  have e1 := sb1.extBut
  have ti1 : STup h1 (b + L.length) (refsOf b L.length).toArray := e1 _ _ (za1 _ _) ti
  obtain ⟨a0, to0, la0⟩ := to
  have to1 : STup h1 (b + L.length + 1) a0 := e1 _ _ (za2 _ _) to0
  have its1 : ∀ j l, L[j]? = some l → h1.IsListIter (b + j) l i := fun j l h => (its j l h).extBut e1 (za3 (List.getElem?_eq_some_iff.mp h).1)
  have k1 : ∀ c o, ¬ Zpart L b c → s.heap.get? c = some o → h1.get? c = some o := fun c o n q => e1 _ _ (fun e => n (.inl e)) q
  cases r with
  | true =>
    rw [if_pos rfl]
    refine wpAny_bind (wpAny_rule (wpAny_bind (wpAny_field (s := { s with heap := h1 }) hz1 rfl (x := .ref (b + L.length + 1)) rfl (wpAny_bind (wpAny_setField_rec (s := { s with heap := h1 }) hz1 (by simp) fun h2 hz2 sb2 => ?_)))))
    replace hz2 : ZRec h2 (b + L.length + 2) (b + L.length) (b + L.length + 1) .ellipsis c1 := hz2
    replace sb2 : Heap.SameBut (b + L.length + 2) h1 h2 := sb2
    have e2 := sb2.extBut
    have nsz : h2.objs.size = s.heap.objs.size := by rw [sb2.1, sb1.1]
    refine wpAny_bind (wp_for (fun k (bb : Option PySem.Fin × Unit) s' => ∃ h' a, s' = { s with heap := h' } ∧ bb = (none, ()) ∧ h'.objs.size = s.heap.objs.size ∧ ZRec h' (b + L.length + 2) (b + L.length) (b + L.length + 1) .ellipsis c1 ∧ STup h' (b + L.length + 1) a ∧ a.size = L.length ∧ (∀ j, j < k → a[j]? = some (col j)) ∧
      (∀ (j : Nat) (l : Addr), L[j]? = some l → h'.IsListIter (b + j) l (if j < k then i + 1 else i)) ∧ (∀ c o, ¬ Zpart L b c → s.heap.get? c = some o → h'.get? c = some o)) _ 0 _ _ ?_ ?_ ?_)
    · rintro j ⟨it, kk⟩ bb s' hx ⟨h', a, rfl, rfl, hsz, hzz, hto, la, hc, hit, hkp⟩
      rw [Nat.zero_add] at hc hit ⊢
      rw [List.getElem?_zipIdx] at hx
      obtain ⟨it2, hx1, hx2⟩ := Option.map_eq_some_iff.mp hx
      cases hx2
      obtain ⟨hj, rfl⟩ := refs_at hx1
      have hL : L[j]? = some (L[j]) := List.getElem?_eq_getElem hj
      obtain ⟨xs, hls, hxs⟩ := hl j _ hL
      have hls' : h'.IsList L[j] xs := by
        obtain ⟨o, ho, r⟩ := hls
        exact ⟨o, hkp _ _ (low_not (hlow _ (List.getElem_mem hj))) ho, r⟩
      have hi' := hit j _ hL
      rw [if_neg (Nat.lt_irrefl j)] at hi'
      refine wpAny_bind (wpAny_onRaise ?_)
      show wpAny _ _ (Builtin.SmallTypes.nextOf (.ref (b + j)) >>= _) _ _ _
      refine wpAny_bind (wpAny_nextOf_list_item (s := { s with heap := h' }) hi' hls' hxs fun g2 p2 s2 => wpAny_pure ?_)
      replace s2 : Heap.SameBut (b + j) h' g2 := s2
      have c2 := s2.extBut
      have t2 : STup g2 (b + L.length + 1) a := c2 _ _ (zb1 hj) hto
      refine wpAny_bind (wpAny_seqItems (s := { s with heap := g2 }) t2 rfl (wpAny_bind (wpAny_updateSeq (s := { s with heap := g2 }) t2 rfl ?_ (by rw [la]; exact hn) (by rw [Array.size_setIfInBounds, la]; omega))))
      have s3 : Heap.SameBut (b + L.length + 1) g2 (g2.update (b + L.length + 1) (Obj.mapSeq fun x => x.setIfInBounds (0 + j) (col j))) := Heap.SameBut.update ..
      have t3 : STup (g2.update (b + L.length + 1) (Obj.mapSeq fun x => x.setIfInBounds (0 + j) (col j))) (b + L.length + 1) (a.setIfInBounds (0 + j) (col j)) := by
        show Heap.get? _ _ = _
        rw [Heap.get?_update_self _ t2 rfl]
        simp [Obj.mapSeq]
      have c3 := s3.extBut
      refine wpAny_bind (wpAny_letGo (wpAny_pure ⟨_, rfl, _, (a.setIfInBounds (0 + j) (col j)), rfl, rfl, ?_, ?_, t3, ?_, ?_, ?_, ?_⟩))
      · show (Heap.objs _).size = _
        rw [s3.1, s2.1, hsz]
      · exact c3 _ _ (za2 _ _).symm (c2 _ _ (zb2 hj) hzz)
      · rw [Array.size_setIfInBounds, la]
      · intro j2 h2
        rw [Nat.zero_add, Array.getElem?_setIfInBounds]
        by_cases e : j = j2
        · subst e
          rw [if_pos rfl, if_pos (by rw [la]; exact hj)]
        · rw [if_neg e]
          exact hc j2 (by omega)
      · intro j2 l2 h2
        by_cases e : j2 = j
        · subst e
          rw [if_pos (Nat.lt_succ_self _)]
          rw [hL] at h2
          cases h2
          exact p2.extBut c3 (za4 hj)
        · have q := ((hit j2 l2 h2).extBut c2 (zb3 e)).extBut c3 (za4 (List.getElem?_eq_some_iff.mp h2).1)
          by_cases e2 : j2 < j
          · rw [if_pos e2] at q
            rw [if_pos (by omega)]
            exact q
          · rw [if_neg e2] at q
            rw [if_neg (by omega)]
            exact q
      · intro c o n q
        exact c3 _ _ (fun e => n (.inr (.inl e))) (c2 _ _ (fun e => n (.inr (.inr ⟨j, hj, e⟩))) (hkp c o n q))
    · refine ⟨h2, a0, rfl, rfl, nsz, hz2, e2 _ _ (za2 _ _) to1, la0, fun j z => absurd z (Nat.not_lt_zero _), fun j l h => ?_, fun c o n q => e2 _ _ (fun e => n (.inl e)) (k1 c o n q)⟩
      rw [if_neg (Nat.not_lt_zero _)]
      exact (its1 j l h).extBut e2 (za3 (List.getElem?_eq_some_iff.mp h).1)
    · rintro bb s' ⟨h', a, rfl, rfl, hsz, hzz, hto, la, hc, hit, hkp⟩
      have ll : (refsOf b L.length).toArray.toList.zipIdx.length = L.length := by
        unfold refsOf
        simp
      rw [ll, Nat.zero_add] at hc hit
      have ea : a = ((List.range L.length).map col).toArray := by
        refine Array.ext_getElem? fun j => ?_
        by_cases c : j < L.length
        · rw [hc j c]
          simp [c]
        · rw [Array.getElem?_eq_none (by rw [la]; omega), Array.getElem?_eq_none (by simp; omega)]
      subst ea
      refine wpAny_bind (wpAny_seqItems (s := { s with heap := h' }) hto rfl (wpAny_bind (wpAny_newTuple ?_ (by simpa using hn))))
      show wpAny _ _ (Builtin.SmallTypes.ownedTupleHandOut (.ref _) (.ref h'.objs.size) >>= _) _ _ ⟨h'.push { cls := .type "tuple", data := .seq ((List.range L.length).map col).toArray }, s.gens, s.drawn, s.toks, s.os⟩
      unfold Builtin.SmallTypes.ownedTupleHandOut
      have y6 : ZRec (h'.push { cls := .type "tuple", data := .seq ((List.range L.length).map col).toArray }) (b + L.length + 2) (b + L.length) (b + L.length + 1) .ellipsis c1 := Heap.get?_push_of_some _ hzz
      refine wpAny_bind (wpAny_bind (wpAny_setField_rec (s := ⟨h'.push { cls := .type "tuple", data := .seq ((List.range L.length).map col).toArray }, s.gens, s.drawn, s.toks, s.os⟩) y6 (by simp) fun g7 y7 s7 => ?_))
      replace y7 : ZRec g7 (b + L.length + 2) (b + L.length) (b + L.length + 1) (rawInt h'.objs.size) c1 := y7
      refine wpAny_setField_rec (s := ⟨g7, s.gens, s.drawn, s.toks, s.os⟩) y7 (by simp) fun g8 y8 s8 => ?_
      replace y8 : ZRec g8 (b + L.length + 2) (b + L.length) (b + L.length + 1) (rawInt h'.objs.size) false := y8
      have up : ∀ c o, c ≠ b + L.length + 2 → h'.get? c = some o → g8.get? c = some o := fun c o n p => s8.extBut _ _ n (s7.extBut _ _ n (Heap.get?_push_of_some _ p))
      have zl : b + L.length + 2 < h'.objs.size := Heap.lt_size hzz
      have new : STup g8 h'.objs.size ((List.range L.length).map col).toArray := s8.extBut _ _ (Nat.ne_of_gt zl) (s7.extBut _ _ (Nat.ne_of_gt zl) (Heap.get?_push_size _ rfl))
      rw [hsz] at new
      refine wpAny_pure ⟨_, rfl, ?_⟩
      show Q (.ref h'.objs.size) _
      rw [hsz]
      refine hQ g8 ⟨⟨_, _, y8, .inr ⟨_, rfl⟩⟩, up _ _ (za1 _ _) (hkp _ _ ti_not ti), ⟨_, up _ _ (za2 _ _) hto, by simp⟩, fun j l h => ?_⟩ new fun c o n q => up _ _ (fun e => n (.inl e)) (hkp c o n q)
      have q := hit j l h
      rw [if_pos (List.getElem?_eq_some_iff.mp h).1] at q
      exact q.at fun o e => up _ o (za3 (List.getElem?_eq_some_iff.mp h).1) e
  | false =>
    rw [if_neg Bool.false_ne_true]
    dsimp only
    rw [← Array.forIn_toList]
    refine wpAny_bind (wp_for (fun k (bb : Option PySem.Fin × Array Value) s' => ∃ h' a, s' = { s with heap := h' } ∧ bb = (none, a) ∧ h'.objs.size = s.heap.objs.size ∧ ZRec h' (b + L.length + 2) (b + L.length) (b + L.length + 1) f0 c1 ∧ a.toList = (List.range k).map col ∧
      (∀ (j : Nat) (l : Addr), L[j]? = some l → h'.IsListIter (b + j) l (if j < k then i + 1 else i)) ∧ (∀ c o, (¬ Zpart L b c ∨ c = b + L.length + 1) → s.heap.get? c = some o → h'.get? c = some o)) _ 0 _ _ ?_ ?_ ?_)
    · rintro j it bb s' hx ⟨h', a, rfl, rfl, hsz, hzz, hto, hit, hkp⟩
      rw [Nat.zero_add] at hto hit ⊢
      have hx1 : (refsOf b L.length)[j]? = some it := by simpa using hx
      obtain ⟨hj, rfl⟩ := refs_at hx1
      have hL : L[j]? = some (L[j]) := List.getElem?_eq_getElem hj
      obtain ⟨xs, hls, hxs⟩ := hl j _ hL
      have hls' : h'.IsList L[j] xs := by
        obtain ⟨o, ho, r⟩ := hls
        exact ⟨o, hkp _ _ (.inl (low_not (hlow _ (List.getElem_mem hj)))) ho, r⟩
      have hi' := hit j _ hL
      rw [if_neg (Nat.lt_irrefl j)] at hi'
      refine wpAny_bind (wpAny_holding ?_)
      show wpAny _ _ (Builtin.SmallTypes.nextOf (.ref (b + j)) >>= _) _ _ _
      refine wpAny_bind (wpAny_nextOf_list_item (s := { s with heap := h' }) hi' hls' hxs fun g2 p2 s2 => wpAny_pure (wpAny_pure ?_))
      replace s2 : Heap.SameBut (b + j) h' g2 := s2
      have c2 := s2.extBut
      refine ⟨_, rfl, _, _, rfl, rfl, ?_, c2 _ _ (zb2 hj) hzz, ?_, ?_, ?_⟩
      · rw [s2.1, hsz]
      · rw [Array.toList_push, hto, List.range_succ, List.map_append]
        rfl
      · intro j2 l2 h2
        by_cases e : j2 = j
        · subst e
          rw [if_pos (Nat.lt_succ_self _)]
          rw [hL] at h2
          cases h2
          exact p2
        · have q := (hit j2 l2 h2).extBut c2 (zb3 e)
          by_cases e2 : j2 < j
          · rw [if_pos e2] at q
            rw [if_pos (by omega)]
            exact q
          · rw [if_neg e2] at q
            rw [if_neg (by omega)]
            exact q
      · intro c o n q
        refine c2 _ _ (fun e => ?_) (hkp c o n q)
        rcases n with n | n
        · exact n (.inr (.inr ⟨j, hj, e⟩))
        · exact zb1 hj (n.symm.trans e)
    · refine ⟨h1, #[], rfl, rfl, sb1.1, hz1, rfl, fun j l h => ?_, fun c o n q => e1 _ _ (fun e => ?_) q⟩
      · rw [if_neg (Nat.not_lt_zero _)]
        exact its1 j l h
      · rcases n with n | n
        · exact n (.inl e)
        · exact za2 _ _ (n.symm.trans e)
    · rintro bb s' ⟨h', a, rfl, rfl, hsz, hzz, hto, hit, hkp⟩
      have ll : (refsOf b L.length).toArray.toList.length = L.length := by
        unfold refsOf
        simp
      rw [ll, Nat.zero_add] at hto hit
      have ea : a = ((List.range L.length).map col).toArray := by rw [← hto]
      subst ea
      refine wpAny_bind (wpAny_newTuple ?_ (by simpa using hn))
      have zl : b + L.length + 2 < h'.objs.size := Heap.lt_size hzz
      have up : ∀ c o, h'.get? c = some o → (h'.push { cls := .type "tuple", data := .seq ((List.range L.length).map col).toArray }).get? c = some o := fun c o p => Heap.get?_push_of_some _ p
      have new : STup (h'.push { cls := .type "tuple", data := .seq ((List.range L.length).map col).toArray }) h'.objs.size ((List.range L.length).map col).toArray := Heap.get?_push_size _ rfl
      refine wpAny_pure ⟨_, rfl, ?_⟩
      show Q (.ref h'.objs.size) _
      rw [hsz] at new ⊢
      refine hQ _ ⟨⟨_, _, up _ _ hzz, hf⟩, up _ _ (hkp _ _ (.inl ti_not) ti), ⟨_, up _ _ (hkp _ _ (.inr rfl) to0), la0⟩, fun j l h => ?_⟩ new fun c o n q => up _ _ (hkp c o (.inl n) q)
      have q := hit j l h
      rw [if_pos (List.getElem?_eq_some_iff.mp h).1] at q
      exact q.at fun o e => up _ o e
theorem zipN_end {L : List Addr} {b i : Nat} {l0 : Addr} {xs0 : Array Value} {Q : Value → Shared → Prop} (hh : A.handled = none) (h0 : L[0]? = some l0) (hlow : ∀ l ∈ L, l < b) (Z : ZAt L b i s.heap)
    (hl : s.heap.IsList l0 xs0) (hx : xs0[i]? = none)
    (hE : ∀ h' e, (∀ c o, ¬ Zpart L b c → s.heap.get? c = some o → h'.get? c = some o) → (∃ o, h'.get? e = some o ∧ o.cls = .type "StopIteration") → E (.ref e) { s with heap := h' }) :
    wpAny (model prog w) A (Builtin.«zip.__next__» ⟨[.ref (b + L.length + 2)], []⟩) (fun fin s' => ∃ v, fin = .done (.ret v) ∧ Q v s') E s := by
  obtain ⟨⟨f0, c0, hz, hf⟩, ti, to, its⟩ := Z
  have n0 : 0 < L.length := (List.getElem?_eq_some_iff.mp h0).1
  show wpAny _ _ (field (.ref _) 2 >>= _) _ _ _
  refine wpAny_bind (wpAny_field hz rfl (x := .bool false) rfl ?_)
  show wpAny _ _ (field (.ref _) 3 >>= _) _ _ _
  refine wpAny_bind (wpAny_field hz rfl (x := .ref (b + L.length)) rfl (wpAny_bind (wpAny_seqItems ti rfl ?_)))
  have he : (refsOf b L.length).toArray.isEmpty = false := by
    unfold refsOf
    simp
    intro e
    subst e
    exact absurd n0 (Nat.lt_irrefl 0)
  have hr : ∃ r, refsOf b L.length = .ref (b + 0) :: r := by
    unfold refsOf
    obtain ⟨m, e⟩ : ∃ m, L.length = m + 1 := ⟨L.length - 1, by omega⟩
    rw [e, List.range_succ_eq_map]
    exact ⟨_, rfl⟩
  obtain ⟨rr, er⟩ := hr
  have l0b : l0 < b := hlow l0 (List.mem_of_getElem? h0)
  show wpAny (model prog w) A (if (refsOf b L.length).toArray.isEmpty = true then _ else _) _ E s
  rw [if_neg (by rw [he]; exact Bool.false_ne_true)]
  refine wpAny_bind (owned_ask hz hf fun r h1 c1 hz1 sb1 => ?_)
  have e1 := sb1.extBut
  have it1 : h1.IsListIter (b + 0) l0 i := (its 0 l0 h0).extBut e1 (za3 n0)
  have hl1 : h1.IsList l0 xs0 := hl.extBut e1 (za5 l0b)
  cases r with
  | true =>
    rw [if_pos rfl]
    refine wpAny_bind (wpAny_rule (wpAny_bind (wpAny_field (s := { s with heap := h1 }) hz1 rfl (x := .ref (b + L.length + 1)) rfl (wpAny_bind (wpAny_setField_rec (s := { s with heap := h1 }) hz1 (by simp) fun h2 hz2 sb2 => ?_)))))
    replace hz2 : ZRec h2 (b + L.length + 2) (b + L.length) (b + L.length + 1) .ellipsis c1 := hz2
    replace sb2 : Heap.SameBut (b + L.length + 2) h1 h2 := sb2
    have e2 := sb2.extBut
    have eL : (refsOf b L.length).toArray.toList.zipIdx = (.ref (b + 0), 0) :: rr.zipIdx 1 := by
      rw [List.toList_toArray, er]
      rfl
    rw [eL, List.forIn_cons]
    refine wpAny_bind (wpAny_bind (wpAny_bind (wpAny_onRaise ?_)))
    show wpAny _ _ (Builtin.SmallTypes.nextOf (.ref (b + 0)) >>= _) _ _ _
    refine wpAny_bind (wpAny_nextOf_list_end (s := { s with heap := h2 }) hh (it1.extBut e2 (za3 n0)) (hl1.extBut e2 (za5 l0b)) hx fun g2 e s2 he => ?_)
    replace s2 : Heap.ExtBut (b + 0) h2 g2 := s2
    have z2 : ZRec g2 (b + L.length + 2) (b + L.length) (b + L.length + 1) .ellipsis c1 := s2 _ _ (zb2 n0) hz2
    obtain ⟨o, ho, hc⟩ := he
    have n : e ≠ b + L.length + 2 := fun x => by subst x; rw [z2] at ho; cases ho; simp at hc
    refine wpAny_setField_rec (s := { s with heap := g2 }) z2 (by simp) fun h' _ sb => ?_
    replace sb : Heap.SameBut (b + L.length + 2) g2 h' := sb
    exact hE h' e (fun c o n q => sb.extBut _ _ (fun e => n (.inl e)) (s2 _ _ (fun e => n (.inr (.inr ⟨0, n0, e⟩))) (e2 _ _ (fun e => n (.inl e)) (e1 _ _ (fun e => n (.inl e)) q)))) ⟨o, sb.extBut _ _ n ho, hc⟩
  | false =>
    rw [if_neg Bool.false_ne_true]
    dsimp only
    rw [← Array.forIn_toList]
    have eL : (refsOf b L.length).toArray.toList = .ref (b + 0) :: rr := by rw [List.toList_toArray, er]
    rw [eL, List.forIn_cons]
    refine wpAny_bind (wpAny_bind (wpAny_bind (wpAny_holding ?_)))
    show wpAny _ _ (Builtin.SmallTypes.nextOf (.ref (b + 0)) >>= _) _ _ _
    refine wpAny_bind (wpAny_nextOf_list_end (s := { s with heap := h1 }) hh it1 hl1 hx fun g2 e s2 he => ?_)
    exact hE g2 e (fun c o n q => s2 _ _ (fun e => n (.inr (.inr ⟨0, n0, e⟩))) (e1 _ _ (fun e => n (.inl e)) q)) he
theorem zipN_ask {L : List Addr} {b i : Nat} {col : Nat → Value} {Q : Option Value → Shared → Prop} (hn : L.length ≤ sizeLine) (h0 : L ≠ []) (hlow : ∀ l ∈ L, l < b) (Z : ZAt L b i s.heap)
    (hl : ∀ j l, L[j]? = some l → ∃ xs, s.heap.IsList l xs ∧ xs[i]? = some (col j))
    (hQ : ∀ h', ZAt L b (i + 1) h' → STup h' s.heap.objs.size ((List.range L.length).map col).toArray → (∀ c o, ¬ Zpart L b c → s.heap.get? c = some o → h'.get? c = some o) → Q (some (.ref s.heap.objs.size)) { s with heap := h' }) :
    wpAny (model prog w) A (pyNext (.ref (b + L.length + 2))) Q E s := by
  obtain ⟨f0, c0, hz, _⟩ := Z.z
  have hT : s.TypeIs (.ref (b + L.length + 2)) "zip" := ⟨_, hz, rfl⟩
  unfold pyNext
  exact wpAny_bind (wpAny_attempt (wpAny_callSpecial?_slot (name := Str.ofString "__next__") hT F.slot_zip_next (wpAny_call_entry F.slot_zip_next hT F.entry_zip_next
    (zipN_next hn h0 hlow Z hl fun h' a1 a2 a3 => wpAny_pure (hQ h' a1 a2 a3)) (F.args_zip_next_1 _))))
theorem zipN_stop {L : List Addr} {b i : Nat} {l0 : Addr} {xs0 : Array Value} {Q : Option Value → Shared → Prop} (hh : A.handled = none) (h0 : L[0]? = some l0) (hlow : ∀ l ∈ L, l < b) (Z : ZAt L b i s.heap)
    (hl : s.heap.IsList l0 xs0) (hx : xs0[i]? = none) (hE : ∀ h', (∀ c o, ¬ Zpart L b c → s.heap.get? c = some o → h'.get? c = some o) → Q none { s with heap := h' }) :
    wpAny (model prog w) A (pyNext (.ref (b + L.length + 2))) Q E s := by
  obtain ⟨f0, c0, hz, _⟩ := Z.z
  have hT : s.TypeIs (.ref (b + L.length + 2)) "zip" := ⟨_, hz, rfl⟩
  unfold pyNext
  refine wpAny_bind (wpAny_attempt (wpAny_callSpecial?_slot (name := Str.ofString "__next__") hT F.slot_zip_next (wpAny_call_entry F.slot_zip_next hT F.entry_zip_next
    (zipN_end hh h0 hlow Z hl hx fun h' e lf he => ?_) (F.args_zip_next_1 _))))
  obtain ⟨o, ho, hc⟩ := he
  exact wpAny_bind (wpAny_isInstance (T := "StopIteration") (b := true) ⟨o, ho, hc⟩ isSubtype_stop (wpAny_pure (hE h' lf)))
theorem call_zipN {L : List Addr} {Q : Value → Shared → Prop} (hn : L.length ≤ sizeLine) (h0 : L ≠ []) (hl : ∀ l ∈ L, ∃ xs, s.heap.IsList l xs)
    (h : ∀ h', ZAt L s.heap.objs.size 0 h' → (∀ c o, s.heap.get? c = some o → h'.get? c = some o) → Q (.ref (s.heap.objs.size + L.length + 2)) { s with heap := h' }) :
    wpAny (model prog w) A (call (.type "zip") (L.map .ref)) Q E s := by
  cases L with
  | nil => exact absurd rfl h0
  | cons l L =>
    refine callType_new F.called_zip (by decide) (typeCall_zip _) (newCall_zip _ _) (fun obj => args_init_any obj _) F.entry_zip_new (meets_zip_n (l :: L) hn) ⟨hl, fun h' hz ti to hi hk => ?_⟩
    exact ⟨⟨_, hz, rfl⟩, h h' ⟨⟨_, _, hz, .inl rfl⟩, ti, to, hi⟩ hk⟩
end
end My

set_option Elab.async false
set_option linter.all false
set_option maxRecDepth 100000
set_option maxHeartbeats 4000000
namespace My
open PySem PySem.Spec PyProof.Rows L2
/-! ### a dict of the module with int keys -/
inductive EntI : List DictEntry → List (Int × Int) → Prop where
  | nil : EntI [] []
  | cons {k v : Int} {t u : Tok} {es : List DictEntry} {kvs : List (Int × Int)} (h : EntI es kvs) (hk : hashInt k = k := by decide +kernel) : EntI (⟨k, .int k t, .int v u⟩ :: es) ((k, v) :: kvs)
def KInt (K : PySem.W.Frag) (d : Addr) (kvs : List (Int × Int)) : Prop :=
  ∃ (es : Array DictEntry) (n : Nat), K.lookup d = some ⟨.type "dict", none, .dict es n, #[]⟩ ∧ EntI es.toList kvs ∧ (d == sysModules) = false
theorem EntI.all {es : List DictEntry} {kvs : List (Int × Int)} (h : EntI es kvs) : ∀ e ∈ es, ∃ k t, e.key = .int k t ∧ e.hash = hashInt k := by
  induction h with
  | nil => intro e he; cases he
  | cons h hk ih =>
    intro e he
    cases he with
    | head => exact ⟨_, _, rfl, hk.symm⟩
    | tail _ m => exact ih e m
def getI (k : Int) : List (Int × Int) → Option Int
  | [] => none
  | (k', v) :: r => if k' = k then some v else getI k r
theorem EntI.find {es : List DictEntry} {kvs : List (Int × Int)} (h : EntI es kvs) (k : Int) :
    (getI k kvs = none → findBy Value.isInt es.toArray k = none) ∧ (∀ v, getI k kvs = some v → ∃ u, findBy Value.isInt es.toArray k = some (.int v u)) := by
  unfold findBy
  rw [List.find?_toArray]
  induction h with
  | nil => exact ⟨fun _ => rfl, fun v z => by cases z⟩
  | @cons k' v t u es kvs h hk ih =>
    rw [List.find?_cons]
    by_cases e : k' = k
    · have q : Value.isInt k (Value.int k' t) = true := by show (k' == k) = true; simp [e]
      simp only [q]
      refine ⟨fun z => ?_, fun v' z => ?_⟩
      · unfold getI at z; rw [if_pos e] at z; cases z
      · unfold getI at z; rw [if_pos e] at z; cases z; exact ⟨u, rfl⟩
    · have q : Value.isInt k (Value.int k' t) = false := by show (k' == k) = false; simp [e]
      simp only [q]
      unfold getI
      rw [if_neg e]
      exact ih
section
variable {X : Cx} {d : Addr} {kvs : List (Int × Int)}
theorem mapInt_K {prog : Program} {w : World} {K : PySem.W.Frag} {h : Heap} {es : Array DictEntry} {n : Nat} (X : K.In h) (hl : K.lookup d = some ⟨.type "dict", none, .dict es n, #[]⟩) (hk : EntI es.toList kvs) :
    h.MapOf (intKind prog w) d (fun k => findBy Value.isInt es k) :=
  ⟨_, es, n, X _ _ hl, ⟨rfl, rfl, rfl⟩, rfl, fun e he => by
    obtain ⟨x, t, e1, e2⟩ := hk.all e (Array.mem_toList_iff.mpr he)
    exact ⟨x, by rw [e1]; exact intKind_is prog w x t, e2⟩, fun _ => rfl⟩
/-- d[k] -/
def rKI (d : Addr) (kvs : List (Int × Int)) : R2 := fun x y H Q => ∃ k v, x = .ref d ∧ y = .int k ∧ getI k kvs = some v ∧ Q (.int v) H
theorem ix_kint (D : KInt X.K d kvs) : IxR X (rKI d kvs) := by
  intro value slice pins s σ H x y v u Q I rx ry h hs
  obtain ⟨k, r, rfl, rfl, e, q⟩ := h
  obtain ⟨es, n, hl, hk, hd⟩ := D
  obtain rfl : v = Value.ref d := rx
  obtain ⟨t, rfl⟩ := ry
  have hm := mapInt_K (prog := X.prog) (w := X.w) I.kIn hl hk
  obtain ⟨u0, eu⟩ := (hk.find k).2 r e
  exact tail_any hm.typeIs slot_dict_getitem.lookup (wpAny_getItem_of (intKind_is X.prog X.w k t) hm eu ⟨.int r, H, I.tok _, ⟨_, rfl⟩, q⟩) hs
/-- k in d, k not in d -/
def rInKI (d : Addr) (kvs : List (Int × Int)) (neg : Bool) : R2 := fun x y H Q => ∃ k, x = .int k ∧ y = .ref d ∧ Q (.bl (if neg then !(getI k kvs).isSome else (getI k kvs).isSome)) H
theorem find_is {es : Array DictEntry} (hk : EntI es.toList kvs) (k : Int) : (findBy Value.isInt es k).isSome = (getI k kvs).isSome := by
  have q : findBy Value.isInt es k = findBy Value.isInt es.toList.toArray k := by simp
  cases e : getI k kvs with
  | none => rw [q, (hk.find k).1 e] <;> rfl
  | some v =>
    obtain ⟨u, eu⟩ := (hk.find k).2 v e
    rw [q, eu]
    rfl
theorem op_inKI (D : KInt X.K d kvs) : OpR X (compareOp .In) (rInKI d kvs false) := by
  intro pins s σ H x y v u Q I rx ry h
  obtain ⟨k, rfl, rfl, q⟩ := h
  obtain ⟨es, n, hl, hk, hd⟩ := D
  obtain ⟨t, rfl⟩ := rx
  cases ry
  refine wpAny_in_of (intKind_is X.prog X.w k t) hd (mapInt_K (prog := X.prog) (w := X.w) I.kIn hl hk) ?_
  exact ⟨.bl _, H, I.tok _, rfl, by rw [find_is hk]; exact q⟩
theorem op_notInKI (D : KInt X.K d kvs) : OpR X (compareOp .NotIn) (rInKI d kvs true) := by
  intro pins s σ H x y v u Q I rx ry h
  obtain ⟨k, rfl, rfl, q⟩ := h
  obtain ⟨es, n, hl, hk, hd⟩ := D
  obtain ⟨t, rfl⟩ := rx
  cases ry
  refine wpAny_notIn_of (intKind_is X.prog X.w k t) hd (mapInt_K (prog := X.prog) (w := X.w) I.kIn hl hk) ?_
  exact ⟨.bl _, H, I.tok _, rfl, by rw [find_is hk]; exact q⟩
/-- xs + ys, whatever kind of lists stand there (the script, too) -/
def rCatL (K : PySem.W.Frag) : R2 := fun x y H Q => ∃ l b xs zs, x = .ref l ∧ y = .ref b ∧ SqL K H l xs ∧ SqL K H b zs ∧ xs.length + zs.length ≤ sizeLine ∧ ∀ p, H p = none → Q (.ref p) (upd H p (.lst (xs ++ zs)))
theorem op_catL : OpR X (binaryOp .Add) (rCatL X.K) := by
  intro pins s σ H x y v u Q I rx ry h
  obtain ⟨l, b, xs, zs, rfl, rfl, hl, hb, hz, q⟩ := h
  cases rx
  cases ry
  obtain ⟨its, r, ⟨⟨cls, dd, data, sl⟩, n, ho, hc, hd, hs⟩, z1⟩ := I.list hl
  obtain ⟨its2, r2, ⟨⟨cls2, dd2, data2, sl2⟩, n2, ho2, hc2, hd2, hs2⟩, z2⟩ := I.list hb
  have e1 := r.length
  have e2 := r2.length
  simp only at hc hd hs hc2 hd2 hs2
  subst hc hd hs hc2 hd2 hs2
  have e : its.toArray ++ its2.toArray = (its ++ its2).toArray := by simp
  refine concat_meets ⟨_, ho, rfl⟩ ⟨_, ho2, rfl⟩ noFill_list_add seq_list_add PySem.F.slot_list_add PySem.F.entry_list_add (PySem.F.args_list_add_2 _ _) (list_addW l b its.toArray its2.toArray n n2 none none sl sl2 (by simp; omega)) ⟨ho, ho2, ?_⟩
  rw [e]
  exact ⟨.ref _, _, I.lnew (t' := s.toks) (r.append r2) (by rw [List.length_append]; omega), rfl, q _ I.fresh⟩
/-- name op= e, by the in-place operator's rule -/
theorem pip_of {op : Operator} {r : R2} (h : OpR X (inplaceOp op) r) : PIp X op r := h
end
end My

set_option Elab.async false
set_option linter.all false
set_option maxRecDepth 100000
set_option maxHeartbeats 4000000
namespace My
open PySem PySem.Spec PyProof.Rows L2
/-! ### bits of ints that are not negative -/
theorem bx (a b : Nat) : Builtin.bitXor (a : Int) (b : Int) = ((a ^^^ b : Nat) : Int) := by
  have h := Bits.bitXor_pp (x := (a : Int)) (y := (b : Int)) (by omega) (by omega)
  simpa using h
theorem band1 (a : Nat) : Builtin.bitAnd (a : Int) 1 = ((a % 2 : Nat) : Int) := by
  have h := Bits.bitAnd_mask (x := (a : Int)) 1 (by omega)
  simpa using h
/-! ### the field: words as natural numbers -/
def span (b : Nat) : Nat := cond (Nat.beq b 4) 16 256
def foldw (b : Nat) : Nat := cond (Nat.beq b 4) 9 113
def turn (b : Nat) : Nat := cond (Nat.beq b 4) 15 255
def dbl (b x : Nat) : Nat := cond (Nat.blt (2 * x) (span b)) (2 * x) ((2 * x - span b) ^^^ foldw b)
def mulF (b : Nat) : Nat → Nat → Nat → Nat
  | 0, _, _ => 0
  | n + 1, x, y => (cond (Nat.beq (y % 2) 1) x 0) ^^^ mulF b n (dbl b x) (y / 2)
def mul (b x y : Nat) : Nat := mulF b b x y
def pw (b : Nat) : Nat → Nat
  | 0 => 1
  | n + 1 => dbl b (pw b n)
def pws (b : Nat) : List Nat := (List.range (turn b)).map (pw b)
def Wd (b : Nat) : Prop := b = 4 ∨ b = 8
def allB (p : Nat → Nat → Bool) (n : Nat) : Bool := (List.range n).all fun x => (List.range n).all fun y => p x y
theorem allB_ok {p : Nat → Nat → Bool} {n : Nat} (h : allB p n = true) {x y : Nat} (hx : x < n) (hy : y < n) : p x y = true :=
  List.all_eq_true.mp (List.all_eq_true.mp h x (List.mem_range.mpr hx)) y (List.mem_range.mpr hy)
def linB (b : Nat) (x y : Nat) : Bool := Nat.beq (dbl b (x ^^^ y)) (dbl b x ^^^ dbl b y)
theorem lin4 : allB (linB 4) 16 = true := by decide +kernel
theorem lin8 : allB (linB 8) 256 = true := by decide +kernel
theorem dbl_lin {b x y : Nat} (hb : Wd b) (hx : x < span b) (hy : y < span b) : dbl b (x ^^^ y) = dbl b x ^^^ dbl b y := by
  rcases hb with rfl | rfl
  · exact Nat.eq_of_beq_eq_true (allB_ok lin4 hx hy)
  · exact Nat.eq_of_beq_eq_true (allB_ok lin8 hx hy)
theorem dbl_lt {b x : Nat} (hb : Wd b) (hx : x < span b) : dbl b x < span b := by
  rcases hb with rfl | rfl
  · exact (by decide +kernel : ∀ x, x < 16 → dbl 4 x < 16) x hx
  · exact (by decide +kernel : ∀ x, x < 256 → dbl 8 x < 256) x hx
theorem dbl_zero {b : Nat} (hb : Wd b) : dbl b 0 = 0 := by rcases hb with rfl | rfl <;> rfl
theorem span_pow {b : Nat} (hb : Wd b) : span b = 2 ^ b := by rcases hb with rfl | rfl <;> rfl
theorem xor_lt {b x y : Nat} (hb : Wd b) (hx : x < span b) (hy : y < span b) : x ^^^ y < span b := by
  rw [span_pow hb] at *
  exact Nat.xor_lt_two_pow hx hy
theorem mulF_lt {b : Nat} (hb : Wd b) : ∀ (n x y : Nat), x < span b → mulF b n x y < span b
  | 0, _, _, _ => by
    show 0 < span b
    rcases hb with rfl | rfl <;> decide
  | n + 1, x, y, hx => by
    refine xor_lt hb ?_ (mulF_lt hb n _ _ (dbl_lt hb hx))
    cases Nat.beq (y % 2) 1
    · show 0 < span b; rcases hb with rfl | rfl <;> decide
    · exact hx
theorem mulF_zero {b : Nat} (x : Nat) : ∀ n x, mulF b n x 0 = 0
  | 0, _ => rfl
  | n + 1, x => by
    show (0 : Nat) ^^^ mulF b n (dbl b x) 0 = 0
    rw [mulF_zero x n _]
    rfl
theorem zero_mulF {b : Nat} (hb : Wd b) : ∀ n y, mulF b n 0 y = 0
  | 0, _ => rfl
  | n + 1, y => by
    show (cond (Nat.beq (y % 2) 1) 0 0) ^^^ mulF b n (dbl b 0) (y / 2) = 0
    rw [dbl_zero hb, zero_mulF hb n]
    cases Nat.beq (y % 2) 1 <;> rfl
theorem mulF_lin {b : Nat} (hb : Wd b) : ∀ (n x z y : Nat), x < span b → z < span b → mulF b n (x ^^^ z) y = mulF b n x y ^^^ mulF b n z y
  | 0, _, _, _, _, _ => by
    show (0 : Nat) = 0 ^^^ 0
    rfl
  | n + 1, x, z, y, hx, hz => by
    show (cond (Nat.beq (y % 2) 1) (x ^^^ z) 0) ^^^ mulF b n (dbl b (x ^^^ z)) (y / 2) = ((cond (Nat.beq (y % 2) 1) x 0) ^^^ mulF b n (dbl b x) (y / 2)) ^^^ ((cond (Nat.beq (y % 2) 1) z 0) ^^^ mulF b n (dbl b z) (y / 2))
    rw [dbl_lin hb hx hz, mulF_lin hb n _ _ _ (dbl_lt hb hx) (dbl_lt hb hz)]
    cases Nat.beq (y % 2) 1
    · simp
    · show (x ^^^ z) ^^^ (_ ^^^ _) = (x ^^^ _) ^^^ (z ^^^ _)
      ac_rfl
theorem mulF_dbl {b : Nat} (hb : Wd b) : ∀ (n x y : Nat), x < span b → mulF b n (dbl b x) y = dbl b (mulF b n x y)
  | 0, _, _, _ => (dbl_zero hb).symm
  | n + 1, x, y, hx => by
    show (cond (Nat.beq (y % 2) 1) (dbl b x) 0) ^^^ mulF b n (dbl b (dbl b x)) (y / 2) = dbl b ((cond (Nat.beq (y % 2) 1) x 0) ^^^ mulF b n (dbl b x) (y / 2))
    rw [mulF_dbl hb n _ _ (dbl_lt hb hx)]
    cases Nat.beq (y % 2) 1
    · simp
    · show dbl b x ^^^ _ = dbl b (x ^^^ _)
      rw [dbl_lin hb hx (mulF_lt hb _ _ _ (dbl_lt hb hx))]
theorem one_mul {b y : Nat} (hb : Wd b) (hy : y < span b) : mul b 1 y = y := by
  rcases hb with rfl | rfl
  · exact (by decide +kernel : ∀ x, x < 16 → mul 4 1 x = x) y hy
  · exact (by decide +kernel : ∀ x, x < 256 → mul 8 1 x = x) y hy
theorem pw_lt {b : Nat} (hb : Wd b) : ∀ n, pw b n < span b
  | 0 => by rcases hb with rfl | rfl <;> decide
  | n + 1 => dbl_lt hb (pw_lt hb n)
theorem mul_lt {b x y : Nat} (hb : Wd b) (hx : x < span b) : mul b x y < span b := mulF_lt hb _ _ _ hx
theorem pw_mul {b : Nat} (hb : Wd b) (j : Nat) : ∀ i, mul b (pw b i) (pw b j) = pw b (i + j)
  | 0 => by rw [Nat.zero_add]; exact one_mul hb (pw_lt hb j)
  | i + 1 => by
    show mulF b b (dbl b (pw b i)) (pw b j) = _
    rw [mulF_dbl hb _ _ _ (pw_lt hb i)]
    have h := pw_mul hb j i
    unfold mul at h
    rw [h, show i + 1 + j = (i + j) + 1 by omega]
    rfl
theorem pw_turn {b : Nat} (hb : Wd b) : pw b (turn b) = 1 := by rcases hb with rfl | rfl <;> decide +kernel
theorem pw_add_turn {b : Nat} (hb : Wd b) (i : Nat) : pw b (i + turn b) = pw b i := by
  rw [← pw_mul hb, pw_turn hb]
  have h := pw_mul hb 0 i
  exact h
theorem pw_add_mul {b : Nat} (hb : Wd b) (i : Nat) : ∀ k, pw b (i + k * turn b) = pw b i
  | 0 => by rw [Nat.zero_mul, Nat.add_zero]
  | k + 1 => by
    rw [Nat.succ_mul, ← Nat.add_assoc, pw_add_turn hb, pw_add_mul hb i k]
theorem pw_mod {b : Nat} (hb : Wd b) (i : Nat) : pw b i = pw b (i % turn b) := by
  have h := pw_add_mul hb (i % turn b) (i / turn b)
  have e : i % turn b + i / turn b * turn b = i := by
    have := Nat.mod_add_div i (turn b)
    rw [Nat.mul_comm] at this
    exact this
  rw [e] at h
  exact h
def lg (b x : Nat) : Nat := (pws b).idxOf x
def memB (b : Nat) (x : Nat) : Bool := Nat.beq x 0 || (pws b).any fun y => Nat.beq x y
theorem mem_pws {b x : Nat} (hb : Wd b) (hx : x < span b) (h0 : x ≠ 0) : x ∈ pws b := by
  have q : memB b x = true := by
    rcases hb with rfl | rfl
    · exact List.all_eq_true.mp (by decide +kernel : ((List.range 16).all fun x => memB 4 x) = true) x (List.mem_range.mpr hx)
    · exact List.all_eq_true.mp (by decide +kernel : ((List.range 256).all fun x => memB 8 x) = true) x (List.mem_range.mpr hx)
  rcases (Bool.or_eq_true _ _).mp q with h | h
  · exact absurd (Nat.eq_of_beq_eq_true h) h0
  · obtain ⟨y, hy, e⟩ := List.any_eq_true.mp h
    rw [Nat.eq_of_beq_eq_true e]
    exact hy
theorem pws_len (b : Nat) : (pws b).length = turn b := by simp [pws]
theorem pws_at {b i : Nat} (h : i < turn b) : (pws b)[i]? = some (pw b i) := by
  simp [pws, h]
theorem lg_lt {b x : Nat} (hb : Wd b) (hx : x < span b) (h0 : x ≠ 0) : lg b x < turn b := by
  rw [← pws_len b]
  exact List.idxOf_lt_length_of_mem (mem_pws hb hx h0)
theorem pw_lg {b x : Nat} (hb : Wd b) (hx : x < span b) (h0 : x ≠ 0) : pw b (lg b x) = x := by
  have h := lg_lt hb hx h0
  have e := pws_at h
  have e2 : (pws b)[lg b x]? = some x := by
    unfold lg
    rw [List.getElem?_eq_getElem (List.idxOf_lt_length_of_mem (mem_pws hb hx h0)), List.getElem_idxOf]
  rw [e] at e2
  exact Option.some.inj e2
theorem pw_ne {b : Nat} (hb : Wd b) (i : Nat) : pw b i ≠ 0 := by
  intro h
  have e := pw_mul hb ((turn b - i % turn b)) (i % turn b)
  rw [← pw_mod hb i, h] at e
  have ht : i % turn b < turn b := Nat.mod_lt _ (by rcases hb with rfl | rfl <;> decide)
  rw [show i % turn b + (turn b - i % turn b) = turn b by omega, pw_turn hb] at e
  unfold mul at e
  rw [zero_mulF hb] at e
  cases e
/-- before its place a word does not stand in the list of powers -/
theorem lg_first {b x m z : Nat} (hm : m < lg b x) (hz : (pws b)[m]? = some z) : z ≠ x := by
  intro e
  subst e
  have := List.not_of_lt_findIdx (xs := pws b) (p := (· == z)) (i := m) hm
  obtain ⟨hl, he⟩ := List.getElem?_eq_some_iff.mp hz
  simp [he] at this
theorem mul_comm {b x y : Nat} (hb : Wd b) (hx : x < span b) (hy : y < span b) : mul b x y = mul b y x := by
  by_cases h1 : x = 0
  · subst h1
    unfold mul
    rw [zero_mulF hb, mulF_zero 0]
  · by_cases h2 : y = 0
    · subst h2
      unfold mul
      rw [zero_mulF hb, mulF_zero 0]
    · rw [← pw_lg hb hx h1, ← pw_lg hb hy h2, pw_mul hb, pw_mul hb, Nat.add_comm]
theorem mulF_more {b : Nat} : ∀ (n x y : Nat), y < 2 ^ n → ∀ m, n ≤ m → mulF b m x y = mulF b n x y
  | 0, x, y, h, m, _ => by
    have : y = 0 := by simpa using h
    subst this
    rw [mulF_zero 0]
    rfl
  | n + 1, x, y, h, m, hm => by
    cases m with
    | zero => omega
    | succ m =>
      show (cond (Nat.beq (y % 2) 1) x 0) ^^^ mulF b m (dbl b x) (y / 2) = (cond (Nat.beq (y % 2) 1) x 0) ^^^ mulF b n (dbl b x) (y / 2)
      rw [mulF_more n _ _ (by rw [Nat.pow_succ] at h; omega) m (by omega)]
end My

set_option Elab.async false
set_option linter.all false
set_option maxRecDepth 100000
set_option maxHeartbeats 4000000
/-! ### enumerate of a tuple -/
namespace EnT
open PySem PySem.Spec PyProof.Rows
theorem meets_enumerate_newT (l : Addr) (items : Array Value) (n : Nat) (dct : Option Addr) (sl : Array (Option Value)) :
    Meets (Builtin.«enumerate.__new__» ⟨[.type "enumerate", .ref l], []⟩) (fun _ R s => s.heap.get? l = some { cls := .type "tuple", dict := dct, data := .seq items n, slots := sl } ∧
      R (.ok (.ret (.ref (s.heap.push { cls := .type "tuple_iterator", data := .fields #[.ref l, .int 0 0] }).objs.size)))
        { s with heap := (s.heap.push { cls := .type "tuple_iterator", data := .fields #[.ref l, .int 0 0] }).push { cls := .type "enumerate", data := .fields #[.none, .bool false, .ref s.heap.objs.size, rawInt 0, .none, .none] } }) :=
  .of_wp fun prog w A R s h => by
    obtain ⟨hp, g, d, tk, os⟩ := s; obtain ⟨hl, h⟩ := h
    have hsub := sub_enumerate
    have hL : Heap.IsTuple (Shared.heap ⟨hp, g, d, tk, os⟩) l items := ⟨_, hl, rfl, n, rfl⟩
    wp_walk using wpAny_loadPart' hl
    refine wpAny_stack_any fun st => wpAny_pure ?_
    split
    · rename_i c _ _ _ _ _
      cases (c == Value.type "enumerate")
      · wp_walk using wpAny_loadPart' hl, wpAny_pyIter_tuple hL
        exact ⟨_, rfl, h⟩
      · wp_walk using wpAny_loadPart' hl, wpAny_pyIter_tuple hL
        exact ⟨_, rfl, h⟩
    · wp_walk using wpAny_loadPart' hl, wpAny_pyIter_tuple hL
      exact ⟨_, rfl, h⟩
theorem call_enumerate_tuple {prog : Program} {w : World} {A : Around} {E : Value → Shared → Prop} {s : Shared} {l : Addr} {items : Array Value} {Q : Value → Shared → Prop} (hL : s.heap.IsTuple l items)
    (h : ∀ h', IsEnum h' (s.heap.objs.size + 1) s.heap.objs.size 0 .none → h'.IsTupleIter s.heap.objs.size l 0 → h'.objs.size = s.heap.objs.size + 2 →
      (∀ b o, s.heap.get? b = some o → h'.get? b = some o) → Q (.ref (s.heap.objs.size + 1)) { s with heap := h' }) :
    wpAny (model prog w) A (call (.type "enumerate") [.ref l]) Q E s := by
  obtain ⟨⟨c, dct, dt, sl⟩, hl, hc, n, hd⟩ := hL
  replace hc : c = .type "tuple" := hc
  replace hd : dt = .seq items n := hd
  subst hc hd
  refine callType_new F.called_enumerate (by decide) (F.typeCall_enumerate_1 _) (F.newCall_enumerate_1 _) (fun obj => F.args_object_init_2 obj _) F.entry_enumerate_new
    (meets_enumerate_newT l items n dct sl) ⟨hl, ?_⟩
  have hz : (s.heap.push { cls := .type "tuple_iterator", data := .fields #[.ref l, .int 0 0] }).objs.size = s.heap.objs.size + 1 := Heap.size_push ..
  show _ ∧ _
  rw [hz]
  have he : IsEnum ((s.heap.push { cls := .type "tuple_iterator", data := .fields #[.ref l, .int 0 0] }).push
      { cls := .type "enumerate", data := .fields #[.none, .bool false, .ref s.heap.objs.size, rawInt 0, .none, .none] }) (s.heap.objs.size + 1) s.heap.objs.size 0 .none := by
    have := Heap.get?_push_size (s.heap.push { cls := .type "tuple_iterator", data := .fields #[.ref l, .int 0 0] })
      (o := { cls := .type "enumerate", data := .fields #[.none, .bool false, .ref s.heap.objs.size, rawInt 0, .none, .none] }) rfl
    rw [hz] at this; exact this
  refine ⟨⟨_, he, rfl⟩, h _ he ⟨_, Heap.get?_push_of_some _ (Heap.get?_push_size _ rfl), rfl, rfl⟩ (by rw [Heap.size_push, hz]) fun b o x => Heap.get?_push_of_some _ (Heap.get?_push_of_some _ x)⟩
open L2
def IteT (K : PySem.W.Frag) (a : Addr) : It :=
  ⟨fun i H => ∃ (xs : List V) (x : V), SqT K H a xs ∧ xs[i]? = some x, fun i H v H' => ∃ T x, v = .ref T ∧ H T = none ∧ H' = upd H T (.tup [.int (i : Nat), x]) ∧ ∀ xs, SqT K H a xs → xs[i]? = some x, fun i H => ∃ xs : List V, SqT K H a xs ∧ xs.length = i⟩
theorem turn_enumT {P : Program} {w : World} {K : PySem.W.Frag} {elts : List Expr} {kk : Nat} {tpos : Pos} (a e it : Addr) :
    Turn P w K (.Tuple elts kk tpos) (IteT K a) [e, it] e (fun i h => (∃ old, IsEnum h e it ((i : Nat) : Int) old) ∧ h.IsTupleIter it a i ∧ e ≠ it ∧ a ≠ it ∧ e ≠ a) where
  mem := by simp
  obj := fun i h st b hb => by
    obtain ⟨⟨old, he⟩, ⟨o, ho, hc, hd⟩, _⟩ := st
    have e' : b = e ∨ b = it := by simpa using hb
    rcases e' with z | z
    · rw [z]; exact ⟨_, he, fun v q => nomatch q⟩
    · rw [z]; exact ⟨o, ho, fun v q => by rw [hd] at q; cases q⟩
  keep := fun i h h' st k => let ⟨⟨old, he⟩, hi, hne⟩ := st; ⟨⟨old, k e (by simp) _ he⟩, hi.at fun o q => k it (by simp) o q, hne⟩
  item := by
    intro X hP hw hK hc i pins s σ H E I hf st hg
    subst hP hw hK
    obtain ⟨⟨old, he⟩, hit, hne, hai, hea⟩ := st
    obtain ⟨xs, x, hq, hx⟩ := hg
    obtain ⟨its, rv, p, hz⟩ := I.tuple hq
    obtain ⟨u, hu, ru⟩ := rv.get hx
    have hel : e < s.heap.objs.size := Heap.lt_size he
    have hil : it < s.heap.objs.size := by obtain ⟨_, q, _⟩ := hit; exact Heap.lt_size q
    have hin : i < its.toArray.size := by
      have := (List.getElem?_eq_some_iff.mp hu).1
      simpa using this
    have hd0 : X.A.in1.handled = none := I.ok.hd hc
    refine wpAny_pyNext_enum_itemC (Draws.tuple hd0 it a hai its.toArray) he ⟨hit, p⟩ hin hne (by simp [hne, hea]) fun y h' tk hy ho hst' hT hsz hk => ?_
    obtain rfl : y = u := by
      have : its.toArray[i]? = some y := hy
      simp at this
      rw [hu] at this
      exact (Option.some.inj this).symm
    have hit' := hst'.1
    refine ⟨_, rfl, wpAny_letOwnedTupleGo_enum (s := { s with heap := h', toks := tk + 1 }) ho fun h'' he' sb => ?_⟩
    have hT2 : h''.get? s.heap.objs.size = some { cls := .type "tuple", data := .seq #[.int i tk, y] } := (sb.2 _ (Nat.ne_of_gt hel)).trans hT
    have new : ObjOk X.prog X.w (upd H s.heap.objs.size (.tup [.int (i : Nat), x])) h'' s.heap.objs.size (.tup [.int (i : Nat), x]) :=
      ⟨by show 2 ≤ sizeLine; decide, [.int i tk, y], .cons ⟨_, rfl⟩ (.cons ru .nil), ⟨_, hT2, rfl, _, rfl⟩⟩
    have I1 : Inv X pins σ (upd H s.heap.objs.size (.tup [.int (i : Nat), x])) { s with heap := h'', toks := tk + 1 } :=
      I.turnedNew (ch := [e, it]) (fun b ob hb q => (sb.2 b (fun z => hb (by simp [z]))).trans (hk b ob (fun z => hb (by simp [z])) (fun z => hb (by simp [z])) q)) hf (Nat.le_refl _) new
    refine ⟨.ref s.heap.objs.size, _, I1, rfl, ⟨_, x, rfl, I.hok.fresh (Nat.le_refl _), rfl, fun ys hy => by rw [I.tuple_inj hy hq]; exact hx⟩, ⟨⟨y, ?_⟩, hit'.at fun o q => (sb.2 it (Ne.symm hne)).trans q, hne, hai, hea⟩, fun b hb => ?_⟩
    · have e1 : ((i + 1 : Nat) : Int) = (i : Int) + 1 := by omega
      rw [e1]; exact he'
    · have hb' : b < s.heap.objs.size := by
        have e' : b = e ∨ b = it := by simpa using hb
        rcases e' with z | z
        · rw [z]; exact hel
        · rw [z]; exact hil
      rw [upd_ne (Nat.ne_of_lt hb')]
      exact (hf b hb).1
  done := by
    intro X hP hw hK hc i pins s σ H E I hf st hg
    subst hP hw hK
    obtain ⟨⟨old, he⟩, hit, hne, hai, hea⟩ := st
    obtain ⟨xs, hq, hx⟩ := hg
    obtain ⟨its, rv, p, hz⟩ := I.tuple hq
    obtain ⟨f0, f1, f2, f3, f4, f5⟩ := hf it (by simp)
    have hl := rv.length
    have hd0 : X.A.in1.handled = none := I.ok.hd hc
    have en : its.toArray.size = i := by simp; omega
    have hst : s.heap.IsTupleIter it a its.toArray.size ∧ s.heap.IsTuple a its.toArray := ⟨by rw [en]; exact hit, p⟩
    exact wpAny_pyNext_enum_endD (Draws.tuple hd0 it a hai its.toArray) he hst fun h' eb => ⟨rfl, I.turned (t' := s.toks) (fun b o hb q => eb b o hb q) f0 f1 f3 f4 f5⟩
  self := fun A i s Q E st h => let ⟨⟨_, he⟩, _⟩ := st; wpAny_pyIter_enum he h
def iEnumT (K : PySem.W.Frag) (ta : TA) : TI := fun σ H R => ta σ H fun vs H1 => ∃ a xs, vs = [.ref a] ∧ SqT K H1 a xs ∧ R (IteT K a) H1
theorem pi_enumT {X : Cx} {e : Expr} {ta : TA} {p pos tpos : Pos} {elts : List Expr} {kk : Nat} (hg : Gl X "enumerate") (hm : X.mg "enumerate" = none) (ha : PA X [e] ta) (hs : starEach [e] X.env = [(false, eval e X.env)] := by rfl) :
    PI X (.Tuple elts kk tpos) (.Call (.Name "enumerate" p) [e] [] pos) (iEnumT X.K ta) := by
  refine ⟨fun pins s σ H R I h => ?_⟩
  refine Call_ (ld_blt I hg hm boot_enumerate (PyProof.Rows.callWith_type1 (thn (ha.run pos pins s σ H _ I h) fun us s1 ⟨vs, H1, I1, r1, q1⟩ => ?_) hs rfl))
  obtain ⟨a, xs, ex, hq, q⟩ := q1
  subst ex
  cases r1 with
  | cons r rr =>
    cases rr
    cases r
    obtain ⟨its, rv, p', hz⟩ := I1.tuple hq
    have hal : a < s1.heap.objs.size := by obtain ⟨_, q, _⟩ := p'; exact Heap.lt_size q
    refine call_enumerate_tuple p' fun h' he hit hsz hk => wpAny_pyIter_enum he ?_
    have I2 : Inv X pins σ H1 { s1 with heap := h' } := I1.kept (t' := s1.toks) hk
    refine ⟨s1.heap.objs.size + 1, [s1.heap.objs.size + 1, s1.heap.objs.size], _, _, H1, rfl, I2, turn_enumT a (s1.heap.objs.size + 1) s1.heap.objs.size, ⟨⟨.none, he⟩, hit, Nat.succ_ne_self _, Nat.ne_of_lt hal, Nat.ne_of_gt (Nat.lt_succ_of_lt hal)⟩, fun b hb => ?_, q⟩
    have e' : b = s1.heap.objs.size + 1 ∨ b = s1.heap.objs.size := by simpa using hb
    have hle : s1.heap.objs.size ≤ b := by
      rcases e' with z | z
      · rw [z]; exact Nat.le_add_right _ _
      · rw [z]; exact Nat.le_refl _
    exact I1.fpOk hle (I1.hok.fresh hle)
theorem walk_enumT {K : PySem.W.Frag} {a : Addr} {xs : List V} : Walk (IteT K a) xs.length (fun H => SqT K H a xs) (YPair (fun i => some (.int (i : Nat))) (fun i => xs[i]?)) where
  goes := fun i H hi h => ⟨xs, xs[i], h, List.getElem?_eq_getElem hi⟩
  stops := fun H h => ⟨xs, h, rfl⟩
  yields := fun i H x H' hi h y => by
    obtain ⟨T, z, e1, e2, e3, e4⟩ := y
    exact ⟨T, _, z, e1, e2, e3, rfl, e4 xs h⟩
end EnT

set_option Elab.async false
set_option linter.all false
set_option maxRecDepth 100000
set_option maxHeartbeats 4000000
/-! ### rows: lists (true) and tuples (false) in one -/
namespace My
open PySem PySem.Spec PyProof.Rows L2
def SqB (b : Bool) (K : PySem.W.Frag) (H : Hp) (a : Addr) (xs : List V) : Prop := if b = true then SqL K H a xs else SqT K H a xs
def ItB (b : Bool) (K : PySem.W.Frag) (a : Addr) : It := if b = true then Itl K a else Itt K a
def IteB (b : Bool) (K : PySem.W.Frag) (a : Addr) : It := if b = true then Ite K a else EnT.IteT K a
section
variable {b : Bool} {K : PySem.W.Frag} {H H' : Hp} {a : Addr} {xs : List V}
theorem SqB.or (h : SqB b K H a xs) : SqL K H a xs ∨ SqT K H a xs := by
  cases b
  · exact .inr h
  · exact .inl h
theorem Same.sqt (e : Same H H') (h : SqT K H a xs) : SqT K H' a xs := by
  rcases h with (h | ⟨o, h⟩) | h
  · exact .inl (.inl (e _ _ h))
  · exact .inl (.inr ⟨o, e _ _ h⟩)
  · exact .inr h
theorem Same.sqb (e : Same H H') (h : SqB b K H a xs) : SqB b K H' a xs := by
  cases b
  · exact Same.sqt e h
  · exact e.seq h
theorem SqB.lst (h : H a = some (.lst xs)) : SqB true K H a xs := .inl (.inl h)
theorem SqB.tup (h : H a = some (.tup xs)) : SqB false K H a xs := .inl (.inl h)
theorem SqB.ty (h : SqB b K H a xs) : TyX K H (.ref a) (.type (if b = true then "list" else "tuple")) := by
  cases b
  · rcases h with (h | ⟨o, h⟩) | ⟨o, its, n, hk, hc, _⟩
    · exact .base (.tup h)
    · exact .fTuple h
    · exact .kTuple hk hc
  · rcases h with (h | ⟨o, h⟩) | ⟨o, its, n, hk, hc, _⟩
    · exact .base (.lst h)
    · exact .base (.frz h)
    · exact .kList hk hc
theorem walk_seq : Walk (ItB b K a) xs.length (fun H => SqB b K H a xs) (YAt xs) := by
  cases b
  · exact walk_tup
  · exact walk_list
theorem walk_enumS : Walk (IteB b K a) xs.length (fun H => SqB b K H a xs) (YPair (fun i => some (.int (i : Nat))) (fun i => xs[i]?)) := by
  cases b
  · exact EnT.walk_enumT
  · exact walk_enum
end
section
variable {X : Cx} {tg : Expr}
def iSeq (K : PySem.W.Frag) (tl : TE) : TI := fun σ H R => tl σ H fun x H1 => ∃ a xs b, x = .ref a ∧ SqB b K H1 a xs ∧ R (ItB b K a) H1
theorem pi_seq {l : Expr} {tl : TE} (hl : PE X l tl) : PI X tg l (iSeq X.K tl) := by
  refine ⟨fun pins s σ H R I h => ?_⟩
  refine thn (hl.run pins s σ H _ I h) fun v s1 ⟨x, H1, I1, r1, q1⟩ => ?_
  obtain ⟨a, xs, b, e, hq, q⟩ := q1
  subst e
  cases r1
  cases b
  · obtain ⟨its, rv, p, hz⟩ := I1.tuple hq
    refine wpAny_pyIter_tuple (show s1.heap.IsTuple a its.toArray from p) ?_
    refine ⟨s1.heap.objs.size, [s1.heap.objs.size], _, _, H1, rfl, I1.kept (t' := s1.toks) fun b o e => Heap.get?_push_of_some _ e, turn_tuple a _, ⟨_, Heap.get?_push_size _ rfl, rfl, rfl⟩, fun b hb => ?_, q⟩
    have e : b = s1.heap.objs.size := by simpa using hb
    subst e
    exact I1.fpOk (Nat.le_refl _) (I1.hok.fresh (Nat.le_refl _))
  · obtain ⟨its, rv, p, hz⟩ := I1.list hq
    refine wpAny_pyIter_list p.isList ?_
    refine ⟨s1.heap.objs.size, [s1.heap.objs.size], _, _, H1, rfl, I1.kept (t' := s1.toks) fun b o e => Heap.get?_push_of_some _ e, turn_list a _, ⟨_, Heap.get?_push_size _ rfl, rfl, rfl⟩, fun b hb => ?_, q⟩
    have e : b = s1.heap.objs.size := by simpa using hb
    subst e
    exact I1.fpOk (Nat.le_refl _) (I1.hok.fresh (Nat.le_refl _))
def iEnumS (K : PySem.W.Frag) (ta : TA) : TI := fun σ H R => ta σ H fun vs H1 => ∃ a xs b, vs = [.ref a] ∧ SqB b K H1 a xs ∧ R (IteB b K a) H1
theorem pi_enumS {e : Expr} {ta : TA} {p pos tpos : Pos} {elts : List Expr} {kk : Nat} (hg : Gl X "enumerate") (hm : X.mg "enumerate" = none) (ha : PA X [e] ta) (hs : starEach [e] X.env = [(false, eval e X.env)] := by rfl) :
    PI X (.Tuple elts kk tpos) (.Call (.Name "enumerate" p) [e] [] pos) (iEnumS X.K ta) := by
  refine ⟨fun pins s σ H R I h => ?_⟩
  refine Call_ (ld_blt I hg hm boot_enumerate (PyProof.Rows.callWith_type1 (thn (ha.run pos pins s σ H _ I h) fun us s1 ⟨vs, H1, I1, r1, q1⟩ => ?_) hs rfl))
  obtain ⟨a, xs, b, ex, hq, q⟩ := q1
  subst ex
  cases r1 with
  | cons r rr =>
    cases rr
    cases r
    cases b
    · obtain ⟨its, rv, p', hz⟩ := I1.tuple hq
      have hal : a < s1.heap.objs.size := by obtain ⟨_, q, _⟩ := p'; exact Heap.lt_size q
      refine EnT.call_enumerate_tuple p' fun h' he hit hsz hk => wpAny_pyIter_enum he ?_
      have I2 : Inv X pins σ H1 { s1 with heap := h' } := I1.kept (t' := s1.toks) hk
      refine ⟨s1.heap.objs.size + 1, [s1.heap.objs.size + 1, s1.heap.objs.size], _, _, H1, rfl, I2, EnT.turn_enumT a (s1.heap.objs.size + 1) s1.heap.objs.size, ⟨⟨.none, he⟩, hit, Nat.succ_ne_self _, Nat.ne_of_lt hal, Nat.ne_of_gt (Nat.lt_succ_of_lt hal)⟩, fun b hb => ?_, q⟩
      have e' : b = s1.heap.objs.size + 1 ∨ b = s1.heap.objs.size := by simpa using hb
      have hle : s1.heap.objs.size ≤ b := by
        rcases e' with z | z
        · rw [z]; exact Nat.le_add_right _ _
        · rw [z]; exact Nat.le_refl _
      exact I1.fpOk hle (I1.hok.fresh hle)
    · obtain ⟨its, rv, p', hz⟩ := I1.list hq
      refine call_enumerate_list p'.isList fun h' he hit hsz hk => wpAny_pyIter_enum he ?_
      have I2 : Inv X pins σ H1 { s1 with heap := h' } := I1.kept (t' := s1.toks) hk
      refine ⟨s1.heap.objs.size + 1, [s1.heap.objs.size + 1, s1.heap.objs.size], _, _, H1, rfl, I2, turn_enum a (s1.heap.objs.size + 1) s1.heap.objs.size, ⟨⟨.none, he⟩, hit, Nat.succ_ne_self _⟩, fun b hb => ?_, q⟩
      have e' : b = s1.heap.objs.size + 1 ∨ b = s1.heap.objs.size := by simpa using hb
      have hle : s1.heap.objs.size ≤ b := by
        rcases e' with z | z
        · rw [z]; exact Nat.le_add_right _ _
        · rw [z]; exact Nat.le_refl _
      exact I1.fpOk hle (I1.hok.fresh hle)
/-- xs[i] of a list or a tuple -/
def rIxB (K : PySem.W.Frag) : R2 := fun x y H Q => ∃ p xs i v b, x = .ref p ∧ y = .int i ∧ SqB b K H p xs ∧ atI xs i = some v ∧ Q v H
theorem ix_rowB : IxR X (rIxB X.K) := by
  intro value slice pins s σ H x y v u Q I rx ry h hs
  obtain ⟨p, xs, i, z, b, rfl, rfl, hq, ha, q⟩ := h
  refine ix_seq value slice pins s σ H _ _ v u Q I rx ry ?_ hs
  cases b
  · exact .inr (.inl ⟨p, xs, i, z, rfl, rfl, hq, ha, q⟩)
  · exact .inl ⟨p, xs, i, z, rfl, rfl, hq, ha, q⟩
end
end My

set_option Elab.async false
set_option linter.all false
set_option maxRecDepth 100000
set_option maxHeartbeats 4000000
namespace My
open PySem PySem.Spec PyProof.Rows L2
section
variable {X : Cx}
/-- xs[i] of a list, by the item's own rule (for xs[i] op= e) -/
def rGetL (K : PySem.W.Frag) : V → V → Hp → VK → Prop := fun x y H Q => ∃ p xs v, ∃ j : Nat, x = .ref p ∧ y = .int (j : Int) ∧ SqL K H p xs ∧ xs[j]? = some v ∧ Q v H
theorem get_list : PGet X (rGetL X.K) := by
  intro pins s σ H x y v u Q I rx ry h
  obtain ⟨p, xs, z, j, rfl, rfl, hq, he, q⟩ := h
  cases rx
  obtain ⟨t, rfl⟩ := ry
  obtain ⟨its, r, pl, hz⟩ := I.list hq
  obtain ⟨w, ew, rw'⟩ := r.get he
  have hl := r.length
  have hn := line63
  have hj : j < xs.length := (List.getElem?_eq_some_iff.mp he).1
  exact wpAny_getItem_list pl.isList (by omega) (by omega) (by simpa using ew) ⟨z, H, I, rw', q⟩
end
end My

set_option Elab.async false
set_option linter.all false
set_option maxRecDepth 100000
set_option maxHeartbeats 4000000
/-! ### written tuples of ints, dicts of the module from ints to objects -/
namespace My
open PySem PySem.Spec PyProof.Rows L2
def intsB : List Value → List Int → Bool
  | [], [] => true
  | .int i _ :: vs, j :: xs => (i == j) && intsB vs xs
  | _, _ => false
def tupB (K : PySem.W.Frag) (a : Addr) (xs : List Int) : Bool :=
  match K.lookup a with
  | some ⟨.type s, none, .seq its _, _⟩ => s == "tuple" && Nat.ble its.size 1000 && intsB its.toList xs
  | _ => false
theorem intsB_ok : ∀ {vs : List Value} {xs : List Int}, intsB vs xs = true → Vals (xs.map V.int) vs
  | [], [], _ => .nil
  | .int i t :: vs, j :: xs, h => by
    have h' : ((i == j) && intsB vs xs) = true := h
    rw [Bool.and_eq_true] at h'
    have e : i = j := by simpa using h'.1
    subst e
    exact .cons ⟨t, rfl⟩ (intsB_ok h'.2)
theorem tupB_ok {K : PySem.W.Frag} {a : Addr} {xs : List Int} {H : Hp} (h : tupB K a xs = true) : SqT K H a (xs.map V.int) := by
  unfold tupB at h
  split at h
  · next s its n _ e =>
    rw [Bool.and_eq_true, Bool.and_eq_true] at h
    have es : s = "tuple" := by simpa using h.1.1
    subst es
    exact .inr ⟨_, its, n, e, rfl, rfl, Nat.le_trans (Nat.le_of_ble_eq_true h.1.2) (by decide), intsB_ok h.2⟩
  · cases h
theorem tupB_ty {K : PySem.W.Frag} {a : Addr} {xs : List Int} (h : tupB K a xs = true) : ∃ o, K.lookup a = some o ∧ o.cls = .type "tuple" ∧ o.dict = none := by
  unfold tupB at h
  split at h
  · next s its n _ e =>
    rw [Bool.and_eq_true, Bool.and_eq_true] at h
    have es : s = "tuple" := by simpa using h.1.1
    subst es
    exact ⟨_, e, rfl, rfl⟩
  · cases h
inductive EntR : List DictEntry → List (Int × Addr) → Prop where
  | nil : EntR [] []
  | cons {k : Int} {v : Addr} {t : Tok} {es : List DictEntry} {kvs : List (Int × Addr)} (h : EntR es kvs) (hk : hashInt k = k := by decide +kernel) : EntR (⟨k, .int k t, .ref v⟩ :: es) ((k, v) :: kvs)
def KRef (K : PySem.W.Frag) (d : Addr) (kvs : List (Int × Addr)) : Prop :=
  ∃ (es : Array DictEntry) (n : Nat), K.lookup d = some ⟨.type "dict", none, .dict es n, #[]⟩ ∧ EntR es.toList kvs ∧ (d == sysModules) = false
theorem EntR.all {es : List DictEntry} {kvs : List (Int × Addr)} (h : EntR es kvs) : ∀ e ∈ es, ∃ k t, e.key = .int k t ∧ e.hash = hashInt k := by
  induction h with
  | nil => intro e he; cases he
  | cons h hk ih =>
    intro e he
    cases he with
    | head => exact ⟨_, _, rfl, hk.symm⟩
    | tail _ m => exact ih e m
def getA (k : Int) : List (Int × Addr) → Option Addr
  | [] => none
  | (k', v) :: r => if k' = k then some v else getA k r
theorem EntR.find {es : List DictEntry} {kvs : List (Int × Addr)} (h : EntR es kvs) (k : Int) :
    (getA k kvs = none → findBy Value.isInt es.toArray k = none) ∧ (∀ v, getA k kvs = some v → findBy Value.isInt es.toArray k = some (.ref v)) := by
  unfold findBy
  rw [List.find?_toArray]
  induction h with
  | nil => exact ⟨fun _ => rfl, fun v z => by cases z⟩
  | @cons k' v t es kvs h hk ih =>
    rw [List.find?_cons]
    by_cases e : k' = k
    · have q : Value.isInt k (Value.int k' t) = true := by show (k' == k) = true; simp [e]
      simp only [q]
      refine ⟨fun z => ?_, fun v' z => ?_⟩
      · unfold getA at z; rw [if_pos e] at z; cases z
      · unfold getA at z; rw [if_pos e] at z; cases z; rfl
    · have q : Value.isInt k (Value.int k' t) = false := by show (k' == k) = false; simp [e]
      simp only [q]
      unfold getA
      rw [if_neg e]
      exact ih
section
variable {X : Cx} {d : Addr} {kvs : List (Int × Addr)}
theorem mapInt_R {prog : Program} {w : World} {K : PySem.W.Frag} {h : Heap} {es : Array DictEntry} {n : Nat} (X : K.In h) (hl : K.lookup d = some ⟨.type "dict", none, .dict es n, #[]⟩) (hk : EntR es.toList kvs) :
    h.MapOf (intKind prog w) d (fun k => findBy Value.isInt es k) :=
  ⟨_, es, n, X _ _ hl, ⟨rfl, rfl, rfl⟩, rfl, fun e he => by
    obtain ⟨x, t, e1, e2⟩ := hk.all e (Array.mem_toList_iff.mpr he)
    exact ⟨x, by rw [e1]; exact intKind_is prog w x t, e2⟩, fun _ => rfl⟩
/-- d[k] -/
def rKR (d : Addr) (kvs : List (Int × Addr)) : R2 := fun x y H Q => ∃ k v, x = .ref d ∧ y = .int k ∧ getA k kvs = some v ∧ Q (.ref v) H
theorem ix_kref (D : KRef X.K d kvs) : IxR X (rKR d kvs) := by
  intro value slice pins s σ H x y v u Q I rx ry h hs
  obtain ⟨k, r, rfl, rfl, e, q⟩ := h
  obtain ⟨es, n, hl, hk, hd⟩ := D
  obtain rfl : v = Value.ref d := rx
  obtain ⟨t, rfl⟩ := ry
  have hm := mapInt_R (prog := X.prog) (w := X.w) I.kIn hl hk
  have eu := (hk.find k).2 r e
  exact tail_any hm.typeIs slot_dict_getitem.lookup (wpAny_getItem_of (intKind_is X.prog X.w k t) hm eu ⟨.ref r, H, I.tok _, rfl, q⟩) hs
end
end My

set_option Elab.async false
set_option linter.all false
set_option maxRecDepth 100000
set_option maxHeartbeats 4000000
/-! ### the program's tables of powers and exponents -/
namespace My
open PySem PySem.Spec PyProof.Rows L2
def E4 : List Int := [0, 0, 1, 12, 2, 9, 13, 7, 3, 4, 10, 5, 14, 11, 8, 6]
def E8 : List Int := [0, 0, 1, 231, 2, 207, 232, 59, 3, 35, 208, 154, 233, 20, 60, 183, 4, 159, 36, 66, 209, 118, 155, 251, 234, 245, 21, 11, 61, 130, 184, 146, 5, 122, 160, 79, 37, 113, 67, 106, 210, 224, 119, 221, 156, 242, 252, 32, 235, 213, 246, 135, 22, 42, 12, 140, 62, 227, 131, 75, 185, 191, 147, 94, 6, 70, 123, 195, 161, 53, 80, 167, 38, 109, 114, 203, 68, 51, 107, 49, 211, 40, 225, 189, 120, 111, 222, 240, 157, 116, 243, 128, 253, 205, 33, 18, 236, 163, 214, 98, 247, 55, 136, 102, 23, 82, 43, 177, 13, 169, 141, 89, 63, 8, 228, 151, 132, 72, 76, 218, 186, 125, 192, 200, 148, 197, 95, 174, 7, 150, 71, 217, 124, 199, 196, 173, 162, 97, 54, 101, 81, 176, 168, 88, 39, 188, 110, 239, 115, 127, 204, 17, 69, 194, 52, 166, 108, 202, 50, 48, 212, 134, 41, 139, 226, 74, 190, 93, 121, 78, 112, 105, 223, 220, 241, 31, 158, 65, 117, 250, 244, 10, 129, 145, 254, 230, 206, 58, 34, 153, 19, 182, 237, 15, 164, 46, 215, 171, 99, 86, 248, 143, 56, 180, 137, 91, 103, 29, 24, 25, 83, 26, 44, 84, 178, 27, 14, 45, 170, 85, 142, 179, 90, 28, 64, 249, 9, 144, 229, 57, 152, 181, 133, 138, 73, 92, 77, 104, 219, 30, 187, 238, 126, 16, 193, 165, 201, 47, 149, 216, 198, 172, 96, 100, 175, 87]
def P4 : List Int := [1, 2, 4, 8, 9, 11, 15, 7, 14, 5, 10, 13, 3, 6, 12]
def P8 : List Int := [1, 2, 4, 8, 16, 32, 64, 128, 113, 226, 181, 27, 54, 108, 216, 193, 243, 151, 95, 190, 13, 26, 52, 104, 208, 209, 211, 215, 223, 207, 239, 175, 47, 94, 188, 9, 18, 36, 72, 144, 81, 162, 53, 106, 212, 217, 195, 247, 159, 79, 158, 77, 154, 69, 138, 101, 202, 229, 187, 7, 14, 28, 56, 112, 224, 177, 19, 38, 76, 152, 65, 130, 117, 234, 165, 59, 118, 236, 169, 35, 70, 140, 105, 210, 213, 219, 199, 255, 143, 111, 222, 205, 235, 167, 63, 126, 252, 137, 99, 198, 253, 139, 103, 206, 237, 171, 39, 78, 156, 73, 146, 85, 170, 37, 74, 148, 89, 178, 21, 42, 84, 168, 33, 66, 132, 121, 242, 149, 91, 182, 29, 58, 116, 232, 161, 51, 102, 204, 233, 163, 55, 110, 220, 201, 227, 183, 31, 62, 124, 248, 129, 115, 230, 189, 11, 22, 44, 88, 176, 17, 34, 68, 136, 97, 194, 245, 155, 71, 142, 109, 218, 197, 251, 135, 127, 254, 141, 107, 214, 221, 203, 231, 191, 15, 30, 60, 120, 240, 145, 83, 166, 61, 122, 244, 153, 67, 134, 125, 250, 133, 123, 246, 157, 75, 150, 93, 186, 5, 10, 20, 40, 80, 160, 49, 98, 196, 249, 131, 119, 238, 173, 43, 86, 172, 41, 82, 164, 57, 114, 228, 185, 3, 6, 12, 24, 48, 96, 192, 241, 147, 87, 174, 45, 90, 180, 25, 50, 100, 200, 225, 179, 23, 46, 92, 184]
def tabE (b : Nat) : List Int := cond (Nat.beq b 4) E4 E8
def tabP (b : Nat) : List Int := cond (Nat.beq b 4) P4 P8
theorem lgpw' {b i : Nat} (hb : Wd b) (h : i < turn b) : lg b (pw b i) = i := by
  have q : ((List.range (turn b)).all fun i => Nat.beq (lg b (pw b i)) i) = true := by rcases hb with rfl | rfl <;> decide +kernel
  exact Nat.eq_of_beq_eq_true (List.all_eq_true.mp q i (List.mem_range.mpr h))
def goodE (b : Nat) (x : Nat) : Bool := match (tabE b)[x]? with
  | some (Int.ofNat e) => Nat.beq x 0 || (Nat.blt e (turn b) && Nat.beq (pw b e) x)
  | _ => false
theorem goodE_all {b : Nat} (hb : Wd b) : ((List.range (span b)).all (goodE b)) = true := by rcases hb with rfl | rfl <;> decide +kernel
theorem tabE_at {b x : Nat} (hb : Wd b) (hx : x < span b) (h0 : x ≠ 0) : (tabE b)[x]? = some (lg b x : Int) := by
  have h := List.all_eq_true.mp (goodE_all hb) x (List.mem_range.mpr hx)
  unfold goodE at h
  split at h
  · next e he =>
    rcases (Bool.or_eq_true _ _).mp h with z | z
    · exact absurd (Nat.eq_of_beq_eq_true z) h0
    · rw [Bool.and_eq_true] at z
      have h1 : e < turn b := by
        have := z.1
        rw [Nat.blt_eq] at this
        exact this
      have h2 := Nat.eq_of_beq_eq_true z.2
      rw [he, ← h2, lgpw' hb h1]
      rfl
  · cases h
theorem tabE_len {b : Nat} (hb : Wd b) : (tabE b).length = span b := by rcases hb with rfl | rfl <;> decide +kernel
theorem tabP_is {b : Nat} (hb : Wd b) : tabP b = (pws b).map (fun n : Nat => (n : Int)) := by rcases hb with rfl | rfl <;> decide +kernel
theorem tabP_len {b : Nat} (hb : Wd b) : (tabP b).length = turn b := by rw [tabP_is hb, List.length_map, pws_len]
theorem tabP_at {b i : Nat} (hb : Wd b) (h : i < turn b) : (tabP b)[i]? = some (pw b i : Int) := by
  rw [tabP_is hb, List.getElem?_map, pws_at h]
  rfl
end My

set_option Elab.async false
set_option linter.all false
set_option maxRecDepth 100000
set_option maxHeartbeats 4000000
/-! ### polynomials over the field -/
namespace My
theorem span_eq' {b : Nat} (hb : Wd b) : span b = turn b + 1 := by rcases hb with rfl | rfl <;> rfl
theorem turn_pos {b : Nat} (hb : Wd b) : 0 < turn b := by rcases hb with rfl | rfl <;> decide
/-- the quotient: the word whose product with y is x -/
def quo (b x y : Nat) : Nat := mul b x (pw b (lg b y * (turn b - 1)))
theorem quo_mul {b x y : Nat} (hb : Wd b) (hx : x < span b) (hy : y < span b) (h1 : y ≠ 0) : quo b (mul b x y) y = x := by
  unfold quo
  by_cases h0 : x = 0
  · subst h0
    have e : mul b 0 y = 0 := zero_mulF hb _ _
    rw [e]
    exact zero_mulF hb _ _
  · have ex := pw_lg hb hx h0
    have ey := pw_lg hb hy h1
    have e : mul b x y = pw b (lg b x + lg b y) := by rw [← pw_mul hb, ex, ey]
    rw [e, pw_mul hb]
    have h := pw_add_mul hb (lg b x) (lg b y)
    have e2 : lg b x + lg b y + lg b y * (turn b - 1) = lg b x + lg b y * turn b := by
      have ht := turn_pos hb
      have : lg b y * turn b = lg b y * (turn b - 1) + lg b y := by
        rw [← Nat.mul_succ]
        rw [show (turn b - 1).succ = turn b by omega]
      omega
    rw [e2, h, ex]
theorem mul_quo {b x y : Nat} (hb : Wd b) (hx : x < span b) (hy : y < span b) (h1 : y ≠ 0) : mul b (quo b x y) y = x := by
  unfold quo
  by_cases h0 : x = 0
  · subst h0
    have e : mul b 0 (pw b (lg b y * (turn b - 1))) = 0 := zero_mulF hb _ _
    rw [e]
    exact zero_mulF hb _ _
  · have ex := pw_lg hb hx h0
    have ey := pw_lg hb hy h1
    have e : mul b x (pw b (lg b y * (turn b - 1))) = pw b (lg b x + lg b y * (turn b - 1)) := by rw [← pw_mul hb, ex]
    have e3 : mul b (pw b (lg b x + lg b y * (turn b - 1))) y = pw b (lg b x + lg b y * (turn b - 1) + lg b y) := by
      rw [← pw_mul hb _ (lg b x + lg b y * (turn b - 1)), ey]
    rw [e, e3]
    have h := pw_add_mul hb (lg b x) (lg b y)
    have e2 : lg b x + lg b y * (turn b - 1) + lg b y = lg b x + lg b y * turn b := by
      have ht := turn_pos hb
      have : lg b y * turn b = lg b y * (turn b - 1) + lg b y := by
        rw [← Nat.mul_succ]
        rw [show (turn b - 1).succ = turn b by omega]
      omega
    rw [e2, h, ex]
theorem mul_zero {b x : Nat} : mul b x 0 = 0 := mulF_zero 0 _ _
theorem zero_mul {b y : Nat} (hb : Wd b) : mul b 0 y = 0 := zero_mulF hb _ _
theorem span_pos {b : Nat} (hb : Wd b) : 1 < span b := by rcases hb with rfl | rfl <;> decide
theorem mul_one {b x : Nat} (hb : Wd b) (hx : x < span b) : mul b x 1 = x := by
  rw [mul_comm hb hx (span_pos hb)]
  exact one_mul hb hx
theorem mul_xor_l {b x z y : Nat} (hb : Wd b) (hx : x < span b) (hz : z < span b) : mul b (x ^^^ z) y = mul b x y ^^^ mul b z y := mulF_lin hb _ _ _ _ hx hz
theorem mul_xor_r {b x z y : Nat} (hb : Wd b) (hx : x < span b) (hz : z < span b) (hy : y < span b) : mul b y (x ^^^ z) = mul b y x ^^^ mul b y z := by
  rw [mul_comm hb hy (xor_lt hb hx hz), mul_xor_l hb hx hz, mul_comm hb hx hy, mul_comm hb hz hy]
theorem mul_assoc {b x y z : Nat} (hb : Wd b) (hx : x < span b) (hy : y < span b) (hz : z < span b) : mul b (mul b x y) z = mul b x (mul b y z) := by
  by_cases h1 : x = 0
  · subst h1
    rw [zero_mul hb, zero_mul hb, zero_mul hb]
  · by_cases h2 : y = 0
    · subst h2
      rw [mul_zero, zero_mul hb, mul_zero]
    · by_cases h3 : z = 0
      · subst h3
        rw [mul_zero, mul_zero, mul_zero]
      · rw [← pw_lg hb hx h1, ← pw_lg hb hy h2, ← pw_lg hb hz h3, pw_mul hb, pw_mul hb, pw_mul hb, pw_mul hb, Nat.add_assoc]
/-- a row of words of so many bits -/
def Ws (b : Nat) (ws : List Nat) : Prop := ∀ w ∈ ws, w < span b
def evF (b t : Nat) (acc : Nat) (ws : List Nat) : Nat := ws.foldl (fun acc w => mul b acc t ^^^ w) acc
def evl (b t : Nat) (ws : List Nat) : Nat := evF b t 0 ws
def powT (b t : Nat) : Nat → Nat
  | 0 => 1
  | n + 1 => mul b (powT b t n) t
theorem powT_lt {b t : Nat} (hb : Wd b) : ∀ n, powT b t n < span b
  | 0 => span_pos hb
  | n + 1 => mul_lt hb (powT_lt hb n)
theorem evF_lt {b t : Nat} (hb : Wd b) : ∀ (ws : List Nat) (acc : Nat), acc < span b → Ws b ws → evF b t acc ws < span b
  | [], _, h, _ => h
  | w :: r, acc, h, hw => evF_lt hb r _ (xor_lt hb (mul_lt hb h) (hw w (List.mem_cons_self ..))) fun x hx => hw x (List.mem_cons_of_mem _ hx)
theorem evl_lt {b t : Nat} {ws : List Nat} (hb : Wd b) (h : Ws b ws) : evl b t ws < span b := evF_lt hb ws 0 (by have := span_pos hb; omega) h
theorem evF_xor {b t : Nat} (hb : Wd b) (ht : t < span b) : ∀ (ws : List Nat) (acc : Nat), acc < span b → Ws b ws → evF b t acc ws = mul b acc (powT b t ws.length) ^^^ evl b t ws
  | [], acc, h, _ => by
    show acc = mul b acc 1 ^^^ 0
    rw [mul_one hb h, Nat.xor_zero]
  | w :: r, acc, h, hw => by
    have hr : Ws b r := fun x hx => hw x (List.mem_cons_of_mem _ hx)
    have hw0 := hw w (List.mem_cons_self ..)
    have hz : (0 : Nat) < span b := by have := span_pos hb; omega
    show evF b t (mul b acc t ^^^ w) r = mul b acc (mul b (powT b t r.length) t) ^^^ evF b t (mul b 0 t ^^^ w) r
    rw [evF_xor hb ht r _ (xor_lt hb (mul_lt hb h) hw0) hr, evF_xor hb ht r _ (xor_lt hb (mul_lt hb hz) hw0) hr, zero_mul hb, Nat.zero_xor, mul_xor_l hb (mul_lt hb h) hw0,
      mul_assoc hb h ht (powT_lt hb _), mul_comm hb ht (powT_lt hb _), Nat.xor_assoc]
theorem evl_cons {b t w : Nat} {r : List Nat} (hb : Wd b) (ht : t < span b) (hw : w < span b) (hr : Ws b r) : evl b t (w :: r) = mul b w (powT b t r.length) ^^^ evl b t r := by
  show evF b t (mul b 0 t ^^^ w) r = _
  rw [zero_mul hb, Nat.zero_xor]
  exact evF_xor hb ht r w hw hr
theorem evl_snoc {b t w : Nat} {r : List Nat} : evl b t (r ++ [w]) = mul b (evl b t r) t ^^^ w := by
  show (r ++ [w]).foldl _ 0 = _
  rw [List.foldl_append]
  rfl
theorem evl_zeros {b t : Nat} (hb : Wd b) : ∀ n, evl b t (List.replicate n 0) = 0
  | 0 => rfl
  | n + 1 => by
    rw [List.replicate_succ', evl_snoc, evl_zeros hb n, zero_mul hb]
    rfl
theorem evl_pad {b t : Nat} (hb : Wd b) (n : Nat) (ws : List Nat) : evl b t (List.replicate n 0 ++ ws) = evl b t ws := by
  show (List.replicate n 0 ++ ws).foldl _ 0 = _
  rw [List.foldl_append]
  have h := evl_zeros (t := t) hb n
  unfold evl evF at h
  rw [h]
  rfl
/-- sums, word by word, by the places below n -/
def xsum (n : Nat) (f : Nat → Nat) : Nat := (List.range n).foldl (fun acc i => acc ^^^ f i) 0
theorem xsum_succ (n : Nat) (f : Nat → Nat) : xsum (n + 1) f = xsum n f ^^^ f n := by
  unfold xsum
  rw [List.range_succ, List.foldl_append]
  rfl
theorem xsum_congr {n : Nat} {f g : Nat → Nat} (h : ∀ i, i < n → f i = g i) : xsum n f = xsum n g := by
  induction n with
  | zero => rfl
  | succ n ih => rw [xsum_succ, xsum_succ, ih fun i hi => h i (by omega), h n (by omega)]
theorem xsum_lt {b n : Nat} {f : Nat → Nat} (hb : Wd b) (h : ∀ i, i < n → f i < span b) : xsum n f < span b := by
  induction n with
  | zero => have := span_pos hb; show 0 < span b; omega
  | succ n ih =>
    rw [xsum_succ]
    exact xor_lt hb (ih fun i hi => h i (by omega)) (h n (by omega))
/-- the i-th word times the (k - i)-th word of the other -/
def term (b : Nat) (f g : Nat → Nat) (k i : Nat) : Nat := if i ≤ k then mul b (f i) (g (k - i)) else 0
def gd (ws : List Nat) (i : Nat) : Nat := ws.getD i 0
theorem gd_lt {b : Nat} {ws : List Nat} (hb : Wd b) (h : Ws b ws) (i : Nat) : gd ws i < span b := by
  unfold gd
  by_cases hi : i < ws.length
  · rw [List.getD_eq_getElem?_getD, List.getElem?_eq_getElem hi]
    exact h _ (List.getElem_mem hi)
  · rw [List.getD_eq_getElem?_getD, List.getElem?_eq_none (by omega)]
    have := span_pos hb
    show 0 < span b
    omega
theorem gd_out {ws : List Nat} {i : Nat} (h : ws.length ≤ i) : gd ws i = 0 := by
  unfold gd
  rw [List.getD_eq_getElem?_getD, List.getElem?_eq_none h]
  rfl
theorem gd_in {ws : List Nat} {i : Nat} (h : i < ws.length) : ws[i]? = some (gd ws i) := by
  unfold gd
  rw [List.getD_eq_getElem?_getD, List.getElem?_eq_getElem h]
  rfl
theorem gd_list (ws : List Nat) : (List.range ws.length).map (gd ws) = ws := by
  refine List.ext_getElem? fun i => ?_
  by_cases h : i < ws.length
  · rw [gd_in h]
    simp [h]
  · rw [List.getElem?_eq_none (by simp; omega), List.getElem?_eq_none (by omega)]
def cf (b : Nat) (xs ys : List Nat) (k : Nat) : Nat := xsum xs.length (term b (gd xs) (gd ys) k)
/-- the product -/
def conv (b : Nat) (xs ys : List Nat) : List Nat := if xs = [] ∨ ys = [] then [] else (List.range (xs.length + ys.length - 1)).map (cf b xs ys)
theorem term_lt {b : Nat} {f g : Nat → Nat} {k i : Nat} (hb : Wd b) (h : f i < span b) : term b f g k i < span b := by
  unfold term
  split
  · exact mul_lt hb h
  · have := span_pos hb; omega
theorem cf_lt {b k : Nat} {xs ys : List Nat} (hb : Wd b) (hx : Ws b xs) : cf b xs ys k < span b := xsum_lt hb fun i _ => term_lt hb (gd_lt hb hx i)
theorem conv_ws {b : Nat} {xs ys : List Nat} (hb : Wd b) (hx : Ws b xs) : Ws b (conv b xs ys) := by
  intro w hw
  unfold conv at hw
  split at hw
  · cases hw
  · obtain ⟨k, _, rfl⟩ := List.mem_map.mp hw
    exact cf_lt hb hx
/-- sums of two rows of one length -/
def zx (xs ys : List Nat) : List Nat := (List.range xs.length).map fun k => gd xs k ^^^ gd ys k
theorem evl_fn {b t : Nat} (hb : Wd b) (ht : t < span b) (f g : Nat → Nat) (hf : ∀ i, f i < span b) (hg : ∀ i, g i < span b) : ∀ n, evl b t ((List.range n).map fun k => f k ^^^ g k) = evl b t ((List.range n).map f) ^^^ evl b t ((List.range n).map g)
  | 0 => by
    show (0 : Nat) = 0 ^^^ 0
    rfl
  | n + 1 => by
    have w1 : Ws b ((List.range n).map f) := fun w hw => by obtain ⟨k, _, rfl⟩ := List.mem_map.mp hw; exact hf k
    have w2 : Ws b ((List.range n).map g) := fun w hw => by obtain ⟨k, _, rfl⟩ := List.mem_map.mp hw; exact hg k
    rw [List.range_succ, List.map_append, List.map_append, List.map_append]
    show evl b t (_ ++ [f n ^^^ g n]) = evl b t (_ ++ [_]) ^^^ evl b t (_ ++ [_])
    rw [evl_snoc, evl_snoc, evl_snoc, evl_fn hb ht f g hf hg n, mul_xor_l hb (evl_lt hb w1) (evl_lt hb w2)]
    generalize mul b (evl b t (List.map f (List.range n))) t = u
    generalize mul b (evl b t (List.map g (List.range n))) t = v
    generalize f n = c
    generalize g n = d
    ac_rfl
theorem evl_scale {b t x : Nat} (hb : Wd b) (ht : t < span b) (hx : x < span b) (g : Nat → Nat) (hg : ∀ i, g i < span b) : ∀ n, evl b t ((List.range n).map fun k => mul b x (g k)) = mul b x (evl b t ((List.range n).map g))
  | 0 => mul_zero.symm
  | n + 1 => by
    have w2 : Ws b ((List.range n).map g) := fun w hw => by obtain ⟨k, _, rfl⟩ := List.mem_map.mp hw; exact hg k
    rw [List.range_succ, List.map_append, List.map_append]
    show evl b t (_ ++ [_]) = mul b x (evl b t (_ ++ [_]))
    rw [evl_snoc, evl_snoc, evl_scale hb ht hx g hg n, mul_xor_r hb (mul_lt hb (evl_lt hb w2)) (hg n) hx, mul_assoc hb hx (evl_lt hb w2) ht]
/-- the value of a product -/
theorem evl_sum {b t : Nat} (hb : Wd b) (ht : t < span b) (f g : Nat → Nat) (hf : ∀ i, f i < span b) (hg : ∀ i, g i < span b) (m : Nat) (hm : 0 < m) (hout : ∀ i, m ≤ i → g i = 0) :
    ∀ n, evl b t ((List.range (n + m - 1)).map fun k => xsum n (term b f g k)) = mul b (evl b t ((List.range n).map f)) (evl b t ((List.range m).map g))
  | 0 => by
    show evl b t ((List.range (0 + m - 1)).map fun k => 0) = mul b 0 _
    rw [zero_mul hb]
    have e : (List.range (0 + m - 1)).map (fun _ => 0) = List.replicate (0 + m - 1) 0 := by
      rw [List.map_const', List.length_range]
    rw [e, evl_zeros hb]
  | n + 1 => by
    have ih := evl_sum hb ht f g hf hg m hm hout n
    have w1 : Ws b ((List.range n).map f) := fun w hw => by obtain ⟨k, _, rfl⟩ := List.mem_map.mp hw; exact hf k
    have w2 : Ws b ((List.range m).map g) := fun w hw => by obtain ⟨k, _, rfl⟩ := List.mem_map.mp hw; exact hg k
    have e1 : (List.range (n + 1 + m - 1)).map (fun k => xsum (n + 1) (term b f g k)) = (List.range (n + 1 + m - 1)).map fun k => xsum n (term b f g k) ^^^ term b f g k n := by
      refine List.map_congr_left fun k _ => xsum_succ _ _
    have t1 : ∀ k, xsum n (term b f g k) < span b := fun k => xsum_lt hb fun i _ => term_lt hb (hf i)
    rw [e1, evl_fn hb ht _ _ t1 (fun k => term_lt hb (hf n))]
    have e2 : evl b t ((List.range (n + 1 + m - 1)).map fun k => xsum n (term b f g k)) = mul b (mul b (evl b t ((List.range n).map f)) (evl b t ((List.range m).map g))) t := by
      rw [show n + 1 + m - 1 = (n + m - 1) + 1 by omega, List.range_succ, List.map_append]
      show evl b t (_ ++ [_]) = _
      rw [evl_snoc, ih]
      show _ ^^^ xsum n (term b f g (n + m - 1)) = _
      have z : xsum n (term b f g (n + m - 1)) = 0 := by
        have : xsum n (term b f g (n + m - 1)) = xsum n fun _ => 0 := by
          refine xsum_congr fun i hi => ?_
          unfold term
          rw [if_pos (by omega), hout _ (by omega), mul_zero]
        rw [this]
        clear this ih e1 w1 t1
        induction n with
        | zero => rfl
        | succ n ih => rw [xsum_succ, ih]; rfl
      rw [z, Nat.xor_zero]
    have e3 : evl b t ((List.range (n + 1 + m - 1)).map fun k => term b f g k n) = mul b (f n) (evl b t ((List.range m).map g)) := by
      rw [show n + 1 + m - 1 = n + m by omega, List.range_add, List.map_append]
      have z : (List.range n).map (fun k => term b f g k n) = List.replicate n 0 := by
        refine List.ext_getElem? fun i => ?_
        by_cases h : i < n
        · simp [h, term]
          omega
        · rw [List.getElem?_eq_none (by simp; omega), List.getElem?_eq_none (by simp; omega)]
      rw [z, evl_pad hb, List.map_map]
      have z2 : (List.range m).map ((fun k => term b f g k n) ∘ (n + ·)) = (List.range m).map fun k => mul b (f n) (g k) := by
        refine List.map_congr_left fun k _ => ?_
        show term b f g (n + k) n = _
        unfold term
        rw [if_pos (by omega), show n + k - n = k by omega]
      rw [z2, evl_scale hb ht (hf n) g hg]
    rw [e2, e3, List.range_succ, List.map_append]
    show _ = mul b (evl b t (_ ++ [f n])) _
    rw [evl_snoc, mul_xor_l hb (mul_lt hb (evl_lt hb w1)) (hf n)]
    congr 1
    rw [mul_assoc hb (evl_lt hb w1) (evl_lt hb w2) ht, mul_comm hb (evl_lt hb w2) ht, ← mul_assoc hb (evl_lt hb w1) ht (evl_lt hb w2)]
theorem evl_conv {b t : Nat} {xs ys : List Nat} (hb : Wd b) (ht : t < span b) (hx : Ws b xs) (hy : Ws b ys) (h0 : xs ≠ []) (h1 : ys ≠ []) : evl b t (conv b xs ys) = mul b (evl b t xs) (evl b t ys) := by
  have hl : 0 < ys.length := by cases ys with | nil => exact absurd rfl h1 | cons _ _ => simp
  unfold conv
  rw [if_neg (by simp [h0, h1])]
  have h := evl_sum hb ht (gd xs) (gd ys) (gd_lt hb hx) (gd_lt hb hy) ys.length hl (fun i hi => gd_out hi) xs.length
  rw [gd_list, gd_list] at h
  exact h
/-! ### the quotient and the remainder -/
def divStep (b : Nat) (c : Nat → Nat) (m : Nat) (r : Nat → Nat) (s : Nat) : Nat → Nat := fun k => if k = s then quo b (r s) (c 0) else if s < k ∧ k < s + m then r k ^^^ mul b (quo b (r s) (c 0)) (c (k - s)) else r k
def dvN (b : Nat) (c : Nat → Nat) (m : Nat) (w : Nat → Nat) : Nat → Nat → Nat
  | 0 => w
  | s + 1 => divStep b c m (dvN b c m w s) s
theorem quo_lt' {b x y : Nat} (hb : Wd b) (hx : x < span b) : quo b x y < span b := mul_lt hb hx
theorem dvN_lt {b : Nat} {c w : Nat → Nat} {m : Nat} (hb : Wd b) (hw : ∀ k, w k < span b) : ∀ s k, dvN b c m w s k < span b
  | 0, k => hw k
  | s + 1, k => by
    show divStep b c m (dvN b c m w s) s k < span b
    unfold divStep
    have h := dvN_lt (c := c) (m := m) hb hw s
    split
    · exact quo_lt' hb (h s)
    · split
      · exact xor_lt hb (h k) (mul_lt hb (quo_lt' hb (h s)))
      · exact h k
theorem dvN_keep {b : Nat} {c w : Nat → Nat} {m : Nat} {i : Nat} : ∀ s j, i < s → dvN b c m w (s + j) i = dvN b c m w s i
  | s, 0, _ => rfl
  | s, j + 1, h => by
    show divStep b c m (dvN b c m w (s + j)) (s + j) i = _
    unfold divStep
    rw [if_neg (by omega), if_neg (by omega)]
    exact dvN_keep s j h
theorem div_spec {b : Nat} {c w : Nat → Nat} {m : Nat} (hb : Wd b) (hw : ∀ k, w k < span b) (hc : ∀ k, c k < span b) (h0 : c 0 ≠ 0) (hout : ∀ k, m ≤ k → c k = 0) :
    ∀ s k, w k = xsum s (term b (dvN b c m w s) c k) ^^^ (if k < s then 0 else dvN b c m w s k)
  | 0, k => by
    show w k = 0 ^^^ w k
    rw [Nat.zero_xor]
  | s + 1, k => by
    have ih := div_spec hb hw hc h0 hout s k
    have e1 : xsum s (term b (dvN b c m w (s + 1)) c k) = xsum s (term b (dvN b c m w s) c k) := by
      refine xsum_congr fun i hi => ?_
      unfold term
      rw [dvN_keep s 1 hi]
    rw [xsum_succ, e1]
    have hr := dvN_lt (c := c) (m := m) hb hw s
    have eq : dvN b c m w (s + 1) s = quo b (dvN b c m w s s) (c 0) := by
      show divStep b c m (dvN b c m w s) s s = _
      unfold divStep
      rw [if_pos rfl]
    by_cases h1 : k < s
    · rw [if_pos h1, Nat.xor_zero] at ih
      rw [if_pos (by omega), Nat.xor_zero, ← ih]
      unfold term
      rw [if_neg (by omega), Nat.xor_zero]
    · rw [if_neg h1] at ih
      by_cases h2 : k = s
      · subst h2
        rw [if_pos (by omega), Nat.xor_zero, ih]
        unfold term
        rw [if_pos (Nat.le_refl _), eq, Nat.sub_self, mul_quo hb (hr _) (hc 0) h0]
      · rw [if_neg (by omega), ih]
        have et : term b (dvN b c m w (s + 1)) c k s = mul b (quo b (dvN b c m w s s) (c 0)) (c (k - s)) := by
          unfold term
          rw [if_pos (by omega), eq]
        have ed : dvN b c m w (s + 1) k = dvN b c m w s k ^^^ mul b (quo b (dvN b c m w s s) (c 0)) (c (k - s)) := by
          show divStep b c m (dvN b c m w s) s k = _
          unfold divStep
          rw [if_neg h2]
          by_cases h3 : k < s + m
          · rw [if_pos ⟨by omega, h3⟩]
          · rw [if_neg (by omega), hout (k - s) (by omega), mul_zero, Nat.xor_zero]
        rw [et, ed]
        generalize xsum s (term b (dvN b c m w s) c k) = u
        generalize dvN b c m w s k = v
        generalize mul b (quo b (dvN b c m w s s) (c 0)) (c (k - s)) = z
        rw [Nat.xor_assoc, ← Nat.xor_assoc z v z, Nat.xor_comm z v, Nat.xor_assoc v z z, Nat.xor_self, Nat.xor_zero]
/-- quotient and remainder, as lists -/
def steps (ws os : List Nat) : Nat := ws.length + 1 - os.length
def quoL (b : Nat) (ws os : List Nat) : List Nat := (List.range (steps ws os)).map (dvN b (gd os) os.length (gd ws) (steps ws os))
def remL (b : Nat) (ws os : List Nat) : List Nat := (List.range (ws.length - steps ws os)).map fun j => dvN b (gd os) os.length (gd ws) (steps ws os) (steps ws os + j)
/-- what lies behind the law's sum: other * quotient and the remainder, padded -/
def pad (n : Nat) (ws : List Nat) : List Nat := List.replicate n 0 ++ ws
theorem gd_pad {n k : Nat} {ws : List Nat} : gd (pad n ws) k = if k < n then 0 else gd ws (k - n) := by
  unfold gd pad
  rw [List.getD_eq_getElem?_getD, List.getD_eq_getElem?_getD, List.getElem?_append]
  by_cases h : k < n
  · simp [h]
  · simp [h]
theorem gd_map {n k : Nat} {f : Nat → Nat} : gd ((List.range n).map f) k = if k < n then f k else 0 := by
  unfold gd
  rw [List.getD_eq_getElem?_getD]
  by_cases h : k < n
  · simp [h]
  · simp [h]
theorem div_lists {b : Nat} {ws os : List Nat} (hb : Wd b) (hw : Ws b ws) (ho : Ws b os) (h0 : gd os 0 ≠ 0) (hl : os.length ≤ ws.length) (hp : 0 < os.length) :
    (List.range ws.length).map (fun k => gd (conv b (quoL b ws os) os) k ^^^ gd (pad (steps ws os) (remL b ws os)) k) = ws := by
  have hs : 0 < steps ws os := by unfold steps; omega
  have hs2 : steps ws os + os.length - 1 = ws.length := by unfold steps; omega
  have hq : quoL b ws os ≠ [] := by
    intro z
    have := congrArg List.length z
    unfold quoL at this
    simp at this
    omega
  have hon : os ≠ [] := by intro z; rw [z] at hp; simp at hp
  have hql : (quoL b ws os).length = steps ws os := by unfold quoL; simp
  refine Eq.trans (List.map_congr_left fun k hk => ?_) (gd_list ws)
  have hk' : k < ws.length := List.mem_range.mp hk
  have spec := div_spec (c := gd os) (w := gd ws) (m := os.length) hb (gd_lt hb hw) (gd_lt hb ho) h0 (fun i hi => gd_out hi) (steps ws os) k
  refine Eq.trans ?_ spec.symm
  have e1 : gd (conv b (quoL b ws os) os) k = xsum (steps ws os) (term b (dvN b (gd os) os.length (gd ws) (steps ws os)) (gd os) k) := by
    unfold conv
    rw [if_neg (by simp [hq, hon]), gd_map, hql, if_pos (by omega)]
    unfold cf
    rw [hql]
    refine xsum_congr fun i hi => ?_
    unfold term
    have : gd (quoL b ws os) i = dvN b (gd os) os.length (gd ws) (steps ws os) i := by
      unfold quoL
      rw [gd_map, if_pos hi]
    rw [this]
  have e2 : gd (pad (steps ws os) (remL b ws os)) k = if k < steps ws os then 0 else dvN b (gd os) os.length (gd ws) (steps ws os) k := by
    rw [gd_pad]
    by_cases h : k < steps ws os
    · rw [if_pos h, if_pos h]
    · rw [if_neg h, if_neg h]
      unfold remL
      rw [gd_map, if_pos (by omega), show steps ws os + (k - steps ws os) = k by omega]
  rw [e1, e2]
end My

set_option Elab.async false
set_option linter.all false
set_option maxRecDepth 100000
set_option maxHeartbeats 4000000
/-! ### f(k = v, ..) without positional arguments -/
namespace My
open PySem PySem.Spec PyProof.Rows L2
def tCallZ (m : Nat) (sp : Sp) (gV : List V → List V) (E : XK) (tk : TA) : TE := fun σ H Q => tk σ H fun zs H2 => zs.length = m ∧ sp (gV zs) H2 Q E
section
variable {X : Cx} {CX : CXT} {k : Nat} {f : Addr} {fd : FuncData} {ps ks : List Str} {sp : Sp} {E : XK} {x : Str} {p pos : Pos} {kws : List Keyword} {tk : TA} {g : List Value → List Value} {gV : List V → List V}
theorem pe_callZ (F : FnOk X.prog X.w X.K X.mg X.base CX k f fd ps sp) (hr : Room k X.A) (hg : Gl X x) (hm : X.mg x = some (.ref f)) (hk : PySem.W.keepIn X.K (.ref f) = true) (hb : KBn X.K fd ps 0 ks (fun _ ws => g ws) (fun _ zs => gV zs)) (hx : Passes CX X E)
    (hkw : PK X kws tk) (hall : (backToKw pos (keywordEach kws X.env)).all (·.1.isSome) = true := by rfl) (hks : (backToKw pos (keywordEach kws X.env)).filterMap (·.1) = ks := by rfl)
    (hdb : (x == ("__debug__" : Str)) = false := by decide)
    (hpl : ((backTo pos (starEach [] X.env)).any (·.1) || (backToKw pos (keywordEach kws X.env)).any (·.1.isNone)) = false := by rfl) :
    PE X (.Call (.Name x p) [] kws pos) (tCallZ ks.length sp gV E tk) := by
  refine ⟨fun pins s σ H Q I h => ?_⟩
  refine wpAny_Call_Name_kw (ld_glob I hg hm ?_ hdb)
  refine PySem.W.callWith_KW0 (h₀ := X.base) I.ok.mod.kin hk hall (thn (hkw.run pos pins s σ H _ I h) fun ws s2 ⟨zs, H2, I2, rz, l2, q2⟩ => ⟨I2.kIn, ?_⟩) hpl
  rw [hks]
  exact run_fnN (us := []) (vs := []) F hr hb hx I2 .nil rz rfl l2 q2
end
theorem kb0 {K : PySem.W.Frag} {x qual : Str} {st : Stmt} {f : Addr} {fd : FuncData} {ps ks : List Str} (F : Fun K x qual st f fd) (g : {α : Type} → List α → List α)
    (hrel : ∀ {zs : List V} {ws : List Value}, Vals zs ws → Vals (g zs) (g ws))
    (h : ∀ (kV doc pm : Value) (an : Option Addr) (cdv ct : Value) (ws : List Value), ws.length = ks.length → bindArgs (PySem.W.fnOf x qual (defArgs st) (defBody st) (defScope st) .none kV doc pm an cdv ct) ⟨[], ks.zip ws⟩ = pure (ps.zip (g ws))) :
    KBn K fd ps 0 ks (fun _ ws => g ws) (fun _ zs => g zs) := by
  obtain ⟨oc, od, kV, doc, pm, an, cdv, ct, osl, rfl, lk, hcd⟩ := F.ex
  refine ⟨fun s us ws X l1 l2 => ?_, fun _ r2 => hrel r2⟩
  have e : us = [] := List.length_eq_zero_iff.mp l1
  subst e
  exact .of_eq (h kV doc pm an cdv ct ws l2)
/-- three values the other way round -/
def rev3 {α : Type} : List α → List α
  | [a, b, c] => [c, b, a]
  | l => l
theorem rev3_rel {zs : List V} {ws : List Value} (r : Vals zs ws) : Vals (rev3 zs) (rev3 ws) := by
  cases r with
  | nil => exact .nil
  | cons r1 r =>
    cases r with
    | nil => exact .cons r1 .nil
    | cons r2 r =>
      cases r with
      | nil => exact .cons r1 (.cons r2 .nil)
      | cons r3 r =>
        cases r with
        | nil => exact .cons r3 (.cons r2 (.cons r1 .nil))
        | cons r4 r => exact .cons r1 (.cons r2 (.cons r3 (.cons r4 r)))
end My

set_option Elab.async false
set_option linter.all false
set_option maxRecDepth 100000
set_option maxHeartbeats 4000000
/-! ### lists of words, compared -/
namespace My
open PySem PySem.Spec PyProof.Rows L2
theorem same_upd {H : Hp} {p : Addr} {o : HO} (h : H p = none) : Same H (upd H p o) := fun b x e => by
  rw [upd_ne (ne_of_none e h)]
  exact e
/-- a word as a value -/
def vN (n : Nat) : V := .int (n : Int)
def dI (n : Nat) : PyData := .int (n : Int)
def dN (ws : List Nat) : PyData := .list (ws.map dI)
theorem lay_all : ∀ ws : List Nat, PyData.canLayAll0 (ws.map dI) = true
  | [] => rfl
  | w :: r => by
    show (PyData.canLay0 (dI w) && PyData.canLayAll0 (r.map dI)) = true
    rw [lay_all r]
    rfl
theorem depth_all : ∀ ws : List Nat, PyData.depthAll (ws.map dI) = 0
  | [] => rfl
  | w :: r => by
    show max (PyData.depth (dI w)) (PyData.depthAll (r.map dI)) = 0
    rw [depth_all r]
    rfl
theorem dN_lay (ws : List Nat) : (dN ws).canLay0 = true := lay_all ws
theorem dN_depth (ws : List Nat) : (dN ws).depth = 1 := by
  show PyData.depthAll (ws.map dI) + 1 = 1
  rw [depth_all]
theorem dN_shaped (ws : List Nat) : SeqAt.shaped (dN ws) = true := by
  unfold SeqAt.shaped
  rw [dN_lay, dN_depth]
  rfl
theorem eqv_all : ∀ xs ys : List Nat, PyData.eqvAll (xs.map dI) (ys.map dI) = decide (xs = ys)
  | [], [] => rfl
  | [], _ :: _ => by simp [PyData.eqvAll]
  | _ :: _, [] => by simp [PyData.eqvAll]
  | x :: r, y :: t => by
    show (PyData.eqv (dI x) (dI y) && PyData.eqvAll (r.map dI) (t.map dI)) = decide (x :: r = y :: t)
    rw [eqv_all r t]
    have e : PyData.eqv (dI x) (dI y) = decide (x = y) := by
      show ((x : Int) == (y : Int)) = decide (x = y)
      by_cases h : x = y
      · subst h; simp
      · simp [h]
        omega
    rw [e]
    by_cases h : x = y
    · by_cases h2 : r = t
      · simp [h, h2]
      · simp [h, h2]
    · simp [h]
theorem dN_eqv (xs ys : List Nat) : PyData.eqv (dN xs) (dN ys) = decide (xs = ys) := eqv_all xs ys
theorem dp_all {K : PySem.W.Frag} {H : Hp} : ∀ ws : List Nat, DpAll K H (ws.map vN) (ws.map dI)
  | [] => .nil
  | w :: r => .cons (.int _) (dp_all r)
theorem dN_dp {K : PySem.W.Frag} {H : Hp} {a : Addr} {ws : List Nat} (h : SqL K H a (ws.map vN)) : Dp K H (.ref a) (dN ws) := .lst h (dp_all ws)
end My

set_option Elab.async false
set_option linter.all false
set_option maxRecDepth 100000
set_option maxHeartbeats 4000000
/-! ### slices of rows, lists (true) or tuples (false); the powers twice -/
namespace My
open PySem PySem.Spec PyProof.Rows L2
section
variable {X : Cx}
def rSlB (K : PySem.W.Frag) : V → Option Int → Option Int → Hp → VK → Prop := fun x lo hi H Q => ∃ a xs k, x = .ref a ∧ SqB k K H a xs ∧ ∀ p H', Same H H' → SqB k K H' p (cutV xs lo hi) → Q (.ref p) H'
theorem sl_rowB : SlR X (rSlB X.K) := by
  intro pins s σ H x v vl vu lo hi sl Q I rx hs pl pu h
  obtain ⟨a, xs, k, rfl, hx, q⟩ := h
  cases k
  · refine sl_tupA pins s σ H _ v vl vu lo hi sl Q I rx hs pl pu ⟨a, xs, rfl, hx, fun hw => q a H (Same.refl _) ?_, fun _ p hp => q p _ (same_upd hp) (.inl (.inl upd_same))⟩
    have e : cutV xs lo hi = xs := by
      unfold cutV
      rw [hw.1, hw.2]
      simp
    rw [e]
    exact hx
  · exact sl_list pins s σ H _ v vl vu lo hi sl Q I rx hs pl pu ⟨a, xs, rfl, hx, fun p hp => q p _ (same_upd hp) (.inl (.inl upd_same))⟩
end
theorem turn_pos' {b : Nat} (hb : Wd b) : 0 < turn b := by rcases hb with rfl | rfl <;> decide
/-- the powers, twice -/
def PP (b : Nat) : List V := (List.replicate (2 : Int).toNat ((tabP b).map V.int)).flatten
theorem PP_is (b : Nat) : PP b = (tabP b).map V.int ++ (tabP b).map V.int := by
  unfold PP
  show (List.replicate 2 _).flatten = _
  simp [List.replicate]
theorem PP_at {b i : Nat} (hb : Wd b) (h : i < 2 * turn b) : (PP b)[i]? = some (V.int (pw b i : Int)) := by
  have hl : ((tabP b).map V.int).length = turn b := by rw [List.length_map, tabP_len hb]
  rw [PP_is]
  by_cases h1 : i < turn b
  · rw [List.getElem?_append_left (by rw [hl]; exact h1), List.getElem?_map, tabP_at hb h1]
    rfl
  · rw [List.getElem?_append_right (by rw [hl]; omega), hl, List.getElem?_map, tabP_at hb (by omega)]
    have e : pw b i = pw b (i - turn b) := by
      rw [← pw_add_turn hb (i - turn b), show i - turn b + turn b = i by omega]
    rw [e]
    rfl
theorem PP_len {b : Nat} (hb : Wd b) : (PP b).length = 2 * turn b := by
  rw [PP_is, List.length_append, List.length_map, tabP_len hb]
  omega
theorem tabP_small {b : Nat} (hb : Wd b) : ((tabP b).map V.int).length ≤ 1000 ∧ (tabP b).map V.int ≠ [] := by
  have e := tabP_len hb
  have t := turn_pos' hb
  refine ⟨?_, fun z => ?_⟩
  · rw [List.length_map, e]
    rcases hb with rfl | rfl <;> decide
  · have := congrArg List.length z
    rw [List.length_map, e] at this
    simp at this
    omega
theorem sum_at {b x y : Nat} (hb : Wd b) (hx : x < span b) (hy : y < span b) (h0 : x ≠ 0) (h1 : y ≠ 0) : atI (PP b) ((lg b x : Int) + (lg b y : Int)) = some (V.int (mul b x y : Int)) := by
  have l1 := lg_lt hb hx h0
  have l2 := lg_lt hb hy h1
  rw [show (lg b x : Int) + (lg b y : Int) = ((lg b x + lg b y : Nat) : Int) by omega]
  refine atI_nat ?_
  rw [PP_at hb (by omega), ← pw_mul hb, pw_lg hb hx h0, pw_lg hb hy h1]
theorem diff_at {b x y : Nat} (hb : Wd b) (hx : x < span b) (hy : y < span b) (h0 : x ≠ 0) (h1 : y ≠ 0) : atI (PP b) ((lg b x : Int) - (lg b y : Int) + (turn b : Int)) = some (V.int (quo b x y : Int)) := by
  have l1 := lg_lt hb hx h0
  have l2 := lg_lt hb hy h1
  rw [show (lg b x : Int) - (lg b y : Int) + (turn b : Int) = ((lg b x + (turn b - lg b y) : Nat) : Int) by omega]
  refine atI_nat ?_
  rw [PP_at hb (by omega)]
  unfold quo
  have e : pw b (lg b y * (turn b - 1)) = pw b (turn b - lg b y) := by
    have h := pw_add_mul hb (turn b - lg b y) (lg b y)
    have h2 := pw_add_turn hb (lg b y * (turn b - 1))
    have h3 : turn b - lg b y + lg b y * turn b = lg b y * (turn b - 1) + turn b := by
      have h4 : lg b y * turn b = lg b y * (turn b - 1) + lg b y := by
        rw [← Nat.mul_succ]
        rw [show (turn b - 1).succ = turn b by omega]
      omega
    rw [h3] at h
    rw [← h2, h]
  rw [e, ← pw_mul hb, pw_lg hb hx h0]
end My
namespace My
open PySem PySem.Spec PyProof.Rows L2
theorem ix_rowBK {X : Cx} {K : PySem.W.Frag} (h : X.K = K) : IxR X (rIxB K) := by
  subst h
  exact ix_rowB
end My
namespace My
open PySem PySem.Spec PyProof.Rows L2
theorem pe_ifName {X : Cx} {K : PySem.W.Frag} {x : Str} {p : Pos} {a b : Expr} {pos : Pos} {tc ta tb : TE} (h : X.K = K) (hc : PE X (.Name x p) tc) (ha : PE X a ta) (hb : PE X b tb) :
    PE X (.IfExp (.Name x p) a b pos) (tIf (fun σ H Q => tc σ H fun x H' => ∃ k, TruV K x H' k ∧ Q k H') ta tb) := by
  subst h
  exact pe_ifExp (pt_truth hc (fun _ => rfl)) ha hb
end My

set_option Elab.async false
set_option linter.all false
set_option maxRecDepth 100000
set_option maxHeartbeats 1000000
/-! ### zip(*rows), in a comprehension -/
namespace My
open PySem PySem.Spec PyProof.Rows L2
/-- the lists of rows -/
def RowsL (K : PySem.W.Frag) (H : Hp) (L : List Addr) (rows : List (List V)) : Prop := L.length = rows.length ∧ ∀ (j : Nat) (l : Addr) (r : List V), L[j]? = some l → rows[j]? = some r → SqL K H l r
theorem Same.rows {K : PySem.W.Frag} {H H' : Hp} {L : List Addr} {rows : List (List V)} (s : Same H H') (h : RowsL K H L rows) : RowsL K H' L rows := ⟨h.1, fun j l r e1 e2 => s.seq (h.2 j l r e1 e2)⟩
def colAt (rows : List (List V)) (i : Nat) : List V := rows.map fun r => r.getD i .non
def ItZs (K : PySem.W.Frag) (L : List Addr) : It :=
  ⟨fun i H => ∃ rows, RowsL K H L rows ∧ ∀ r ∈ rows, i < r.length,
    fun i H v H' => ∃ T, ∃ xs : List V, v = .ref T ∧ H T = none ∧ H' = upd H T (.tup xs) ∧ ∀ rows, RowsL K H L rows → xs = colAt rows i,
    fun i H => ∃ (rows : List (List V)) (r : List V), RowsL K H L rows ∧ rows[0]? = some r ∧ r.length ≤ i⟩
/-- a new tuple of the i-th of each row -/
def YCol (rows : List (List V)) : Nat → Hp → V → Hp → Prop := fun i H v H' => ∃ T, v = .ref T ∧ H T = none ∧ H' = upd H T (.tup (colAt rows i))
theorem walk_zipS {K : PySem.W.Frag} {L : List Addr} {rows : List (List V)} {n : Nat} (h0 : rows ≠ []) (hn : ∀ r ∈ rows, r.length = n) : Walk (ItZs K L) n (fun H => RowsL K H L rows) (YCol rows) where
  goes i _ hi q := ⟨rows, q, fun r hr => by rw [hn r hr]; exact hi⟩
  stops _ q := by
    cases rows with
    | nil => exact absurd rfl h0
    | cons r rs => exact ⟨r :: rs, r, q, rfl, Nat.le_of_eq (hn r (by simp))⟩
  yields i H v H' _ q y := by
    obtain ⟨T, xs, h1, h2, h3, h4⟩ := y
    rw [h4 rows q] at h3
    exact ⟨T, h1, h2, h3⟩
section
variable {prog : Program} {w : World} {A : Around} {E : Value → Shared → Prop} {s : Shared}
theorem iter_zs {L : List Addr} {b i : Nat} {Q : Value → Shared → Prop} (Z : ZAt L b i s.heap) (h : Q (.ref (b + L.length + 2)) s) : wpAny (model prog w) A (pyIter (.ref (b + L.length + 2))) Q E s := by
  obtain ⟨f0, c0, hz, _⟩ := Z.z
  have hT : s.TypeIs (.ref (b + L.length + 2)) "zip" := ⟨_, hz, rfl⟩
  refine wpAny_pyIter_slot hT F.slot_zip_iter (wpAny_call_entry F.slot_zip_iter hT F.entry_zip_iter ?_ (F.args_zip_iter_1 _))
  show wpAny _ _ (ret (.ref _)) _ _ s
  exact wpAny_pure ⟨_, rfl, "zip", _, hT, F.slot_zip_next.lookup, h⟩
end
def zfp (L : List Addr) (b : Nat) : List Addr := (List.range (L.length + 3)).map fun j => b + j
theorem zfp_part {L : List Addr} {b c : Nat} (h : c ∉ zfp L b) : ¬ Zpart L b c := by
  unfold zfp at h
  intro z
  refine h (List.mem_map.mpr ?_)
  rcases z with e | e | ⟨j, hj, e⟩
  · exact ⟨L.length + 2, List.mem_range.mpr (by omega), by rw [e]; rfl⟩
  · exact ⟨L.length + 1, List.mem_range.mpr (by omega), by rw [e]; rfl⟩
  · exact ⟨j, List.mem_range.mpr (by omega), by rw [e]⟩
theorem zfp_in {L : List Addr} {b : Nat} (j : Nat) (h : j < L.length + 3) : b + j ∈ zfp L b := List.mem_map.mpr ⟨j, List.mem_range.mpr h, rfl⟩
theorem zfp_2 {L : List Addr} {b : Nat} : b + L.length + 2 ∈ zfp L b := zfp_in (L.length + 2) (by omega)
theorem zfp_1 {L : List Addr} {b : Nat} : b + L.length + 1 ∈ zfp L b := zfp_in (L.length + 1) (by omega)
theorem zfp_0 {L : List Addr} {b : Nat} : b + L.length ∈ zfp L b := zfp_in (L.length) (by omega)
theorem near4 {j n : Nat} (h : j < n + 3) : j < n ∨ j = n ∨ j = n + 1 ∨ j = n + 2 := by omega
theorem lt3 {j n : Nat} (h : j < n) : j < n + 3 := by omega
theorem ZAt.keep {L : List Addr} {b i : Nat} {h h' : Heap} (Z : ZAt L b i h) (k : ∀ c ∈ zfp L b, ∀ o, h.get? c = some o → h'.get? c = some o) : ZAt L b i h' := by
  obtain ⟨⟨f0, c0, hz, hf⟩, ti, ⟨a, to, la⟩, its⟩ := Z
  exact ⟨⟨f0, c0, k _ zfp_2 _ hz, hf⟩, k _ zfp_0 _ ti, ⟨a, k _ zfp_1 _ to, la⟩, fun j l e => (its j l e).at fun o q => k _ (zfp_in j (lt3 (List.getElem?_eq_some_iff.mp e).1)) o q⟩
theorem ZAt.obj {L : List Addr} {b i : Nat} {h : Heap} (Z : ZAt L b i h) : ∀ c ∈ zfp L b, ∃ o, h.get? c = some o ∧ ∀ v, o.data ≠ .cell v := by
  obtain ⟨⟨f0, c0, hz, hf⟩, ti, ⟨a, to, la⟩, its⟩ := Z
  intro c hc
  obtain ⟨j, hj, rfl⟩ := List.mem_map.mp hc
  rcases near4 (List.mem_range.mp hj) with c1 | rfl | rfl | rfl
  · obtain ⟨o, ho, _, hd⟩ := its j _ (List.getElem?_eq_getElem c1)
    exact ⟨o, ho, fun v q => by rw [hd] at q; cases q⟩
  · exact ⟨_, ti, fun v q => nomatch q⟩
  · exact ⟨_, to, fun v q => nomatch q⟩
  · exact ⟨_, hz, fun v q => nomatch q⟩
theorem vals_from {f : Nat → Value} : ∀ (xs : List V) (k : Nat), (∀ (j : Nat) (x : V), xs[j]? = some x → RelV x (f (k + j))) → Vals xs ((List.range' k xs.length).map f)
  | [], k, _ => .nil
  | x :: xs, k, h => by
    rw [List.length_cons, List.range'_succ, List.map_cons]
    exact .cons (h 0 x rfl) (vals_from xs (k + 1) fun j y e => by
      have q := h (j + 1) y (by simpa using e)
      rwa [show k + (j + 1) = k + 1 + j by omega] at q)
theorem rows_inj {X : Cx} {pins : List (Addr × Obj)} {σ : L2.St} {H : Hp} {s : Shared} {L : List Addr} {r1 r2 : List (List V)} (I : Inv X pins σ H s) (h1 : RowsL X.K H L r1) (h2 : RowsL X.K H L r2) : r1 = r2 := by
  refine List.ext_getElem? fun j => ?_
  have l1 := h1.1
  have l2 := h2.1
  by_cases c : j < L.length
  · have e1 : r1[j]? = some (r1[j]'(by omega)) := List.getElem?_eq_getElem _
    have e2 : r2[j]? = some (r2[j]'(by omega)) := List.getElem?_eq_getElem _
    have q := I.list_inj (h1.2 j _ _ (List.getElem?_eq_getElem c) e1) (h2.2 j _ _ (List.getElem?_eq_getElem c) e2)
    rw [e1, e2, q]
  · rw [List.getElem?_eq_none (by omega), List.getElem?_eq_none (by omega)]
theorem turn_zipS {P : Program} {w : World} {K : PySem.W.Frag} {x : Str} {xp : Pos} {L : List Addr} {b : Nat} (hn : L.length ≤ sizeLine) (h0 : L ≠ []) (hlow : ∀ l ∈ L, l < b) :
    Turn P w K (.Name x xp) (ItZs K L) (zfp L b) (b + L.length + 2) (fun i h => ZAt L b i h) where
  mem := zfp_2
  obj := fun i h st => st.obj
  keep := fun i h h' st k => st.keep k
  item := by
    intro X hP hw hK hc i pins s σ H E I hf st hg
    subst hP hw hK
    obtain ⟨rows, hr, hi⟩ := hg
    have each : ∀ j : Nat, ∃ u : Value, ∀ l, L[j]? = some l → (∃ xs, s.heap.IsList l xs ∧ xs[i]? = some u) ∧ (∀ r, rows[j]? = some r → RelV (r.getD i .non) u) := fun j => by
      cases e1 : L[j]? with
      | none => exact ⟨.none, fun l z => by cases z⟩
      | some l =>
        have hj : j < rows.length := by rw [← hr.1]; exact (List.getElem?_eq_some_iff.mp e1).1
        have e2 : rows[j]? = some rows[j] := List.getElem?_eq_getElem hj
        have hq := hr.2 j l _ e1 e2
        obtain ⟨its, rv, p, hz⟩ := I.list hq
        have hij : i < rows[j].length := hi _ (List.getElem_mem hj)
        obtain ⟨u, hu, ru⟩ := rv.get (List.getElem?_eq_getElem hij)
        refine ⟨u, fun l2 z => ?_⟩
        cases z
        refine ⟨⟨_, p.isList, by simpa using hu⟩, fun r z => ?_⟩
        rw [e2] at z
        cases z
        rw [List.getD_eq_getElem?_getD, List.getElem?_eq_getElem hij]
        exact ru
    let col : Nat → Value := fun j => Classical.choose (each j)
    have hcol : ∀ j l, L[j]? = some l → (∃ xs, s.heap.IsList l xs ∧ xs[i]? = some (col j)) ∧ (∀ r, rows[j]? = some r → RelV (r.getD i .non) (col j)) := fun j => Classical.choose_spec (each j)
    refine zipN_ask hn h0 hlow st (fun j l e => (hcol j l e).1) fun h' Z' hT lf => ?_
    refine ⟨_, rfl, wpAny_pure ?_⟩
    have rel : Vals (colAt rows i) ((List.range L.length).map col) := by
      have q := vals_from (f := col) (colAt rows i) 0 fun j x e => by
        unfold colAt at e
        rw [List.getElem?_map] at e
        obtain ⟨r, e1, e2⟩ := Option.map_eq_some_iff.mp e
        subst e2
        have hj : j < L.length := by rw [hr.1]; exact (List.getElem?_eq_some_iff.mp e1).1
        rw [Nat.zero_add]
        exact (hcol j _ (List.getElem?_eq_getElem hj)).2 r e1
      have el : (colAt rows i).length = L.length := by unfold colAt; rw [List.length_map, hr.1]
      rw [el, ← List.range_eq_range'] at q
      exact q
    have new : ObjOk X.prog X.w (upd H s.heap.objs.size (.tup (colAt rows i))) h' s.heap.objs.size (.tup (colAt rows i)) :=
      ⟨by show (colAt rows i).length ≤ sizeLine; unfold colAt; rw [List.length_map, ← hr.1]; exact hn, _, rel, ⟨_, hT, rfl, _, rfl⟩⟩
    have I1 : Inv X pins σ (upd H s.heap.objs.size (.tup (colAt rows i))) { s with heap := h' } := I.turnedNew (t' := s.toks) (ch := zfp L b) (fun c o hb q => lf c o (zfp_part hb) q) hf (Nat.le_refl _) new
    refine ⟨.ref s.heap.objs.size, _, I1, rfl, ⟨_, _, rfl, I.hok.fresh (Nat.le_refl _), rfl, fun rows2 h2 => ?_⟩, Z', fun c hcm => ?_⟩
    · rw [rows_inj I h2 hr]
    · obtain ⟨o, ho, _⟩ := st.obj c hcm
      rw [upd_ne (Nat.ne_of_lt (Heap.lt_size ho))]
      exact (hf c hcm).1
  done := by
    intro X hP hw hK hc i pins s σ H E I hf st hg
    subst hP hw hK
    obtain ⟨rows, r, hr, e0, hend⟩ := hg
    have n0 : 0 < L.length := by rw [hr.1]; exact (List.getElem?_eq_some_iff.mp e0).1
    have e1 : L[0]? = some L[0] := List.getElem?_eq_getElem n0
    obtain ⟨its, rv, p, hz⟩ := I.list (hr.2 0 _ _ e1 e0)
    have hl := rv.length
    exact zipN_stop (I.ok.hd hc) e1 hlow st p.isList (by simp; omega) fun h' lf => ⟨rfl, I.turnedL (t' := s.toks) (ch := zfp L b) (fun c o hb q => lf c o (zfp_part hb) q) hf⟩
  self := fun A i s Q E st h => iter_zs st h
def iZipS (K : PySem.W.Frag) (te : TE) : TI := fun σ H R => te σ H fun v H1 => ∃ (a : Addr) (L : List Addr) (rows : List (List V)), v = .ref a ∧ SqL K H1 a (L.map V.ref) ∧ RowsL K H1 L rows ∧ L ≠ [] ∧ R (ItZs K L) H1
theorem refs_vals : ∀ {L : List Addr} {us : List Value}, Vals (L.map V.ref) us → us = L.map Value.ref
  | [], _, .nil => rfl
  | l :: L, u :: us, .cons r t => by
    rw [refs_vals t, List.map_cons]
    cases r
    rfl
theorem pi_zipS {X : Cx} {e : Expr} {te : TE} {x : Str} {xp p sp pos : Pos} (hg : Gl X "zip") (hm : X.mg "zip" = none) (he : PE X e te)
    (hst : starEach [.Starred e sp] X.env = [(true, eval e X.env)] := by rfl) :
    PI X (.Name x xp) (.Call (.Name "zip" p) [.Starred e sp] [] pos) (iZipS X.K te) := by
  refine ⟨fun pins s σ H R I h => ?_⟩
  refine Call_ (ld_blt I hg hm PyProof.Rows.boot_zip ?_)
  rw [hst]
  refine PySem.W.ks_call (P := fun _ => True) rfl (fun h _ => ⟨.machine, .inr (.inl rfl), PySem.W.Looks.of_pure rfl⟩) (PySem.W.ks_lone (thn (he.run pins s σ H _ I h) fun v s1 ⟨y, H1, I1, ry, a, L, rows, ey, hq, hr, h0, q⟩ => ?_))
  subst ey
  obtain rfl : v = Value.ref a := ry
  refine StX.star_any I1 (.inr hq) fun us s2 I2 rv => ⟨trivial, ?_⟩
  obtain rfl := refs_vals rv
  have hn : L.length ≤ sizeLine := by
    obtain ⟨its, rv2, p2, hz⟩ := I2.list hq
    rw [List.length_map] at hz
    exact hz
  have each : ∀ l ∈ L, ∃ xs, s2.heap.IsList l xs ∧ l < s2.heap.objs.size := fun l hl => by
    obtain ⟨j, hj, rfl⟩ := List.mem_iff_getElem.mp hl
    obtain ⟨its, rv2, p2, hz⟩ := I2.list (hr.2 j _ _ (List.getElem?_eq_getElem hj) (List.getElem?_eq_getElem (by rw [← hr.1]; exact hj)))
    obtain ⟨o, ho, r⟩ := p2.isList
    exact ⟨_, ⟨o, ho, r⟩, Heap.lt_size ho⟩
  show wpAny _ _ (call (.type "zip") (L.map .ref)) _ _ _
  refine call_zipN hn h0 (fun l hl => let ⟨xs, h1, _⟩ := each l hl; ⟨xs, h1⟩) fun h' Z hk => iter_zs (s := { s2 with heap := h' }) Z ?_
  have I3 : Inv X pins σ H1 { s2 with heap := h' } := I2.kept (t' := s2.toks) hk
  refine ⟨s2.heap.objs.size + L.length + 2, zfp L s2.heap.objs.size, _, _, H1, rfl, I3, turn_zipS hn h0 (fun l hl => (each l hl).choose_spec.2), Z, fun c hcm => ?_, q⟩
  obtain ⟨j, hj, rfl⟩ := List.mem_map.mp hcm
  exact I2.fpOk (Nat.le_add_right _ _) (I2.hok.fresh (Nat.le_add_right _ _))
end My

set_option Elab.async false
set_option linter.all false
set_option maxRecDepth 100000
set_option maxHeartbeats 1000000
/-! ### rows, lists or tuples, from the end to the front; the index of a number in a tuple -/
namespace My
open PySem PyProof.Rows HT
open PySem.Sem (wp)
section
variable {prog : Program} {w : World} {A : Around} {E : Value → Shared → Prop} {s : Shared}
theorem adjust_back (n : Nat) : Builtin.Slice.sliceAdjust none none (-1) (n : Int) = ((n : Int) - 1, -1) := by
  unfold Builtin.Slice.sliceAdjust
  simp
theorem places_back (n : Nat) : Builtin.Slice.slicePlaces ((n : Int) - 1) (-1) (-1) = n := by
  unfold Builtin.Slice.slicePlaces
  rw [if_neg (by decide)]
  by_cases h : (n : Int) - 1 > -1
  · rw [if_pos h, show (- -1 : Int) = 1 by decide, Int.ediv_one]
    omega
  · rw [if_neg h]
    omega
theorem fm_congr {α β : Type} {f g : α → Option β} : ∀ {l : List α}, (∀ x ∈ l, f x = g x) → l.filterMap f = l.filterMap g
  | [], _ => rfl
  | x :: l, h => by
    rw [List.filterMap_cons, List.filterMap_cons, h x (by simp), fm_congr fun y hy => h y (List.mem_cons_of_mem _ hy)]
theorem sliceApplied_back {sl : Addr} {vl vu vs : Value} {n : Nat} {Q : Int × Int × Nat → Shared → Prop} (hs : s.heap.IsSliceOf sl vl vu vs) (pl : IsPart vl none) (pu : IsPart vu none) (ps : IsPart vs (some (-1)))
    (h : Q ((n : Int) - 1, -1, n) s) : wpAny (model prog w) A (Builtin.Slice.sliceApplied (.ref sl) (pure (n : Int))) Q E s := by
  obtain ⟨os, hos, hcs, hds⟩ := id hs
  unfold Builtin.Slice.sliceApplied Builtin.Slice.sliceFields
  refine wpAny_bind (wpAny_bind (wpAny_field hos hds (x := vl) rfl (wpAny_bind (wpAny_field hos hds (x := vu) rfl (wpAny_bind (wpAny_field hos hds (x := vs) rfl (wpAny_pure ?_)))))))
  refine wpAny_bind (slicePart_ ps ?_)
  show wpAny _ _ (if ((-1 : Int) == 0) = true then _ else _) _ _ s
  rw [if_neg (by decide)]
  refine wpAny_bind (slicePart_ pl (wpAny_bind (slicePart_ pu (wpAny_bind (wpAny_pure ?_)))))
  show wpAny _ _ (match Builtin.Slice.sliceAdjust none none (-1) (n : Int) with | (lo, hi) => pure (lo, (-1 : Int), Builtin.Slice.slicePlaces lo hi (-1))) _ _ s
  rw [adjust_back n]
  show wpAny _ _ (pure ((n : Int) - 1, (-1 : Int), Builtin.Slice.slicePlaces ((n : Int) - 1) (-1) (-1))) _ _ s
  rw [places_back]
  exact wpAny_pure h
theorem pick_back (xs : Array Value) : ((List.range xs.size).filterMap fun (m : Nat) => xs[(((xs.size : Int) - 1) + (m : Int) * (-1)).toNat]?).toArray = xs.toList.reverse.toArray := by
  have e : (List.range xs.size).filterMap (fun (m : Nat) => xs[(((xs.size : Int) - 1) + (m : Int) * (-1)).toNat]?) = ((List.range xs.size).map fun k => xs.size - 1 - k).filterMap (xs[·]?) := by
    rw [List.filterMap_map]
    refine fm_congr fun m hm => ?_
    have hm := List.mem_range.mp hm
    have : (((xs.size : Int) - 1) + (m : Int) * (-1)).toNat = xs.size - 1 - m := by omega
    simp only [Function.comp, this]
  rw [e, PySem.W.krv_range, List.filterMap_reverse, PySem.W.krv_all]
theorem getItem_tuple_back {t sl : Addr} {items : Array Value} {vl vu vs : Value} {Q : Value → Shared → Prop} (ht : IsTup s.heap t items) (hs : s.heap.IsSliceOf sl vl vu vs) (pl : IsPart vl none) (pu : IsPart vu none) (ps : IsPart vs (some (-1)))
    (h : Q (.ref s.heap.objs.size) { s with heap := s.heap.push { cls := .type "tuple", data := .seq items.toList.reverse.toArray } })
    (hsz : items.size ≤ sizeLine) : wpAny (model prog w) A (getItem (.ref t) (.ref sl)) Q E s := by
  have htake : sizeOk (.seq items.toList.reverse.toArray) := by
    show (items.toList.reverse.toArray).size ≤ sizeLine
    simpa using hsz
  obtain ⟨os, hos, hcs, hds⟩ := id hs
  have hTs : s.TypeIs (.ref sl) "slice" := ⟨os, hos, hcs⟩
  unfold getItem
  try with_reducible refine wpAny_holding ?_
  first | refine wpAny_bind (wpAny_pure ?_) | skip
  refine wpAny_bind (wpAny_sequenceKey ht.typeIs (by decide) ?_)
  refine wpAny_bind (wpAny_callSpecial?_slot (name := Str.ofString "__getitem__") ht.typeIs PyProof.Rows.slot_tuple_getitem
    (wpAny_call_entry PyProof.Rows.slot_tuple_getitem ht.typeIs entry_tuple_getitem ?_ (args_tuple_getitem _ _)))
  show wpAny _ _ (Builtin.Tuple.tupleItemsOf (.ref t) >>= _) _ _ s
  refine wpAny_bind (tupleItemsOf_ ht ?_)
  refine wpAny_bind (wpAny_typeOf hTs ?_)
  rw [if_pos (by decide)]
  refine wpAny_bind (sliceApplied_back hs pl pu ps ?_)
  have hno : ¬ ((((items.size : Int) - 1) == 0 && (-1 : Int) == 1 && items.size == items.size) = true) := by
    simp
  show wpAny _ _ (if (((items.size : Int) - 1) == 0 && (-1 : Int) == 1 && items.size == items.size) = true then _ else _) _ _ s
  rw [if_neg hno, pick_back]
  first
    | exact wpAny_bind (m := Builtin.Tuple.tupleExact _) (wpAny_newObj_type (wpAny_pure ⟨_, rfl, wpAny_pure h⟩) htake)
    | exact wpAny_bind (m := Builtin.Tuple.tupleExact _) (wpAny_newObj_type (wpAny_bind (wpAny_pure (wpAny_pure ⟨_, rfl, wpAny_pure h⟩))) htake)
    | exact wpAny_bind (wpAny_bind (m := Builtin.Tuple.tupleExact _) (wpAny_newObj_type (wpAny_pure (wpAny_pure ⟨_, rfl, wpAny_pure h⟩)) htake))
    | exact wpAny_bind (wpAny_bind (m := Builtin.Tuple.tupleExact _) (wpAny_newObj_type (wpAny_pure ⟨_, rfl, wpAny_pure h⟩) htake))
end
end My
namespace My
open PySem PySem.Spec PyProof.Rows L2
/-- xs[::-1] of a list or a tuple -/
def tRevB (K : PySem.W.Frag) (te : TE) : TE := fun σ H Q => te σ H fun x H1 => ∃ a xs b, x = .ref a ∧ SqB b K H1 a xs ∧ ∀ p H2, Same H1 H2 → H1 p = none → H2 p = some (if b = true then .lst xs.reverse else .tup xs.reverse) → Q (.ref p) H2
theorem pe_revB {X : Cx} {K : PySem.W.Frag} {e : Expr} {te : TE} {k : Nat} {p1 p2 p3 pos : Pos} (hK : X.K = K) (he : PE X e te) : PE X (.Subscript e (.Slice none none (some (.UnaryOp .USub (.Constant (.int 1) k p1) p2)) p3) pos) (tRevB K te) := by
  subst hK
  refine ⟨fun pins s σ H Q I h => ?_⟩
  refine Subscript_ (thn (he.run pins s σ H _ I h) fun v s1 ⟨x, H1, I1, r1, q1⟩ => ?_)
  obtain ⟨a, xs, b, ex, hx, q⟩ := q1
  subst ex
  cases r1
  have hst : PO X (some (.UnaryOp .USub (.Constant (.int 1) k p1) p2)) (tPart (tUn (rU fun i => .int (-i)) (tC (.int 1)))) := po_some (pe_un un_neg pe_int)
  refine wpAny_Slice (thn (po_none.run pins s1 σ H1 (fun o H2 => o = none ∧ H2 = H1) I1 ⟨rfl, rfl⟩) fun vl s2 ⟨l, H2, I2, pl, el, e2⟩ => ?_)
  subst el e2
  refine thn (po_none.run pins s2 σ H2 (fun o H3 => o = none ∧ H3 = H2) I2 ⟨rfl, rfl⟩) fun vu s3 ⟨u, H3, I3, pu, eu, e3⟩ => ?_
  subst eu e3
  refine thn (hst.run pins s3 σ H3 (fun o H4 => o = some (-1) ∧ H4 = H3) I3 ⟨1, rfl, -1, rfl, rfl, rfl⟩) fun vs s4 ⟨o, H4, I4, ps, eo, e4⟩ => ?_
  subst eo e4
  have I5 : Inv X pins σ H4 { s4 with heap := s4.heap.push { cls := .type "slice", data := .fields #[vl, vu, vs] } } := I4.kept (t' := s4.toks) fun b ob q => Heap.get?_push_of_some _ q
  cases b with
  | true =>
    obtain ⟨its, r, ht, hz⟩ := I5.list hx
    have hlen := r.length
    show wpAny (model X.prog X.w) X.A (subscriptTail e (.Slice none none (some (.UnaryOp .USub (.Constant (.int 1) k p1) p2)) p3) (.ref a) (.ref s4.heap.objs.size)) (EP X pins σ Q) X.xe { s4 with heap := s4.heap.push { cls := .type "slice", data := .fields #[vl, vu, vs] } }
    refine tail_any (ops := [.ref a, .ref s4.heap.objs.size]) ht.isList.typeIs (PySem.slot_list_getitem.lookup) ?_ (by with_unfolding_all rfl)
    refine wpAny_getItem_list_slice ht.isList (Heap.IsSliceOf.new _ vl vu vs) pl pu ps (by decide) ?_ (by rw [List.size_toArray]; omega)
    rw [PySem.W.krv_pick]
    refine ⟨.ref _, _, I5.laid (t' := s4.toks) (o := .lst xs.reverse) (fun b ob q => Heap.get?_push_of_some _ q) (Nat.le_refl _) ?_, rfl, q _ _ (same_upd (I5.hok.fresh (Nat.le_refl _))) (I5.hok.fresh (Nat.le_refl _)) upd_same⟩
    exact ⟨by rw [List.length_reverse]; exact hz, _, 0, r.reverse, Heap.get?_push_size _ rfl⟩
  | false =>
    obtain ⟨its, r, ht, hz⟩ := I5.tuple hx
    have hlen := r.length
    show wpAny (model X.prog X.w) X.A (subscriptTail e (.Slice none none (some (.UnaryOp .USub (.Constant (.int 1) k p1) p2)) p3) (.ref a) (.ref s4.heap.objs.size)) (EP X pins σ Q) X.xe { s4 with heap := s4.heap.push { cls := .type "slice", data := .fields #[vl, vu, vs] } }
    refine tail_any (ops := [.ref a, .ref s4.heap.objs.size]) ht.typeIs (PyProof.Rows.slot_tuple_getitem.lookup) ?_ (by with_unfolding_all rfl)
    refine getItem_tuple_back ht (Heap.IsSliceOf.new _ vl vu vs) pl pu ps ?_ (by rw [List.size_toArray]; omega)
    refine ⟨.ref _, _, I5.laid (t' := s4.toks) (o := .tup xs.reverse) (fun b ob q => Heap.get?_push_of_some _ q) (Nat.le_refl _) ?_, rfl, q _ _ (same_upd (I5.hok.fresh (Nat.le_refl _))) (I5.hok.fresh (Nat.le_refl _)) upd_same⟩
    exact ⟨by rw [List.length_reverse]; exact hz, _, r.reverse, IsTup.new _ _⟩
theorem flat_ints (ys : List Int) : (ys.map V.int).all flatV = true := by
  rw [List.all_map]
  exact List.all_eq_true.mpr fun _ _ => rfl
/-- t.index(n), the first place -/
def rTupIx (K : PySem.W.Frag) : V → List V → Hp → VK → Prop := fun x xs H Q => ∃ (p : Addr) (ys : List Int) (z : Int) (j : Nat), x = V.ref p ∧ xs = [.int z] ∧ SqT K H p (ys.map V.int) ∧ ys[j]? = some z ∧ (∀ m, m < j → ys[m]? ≠ some z) ∧ Q (.int (j : Nat)) H
theorem mt_tup_ixI {X : Cx} : MtR X "tuple.index" (rTupIx X.K) := by
  intro pins s σ H x xs v us Q I rx rs h
  obtain ⟨p, ys, z, j, rfl, rfl, hq, hy, hno, q⟩ := h
  cases rx
  obtain ⟨u, rfl, t, rfl⟩ := vals1 rs
  obtain ⟨its, r, pl, hz⟩ := I.tuple hq
  obtain ⟨⟨cls, dd, dt, sl⟩, ho, hc, n, hd⟩ := pl
  simp only at hc hd
  subst hc
  subst hd
  have hl : its.toArray.size = ys.length := by rw [List.size_toArray, ← r.length, List.length_map]
  have hj : j < its.toArray.size := by rw [hl]; exact (List.getElem?_eq_some_iff.mp hy).1
  have at' : ∀ (m : Nat) (hm : m < its.toArray.size), ∃ y t', ys[m]? = some y ∧ its.toArray[m] = Value.int y t' := fun m hm => by
    have hm' : m < ys.length := by rw [← hl]; exact hm
    obtain ⟨w, hw, t', hw'⟩ := r.get (i := m) (x := .int ys[m]) (by simp [hm'])
    refine ⟨ys[m], t', List.getElem?_eq_getElem hm', ?_⟩
    have e := (List.getElem?_eq_some_iff.mp hw).2
    rw [← hw', ← e]
    simp
  refine call_meets PySem.F.slot_tuple_index ⟨_, ho, rfl⟩ PySem.F.entry_tuple_index (PySem.F.args_tuple_index_2 _ _) (TI.tuple_indexAt p its.toArray n dd sl (.int z t) (eqU (.int z)) j hj ?_ ?_)
    ⟨ho, fun w hw => mem_eqAt (x := .int z) ⟨t, rfl⟩ rfl r (flat_ints ys) w (by simpa using hw), ⟨.int (j : Nat), H, I.tok _, ⟨_, rfl⟩, q⟩⟩
  · obtain ⟨y, t', h1, h2⟩ := at' j hj
    rw [hy] at h1
    cases h1
    rw [h2]
    show (z == z) = true
    exact beq_self_eq_true z
  · intro m hm hmj
    obtain ⟨y, t', h1, h2⟩ := at' m hm
    rw [h2]
    show (y == z) = false
    exact beq_eq_false_iff_ne.mpr fun e => hno m hmj (e ▸ h1)
end My

set_option Elab.async false
set_option linter.all false
set_option maxRecDepth 100000
set_option maxHeartbeats 1000000
/-! ### grids of dots: rows of 0, 1, none; turned, mirrored; as they lie on the heap -/
namespace My
open PySem PySem.Spec PyProof.Rows L2
abbrev Grid := List (List (Option Nat))
def vG : Option Nat → V
  | none => .non
  | some n => vN n
def dG : Option Nat → PyData
  | none => .none
  | some n => dI n
def DotOk (o : Option Nat) : Prop := o = none ∨ o = some 0 ∨ o = some 1
structure Sq (n : Nat) (g : Grid) : Prop where
  len : g.length = n
  row : ∀ r ∈ g, r.length = n
  dot : ∀ r ∈ g, ∀ o ∈ r, DotOk o
def SideOk (n : Nat) : Prop := n = 8 ∨ n = 12 ∨ n = 16 ∨ n = 20 ∨ n = 24
def cell (g : Grid) (i j : Nat) : Option Nat := (g.getD i []).getD j none
def rot (g : Grid) : Grid := (List.range g.length).map fun i => g.reverse.map fun r => r.getD i none
def rotK : Nat → Grid → Grid
  | 0, g => g
  | k + 1, g => rot (rotK k g)
def mir (g : Grid) : Grid := g.map List.reverse
theorem getD_in {α : Type} {l : List α} {i : Nat} {d : α} (h : i < l.length) : l.getD i d = l[i] := by
  rw [List.getD_eq_getElem?_getD, List.getElem?_eq_getElem h]
  rfl
theorem getD_mem {α : Type} {l : List α} {i : Nat} {d : α} (h : i < l.length) : l.getD i d ∈ l := by
  rw [getD_in h]
  exact List.getElem_mem h
theorem dot_getD {r : List (Option Nat)} {i : Nat} (h : ∀ o ∈ r, DotOk o) : DotOk (r.getD i none) := by
  by_cases c : i < r.length
  · exact h _ (getD_mem c)
  · rw [List.getD_eq_getElem?_getD, List.getElem?_eq_none (by omega)]
    exact .inl rfl
theorem rot_sq {n : Nat} {g : Grid} (h : Sq n g) : Sq n (rot g) where
  len := by unfold rot; rw [List.length_map, List.length_range, h.len]
  row r hr := by
    obtain ⟨i, _, rfl⟩ := List.mem_map.mp hr
    rw [List.length_map, List.length_reverse, h.len]
  dot r hr o ho := by
    obtain ⟨i, _, rfl⟩ := List.mem_map.mp hr
    obtain ⟨q, hq, rfl⟩ := List.mem_map.mp ho
    exact dot_getD (h.dot q (List.mem_reverse.mp hq))
theorem mir_sq {n : Nat} {g : Grid} (h : Sq n g) : Sq n (mir g) where
  len := by unfold mir; rw [List.length_map, h.len]
  row r hr := by
    obtain ⟨q, hq, rfl⟩ := List.mem_map.mp hr
    rw [List.length_reverse, h.row q hq]
  dot r hr o ho := by
    obtain ⟨q, hq, rfl⟩ := List.mem_map.mp hr
    exact h.dot q hq o (List.mem_reverse.mp ho)
theorem rotK_sq {n : Nat} {g : Grid} (h : Sq n g) : ∀ k, Sq n (rotK k g)
  | 0 => h
  | k + 1 => rot_sq (rotK_sq h k)
theorem mir_mir (g : Grid) : mir (mir g) = g := by
  unfold mir
  rw [List.map_map]
  have e : (List.reverse ∘ List.reverse : List (Option Nat) → List (Option Nat)) = id := funext fun l => List.reverse_reverse l
  rw [e, List.map_id]
theorem grid_ext {n : Nat} {g h : Grid} (a : Sq n g) (b : Sq n h) (e : ∀ i j, i < n → j < n → cell g i j = cell h i j) : g = h := by
  have l1 := a.len
  have l2 := b.len
  refine List.ext_getElem (by rw [l1, l2]) fun i h1 h2 => ?_
  have r1 := a.row _ (List.getElem_mem h1)
  have r2 := b.row _ (List.getElem_mem h2)
  refine List.ext_getElem (by rw [r1, r2]) fun j h3 h4 => ?_
  have q := e i j (by omega) (by omega)
  unfold cell at q
  rw [getD_in h1, getD_in h2, getD_in h3, getD_in h4] at q
  exact q
theorem cell_rot {n : Nat} {g : Grid} (h : Sq n g) {i j : Nat} (hi : i < n) (hj : j < n) : cell (rot g) i j = cell g (n - 1 - j) i := by
  have l := h.len
  have lr : (rot g).length = n := (rot_sq h).len
  unfold cell
  rw [getD_in (l := rot g) (by omega)]
  have e : (rot g)[i]'(by omega) = g.reverse.map fun r => r.getD i none := by
    unfold rot
    rw [List.getElem_map, List.getElem_range]
  rw [e, getD_in (l := g.reverse.map _) (by rw [List.length_map, List.length_reverse]; omega), List.getElem_map, List.getElem_reverse, getD_in (l := g) (by omega)]
  simp only [l]
theorem rotK_add (a b : Nat) (g : Grid) : rotK (a + b) g = rotK a (rotK b g) := by
  induction a with
  | zero => rw [Nat.zero_add]; rfl
  | succ a ih =>
    rw [show a + 1 + b = (a + b) + 1 by omega]
    show rot (rotK (a + b) g) = rot (rotK a (rotK b g))
    rw [ih]
theorem rot4 {n : Nat} {g : Grid} (h : Sq n g) : rotK 4 g = g := by
  refine grid_ext (rotK_sq h 4) h fun i j hi hj => ?_
  show cell (rot (rotK 3 g)) i j = _
  rw [cell_rot (rotK_sq h 3) hi hj]
  show cell (rot (rotK 2 g)) (n - 1 - j) i = _
  rw [cell_rot (rotK_sq h 2) (by omega) hi]
  show cell (rot (rotK 1 g)) (n - 1 - i) (n - 1 - j) = _
  rw [cell_rot (rotK_sq h 1) (by omega) (by omega)]
  show cell (rot g) (n - 1 - (n - 1 - j)) (n - 1 - i) = _
  rw [cell_rot h (by omega) (by omega)]
  congr 1 <;> omega
def posedG (g : Grid) (t : Nat) (f : Bool) : Grid := rotK t (if f then mir g else g)
def unposedG (g : Grid) (t : Nat) (f : Bool) : Grid := if f then mir (rotK ((4 - t) % 4) g) else rotK ((4 - t) % 4) g
theorem rot_back {n t : Nat} {g : Grid} (h : Sq n g) (ht : t < 4) : rotK ((4 - t) % 4) (rotK t g) = g ∧ rotK t (rotK ((4 - t) % 4) g) = g := by
  rw [← rotK_add, ← rotK_add]
  by_cases c : t = 0
  · subst c
    exact ⟨rfl, rfl⟩
  · have e1 : (4 - t) % 4 + t = 4 := by omega
    have e2 : t + (4 - t) % 4 = 4 := by omega
    rw [e1, e2]
    exact ⟨rot4 h, rot4 h⟩
theorem unposed_posed {n t : Nat} {f : Bool} {g : Grid} (h : Sq n g) (ht : t < 4) : unposedG (posedG g t f) t f = g := by
  unfold unposedG posedG
  cases f
  · exact (rot_back h ht).1
  · simp only [if_true]
    rw [(rot_back (mir_sq h) ht).1, mir_mir]
theorem posed_unposed {n t : Nat} {f : Bool} {g : Grid} (h : Sq n g) (ht : t < 4) : posedG (unposedG g t f) t f = g := by
  unfold unposedG posedG
  cases f
  · exact (rot_back h ht).2
  · simp only [if_true]
    rw [mir_mir, (rot_back h ht).2]
theorem posed_sq {n t : Nat} {f : Bool} {g : Grid} (h : Sq n g) : Sq n (posedG g t f) := by
  unfold posedG
  cases f
  · exact rotK_sq h t
  · exact rotK_sq (mir_sq h) t
theorem unposed_sq {n t : Nat} {f : Bool} {g : Grid} (h : Sq n g) : Sq n (unposedG g t f) := by
  unfold unposedG
  cases f
  · exact rotK_sq h _
  · exact mir_sq (rotK_sq h _)
/-! ### on the heap -/
structure GrB (k : Bool) (K : PySem.W.Frag) (H : Hp) (a : Addr) (g : Grid) : Prop where
  ex : ∃ L : List Addr, SqB k K H a (L.map V.ref) ∧ L.length = g.length ∧ ∀ (j : Nat) (l : Addr) (r : List (Option Nat)), L[j]? = some l → g[j]? = some r → SqB k K H l (r.map vG)
theorem GrB.same {k : Bool} {K : PySem.W.Frag} {H H' : Hp} {a : Addr} {g : Grid} (h : GrB k K H a g) (s : Same H H') : GrB k K H' a g := by
  obtain ⟨L, h1, h2, h3⟩ := h.ex
  exact ⟨L, Same.sqb s h1, h2, fun j l r e1 e2 => Same.sqb s (h3 j l r e1 e2)⟩
structure FrI (H H' : Hp) (D : Addr) (L : List Addr) (g : Grid) (i : Nat) : Prop where
  same : Same H H'
  out : H' D = some (.lst (L.map V.ref))
  len : L.length = i
  row : ∀ (j : Nat) (l : Addr) (r : List (Option Nat)), L[j]? = some l → g[j]? = some r → H l = none ∧ l ≠ D ∧ H' l = some (.lst (r.map vG))
theorem FrI.start {H : Hp} {D : Addr} {g : Grid} (h : H D = none) : FrI H (upd H D (.lst [])) D [] g 0 := ⟨same_upd h, upd_same, rfl, fun j l r e => by cases e⟩
theorem FrI.step {H H' H2 : Hp} {D c : Addr} {L : List Addr} {g : Grid} {i : Nat} {r : List (Option Nat)} (F : FrI H H' D L g i) (hD : H D = none) (hr : g[i]? = some r) (s : Same H' H2) (hc : H' c = none) (e : H2 c = some (.lst (r.map vG))) :
    FrI H (upd H2 D (.lst (L.map V.ref ++ [V.ref c]))) D (L ++ [c]) g (i + 1) := by
  obtain ⟨s0, out, len, row⟩ := F
  have ncD : c ≠ D := fun z => by rw [z, out] at hc; cases hc
  refine ⟨fun b o hb => ?_, ?_, by rw [List.length_append, len]; rfl, fun j l q e1 e2 => ?_⟩
  · rw [upd_ne (ne_of_none hb hD)]
    exact s _ _ (s0 _ _ hb)
  · rw [upd_same, List.map_append]
    rfl
  · by_cases cj : j < i
    · rw [List.getElem?_append_left (by rw [len]; exact cj)] at e1
      obtain ⟨q1, q2, q3⟩ := row j l q e1 e2
      exact ⟨q1, q2, by rw [upd_ne q2]; exact s _ _ q3⟩
    · have hl := (List.getElem?_eq_some_iff.mp e1).1
      rw [List.length_append, len] at hl
      have ej : j = i := by simp at hl; omega
      subst ej
      rw [List.getElem?_append_right (by rw [len]; exact Nat.le_refl _), len, Nat.sub_self] at e1
      cases e1
      rw [hr] at e2
      cases e2
      exact ⟨Same.free s0 hc, ncD, by rw [upd_ne ncD]; exact e⟩
/-- a new grid of new rows -/
def Fr (H H' : Hp) (D : Addr) (g : Grid) : Prop := H D = none ∧ ∃ L, FrI H H' D L g g.length
theorem Fr.same0 {H H' : Hp} {D : Addr} {g : Grid} (h : Fr H H' D g) : Same H H' := let ⟨_, _, F⟩ := h; F.same
theorem Fr.ext {H H' H2 : Hp} {D : Addr} {g : Grid} (h : Fr H H' D g) (s : Same H' H2) : Fr H H2 D g := by
  obtain ⟨hD, L, F⟩ := h
  exact ⟨hD, L, F.same.trans s, s _ _ F.out, F.len, fun j l r e1 e2 => let ⟨q1, q2, q3⟩ := F.row j l r e1 e2; ⟨q1, q2, s _ _ q3⟩⟩
theorem Fr.back {H0 H H' : Hp} {D : Addr} {g : Grid} (h : Fr H H' D g) (s : Same H0 H) : Fr H0 H' D g := by
  obtain ⟨hD, L, F⟩ := h
  exact ⟨Same.free s hD, L, s.trans F.same, F.out, F.len, fun j l r e1 e2 => let ⟨q1, q2, q3⟩ := F.row j l r e1 e2; ⟨Same.free s q1, q2, q3⟩⟩
theorem Fr.gr {K : PySem.W.Frag} {H H' : Hp} {D : Addr} {g : Grid} (h : Fr H H' D g) : GrB true K H' D g := by
  obtain ⟨_, L, F⟩ := h
  exact ⟨L, .lst F.out, F.len, fun j l r e1 e2 => .lst (F.row j l r e1 e2).2.2⟩
/-! ### compared -/
def dRow (r : List (Option Nat)) : PyData := .list (r.map dG)
def dGr (g : Grid) : PyData := .list (g.map dRow)
theorem dG_lay : ∀ row : List (Option Nat), PyData.canLayAll0 (row.map dG) = true
  | [] => rfl
  | o :: r => by
    show (PyData.canLay0 (dG o) && PyData.canLayAll0 (r.map dG)) = true
    rw [dG_lay r]
    cases o <;> rfl
theorem dG_depth : ∀ row : List (Option Nat), PyData.depthAll (row.map dG) = 0
  | [] => rfl
  | o :: r => by
    show max (PyData.depth (dG o)) (PyData.depthAll (r.map dG)) = 0
    rw [dG_depth r]
    cases o <;> rfl
theorem dRow_lay : ∀ g : Grid, PyData.canLayAll0 (g.map dRow) = true
  | [] => rfl
  | r :: g => by
    show (PyData.canLay0 (dRow r) && PyData.canLayAll0 (g.map dRow)) = true
    rw [dRow_lay g, Bool.and_true]
    exact dG_lay r
theorem dRow_depth : ∀ g : Grid, PyData.depthAll (g.map dRow) ≤ 1
  | [] => Nat.zero_le _
  | r :: g => by
    show max (PyData.depthAll (r.map dG) + 1) (PyData.depthAll (g.map dRow)) ≤ 1
    have := dRow_depth g
    rw [dG_depth r]
    omega
theorem dGr_shaped (g : Grid) : SeqAt.shaped (dGr g) = true := by
  unfold SeqAt.shaped
  have h1 : (dGr g).canLay0 = true := dRow_lay g
  have h2 : (dGr g).depth ≤ 64 := by
    show PyData.depthAll (g.map dRow) + 1 ≤ 64
    have := dRow_depth g
    omega
  rw [h1, Bool.true_and]
  exact decide_eq_true h2
theorem dGr_eq (g : Grid) : PyData.eqv (dGr g) (dGr g) = true := SeqAt.eqv_refl _ (dRow_lay g)
theorem dG_all {K : PySem.W.Frag} {H : Hp} : ∀ row : List (Option Nat), DpAll K H (row.map vG) (row.map dG)
  | [] => .nil
  | none :: r => .cons .non (dG_all r)
  | some n :: r => .cons (.int _) (dG_all r)
theorem rows_dp {K : PySem.W.Frag} {H : Hp} : ∀ (L : List Addr) (g : Grid), L.length = g.length → (∀ (j : Nat) (l : Addr) (r : List (Option Nat)), L[j]? = some l → g[j]? = some r → SqL K H l (r.map vG)) → DpAll K H (L.map V.ref) (g.map dRow)
  | [], [], _, _ => .nil
  | [], _ :: _, h, _ => by cases h
  | _ :: _, [], h, _ => by cases h
  | l :: L, r :: g, h, f => .cons (.lst (f 0 l r rfl rfl) (dG_all r)) (rows_dp L g (Nat.succ.inj h) fun j l' r' e1 e2 => f (j + 1) l' r' e1 e2)
theorem GrB.dp {K : PySem.W.Frag} {H : Hp} {a : Addr} {g : Grid} (h : GrB true K H a g) : Dp K H (.ref a) (dGr g) := by
  obtain ⟨L, h1, h2, h3⟩ := h.ex
  exact .lst h1 (rows_dp L g h2 h3)
end My

set_option Elab.async false
set_option linter.all false
set_option maxRecDepth 100000
set_option maxHeartbeats 4000000
/-! ### rows of plain words; values of polynomials by exponents -/
namespace My
open PySem PySem.Spec PyProof.Rows L2
theorem pt_truthK {X : Cx} {K : PySem.W.Frag} {a : Expr} {ta : TE} (h : X.K = K) (ha : PE X a ta) (he : ∀ whole, isTrue a X.env whole = (do let v ← whole; standAt a.pos; holding [v] (truthy v))) :
    PT X a (fun σ H Q => ta σ H fun x H' => ∃ k, TruV K x H' k ∧ Q k H') := by
  subst h
  exact pt_truth ha he
theorem SqB.truB {b : Bool} {K : PySem.W.Frag} {H : Hp} {a : Addr} {xs : List V} (h : SqB b K H a xs) : TruV K (.ref a) H (!xs.isEmpty) := by
  cases b
  · exact .inr (.inl ⟨xs, h, rfl⟩)
  · exact .inl ⟨xs, h, rfl⟩
theorem word_shr {b x : Nat} (hb : Wd b) (hx : x < span b) : ((x : Int) / 2 ^ ((b : Int)).toNat != 0) = false := by
  have e : ((x : Int) / 2 ^ ((b : Int)).toNat) = ((x / 2 ^ b : Nat) : Int) := by
    rw [Int.toNat_natCast]
    norm_cast
  rw [e, Nat.div_eq_of_lt (by rw [← span_pow hb]; exact hx)]
  rfl
theorem evl_at0 {b : Nat} (ws : List Nat) : evl b 0 ws = ws.getLastD 0 := by
  rcases List.eq_nil_or_concat ws with rfl | ⟨r, w, rfl⟩
  · rfl
  · rw [List.concat_eq_append, evl_snoc, mul_zero, Nat.zero_xor]
    simp
end My

set_option Elab.async false
set_option linter.all false
set_option maxRecDepth 100000
set_option maxHeartbeats 1000000
/-! ### rules that name K, for comprehensions; type() of a dot; a second for of a comprehension -/
namespace My
open PySem PySem.Spec PyProof.Rows L2
theorem call_len_seqG {X : Cx} {K : PySem.W.Frag} (h : X.K = K) : CallR X (.builtin "len") (fun xs H Q => ∃ p ys, xs = [V.ref p] ∧ (SqL K H p ys ∨ SqT K H p ys) ∧ Q (.int (ys.length : Nat)) H) := by
  subst h
  exact call_len_seq
/-- two values the other way round -/
def rev2 {α : Type} : List α → List α
  | [a, b] => [b, a]
  | l => l
theorem rev2_rel {zs : List V} {ws : List Value} (r : Vals zs ws) : Vals (rev2 zs) (rev2 ws) := by
  cases r with
  | nil => exact .nil
  | cons r1 r =>
    cases r with
    | nil => exact .cons r1 .nil
    | cons r2 r =>
      cases r with
      | nil => exact .cons r2 (.cons r1 .nil)
      | cons r3 r => exact .cons r1 (.cons r2 (.cons r3 r))
theorem pe_tupleOfK {X : Cx} {K : PySem.W.Frag} {a : Expr} {ta : TE} {p pos : Pos} (hK : X.K = K) (hg : Gl X "tuple") (hm : X.mg "tuple" = none) (ha : PE X a ta) (na : starEach [a] X.env = (false, eval a X.env) :: starEach [] X.env := by rfl) :
    PE X (.Call (.Name "tuple" p) [a] [] pos) (tThen ta (kTup K)) := by
  subst hK
  exact pe_tupleOf hg hm ha na
theorem call_listOfK {X : Cx} {K : PySem.W.Frag} (h : X.K = K) : CallR X (.type "list") (fun xs H Q => ∃ p ys, xs = [.ref p] ∧ (SqL K H p ys ∨ SqT K H p ys) ∧ ∀ l, H l = none → Q (.ref l) (upd H l (.lst ys))) := by
  subst h
  exact call_list_of
theorem call_isiTK {X : Cx} {K : PySem.W.Frag} (h : X.K = K) : CallR X (.builtin "isinstance") (rIsiT K) := by
  subst h
  exact call_isiT
theorem pi_seqK {X : Cx} {K : PySem.W.Frag} {tg : Expr} {l : Expr} {tl : TE} (h : X.K = K) (hl : PE X l tl) : PI X tg l (iSeq K tl) := by
  subst h
  exact pi_seq hl
theorem pt_never {X : Cx} {e : Expr} : PT X e (fun _ _ _ => False) := ⟨fun _ _ _ _ _ _ h => h.elim⟩
def sidesI : List Int := [8, 12, 16, 20, 24]
theorem side_at {n : Nat} (h : SideOk n) : ∃ i : Nat, i < 5 ∧ sidesI[i]? = some (n : Int) ∧ ∀ m, m < i → sidesI[m]? ≠ some (n : Int) := by
  rcases h with rfl | rfl | rfl | rfl | rfl
  · exact ⟨0, by decide, rfl, by decide⟩
  · exact ⟨1, by decide, rfl, by decide⟩
  · exact ⟨2, by decide, rfl, by decide⟩
  · exact ⟨3, by decide, rfl, by decide⟩
  · exact ⟨4, by decide, rfl, by decide⟩
theorem side_in {n : Nat} (h : SideOk n) : inV (vN n) (sidesI.map V.int) = true := by
  rcases h with rfl | rfl | rfl | rfl | rfl <;> decide
theorem side_le {n : Nat} (h : SideOk n) : 8 ≤ n ∧ n ≤ 24 := by
  rcases h with rfl | rfl | rfl | rfl | rfl <;> decide
def tyG : Option Nat → String
  | none => "NoneType"
  | some _ => "int"
def rTyG : List V → Hp → VK → Prop := fun xs H Q => ∃ o : Option Nat, xs = [vG o] ∧ Q (.ty (tyG o)) H
theorem call_typeG {X : Cx} : CallR X (.type "type") rTyG := by
  intro pins s σ H xs us Q I r h
  obtain ⟨o, rfl, q⟩ := h
  obtain ⟨u, rfl, rx⟩ := vals1 r
  cases o with
  | none =>
    cases (show u = Value.none from rx)
    exact call_type_of (Tx := "NoneType") rfl (by decide +kernel) ⟨.ty "NoneType", H, I, rfl, q⟩
  | some n =>
    obtain ⟨t, rfl⟩ := (show ∃ t, u = Value.int n t from rx)
    exact call_type_of (Tx := "int") rfl (by decide +kernel) ⟨.ty "int", H, I, rfl, q⟩
section
variable {J : It} {n : Nat} {G : Hp → Prop} {Y : Nat → Hp → V → Hp → Prop}
/-- the turns of a first for that holds a second one -/
theorem lc2_it (w : Walk J n G Y) {g g1 : TG} {tt tt1 : TT} {wi1 : TI} {te : TE} {vs vs1 : List Nat} {σ : L2.St} {H1 : Hp} {D : Addr} {Qd : Hp → Prop} (Pv : Nat → Hp → Prop) (h0 : Pv 0 (upd H1 D (.lst []))) (hG : ∀ i H, i ≤ n → Pv i H → G H)
    (hs : ∀ i x H H', i < n → Pv i H → Y i H x H' → g x (wipe σ vs) H' fun σ2 H2 => wipe σ2 vs = wipe σ vs ∧ tt σ2 H2 fun b H3 =>
      if b = true then wi1 σ2 H3 fun J1 H4 => ∃ W1 : Nat → Nat → Hp → Prop, (∃ m, W1 0 m H4) ∧ ∀ j k H, W1 j k H →
        (J1.stop j H ∧ Pv (i + 1) H) ∨ (J1.go j H ∧ ∃ Nx1 : Hp → Prop, (∀ H', Nx1 H' → ∃ k', k' < k ∧ W1 (j + 1) k' H') ∧ ∀ x H', J1.yld j H x H' → g1 x (wipe σ2 vs1) H' fun σ3 H5 => wipe σ3 vs1 = wipe σ2 vs1 ∧ tt1 σ3 H5 fun b H6 =>
          if b = true then te σ3 H6 fun y H7 => ∃ acc, H7 D = some (.lst acc) ∧ acc.length < sizeLine ∧ Nx1 (upd H7 D (.lst (acc ++ [y]))) else Nx1 H6)
      else Pv (i + 1) H3) (hd : ∀ H, Pv n H → Qd H) :
    ∃ W : Nat → Nat → Hp → Prop, (∃ m, W 0 m (upd H1 D (.lst []))) ∧ ∀ i m H, W i m H →
      (J.stop i H ∧ Qd H) ∨ (J.go i H ∧ ∃ Nx : Hp → Prop, (∀ H', Nx H' → ∃ m', m' < m ∧ W (i + 1) m' H') ∧ ∀ x H', J.yld i H x H' → g x (wipe σ vs) H' fun σ2 H2 => wipe σ2 vs = wipe σ vs ∧ tt σ2 H2 fun b H3 =>
        if b = true then wi1 σ2 H3 fun J1 H4 => ∃ W1 : Nat → Nat → Hp → Prop, (∃ m, W1 0 m H4) ∧ ∀ j k H, W1 j k H →
          (J1.stop j H ∧ Nx H) ∨ (J1.go j H ∧ ∃ Nx1 : Hp → Prop, (∀ H', Nx1 H' → ∃ k', k' < k ∧ W1 (j + 1) k' H') ∧ ∀ x H', J1.yld j H x H' → g1 x (wipe σ2 vs1) H' fun σ3 H5 => wipe σ3 vs1 = wipe σ2 vs1 ∧ tt1 σ3 H5 fun b H6 =>
            if b = true then te σ3 H6 fun y H7 => ∃ acc, H7 D = some (.lst acc) ∧ acc.length < sizeLine ∧ Nx1 (upd H7 D (.lst (acc ++ [y]))) else Nx1 H6)
        else Nx H3) := by
  refine ⟨fun i m H => m = n - i ∧ i ≤ n ∧ Pv i H, ⟨n, by simp, Nat.zero_le _, h0⟩, ?_⟩
  rintro i m H ⟨rfl, hi, p⟩
  have q := hG i H hi p
  by_cases hlt : i < n
  · exact .inr ⟨w.goes i H hlt q, Pv (i + 1), fun H' p' => ⟨n - (i + 1), by omega, rfl, hlt, p'⟩, fun x H' y => hs i x H H' hlt p (w.yields i H x H' hlt q y)⟩
  · have e : i = n := by omega
    subst e
    exact .inl ⟨w.stops H q, hd H p⟩
/-- the turns of a second for -/
theorem lc_in (w : Walk J n G Y) {g : TG} {tt : TT} {te : TE} {vs : List Nat} {σ : L2.St} {H1 : Hp} {D : Addr} {Qd : Hp → Prop} (Pv : Nat → Hp → Prop) (h0 : Pv 0 H1) (hG : ∀ i H, i ≤ n → Pv i H → G H)
    (hs : ∀ i x H H', i < n → Pv i H → Y i H x H' → g x (wipe σ vs) H' fun σ2 H2 => wipe σ2 vs = wipe σ vs ∧ tt σ2 H2 fun b H3 =>
      if b = true then te σ2 H3 fun y H4 => ∃ acc, H4 D = some (.lst acc) ∧ acc.length < sizeLine ∧ Pv (i + 1) (upd H4 D (.lst (acc ++ [y]))) else Pv (i + 1) H3) (hd : ∀ H, Pv n H → Qd H) :
    ∃ W : Nat → Nat → Hp → Prop, (∃ m, W 0 m H1) ∧ ∀ i m H, W i m H →
      (J.stop i H ∧ Qd H) ∨ (J.go i H ∧ ∃ Nx : Hp → Prop, (∀ H', Nx H' → ∃ m', m' < m ∧ W (i + 1) m' H') ∧ ∀ x H', J.yld i H x H' → g x (wipe σ vs) H' fun σ2 H2 => wipe σ2 vs = wipe σ vs ∧ tt σ2 H2 fun b H3 =>
        if b = true then te σ2 H3 fun y H4 => ∃ acc, H4 D = some (.lst acc) ∧ acc.length < sizeLine ∧ Nx (upd H4 D (.lst (acc ++ [y]))) else Nx H3) := by
  refine ⟨fun i m H => m = n - i ∧ i ≤ n ∧ Pv i H, ⟨n, by simp, Nat.zero_le _, h0⟩, ?_⟩
  rintro i m H ⟨rfl, hi, p⟩
  have q := hG i H hi p
  by_cases hlt : i < n
  · exact .inr ⟨w.goes i H hlt q, Pv (i + 1), fun H' p' => ⟨n - (i + 1), by omega, rfl, hlt, p'⟩, fun x H' y => hs i x H H' hlt p (w.yields i H x H' hlt q y)⟩
  · have e : i = n := by omega
    subst e
    exact .inl ⟨w.stops H q, hd H p⟩
end
end My

set_option Elab.async false
set_option linter.all false
set_option maxRecDepth 100000
set_option maxHeartbeats 1000000
/-! ### a module's tuples of tuples; min of a tuple; list(range(a, b, c)); sum of lists -/
namespace My
open PySem PySem.Spec PyProof.Rows L2
def KTupR (K : PySem.W.Frag) (a : Addr) (cs : List Addr) : Prop := ∃ (n : Nat) (sl : Array (Option Value)), K.lookup a = some ⟨.type "tuple", none, .seq (cs.map Value.ref).toArray n, sl⟩
theorem refs_of : ∀ cs : List Addr, Vals (cs.map V.ref) (cs.map Value.ref)
  | [] => .nil
  | c :: cs => .cons rfl (refs_of cs)
theorem KTupR.sq {K : PySem.W.Frag} {a : Addr} {cs : List Addr} {H : Hp} (h : KTupR K a cs) (hz : cs.length ≤ 1000 := by decide) : SqT K H a (cs.map V.ref) := by
  obtain ⟨n, sl, e⟩ := h
  exact .inr ⟨_, (cs.map Value.ref).toArray, n, e, rfl, rfl, by rw [List.size_toArray, List.length_map]; exact Nat.le_trans hz (by decide), by simpa using refs_of cs⟩
section
variable {prog : Program} {w : World} {A : Around} {E : Value → Shared → Prop} {s : Shared} {l : Addr} {xs : Array (Int × Tok)}
theorem min_intTuple {Q : Value → Shared → Prop} (hh : A.handled = none) (hl : s.heap.IsTuple l (intItems xs)) (hne : 0 < xs.size)
    (h : ∀ v h' tk, (intItems xs)[argBest (fun i j => decide (numAt xs i < numAt xs j)) (xs.size - 1)]? = some v → (∀ b o, s.heap.get? b = some o → h'.get? b = some o) → Q v { s with heap := h', toks := tk }) :
    wpAny (model prog w) A (call (.builtin "min") [.ref l]) Q E s := by
  have hlt : l < s.heap.objs.size := by obtain ⟨o, e, _⟩ := hl; exact Heap.lt_size e
  refine call_min_walk (wpAny_pyIter_tuple hl ?_)
  refine ⟨_, [_, l], [_], _, _, _, _, rfl, Walks.tuple (A := A.in1) hh _ l (Nat.ne_of_lt hlt) (intItems xs),
    ⟨⟨_, Heap.get?_push_size _ rfl, rfl, rfl⟩, hl.push _⟩, fun c hc => ?_, by simpa [intItems] using hne, CmpOf.ints_lt (numAt xs) (fun _ _ => intItems_at), fun v h' tk hP hk => ?_⟩
  · show c < (s.heap.push _).objs.size
    rw [Heap.size_push]
    rcases List.mem_cons.mp hc with rfl | hc
    · exact Nat.lt_succ_self _
    · rw [List.mem_singleton.mp hc]
      exact Nat.lt_succ_of_lt hlt
  · refine h v h' tk (by simpa [intItems] using hP) fun b o e => hk b o ?_ (Heap.get?_push_of_some _ e)
    intro hb
    rw [List.mem_singleton.mp hb] at e
    exact absurd (Heap.lt_size e) (Nat.lt_irrefl _)
end
end My
namespace My
open PySem PySem.Spec PyProof.Rows L2
section
variable {X : Cx}
/-- min(t) of a tuple of ints -/
def rMinT (K : PySem.W.Frag) : List V → Hp → VK → Prop := fun vs H Q => ∃ (a : Addr) (ns : List Int), vs = [V.ref a] ∧ SqT K H a (ns.map V.int) ∧ 0 < ns.length ∧ ∀ m, m ∈ ns → (∀ y, y ∈ ns → m ≤ y) → Q (.int m) H
theorem cr_minT (hc : X.calm = true) : CallR X (.builtin "min") (rMinT X.K) := by
  intro pins s σ H vs us Q I r h
  obtain ⟨a, ns, rfl, hs, hne, q⟩ := h
  obtain ⟨its, rv, hl, _⟩ := I.tuple hs
  rw [Vals.ref1 r]
  have hi := rv.ints
  obtain ⟨xs, e⟩ := hi.allInts.items
  have hn : numsOf (intItems xs).toList = ns := by rw [← e]; exact hi.numsOf
  rw [nums_intItems] at hn
  subst hn
  have hl' : s.heap.IsTuple a (intItems xs) := by rw [← e]; exact hl
  have hsz : 0 < xs.size := by simpa using hne
  refine min_intTuple (I.ok.hd hc) hl' hsz fun v h' tk hv hk => ?_
  obtain ⟨t, rfl⟩ := intItems_at hv
  obtain ⟨h1, h2⟩ := argBest_lt (numAt xs) (xs.size - 1)
  refine ⟨.int _, H, I.kept hk, ⟨_, rfl⟩, q _ ?_ fun b hb => ?_⟩
  · rw [numAt_eq]; exact PySem.getD_mem (by rw [List.length_map, Array.length_toList]; omega)
  · obtain ⟨j, hj, rfl⟩ := mem_getD hb
    rw [List.length_map, Array.length_toList] at hj
    rw [← numAt_eq]; exact h2 j (by omega)
/-- a range object with a step -/
def RngO (r : Addr) (i j c : Int) : HO := .ext fun h => ∃ t u v, h.get? r = some { cls := .type "range", dict := none, data := .fields #[.int i t, .int j u, .int c v], slots := #[] }
def rRange3 : List V → Hp → VK → Prop := fun vs H Q => ∃ (i j c : Int) (n : Nat), vs = [.int i, .int j, .int c] ∧ RgC i j c n ∧ ∀ p, H p = none → Q (.ref p) (upd H p (RngO p i j c))
theorem cr_range3 : CallR X (.type "range") rRange3 := by
  intro pins s σ H vs us Q I r h
  obtain ⟨i, j, k, n, rfl, ⟨c0, c1, c2, c3⟩, q⟩ := h
  cases r with
  | cons r rr =>
    cases rr with
    | cons r' rr =>
      cases rr with
      | cons r'' rr =>
        cases rr
        obtain ⟨t, rfl⟩ := r
        obtain ⟨t', rfl⟩ := r'
        obtain ⟨t'', rfl⟩ := r''
        refine call_range_3 c0 ?_ (.inl (PyProof.noPylong_small c1))
        refine ⟨.ref s.heap.objs.size, _, I.laid (t' := s.toks) (o := RngO s.heap.objs.size i j k) (fun b o e => Heap.get?_push_of_some _ e) (Nat.le_refl _) ?_, rfl, q _ (I.hok.fresh (Nat.le_refl _))⟩
        refine ⟨⟨t, t', t'', Heap.get?_push_size _ rfl⟩, ⟨_, Heap.get?_push_size _ rfl⟩, fun h1 h2 ⟨a, b, c, e⟩ k => ⟨a, b, c, k _ e⟩⟩
def rngL (i c : Int) (n : Nat) : List Int := (List.range n).map fun (k : Nat) => i + (k : Int) * c
def rListR : List V → Hp → VK → Prop := fun vs H Q => ∃ (p : Addr) (i j c : Int) (n : Nat), vs = [.ref p] ∧ H p = some (RngO p i j c) ∧ RgC i j c n ∧ n ≤ 1000 ∧ ∀ l, H l = none → Q (.ref l) (upd H l (.lst ((rngL i c n).map V.int)))
theorem cr_listR (hc : X.calm = true) : CallR X (.type "list") rListR := by
  intro pins s σ H vs us Q I r h
  obtain ⟨p, i, j, k, n, rfl, hp, ⟨c0, c1, c2, c3⟩, hn, q⟩ := h
  rw [Vals.ref1 r]
  obtain ⟨⟨t, u, v, e⟩, _, _⟩ := I.hok p _ hp
  refine call_list_range (I.ok.hd hc) e c2 c3 (Nat.le_trans hn (by decide)) fun h' tk acc c' hk hl hi => ?_
  have lr : (rngL i k n).length = n := by unfold rngL; rw [List.length_map, List.length_range]
  refine ⟨.ref s.heap.objs.size, _, I.laid (t' := tk) (o := .lst ((rngL i k n).map V.int)) hk (Nat.le_refl _) ?_, rfl, q _ (I.hok.fresh (Nat.le_refl _))⟩
  refine ⟨by rw [List.length_map, lr]; exact Nat.le_trans hn (by decide), acc.toList, c', ?_, by rw [Array.toArray_toList]; exact hl⟩
  refine vals_of_idx _ _ (by rw [List.length_map, lr, Array.length_toList]; exact hi.1) fun j w hj => ?_
  obtain ⟨tt, rfl⟩ := hi.2 j w (by rw [← Array.getElem?_toList]; exact hj)
  have hjn : j < n := by
    have := (List.getElem?_eq_some_iff.mp hj).1
    rw [Array.length_toList, hi.1] at this
    exact this
  refine ⟨.int (i + (j : Int) * k), ?_, ⟨_, rfl⟩⟩
  unfold rngL
  rw [List.getElem?_map, List.getElem?_map, List.getElem?_range hjn]
  rfl
end
end My
namespace PySem.F
theorem args_sum2 (a b : Value) : argsOk "sum" ⟨[a, b], []⟩ := by unfold argsOk; kernel_rfl
end PySem.F
namespace My
open PySem PySem.Spec PyProof.Rows L2
open PySem.Sem (wp)
section
variable {prog : Program} {w : World} {A : Around} {E : Value → Shared → Prop} {s : Shared}
def LstO (h : Heap) (a : Addr) (vs : List Value) : Prop := ∃ c : Nat, h.get? a = some { cls := .type "list", dict := none, data := .seq vs.toArray c, slots := #[] }
theorem LstO.at {h h' : Heap} {a : Addr} {vs : List Value} (x : LstO h a vs) (k : ∀ o, h.get? a = some o → h'.get? a = some o) : LstO h' a vs := let ⟨c, e⟩ := x; ⟨c, k _ e⟩
/-- the sum of lists, as it goes on -/
theorem sum_lists_loop (hh : A.handled = none) {R : Result → Shared → Prop} {I l S : Addr} {Ls : List Addr} {X : Nat → List Value} (hIl : l ≠ I) (hSI : S ≠ I) (hSl : S ≠ l) (hsz : ((List.range Ls.length).map X).flatten.length ≤ sizeLine) :
    ∀ (k i : Nat) (s : Shared) (T : Addr) (c : Nat), Ls.length - i = k → i ≤ Ls.length → (s.heap.IsListIter I l i ∧ s.heap.IsList l (Ls.map Value.ref).toArray) → T ≠ I → T ≠ S →
      (∀ (j : Nat) (a : Addr), Ls[j]? = some a → a ≠ I ∧ a ≠ S ∧ s.heap.IsList a (X j).toArray) →
      s.heap.get? S = some { cls := .type "list", dict := none, data := .seq #[.ref T] c, slots := #[] } → LstO s.heap T (((List.range i).map X).flatten) →
      (∀ h' tk T', (∀ b o, b ≠ I → b ≠ S → s.heap.get? b = some o → h'.get? b = some o) → LstO h' T' (((List.range Ls.length).map X).flatten) → (T' = T ∨ s.heap.get? T' = none) → R (.ok (.ret (.ref T'))) { s with heap := h', toks := tk }) →
      codeAny (model prog w) A (.builtin "sum.loop" ⟨[.ref I, .ref S, rawInt 2, rawInt 0], []⟩) R s := by
  intro k
  induction k with
  | zero =>
    intro i s T c hk hi hst hTI hTS hL hS hT hR
    have W := Walks.list (prog := prog) (w := w) (A := A.in1) hh I l hIl (Ls.map Value.ref).toArray
    have hin : i = Ls.length := by omega
    subst hin
    refine codeAny_builtin F.entry_sum_loop ?_
    rw [Around.under_plainId F.plain_sum_loop _]
    show wpAny _ A.in1 (seqItems? (.ref S) >>= _) _ _ s
    refine wpAny_bind (wpAny_seqItems hS rfl ?_)
    show wpAny _ A.in1 (tryCatch (pyNext (.ref I)) _ >>= _) _ _ s
    refine wpAny_bind (wpAny_tryCatch (W.done s _ _ (by simpa using hst) fun h' tk hk' => ?_))
    refine wpAny_pure (hR h' tk T (fun b o hbw _ e => hk' b o (by simpa using hbw) e) ?_ (.inl rfl))
    exact hT.at fun o e => hk' _ _ (by simpa using hTI) e
  | succ k ih =>
    intro i s T c hk hi hst hTI hTS hL hS hT hR
    have W := Walks.list (prog := prog) (w := w) (A := A.in1) hh I l hIl (Ls.map Value.ref).toArray
    have hlt : i < Ls.length := by omega
    refine codeAny_builtin F.entry_sum_loop ?_
    rw [Around.under_plainId F.plain_sum_loop _]
    show wpAny _ A.in1 (seqItems? (.ref S) >>= _) _ _ s
    refine wpAny_bind (wpAny_seqItems hS rfl ?_)
    show wpAny _ A.in1 (tryCatch (pyNext (.ref I)) _ >>= _) _ _ s
    refine wpAny_bind (wpAny_tryCatch (W.item i s _ _ (by simpa using hlt) hst fun v h' tk hPi hst' hk' => ?_))
    have e1 : Ls[i]? = some Ls[i] := List.getElem?_eq_getElem hlt
    have hv : v = .ref Ls[i] := by
      have : (Ls.map Value.ref).toArray[i]? = some v := hPi
      rw [List.getElem?_toArray, List.getElem?_map, e1] at this
      exact (Option.some.inj this).symm
    subst hv
    have kk : ∀ b o, b ≠ I → s.heap.get? b = some o → h'.get? b = some o := fun b o n e => hk' b o (by simpa using n) e
    have hS' := kk S _ hSI hS
    obtain ⟨a1, a2, ⟨⟨cls, dd, data, sl⟩, ho, hc, nn, hd⟩⟩ := hL i _ e1
    obtain ⟨nn2, ho2⟩ := hT
    simp only at hc hd
    subst hc hd
    have ho' := kk _ _ a1 ho
    have ho2' := kk _ _ hTI ho2
    have er : ((List.range (i + 1)).map X).flatten = ((List.range i).map X).flatten ++ X i := by rw [List.range_succ, List.map_append, List.flatten_append]; simp
    have hle : ((List.range (i + 1)).map X).flatten.length ≤ sizeLine := by
      refine Nat.le_trans ?_ hsz
      have es : List.range Ls.length = List.range (i + 1) ++ (List.range' (i + 1) (Ls.length - (i + 1))) := by
        have h := List.range'_append_1 (s := 0) (m := i + 1) (n := Ls.length - (i + 1))
        rw [Nat.zero_add] at h
        rw [List.range_eq_range', List.range_eq_range', h]
        congr 1
        omega
      rw [es, List.map_append, List.flatten_append, List.length_append]
      omega
    show wpAny _ A.in1 ((holding [.ref Ls[i]] (binaryOp .Add (.ref T) (.ref Ls[i]))).attempt >>= _) _ _ _
    refine wpAny_bind (wpAny_attempt (wpAny_holding (concat_meets ⟨_, ho2', rfl⟩ ⟨_, ho', rfl⟩ noFill_list_add seq_list_add PySem.F.slot_list_add PySem.F.entry_list_add (PySem.F.args_list_add_2 _ _) (list_addW T Ls[i] _ _ nn2 nn none dd #[] sl (by
      rw [er, List.length_append] at hle
      simpa using hle)) ⟨ho2', ho', ?_⟩)))
    have hI' : I < h'.objs.size := by obtain ⟨o, e, _⟩ := hst'.1; exact Heap.lt_size e
    have hSs : S < h'.objs.size := Heap.lt_size hS'
    have hll : l < h'.objs.size := by obtain ⟨o, e, _⟩ := hst'.2; exact Heap.lt_size e
    have up : ∀ b o, h'.get? b = some o → (h'.push { cls := .type "list", data := .seq ((((List.range i).map X).flatten).toArray ++ (X i).toArray) }).get? b = some o := fun b o e => Heap.get?_push_of_some _ e
    have gT : (h'.push { cls := .type "list", data := .seq ((((List.range i).map X).flatten).toArray ++ (X i).toArray) }).get? h'.objs.size = some { cls := .type "list", data := .seq ((((List.range i).map X).flatten).toArray ++ (X i).toArray) } := Heap.get?_push_size _ rfl
    have eT : (((List.range i).map X).flatten).toArray ++ (X i).toArray = (((List.range (i + 1)).map X).flatten).toArray := by rw [er]; simp
    rw [eT] at up gT
    have hS2 := up _ _ hS'
    rw [eT]
    generalize (h'.push { cls := .type "list", data := .seq (((List.range (i + 1)).map X).flatten).toArray }) = h2 at up gT hS2 ⊢
    show wpAny _ A.in1 (updateSeq S (fun _ => #[.ref h'.objs.size]) >>= _) _ _ ⟨h2, s.gens, s.drawn, tk, s.os⟩
    refine wpAny_bind (wpAny_updateSeq hS2 rfl ?_)
    refine wpAny_bind (wpAny_letGo ?_)
    have hS3 : (h2.update S (Obj.mapSeq fun _ => #[.ref h'.objs.size])).get? S = some { cls := .type "list", dict := none, data := .seq #[.ref h'.objs.size] c, slots := #[] } := Heap.get?_update_self (Obj.mapSeq fun _ => #[.ref h'.objs.size]) hS2 rfl
    have s3 : Heap.SameBut S h2 (h2.update S (Obj.mapSeq fun _ => #[.ref h'.objs.size])) := Heap.SameBut.update ..
    generalize (h2.update S (Obj.mapSeq fun _ => #[.ref h'.objs.size])) = h3 at hS3 s3 ⊢
    show wpAny _ A.in1 (updateSeq S (fun _ => #[.ref h'.objs.size]) >>= _) _ _ ⟨h3, s.gens, s.drawn, tk, s.os⟩
    refine wpAny_bind (wpAny_updateSeq hS3 rfl ?_)
    have hS4 : (h3.update S (Obj.mapSeq fun _ => #[.ref h'.objs.size])).get? S = some { cls := .type "list", dict := none, data := .seq #[.ref h'.objs.size] c, slots := #[] } := Heap.get?_update_self (Obj.mapSeq fun _ => #[.ref h'.objs.size]) hS3 rfl
    have s4 : Heap.SameBut S h3 (h3.update S (Obj.mapSeq fun _ => #[.ref h'.objs.size])) := Heap.SameBut.update ..
    generalize (h3.update S (Obj.mapSeq fun _ => #[.ref h'.objs.size])) = h4 at hS4 s4 ⊢
    have all : ∀ b o, b ≠ S → h'.get? b = some o → h4.get? b = some o := fun b o n e => s4.extBut _ _ n (s3.extBut _ _ n (up _ _ e))
    have nTI : h'.objs.size ≠ I := Nat.ne_of_gt hI'
    have nTS : h'.objs.size ≠ S := Nat.ne_of_gt hSs
    refine wpAny_pure ⟨plainId_quiet F.plain_sum_loop _, ih (i + 1) ⟨h4, s.gens, s.drawn, tk, s.os⟩ h'.objs.size c (by omega) hlt ⟨hst'.1.at fun o e => all _ _ hSI.symm e, ?_⟩ nTI nTS (fun j a e => ?_) hS4 ?_ fun h5 tk5 T5 k5 hT5 hf5 => ?_⟩
    · exact hst'.2.at fun o e => all _ _ hSl.symm e
    · obtain ⟨b1, b2, b3⟩ := hL j a e
      exact ⟨b1, b2, b3.at fun o e => all _ _ b2 (kk _ _ b1 e)⟩
    · exact ⟨0, s4.extBut _ _ nTS (s3.extBut _ _ nTS gT)⟩
    · refine hR h5 tk5 T5 (fun b o n1 n2 e => k5 b o n1 n2 (all _ _ n2 (kk _ _ n1 e))) hT5 (.inr ?_)
      cases hx : s.heap.get? T5 with
      | none => rfl
      | some o =>
        exfalso
        by_cases n1 : T5 = I
        · rcases hf5 with z | z
          · exact nTI (z.symm.trans n1)
          · have := all _ _ hSI.symm (hst'.1.choose_spec.1)
            rw [n1] at z
            rw [z] at this
            cases this
        · by_cases n2 : T5 = S
          · rcases hf5 with z | z
            · exact nTS (z.symm.trans n2)
            · rw [n2, show Heap.get? h4 S = some _ from hS4] at z
              cases z
          · have h4x := all _ _ n2 (kk _ _ n1 hx)
            rcases hf5 with z | z
            · rw [z] at hx
              exact absurd (Heap.lt_size (kk _ _ nTI hx)) (Nat.lt_irrefl _)
            · rw [show Heap.get? h4 T5 = none from z] at h4x
              cases h4x
theorem call_sum_lists {l T : Addr} {Ls : List Addr} {X : Nat → List Value} {Q : Value → Shared → Prop} (hh : A.handled = none) (hl : s.heap.IsList l (Ls.map Value.ref).toArray) (hT : LstO s.heap T []) (hL : ∀ (j : Nat) (a : Addr), Ls[j]? = some a → s.heap.IsList a (X j).toArray)
    (hsz : ((List.range Ls.length).map X).flatten.length ≤ sizeLine)
    (h : ∀ h' tk T', (∀ b o, s.heap.get? b = some o → h'.get? b = some o) → LstO h' T' (((List.range Ls.length).map X).flatten) → (T' = T ∨ s.heap.get? T' = none) → Q (.ref T') { s with heap := h', toks := tk }) :
    wpAny (model prog w) A (call (.builtin "sum") [.ref l, .ref T]) Q E s := by
  have hll : l < s.heap.objs.size := by obtain ⟨o, e, _⟩ := hl; exact Heap.lt_size e
  have hTl : T < s.heap.objs.size := by obtain ⟨c, e⟩ := hT; exact Heap.lt_size e
  refine call_function_tree F.kind_sum F.plain_sum F.entry_sum (F.args_sum2 _ _) ?_
  unfold Builtin.«sum»
  simp only [List.length_cons, List.length_nil]
  rw [if_neg (by decide)]
  refine wpAny_bind (wpAny_of_eq (show Builtin.Builtins.bindParams "sum" ["start"] 0 ⟨[.ref T], []⟩ = pure [some (.ref T)] from rfl) ?_)
  refine wpAny_bind (wpAny_pyIter_list hl ?_)
  have k1 : ∀ b o, s.heap.get? b = some o → (s.heap.push { cls := .type "list_iterator", data := .fields #[.ref l, .int 0 0] }).get? b = some o := fun b o e => Heap.get?_push_of_some _ e
  have hit : (s.heap.push { cls := .type "list_iterator", data := .fields #[.ref l, .int 0 0] }).IsListIter s.heap.objs.size l 0 := ⟨_, Heap.get?_push_size _ rfl, rfl, rfl⟩
  have z1 : (s.heap.push { cls := .type "list_iterator", data := .fields #[.ref l, .int 0 0] }).objs.size = s.heap.objs.size + 1 := Heap.size_push ..
  generalize (s.heap.push { cls := .type "list_iterator", data := .fields #[.ref l, .int 0 0] }) = h1 at k1 hit z1 ⊢
  have hT1 : h1.IsList T #[] := let ⟨c, e⟩ := hT; ⟨_, k1 _ _ e, rfl, c, rfl⟩
  have hl1 := hl.at (k1 l)
  show wpAny _ A.in1 ((pure (.ref T, (2 : Int)) : Sem (Value × Int)) >>= _) _ _ _
  refine wpAny_bind (wpAny_pure ?_)
  simp only [List.forIn_cons, List.forIn_nil]
  refine wpAny_bind (wpAny_bind (wpAny_bind (wpAny_isInstance (s := { s with heap := h1 }) (T := "list") (b := false) hT1.typeIs F.sub_list_str ?_)))
  simp only [Bool.false_eq_true, if_false]
  refine wpAny_pure (wpAny_bind (wpAny_bind (wpAny_isInstance (s := { s with heap := h1 }) (T := "list") (b := false) hT1.typeIs F.sub_list_bytes ?_)))
  simp only [Bool.false_eq_true, if_false]
  refine wpAny_pure (wpAny_bind (wpAny_bind (wpAny_isInstance (s := { s with heap := h1 }) (T := "list") (b := false) hT1.typeIs F.sub_list_bytearray ?_)))
  simp only [Bool.false_eq_true, if_false]
  refine wpAny_pure (wpAny_pure ?_)
  refine wpAny_bind (wpAny_newObj_type ?_)
  have k2 : ∀ b o, h1.get? b = some o → (h1.push { cls := .type "list", data := .seq #[.ref T] }).get? b = some o := fun b o e => Heap.get?_push_of_some _ e
  have hS : (h1.push { cls := .type "list", data := .seq #[.ref T] }).get? h1.objs.size = some { cls := .type "list", data := .seq #[.ref T] } := Heap.get?_push_size _ rfl
  generalize (h1.push { cls := .type "list", data := .seq #[.ref T] }) = h2 at k2 hS ⊢
  have old : ∀ b o, s.heap.get? b = some o → h2.get? b = some o := fun b o e => k2 _ _ (k1 _ _ e)
  have lt1 : ∀ b, b < s.heap.objs.size → b ≠ s.heap.objs.size ∧ b ≠ h1.objs.size := fun b hb => ⟨Nat.ne_of_lt hb, Nat.ne_of_lt (Nat.lt_of_lt_of_le hb (by rw [z1]; exact Nat.le_succ _))⟩
  refine wpAny_pure ⟨plainId_quiet F.plain_sum_loop _, sum_lists_loop (X := X) (Ls := Ls) (l := l) hh (lt1 l hll).1 ?_ (lt1 l hll).2.symm hsz Ls.length 0 ⟨h2, s.gens, s.drawn, s.toks, s.os⟩ T 0 (by omega) (Nat.zero_le _) ⟨hit.at fun o e => k2 _ _ e, hl.at fun o e => old _ _ e⟩ (lt1 T hTl).1 (lt1 T hTl).2 (fun j a e => ?_) hS ?_ fun h' tk T' k3 hT' hf => ?_⟩
  · rw [z1]
    exact Nat.succ_ne_self _
  · have ha := hL j a e
    have hal : a < s.heap.objs.size := by obtain ⟨o, e, _⟩ := ha; exact Heap.lt_size e
    exact ⟨(lt1 a hal).1, (lt1 a hal).2, ha.at fun o e => old _ _ e⟩
  · exact hT.at fun o e => old _ _ e
  · refine h h' tk T' (fun b o e => k3 b o (lt1 b (Heap.lt_size e)).1 (lt1 b (Heap.lt_size e)).2 (old _ _ e)) hT' ?_
    rcases hf with z | z
    · exact .inl z
    · right
      cases hx : s.heap.get? T' with
      | none => rfl
      | some o =>
        have := old _ _ hx
        rw [show h2.get? T' = none from z] at this
        cases this
end
end My
namespace My
open PySem PySem.Spec PyProof.Rows L2
section
variable {X : Cx}
/-- sum(xs, []) of lists -/
def rSumL (K : PySem.W.Frag) : List V → Hp → VK → Prop := fun vs H Q => ∃ (l T : Addr) (Ls : List Addr) (rows : List (List V)), vs = [.ref l, .ref T] ∧ SqL K H l (Ls.map V.ref) ∧ H T = some (.lst []) ∧ RowsL K H Ls rows ∧ rows.flatten.length ≤ 1000 ∧ rows ≠ [] ∧
  ∀ p H', Same H H' → H' p = some (.lst rows.flatten) → Q (.ref p) H'
theorem cr_sumL (hc : X.calm = true) : CallR X (.builtin "sum") (rSumL X.K) := by
  intro pins s σ H vs us Q I r h
  obtain ⟨l, T, Ls, rows, rfl, hl, hT, hr, hz, h0, q⟩ := h
  cases r with
  | cons r rr =>
    cases rr with
    | cons r' rr =>
      cases rr
      cases r
      cases r'
      obtain ⟨its, rv, p1, _⟩ := I.list hl
      obtain rfl := refs_vals rv
      have hT2 := I.hok T _ hT
      obtain ⟨_, itsT, cT, rvT, eT⟩ := hT2
      cases rvT
      have each : ∀ j : Nat, ∃ u : List Value, ∀ a, Ls[j]? = some a → s.heap.IsList a u.toArray ∧ ∀ r, rows[j]? = some r → Vals r u := fun j => by
        cases e1 : Ls[j]? with
        | none => exact ⟨[], fun a z => by cases z⟩
        | some a =>
          have hj : j < rows.length := by rw [← hr.1]; exact (List.getElem?_eq_some_iff.mp e1).1
          have e2 : rows[j]? = some rows[j] := List.getElem?_eq_getElem hj
          obtain ⟨its2, rv2, p2, _⟩ := I.list (hr.2 j a _ e1 e2)
          refine ⟨its2, fun a2 z => ?_⟩
          cases z
          refine ⟨p2.isList, fun r z => ?_⟩
          rw [e2] at z
          cases z
          exact rv2
      let X2 : Nat → List Value := fun j => Classical.choose (each j)
      have hX : ∀ j a, Ls[j]? = some a → s.heap.IsList a (X2 j).toArray ∧ ∀ r, rows[j]? = some r → Vals r (X2 j) := fun j => Classical.choose_spec (each j)
      have rel : ∀ n, n ≤ rows.length → Vals ((rows.take n).flatten) ((List.range n).map X2).flatten := fun n => by
        induction n with
        | zero => exact fun _ => .nil
        | succ n ih =>
          intro hn
          have e2 : rows[n]? = some (rows[n]'(by omega)) := List.getElem?_eq_getElem _
          have e1 : Ls[n]? = some (Ls[n]'(by rw [hr.1]; omega)) := List.getElem?_eq_getElem _
          rw [List.take_add_one, e2, List.range_succ, List.map_append, List.flatten_append, List.flatten_append]
          simp only [Option.toList_some, List.flatten_cons, List.flatten_nil, List.append_nil, List.map_cons, List.map_nil]
          exact (ih (by omega)).append ((hX n _ e1).2 _ e2)
      have relA : Vals rows.flatten ((List.range Ls.length).map X2).flatten := by
        have := rel rows.length (Nat.le_refl _)
        rw [List.take_length] at this
        rw [hr.1]
        exact this
      have len := relA.length
      refine call_sum_lists (X := X2) (I.ok.hd hc) p1.isList ⟨cT, eT⟩ (fun j a e => (hX j a e).1) (by rw [← len]; exact Nat.le_trans hz (by decide)) fun h' tk T' k ⟨c', e'⟩ hf => ?_
      rcases hf with rfl | hn
      · have eN : ((List.range Ls.length).map X2).flatten = [] := by
          have := k _ _ eT
          rw [e'] at this
          have h2 : (((List.range Ls.length).map X2).flatten).toArray = #[] := by
            have h3 := congrArg Obj.data (Option.some.inj this)
            exact (Data.seq.inj h3).1
          simpa using congrArg Array.toList h2
        have eR : rows.flatten = [] := by rw [eN] at len; exact List.eq_nil_of_length_eq_zero len
        refine ⟨.ref T', H, I.kept (t' := tk) k, rfl, q T' H (Same.refl _) ?_⟩
        rw [eR]
        exact hT
      · have hN : H T' = none := I.hok.gone hn
        refine ⟨.ref T', upd H T' (.lst rows.flatten), I.laidN (t' := tk) k hn hN ?_, rfl, q T' _ (same_upd hN) upd_same⟩
        exact ⟨Nat.le_trans hz (by decide), _, c', relA, e'⟩
end
end My

set_option Elab.async false
set_option linter.all false
set_option maxRecDepth 100000
set_option maxHeartbeats 1000000
/-! ### a module's tuples of tuples of tuples of whole numbers, and its tuples of functions, checked by one question -/
namespace My
open PySem PySem.Spec PyProof.Rows L2
def refsB : List Value → Option (List Addr)
  | [] => some []
  | .ref a :: vs => (refsB vs).map (a :: ·)
  | _ :: _ => none
theorem refsB_ok : ∀ {vs : List Value} {cs : List Addr}, refsB vs = some cs → vs = cs.map Value.ref
  | [], cs, h => by cases h; rfl
  | .ref a :: vs, cs, h => by
    obtain ⟨r, e, rfl⟩ := Option.map_eq_some_iff.mp (show (refsB vs).map (a :: ·) = some cs from h)
    rw [refsB_ok e]
    rfl
/-- the addresses that a tuple of the written part holds -/
def tupRefs (K : PySem.W.Frag) (a : Addr) : Option (List Addr) :=
  match K.lookup a with
  | some ⟨.type s, none, .seq its _, _⟩ => if s == "tuple" && Nat.ble its.size 1000 then refsB its.toList else none
  | _ => none
theorem tupRefs_ok {K : PySem.W.Frag} {a : Addr} {cs : List Addr} (h : tupRefs K a = some cs) : KTupR K a cs ∧ cs.length ≤ 1000 := by
  unfold tupRefs at h
  split at h
  · next s its n sl e =>
    split at h
    · next c =>
      rw [Bool.and_eq_true] at c
      have es : s = "tuple" := by simpa using c.1
      subst es
      have ev := refsB_ok h
      have hl : cs.length = its.size := by rw [← Array.length_toList, ev, List.length_map]
      refine ⟨⟨n, sl, ?_⟩, by rw [hl]; exact Nat.le_of_ble_eq_true c.2⟩
      rw [e, ← ev]
    · cases h
  · cases h
def tup2B (K : PySem.W.Frag) (a : Addr) (d : List (List Int)) : Bool :=
  match tupRefs K a with
  | some cs => Nat.beq cs.length d.length && (cs.zip d).all fun p => tupB K p.1 p.2
  | none => false
def tup3B (K : PySem.W.Frag) (a : Addr) (d : List (List (List Int))) : Bool :=
  match tupRefs K a with
  | some cs => Nat.beq cs.length d.length && (cs.zip d).all fun p => tup2B K p.1 p.2
  | none => false
theorem zip_mem {α β : Type} {xs : List α} {ys : List β} {i : Nat} {x : α} {y : β} (h1 : xs[i]? = some x) (h2 : ys[i]? = some y) : (x, y) ∈ xs.zip ys :=
  List.mem_of_getElem? (i := i) (List.getElem?_zip_eq_some.mpr ⟨h1, h2⟩)
theorem tup2B_ok {K : PySem.W.Frag} {a : Addr} {d : List (List Int)} (h : tup2B K a d = true) : ∃ cs, KTupR K a cs ∧ cs.length ≤ 1000 ∧ cs.length = d.length ∧ ∀ (i : Nat) (c : Addr) (r : List Int), cs[i]? = some c → d[i]? = some r → tupB K c r = true := by
  unfold tup2B at h
  split at h
  · next cs e =>
    rw [Bool.and_eq_true] at h
    obtain ⟨k, l⟩ := tupRefs_ok e
    exact ⟨cs, k, l, Nat.eq_of_beq_eq_true h.1, fun i c r e1 e2 => List.all_eq_true.mp h.2 (c, r) (zip_mem e1 e2)⟩
  · cases h
theorem tup3B_ok {K : PySem.W.Frag} {a : Addr} {d : List (List (List Int))} (h : tup3B K a d = true) : ∃ cs, KTupR K a cs ∧ cs.length ≤ 1000 ∧ cs.length = d.length ∧ ∀ (i : Nat) (c : Addr) (r : List (List Int)), cs[i]? = some c → d[i]? = some r → tup2B K c r = true := by
  unfold tup3B at h
  split at h
  · next cs e =>
    rw [Bool.and_eq_true] at h
    obtain ⟨k, l⟩ := tupRefs_ok e
    exact ⟨cs, k, l, Nat.eq_of_beq_eq_true h.1, fun i c r e1 e2 => List.all_eq_true.mp h.2 (c, r) (zip_mem e1 e2)⟩
  · cases h
/-- a row of a table of three: the tuple of its rows, each a tuple of whole numbers -/
theorem tup3_at {K : PySem.W.Frag} {a : Addr} {d : List (List (List Int))} {i : Nat} {r : List (List Int)} (h : tup3B K a d = true) (e : d[i]? = some r) : ∃ cs : List Addr, (∀ H, SqT K H a (cs.map V.ref)) ∧ ∃ c : Addr, atI (cs.map V.ref) (i : Int) = some (.ref c) ∧
    ∃ bs : List Addr, (∀ H, SqT K H c (bs.map V.ref)) ∧ bs.length = r.length ∧ ∀ (j : Nat) (b : Addr) (q : List Int), bs[j]? = some b → r[j]? = some q → ∀ H, SqT K H b (q.map V.int) := by
  obtain ⟨cs, k, l, n, f⟩ := tup3B_ok h
  have hi : i < cs.length := by rw [n]; exact (List.getElem?_eq_some_iff.mp e).1
  have ec : cs[i]? = some cs[i] := List.getElem?_eq_getElem hi
  obtain ⟨bs, k2, l2, n2, f2⟩ := tup2B_ok (f i _ r ec e)
  exact ⟨cs, fun H => k.sq l, cs[i], atI_nat (by rw [List.getElem?_map, ec]; rfl), bs, fun H => k2.sq l2, n2, fun j b q e1 e2 H => tupB_ok (f2 j b q e1 e2)⟩
theorem op_catTK {X : Cx} {K : PySem.W.Frag} (h : X.K = K) : OpR X (binaryOp .Add) (rCatT K) := by
  subst h
  exact op_catT
/-- the bits of a word, the highest first -/
def bitsW (b w : Nat) : List Nat := (List.range b).map fun i => w / 2 ^ (b - 1 - i) % 2
def wordsB (b : Nat) (ws : List Nat) : List Nat := ws.flatMap (bitsW b)
def quadsD : List (List Nat) := (List.range 16).map (bitsW 4)
theorem bits8 {w : Nat} (h : w < 256) : bitsW 8 w = bitsW 4 (w / 16) ++ bitsW 4 (w % 16) := by
  have q : ((List.range 256).all fun w => bitsW 8 w == bitsW 4 (w / 16) ++ bitsW 4 (w % 16)) = true := by decide +kernel
  exact eq_of_beq (List.all_eq_true.mp q w (List.mem_range.mpr h))
theorem bitsW_len (b w : Nat) : (bitsW b w).length = b := by
  unfold bitsW
  rw [List.length_map, List.length_range]
theorem wordsB_snoc (b : Nat) (ws : List Nat) (w : Nat) : wordsB b (ws ++ [w]) = wordsB b ws ++ bitsW b w := by
  unfold wordsB
  rw [List.flatMap_append]
  simp
theorem wordsB_len (b : Nat) : ∀ ws : List Nat, (wordsB b ws).length = b * ws.length
  | [] => rfl
  | w :: ws => by
    show (bitsW b w ++ wordsB b ws).length = b * (ws.length + 1)
    rw [List.length_append, bitsW_len, wordsB_len b ws, Nat.mul_succ, Nat.add_comm]
end My

set_option Elab.async false
set_option linter.all false
set_option maxRecDepth 100000
set_option maxHeartbeats 4000000
/-! ### sorted tuples of ints, any number of them -/
namespace SrtO
open PySem PyProof.Rows Srt
section
variable {prog : Program} {w : World} {A : Around} {E : Value → Shared → Prop} {s : Shared}
theorem swo_rank (r : Value → Int) : Swo fun v u => decide (r v < r u) := by
  refine ⟨fun x y h => ?_, fun x y z h1 h2 => ?_⟩
  · have a := of_decide_eq_true h
    exact decide_eq_false (by omega)
  · have a := of_decide_eq_false h1
    have b := of_decide_eq_false h2
    exact decide_eq_false (by omega)
theorem tups_cmp {vs : List Value} {d : Nat} {B : Int} {r : Value → Int} (x : TS.TupsOk s.heap d B vs) (hr : ∀ v ∈ vs, ∀ ns, TS.TupInts s.heap v ns → r v = TS.code B ns) :
    Cmp prog w A s (tuples' true) (fun p => p.1 ∈ vs) (lt2 fun v u => decide (r v < r u)) := by
  intro p q hm hm'
  show wpAny (model prog w) A (keyLt' (tuples' true) p.1 q.1) (fun b s' => s' = s ∧ b = decide (r p.1 < r q.1)) (fun _ _ => False) s
  obtain ⟨ns, tp, lp, bp⟩ := x _ hm
  obtain ⟨ms, tq, lq, bq⟩ := x _ hm'
  rw [hr _ hm _ tp, hr _ hm' _ tq]
  obtain ⟨a, xs, e1, ⟨o, ho, hc, n, hdt⟩, i⟩ := tp
  obtain ⟨a', ys, e2, ⟨o', ho', hc', n', hdt'⟩, i'⟩ := tq
  rw [e1, e2]
  refine PySem.W.kat_lt ho hdt ho' hdt' ?_
  have sz : decide (xs.size < ys.size) = false := by
    have l1 := i.length
    have l2 := i'.length
    rw [Array.length_toList] at l1 l2
    exact decide_eq_false (by omega)
  rw [sz]
  exact TS.lex_ints 0 i i' (by omega) bp bq ⟨rfl, rfl⟩
theorem tups_sortableO {a : Addr} {vs : List Value} {d : Nat} {B : Int} {r : Value → Int} (hd : 1 ≤ d) (h0 : 0 < vs.length) (x : TS.TupsOk s.heap d B vs) (hr : ∀ v ∈ vs, ∀ ns, TS.TupInts s.heap v ns → r v = TS.code B ns)
    (ha : ∀ o, s.heap.get? a = some o → o.cls ≠ .type "tuple") : SortableO prog w A s a vs fun v u => decide (r v < r u) := by
  intro h' keep
  have kk : ∀ b o, s.heap.get? b = some o → o.cls = .type "tuple" → h'.get? b = some o := fun b o e c => keep b o (fun z => by subst z; exact ha o e c) e
  have x' : TS.TupsOk h' d B vs := x.keeps kk
  have hr' : ∀ v ∈ vs, ∀ ns, TS.TupInts h' v ns → r v = TS.code B ns := fun v hv ns t => by
    obtain ⟨ns0, t0, _⟩ := x v hv
    have e : ns = ns0 := t.ints.symm.trans (t0.keeps kk).ints
    rw [e]
    exact hr v hv ns0 t0
  obtain ⟨fs, h1, h2, h3⟩ := TS.firsts_of hd vs x'
  refine ⟨tuples' true, fun Q E hq => ?_, tups_cmp (s := { s with heap := h' }) x' hr'⟩
  refine PySem.W.kat_kind (T := .type "int") h1 (by omega) (fun f hm => ?_) (by rfl) ?_
  · obtain ⟨x, t, rfl⟩ := h3 f hm
    exact PySem.W.Looks.now
  · have e : (Value.type "int" != Value.type "tuple") = true := by first | decide +kernel | rfl | decide
    rw [e]
    exact hq
end
end SrtO
namespace My
open PySem PySem.Spec PyProof.Rows L2
/-- sorted(xs), xs a list of tuples of d ints in [0, B), any number of them: a new list of the same, ascending by code B -/
def rSortN (K : PySem.W.Frag) : List V → Hp → VK → Prop := fun vs H Q => ∃ (a : Addr) (xs : List V) (d : Nat) (B : Int), vs = [V.ref a] ∧ SqL K H a xs ∧ 1 ≤ d ∧ (∀ x ∈ xs, ∃ ns, TupI K H x ns ∧ ns.length = d ∧ TS.Bd B ns) ∧
  ∀ (ys : List V) (p : Addr), ys.Perm xs → ys.Pairwise (fun x y => ∀ n m, TupI K H x n → TupI K H y m → TS.code B n ≤ TS.code B m) → H p = none → Q (.ref p) (upd H p (.lst ys))
theorem cr_sortN {X : Cx} {K : PySem.W.Frag} (hK : X.K = K) : CallR X (.builtin "sorted") (rSortN K) := by
  subst hK
  intro pins s σ H vs us Q I r h
  obtain ⟨a, xs, d, B, rfl, hs, hd, hx, q⟩ := h
  obtain ⟨its, rv, hl, hz⟩ := I.list hs
  rw [Vals.ref1 r]
  obtain ⟨e1, e2⟩ := bkV_refs rv fun x m => by
    obtain ⟨ns, ⟨t, e, _⟩, _⟩ := hx x m
    exact ⟨t, e⟩
  have ok : TS.TupsOk s.heap d B its := fun v hv => by
    obtain ⟨t, rfl⟩ := e2 v hv
    have hm : V.ref t ∈ xs := by
      rw [e1]
      exact List.mem_map.mpr ⟨_, hv, rfl⟩
    obtain ⟨ns, ⟨t', e, ht⟩, hn, hb⟩ := hx _ hm
    cases e
    exact ⟨ns, tupI_raw I ht, hn, hb⟩
  refine SrtO.sorted_ord (SrtO.swo_rank fun v => TS.code B (TS.intsOf s.heap v)) hl.isList (by rw [← rv.length]; exact hz) (fun h2 h₁ a' ha kk => ?_) fun out hsr hst => ?_
  · refine SrtO.tups_sortableO (s := { s with heap := h₁ }) (d := d) (B := B) hd (by omega) (ok.keeps fun b o e _ => (kk b o e).2) (fun v hv ns t => ?_) fun o e => ?_
    · obtain ⟨ns0, t0, _⟩ := ok v hv
      have e : ns = ns0 := t.ints.symm.trans (t0.keeps fun b o e _ => (kk b o e).2).ints
      rw [e]
      show TS.code B (TS.intsOf s.heap v) = _
      rw [t0.ints]
    · have e' : some o = some (seqObj "list" its.toArray 0) := e.symm.trans ha
      cases e'
      intro c
      exact absurd (Value.type.inj c) (by decide)
  · obtain ⟨ep, he'⟩ := PyProof.Rows.sortedAll_at s.heap its out.toArray
    have h3 : ∀ u ∈ out, ∃ a, u = Value.ref a := fun u hu => e2 u (hst.perm.mem_iff.mp hu)
    have hp : (out.map bkV).Perm xs := by
      rw [e1]
      exact hst.perm.map bkV
    have hlen : (out.map bkV).length ≤ sizeLine := by
      rw [hp.length_eq]
      exact hz
    refine ⟨.ref _, upd H (s.heap.objs.size + 1) (.lst (out.map bkV)), I.laid (t' := s.toks) (fun _ _ => PyProof.Rows.sortedAll_old) (Nat.le_succ _) ⟨hlen, out, ep, bkV_vals h3, he'⟩, rfl, q _ _ hp ?_ (I.hok.fresh (Nat.le_succ _))⟩
    rw [List.pairwise_map]
    refine List.Pairwise.imp (fun {u v} huv n m hn hm => ?_) hsr
    obtain ⟨t, et, ht⟩ := hn
    obtain ⟨t', et', ht'⟩ := hm
    have eu := bkV_ref et
    have ev := bkV_ref et'
    have i1 : TS.intsOf s.heap u = n := by
      rw [eu]
      exact (tupI_raw I ht).ints
    have i2 : TS.intsOf s.heap v = m := by
      rw [ev]
      exact (tupI_raw I ht').ints
    have h5 := of_decide_eq_false huv
    rw [← i1, ← i2]
    omega
end My

set_option Elab.async false
set_option linter.all false
set_option maxRecDepth 100000
set_option maxHeartbeats 4000000
/-! ### zip of two sequences, each a list or a tuple -/
namespace My
open PySem
section heap
/-- an iterator over a list (true) or a tuple -/
def It1 : Bool → Heap → Addr → Addr → Nat → Prop
  | true => Heap.IsListIter
  | false => Heap.IsTupleIter
def Sq1 : Bool → Heap → Addr → Array Value → Prop
  | true => Heap.IsList
  | false => Heap.IsTuple
theorem It1.but : ∀ {k : Bool} {h h' : Heap} {a b l : Addr} {i : Nat}, It1 k h a l i → Heap.ExtBut b h h' → a ≠ b → It1 k h' a l i
  | true, _, _, _, _, _, _, x, e, n => Heap.IsListIter.extBut x e n
  | false, _, _, _, _, _, _, x, e, n => Heap.IsTupleIter.extBut x e n
theorem It1.at : ∀ {k : Bool} {h h' : Heap} {a l : Addr} {i : Nat}, It1 k h a l i → (∀ o, h.get? a = some o → h'.get? a = some o) → It1 k h' a l i
  | true, _, _, _, _, _, x, e => Heap.IsListIter.at x e
  | false, _, _, _, _, _, x, e => Heap.IsTupleIter.at x e
theorem It1.obj : ∀ {k : Bool} {h : Heap} {a l : Addr} {i : Nat}, It1 k h a l i → ∃ o, h.get? a = some o ∧ ∃ xs, o.data = .fields xs
  | true, _, _, _, _, ⟨o, e, _, d⟩ => ⟨o, e, _, d⟩
  | false, _, _, _, _, ⟨o, e, _, d⟩ => ⟨o, e, _, d⟩
theorem It1.lt {k : Bool} {h : Heap} {a l : Addr} {i : Nat} (x : It1 k h a l i) : a < h.objs.size := by
  obtain ⟨o, e, _⟩ := x.obj
  exact Heap.lt_size e
theorem Sq1.but : ∀ {k : Bool} {h h' : Heap} {l b : Addr} {xs : Array Value}, Sq1 k h l xs → Heap.ExtBut b h h' → l ≠ b → Sq1 k h' l xs
  | true, _, _, _, _, _, x, e, n => Heap.IsList.extBut x e n
  | false, _, _, _, _, _, x, e, n => Heap.IsTuple.extBut x e n
end heap
section
variable {prog : Program} {w : World} {A : Around} {E : Value → Shared → Prop} {s : Shared}
theorem next1 {it l : Addr} {i : Nat} {xs : Array Value} {x : Value} {Q : Value → Shared → Prop} : ∀ {k : Bool}, It1 k s.heap it l i → Sq1 k s.heap l xs → xs[i]? = some x →
    (∀ h', It1 k h' it l (i + 1) → Heap.SameBut it s.heap h' → Q x { s with heap := h' }) → wpAny (model prog w) A (Builtin.SmallTypes.nextOf (.ref it)) Q E s
  | true, h1, h2, hx, q => wpAny_nextOf_list_item h1 h2 hx q
  | false, h1, h2, hx, q => RZ.nextOf_tuple_item h1 h2 hx q
theorem end1 {it l : Addr} {i : Nat} {xs : Array Value} {Q : Value → Shared → Prop} (hh : A.handled = none) : ∀ {k : Bool}, It1 k s.heap it l i → Sq1 k s.heap l xs → xs[i]? = none →
    (∀ h' e, Heap.ExtBut it s.heap h' → (∃ o, h'.get? e = some o ∧ o.cls = .type "StopIteration") → E (.ref e) { s with heap := h' }) → wpAny (model prog w) A (Builtin.SmallTypes.nextOf (.ref it)) Q E s
  | true, h1, h2, hx, q => wpAny_nextOf_list_end hh h1 h2 hx q
  | false, h1, h2, hx, q => RZ.nextOf_tuple_end hh h1 h2 hx q
/-- all but the zip's own parts stay -/
def Lft (z TO i1 i2 : Addr) (h h' : Heap) : Prop := ∀ c o, c ≠ z → c ≠ TO → c ≠ i1 → c ≠ i2 → h.get? c = some o → h'.get? c = some o
/-- one turn of a zip of two: a new pair, or the end -/
theorem zip_turn {ka kb : Bool} {z TI TO i1 i2 l1 l2 : Addr} {k1 k2 : Nat} {xs ys : Array Value} {a b : Value} {Q : Value → Shared → Prop} (hh : A.handled = none) (D : ZipApart z TI TO i1 i2 l1 l2)
    (hz : IsZip s.heap z TI TO .none) (hTI : IsPair s.heap TI (.ref i1) (.ref i2)) (hTO : IsPair s.heap TO a b)
    (h1 : It1 ka s.heap i1 l1 k1) (h2 : It1 kb s.heap i2 l2 k2) (q1 : Sq1 ka s.heap l1 xs) (q2 : Sq1 kb s.heap l2 ys)
    (hI : ∀ x y, xs[k1]? = some x → ys[k2]? = some y → ∀ h', IsZip h' z TI TO (rawInt s.heap.objs.size) → IsPair h' TO x y → It1 ka h' i1 l1 (k1 + 1) → It1 kb h' i2 l2 (k2 + 1) → IsPair h' s.heap.objs.size x y → Lft z TO i1 i2 s.heap h' → Q (.ref s.heap.objs.size) { s with heap := h' })
    (hE : (xs[k1]? = none ∨ ys[k2]? = none) → ∀ h' e, Lft z TO i1 i2 s.heap h' → (∃ o, h'.get? e = some o ∧ o.cls = .type "StopIteration") → E (.ref e) { s with heap := h' }) :
    wpAny (model prog w) A (Builtin.«zip.__next__» ⟨[.ref z], []⟩) (fun fin s' => ∃ v, fin = .done (.ret v) ∧ Q v s') E s := by
  show wpAny _ _ (field (.ref z) 2 >>= _) _ _ _
  refine wpAny_bind (wpAny_field hz rfl (x := .bool false) rfl ?_)
  show wpAny _ _ (field (.ref z) 3 >>= _) _ _ _
  refine wpAny_bind (wpAny_field hz rfl (x := .ref TI) rfl (wpAny_bind (wpAny_seqItems hTI rfl ?_)))
  show wpAny _ _ (Builtin.SmallTypes.ownedTupleIsFree (.ref z) >>= _) _ _ _
  unfold Builtin.SmallTypes.ownedTupleIsFree
  refine wpAny_bind (wpAny_bind (wpAny_field hz rfl (x := .none) rfl (wpAny_pure ?_)))
  simp only [if_true]
  refine wpAny_bind (wpAny_rule (wpAny_bind (wpAny_field hz rfl (x := .ref TO) rfl (wpAny_bind (wpAny_setField_rec hz (by simp) fun g1 y1 s1 => ?_)))))
  have c1 := s1.extBut
  replace y1 : IsZip g1 z TI TO .ellipsis := y1
  simp only [List.zipIdx_cons, List.zipIdx_nil, List.forIn_cons, List.forIn_nil]
  refine wpAny_bind (wpAny_bind (wpAny_bind (wpAny_onRaise ?_)))
  show wpAny _ _ (Builtin.SmallTypes.nextOf (.ref i1) >>= _) _ _ _
  have stop : ∀ (g : Heap) (e : Addr) (st : Shared) {R : PUnit → Shared → Prop}, st = { s with heap := g } → IsZip g z TI TO .ellipsis → (∃ o, g.get? e = some o ∧ o.cls = .type "StopIteration") → (∀ h', Heap.SameBut z g h' → (∃ o, h'.get? e = some o ∧ o.cls = .type "StopIteration") → R () { s with heap := h' }) →
      wpAny (model prog w) A (setField (.ref z) 0 .none) R E st := fun g e st R es yz he r => by
    subst es
    obtain ⟨o, ho, hc⟩ := he
    have n : e ≠ z := fun x => by subst x; rw [yz] at ho; cases ho; simp at hc
    exact wpAny_setField_rec (s := { s with heap := g }) yz (by simp) fun h' _ sb => r h' sb ⟨o, sb.extBut _ _ n ho, hc⟩
  cases hx : xs[k1]? with
  | none =>
    refine wpAny_bind (end1 hh (h1.but c1 D.i1z) (q1.but c1 D.l1z) hx fun g2 e s2 he => ?_)
    refine stop g2 e _ rfl (s2 _ _ D.i1z.symm y1) he fun h' sb he' => hE (.inl hx) h' e (fun c o n1 _ n3 _ p => sb.extBut _ _ n1 (s2 _ _ n3 (c1 _ _ n1 p))) he'
  | some x =>
    refine wpAny_bind (next1 (h1.but c1 D.i1z) (q1.but c1 D.l1z) hx fun g2 p2 s2 => wpAny_pure ?_)
    have c2 := s2.extBut
    have t2 : IsPair g2 TO a b := c2 _ _ D.TOi1 (c1 _ _ D.TOz hTO)
    refine wpAny_bind (wpAny_seqItems t2 rfl (wpAny_bind (wpAny_updateSeq_pair t2 fun g3 t3 s3 => wpAny_bind (wpAny_letGo (wpAny_pure ?_)))))
    have c3 := s3.extBut
    replace t3 : IsPair g3 TO x b := t3
    have h2' := ((h2.but c1 D.i2z).but c2 D.i12.symm).but c3 D.TOi2.symm
    have q2' := ((q2.but c1 D.l2z).but c2 D.l2i1).but c3 D.l2TO
    have y3 : IsZip g3 z TI TO .ellipsis := c3 _ _ D.TOz.symm (c2 _ _ D.i1z.symm y1)
    refine wpAny_bind (wpAny_bind (wpAny_onRaise ?_))
    show wpAny _ _ (Builtin.SmallTypes.nextOf (.ref i2) >>= _) _ _ _
    cases hy : ys[k2]? with
    | none =>
      refine wpAny_bind (end1 hh h2' q2' hy fun g4 e s4 he => ?_)
      refine stop g4 e _ rfl (s4 _ _ D.i2z.symm y3) he fun h' sb he' => hE (.inr hy) h' e (fun c o n1 n2 n3 n4 p => sb.extBut _ _ n1 (s4 _ _ n4 (c3 _ _ n2 (c2 _ _ n3 (c1 _ _ n1 p))))) he'
    | some y =>
      refine wpAny_bind (next1 h2' q2' hy fun g4 p4 s4 => wpAny_pure ?_)
      have c4 := s4.extBut
      have t4 : IsPair g4 TO x b := c4 _ _ D.TOi2 t3
      refine wpAny_bind (wpAny_seqItems t4 rfl (wpAny_bind (wpAny_updateSeq_pair t4 fun g5 t5 s5 => wpAny_bind (wpAny_letGo (wpAny_pure (wpAny_pure ?_))))))
      have c5 := s5.extBut
      replace t5 : IsPair g5 TO x y := t5
      refine wpAny_bind (wpAny_seqItems t5 rfl (wpAny_bind (wpAny_newTuple ?_)))
      have sz : g5.objs.size = s.heap.objs.size := by rw [s5.1, s4.1, s3.1, s2.1, s1.1]
      have y5 : IsZip g5 z TI TO .ellipsis := c5 _ _ D.TOz.symm (c4 _ _ D.i2z.symm y3)
      have old : Lft z TO i1 i2 s.heap g5 := fun c o n1 n2 n3 n4 p => c5 _ _ n2 (c4 _ _ n4 (c3 _ _ n2 (c2 _ _ n3 (c1 _ _ n1 p))))
      have p1 : It1 ka g5 i1 l1 (k1 + 1) := ((p2.but c3 D.TOi1.symm).but c4 D.i12).but c5 D.TOi1.symm
      have p5 : It1 kb g5 i2 l2 (k2 + 1) := p4.but c5 D.TOi2.symm
      have zl : z < g5.objs.size := Heap.lt_size y5
      show wpAny _ _ (Builtin.SmallTypes.ownedTupleHandOut (.ref z) (.ref g5.objs.size) >>= _) _ _ _
      unfold Builtin.SmallTypes.ownedTupleHandOut
      have y6 : IsZip (g5.push { cls := .type "tuple", data := .seq #[x, y] }) z TI TO .ellipsis := Heap.get?_push_of_some _ y5
      refine wpAny_bind (wpAny_bind (wpAny_setField_rec y6 (by simp) fun g7 y7 s7 => ?_))
      replace y7 : IsZip g7 z TI TO (rawInt g5.objs.size) := y7
      refine wpAny_setField_rec y7 (by simp) fun g8 y8 s8 => ?_
      replace y8 : IsZip g8 z TI TO (rawInt g5.objs.size) := y8
      have up : ∀ c o, c ≠ z → g5.get? c = some o → g8.get? c = some o := fun c o n p => s8.extBut _ _ n (s7.extBut _ _ n (Heap.get?_push_of_some _ p))
      have new : IsPair g8 g5.objs.size x y := s8.extBut _ _ (Nat.ne_of_gt zl) (s7.extBut _ _ (Nat.ne_of_gt zl) (Heap.get?_push_size _ rfl))
      rw [sz] at y8 new
      refine wpAny_pure ⟨_, rfl, ?_⟩
      show Q (.ref g5.objs.size) _
      rw [sz]
      exact hI x y hx hy g8 y8 (up _ _ D.TOz t5) (p1.at fun o e => up _ o D.i1z e) (p5.at fun o e => up _ o D.i2z e) new fun c o n1 n2 n3 n4 p => up c o n1 (old c o n1 n2 n3 n4 p)
theorem zip_ask {ka kb : Bool} {z TI TO i1 i2 l1 l2 : Addr} {k1 k2 : Nat} {xs ys : Array Value} {a b : Value} {Q : Option Value → Shared → Prop} (hh : A.handled = none) (D : ZipApart z TI TO i1 i2 l1 l2)
    (hz : IsZip s.heap z TI TO .none) (hTI : IsPair s.heap TI (.ref i1) (.ref i2)) (hTO : IsPair s.heap TO a b)
    (h1 : It1 ka s.heap i1 l1 k1) (h2 : It1 kb s.heap i2 l2 k2) (q1 : Sq1 ka s.heap l1 xs) (q2 : Sq1 kb s.heap l2 ys)
    (hI : ∀ x y, xs[k1]? = some x → ys[k2]? = some y → ∀ h', IsZip h' z TI TO (rawInt s.heap.objs.size) → IsPair h' TO x y → It1 ka h' i1 l1 (k1 + 1) → It1 kb h' i2 l2 (k2 + 1) → IsPair h' s.heap.objs.size x y → Lft z TO i1 i2 s.heap h' → Q (some (.ref s.heap.objs.size)) { s with heap := h' })
    (hE : (xs[k1]? = none ∨ ys[k2]? = none) → ∀ h', Lft z TO i1 i2 s.heap h' → Q none { s with heap := h' }) : wpAny (model prog w) A (pyNext (.ref z)) Q E s := by
  have hT : s.TypeIs (.ref z) "zip" := ⟨_, hz, rfl⟩
  unfold pyNext
  refine wpAny_bind (wpAny_attempt (wpAny_callSpecial?_slot (name := Str.ofString "__next__") hT F.slot_zip_next (wpAny_call_entry F.slot_zip_next hT F.entry_zip_next
    (zip_turn hh D hz hTI hTO h1 h2 q1 q2 (fun x y hx hy h' a1 a2 a3 a4 a5 a6 => wpAny_pure (hI x y hx hy h' a1 a2 a3 a4 a5 a6)) fun hn h' e lf he => ?_) (F.args_zip_next_1 _))))
  obtain ⟨o, ho, hc⟩ := he
  exact wpAny_bind (wpAny_isInstance (T := "StopIteration") (b := true) ⟨o, ho, hc⟩ isSubtype_stop (wpAny_pure (hE hn h' lf)))
end
end My
namespace My
open PySem PySem.Spec PyProof.Rows L2
section
variable {X : Cx} {pins : List (Addr × Obj)} {σ : L2.St} {H : Hp} {s : Shared}
theorem inv_sq (I : Inv X pins σ H s) : ∀ {k : Bool} {a : Addr} {xs : List V}, SqB k X.K H a xs → ∃ its, Vals xs its ∧ Sq1 k s.heap a its.toArray
  | true, a, xs, h => by
    obtain ⟨its, rv, p, _⟩ := I.list h
    exact ⟨its, rv, p.isList⟩
  | false, a, xs, h => by
    obtain ⟨its, rv, p, _⟩ := I.tuple h
    exact ⟨its, rv, p⟩
theorem inv_sq_inj (I : Inv X pins σ H s) : ∀ {k : Bool} {a : Addr} {xs ys : List V}, SqB k X.K H a xs → SqB k X.K H a ys → xs = ys
  | true, a, xs, ys, h1, h2 => I.list_inj h1 h2
  | false, a, xs, ys, h1, h2 => I.tuple_inj h1 h2
theorem Sq1.lt : ∀ {k : Bool} {h : Heap} {l : Addr} {xs : Array Value}, Sq1 k h l xs → l < h.objs.size
  | true, _, _, _, ⟨o, e, _⟩ => Heap.lt_size e
  | false, _, _, _, ⟨o, e, _⟩ => Heap.lt_size e
end
/-- the two sequences as they stand at each turn, the items in new pairs -/
def ItzB (ka kb : Bool) (K : PySem.W.Frag) (a b : Addr) : It :=
  ⟨fun i H => ∃ (xs ys : List V) (x y : V), SqB ka K H a xs ∧ SqB kb K H b ys ∧ xs[i]? = some x ∧ ys[i]? = some y,
    fun i H v H' => ∃ T x y, v = .ref T ∧ H T = none ∧ H' = upd H T (.tup [x, y]) ∧ (∀ xs, SqB ka K H a xs → xs[i]? = some x) ∧ ∀ ys, SqB kb K H b ys → ys[i]? = some y,
    fun i H => ∃ xs ys : List V, SqB ka K H a xs ∧ SqB kb K H b ys ∧ (xs.length ≤ i ∨ ys.length ≤ i)⟩
theorem walk_zipB {ka kb : Bool} {K : PySem.W.Frag} {a b : Addr} {xs ys : List V} {n : Nat} (hn : n = min xs.length ys.length) : Walk (ItzB ka kb K a b) n (fun H => SqB ka K H a xs ∧ SqB kb K H b ys) (YPair (fun i => xs[i]?) (fun i => ys[i]?)) where
  goes i _ hi q := ⟨xs, ys, xs[i]'(by omega), ys[i]'(by omega), q.1, q.2, List.getElem?_eq_getElem _, List.getElem?_eq_getElem _⟩
  stops _ q := ⟨xs, ys, q.1, q.2, by omega⟩
  yields i H v H' _ q y := by
    obtain ⟨T, x, z, h1, h2, h3, h4, h5⟩ := y
    exact ⟨T, x, z, h1, h2, h3, h4 xs q.1, h5 ys q.2⟩
theorem turn_zipB {ka kb : Bool} {P : Program} {w : World} {K : PySem.W.Frag} {elts : List Expr} {kk : Nat} {tpos : Pos} {a b z TI TO i1 i2 : Addr} (D : ZipApart z TI TO i1 i2 a b) :
    Turn P w K (.Tuple elts kk tpos) (ItzB ka kb K a b) [z, TI, TO, i1, i2] z (fun i h => IsZip h z TI TO .none ∧ IsPair h TI (.ref i1) (.ref i2) ∧ (∃ x y, IsPair h TO x y) ∧ It1 ka h i1 a i ∧ It1 kb h i2 b i) where
  mem := by simp
  obj := fun i h st c hc => by
    obtain ⟨hz, hTI, ⟨x, y, hTO⟩, h1, h2⟩ := st
    obtain ⟨o1, e1, f1, d1⟩ := h1.obj
    obtain ⟨o2, e2, f2, d2⟩ := h2.obj
    simp only [List.mem_cons, List.not_mem_nil, or_false] at hc
    rcases hc with q | q | q | q | q
    · exact q ▸ ⟨_, hz, fun v q => nomatch q⟩
    · exact q ▸ ⟨_, hTI, fun v q => nomatch q⟩
    · exact q ▸ ⟨_, hTO, fun v q => nomatch q⟩
    · exact q ▸ ⟨o1, e1, fun v q => by rw [d1] at q; cases q⟩
    · exact q ▸ ⟨o2, e2, fun v q => by rw [d2] at q; cases q⟩
  keep := fun i h h' st k => by
    obtain ⟨hz, hTI, ⟨x, y, hTO⟩, h1, h2⟩ := st
    exact ⟨k z (by simp) _ hz, k TI (by simp) _ hTI, ⟨x, y, k TO (by simp) _ hTO⟩, h1.at fun o q => k i1 (by simp) o q, h2.at fun o q => k i2 (by simp) o q⟩
  item := by
    intro X hP hw hK hc i pins s σ H E I hf st hg
    subst hP hw hK
    obtain ⟨hz, hTI, ⟨x0, y0, hTO⟩, h1, h2⟩ := st
    obtain ⟨xs, ys, x, y, hqx, hqy, hx, hy⟩ := hg
    obtain ⟨its, rv, p⟩ := inv_sq I hqx
    obtain ⟨its2, rv2, p2⟩ := inv_sq I hqy
    obtain ⟨u, hu, ru⟩ := rv.get hx
    obtain ⟨u2, hu2, ru2⟩ := rv2.get hy
    have hzl : z < s.heap.objs.size := Heap.lt_size hz
    have hx' : its.toArray[i]? = some u := by simpa using hu
    have hy' : its2.toArray[i]? = some u2 := by simpa using hu2
    refine zip_ask (I.ok.hd hc) D hz hTI hTO h1 h2 p p2 (fun x1 y1 e1 e2 h' z' TO' h1' h2' hT lf => ?_) (fun hn => ?_)
    · rw [hx'] at e1
      rw [hy'] at e2
      cases e1
      cases e2
      refine ⟨_, rfl, wpAny_letOwnedTupleGo_zip (s := { s with heap := h' }) z' fun h'' z'' sb => ?_⟩
      have hT2 : IsPair h'' s.heap.objs.size u u2 := (sb.2 _ (Nat.ne_of_gt hzl)).trans hT
      have new : ObjOk X.prog X.w (upd H s.heap.objs.size (.tup [x, y])) h'' s.heap.objs.size (.tup [x, y]) :=
        ⟨by show 2 ≤ sizeLine; decide, [u, u2], .cons ru (.cons ru2 .nil), ⟨_, hT2, rfl, _, rfl⟩⟩
      have old : ∀ c o, c ∉ [z, TI, TO, i1, i2] → s.heap.get? c = some o → h''.get? c = some o := fun c o hb q => by
        simp only [List.mem_cons, List.not_mem_nil, or_false, not_or] at hb
        exact (sb.2 c hb.1).trans (lf c o hb.1 hb.2.2.1 hb.2.2.2.1 hb.2.2.2.2 q)
      have I1 : Inv X pins σ (upd H s.heap.objs.size (.tup [x, y])) { s with heap := h'' } := I.turnedNew (t' := s.toks) (ch := [z, TI, TO, i1, i2]) old hf (Nat.le_refl _) new
      refine ⟨.ref s.heap.objs.size, _, I1, rfl, ⟨_, x, y, rfl, I.hok.fresh (Nat.le_refl _), rfl, fun l hl => by rw [inv_sq_inj I hl hqx]; exact hx, fun l hl => by rw [inv_sq_inj I hl hqy]; exact hy⟩, ⟨z'', ?_, ⟨u, u2, ?_⟩, ?_, ?_⟩, fun c hcm => ?_⟩
      · exact (sb.2 _ D.TIz).trans (lf _ _ D.TIz D.TITO D.TIi1 D.TIi2 hTI)
      · exact (sb.2 _ D.TOz).trans TO'
      · exact h1'.at fun o q => (sb.2 _ D.i1z).trans q
      · exact h2'.at fun o q => (sb.2 _ D.i2z).trans q
      · have hlt : c < s.heap.objs.size := by
          simp only [List.mem_cons, List.not_mem_nil, or_false] at hcm
          rcases hcm with q | q | q | q | q
          · exact q ▸ hzl
          · exact q ▸ Heap.lt_size hTI
          · exact q ▸ Heap.lt_size hTO
          · exact q ▸ h1.lt
          · exact q ▸ h2.lt
        rw [upd_ne (Nat.ne_of_lt hlt)]
        exact (hf c hcm).1
    · rw [hx', hy'] at hn
      rcases hn with h | h <;> cases h
  done := by
    intro X hP hw hK hc i pins s σ H E I hf st hg
    subst hP hw hK
    obtain ⟨hz, hTI, ⟨x0, y0, hTO⟩, h1, h2⟩ := st
    obtain ⟨xs, ys, hqx, hqy, hend⟩ := hg
    obtain ⟨its, rv, p⟩ := inv_sq I hqx
    obtain ⟨its2, rv2, p2⟩ := inv_sq I hqy
    have l1 := rv.length
    have l2 := rv2.length
    refine zip_ask (I.ok.hd hc) D hz hTI hTO h1 h2 p p2 (fun x1 y1 e1 e2 => ?_) (fun _ h' lf => ⟨rfl, I.turnedL (t' := s.toks) (ch := [z, TI, TO, i1, i2]) (fun c o hb q => ?_) hf⟩)
    · have g1 : i < its.length := by
        have := (Array.getElem?_eq_some_iff.mp e1).1
        simpa using this
      have g2 : i < its2.length := by
        have := (Array.getElem?_eq_some_iff.mp e2).1
        simpa using this
      omega
    · simp only [List.mem_cons, List.not_mem_nil, or_false, not_or] at hb
      exact lf c o hb.1 hb.2.2.1 hb.2.2.2.1 hb.2.2.2.2 q
  self := fun A i s Q E st h => wpAny_pyIter_zip st.1 h
end My

set_option Elab.async false
set_option linter.all false
set_option maxRecDepth 100000
set_option maxHeartbeats 400000
/-! ### zip of a list and a tuple, called -/
namespace My
open PySem
open PySem.Sem (wp)
abbrev zA (h : Heap) (l1 : Addr) : Heap := h.push { cls := .type "list_iterator", data := .fields #[.ref l1, .int 0 0] }
abbrev zB (h : Heap) (l1 l2 : Addr) : Heap := (zA h l1).push { cls := .type "tuple_iterator", data := .fields #[.ref l2, .int 0 0] }
abbrev zC (h : Heap) (l1 l2 : Addr) : Heap := (zB h l1 l2).push { cls := .type "tuple", data := .seq #[.ref h.objs.size, .ref (zA h l1).objs.size] }
abbrev zD (h : Heap) (l1 l2 : Addr) : Heap := (zC h l1 l2).push { cls := .type "tuple", data := .seq #[.none, .none] }
abbrev zE (h : Heap) (l1 l2 : Addr) : Heap := (zD h l1 l2).push { cls := .type "zip", data := .fields #[.none, .bool false, .bool false, .ref (zB h l1 l2).objs.size, .ref (zC h l1 l2).objs.size] }
theorem meets_zipLT (l1 l2 : Addr) (xs ys : Array Value) :
    Meets (Builtin.«zip.__new__» ⟨[.type "zip", .ref l1, .ref l2], []⟩) (fun _ R s => s.heap.IsList l1 xs ∧ s.heap.IsTuple l2 ys ∧
      R (.ok (.ret (.ref (zD s.heap l1 l2).objs.size))) { s with heap := zE s.heap l1 l2 }) :=
  .of_wp fun prog w A R s h => by
    obtain ⟨hp, g, d, tk, os⟩ := s
    obtain ⟨hl1, hl2, h⟩ := h
    have hsub := sub_zip
    have hL1 : Heap.IsList (Shared.heap ⟨hp, g, d, tk, os⟩) l1 xs := hl1
    have hL2 : Heap.IsTuple (Shared.heap ⟨hp.push { cls := .type "list_iterator", data := .fields #[.ref l1, .int 0 0] }, g, d, tk, os⟩) l2 ys := Heap.IsTuple.push hl2 _
    wp_walk using wpAny_pyIter_list hL1, wpAny_pyIter_tuple hL2
    exact ⟨_, rfl, h⟩
section
variable {prog : Program} {w : World} {A : Around} {E : Value → Shared → Prop} {s : Shared}
theorem call_zipLT {l1 l2 : Addr} {xs ys : Array Value} {Q : Value → Shared → Prop} (hl1 : s.heap.IsList l1 xs) (hl2 : s.heap.IsTuple l2 ys)
    (h : ∀ h', IsZip h' (s.heap.objs.size + 4) (s.heap.objs.size + 2) (s.heap.objs.size + 3) .none → IsPair h' (s.heap.objs.size + 2) (.ref s.heap.objs.size) (.ref (s.heap.objs.size + 1)) →
      IsPair h' (s.heap.objs.size + 3) .none .none → h'.IsListIter s.heap.objs.size l1 0 → h'.IsTupleIter (s.heap.objs.size + 1) l2 0 → (∀ c o, s.heap.get? c = some o → h'.get? c = some o) → Q (.ref (s.heap.objs.size + 4)) { s with heap := h' }) :
    wpAny (model prog w) A (call (.type "zip") [.ref l1, .ref l2]) Q E s := by
  refine callType_new F.called_zip (by decide) (F.typeCall_zip_2 _ _) (F.newCall_zip_2 _ _) (fun obj => F.args_object_init_3 obj _ _) F.entry_zip_new (meets_zipLT l1 l2 xs ys) ⟨hl1, hl2, ?_⟩
  have n1 : (zA s.heap l1).objs.size = s.heap.objs.size + 1 := Heap.size_push ..
  have n2 : (zB s.heap l1 l2).objs.size = s.heap.objs.size + 2 := (Heap.size_push ..).trans (congrArg (· + 1) n1)
  have n3 : (zC s.heap l1 l2).objs.size = s.heap.objs.size + 3 := (Heap.size_push ..).trans (congrArg (· + 1) n2)
  have n4 : (zD s.heap l1 l2).objs.size = s.heap.objs.size + 4 := (Heap.size_push ..).trans (congrArg (· + 1) n3)
  have g5 : (zE s.heap l1 l2).get? (zD s.heap l1 l2).objs.size = some _ := Heap.get?_push_size _ rfl
  have g4 : (zE s.heap l1 l2).get? (zC s.heap l1 l2).objs.size = some _ := Heap.get?_push_of_some _ (Heap.get?_push_size _ rfl)
  have g3 : (zE s.heap l1 l2).get? (zB s.heap l1 l2).objs.size = some _ := Heap.get?_push_of_some _ (Heap.get?_push_of_some _ (Heap.get?_push_size _ rfl))
  have g2 : (zE s.heap l1 l2).get? (zA s.heap l1).objs.size = some _ := Heap.get?_push_of_some _ (Heap.get?_push_of_some _ (Heap.get?_push_of_some _ (Heap.get?_push_size _ rfl)))
  have g1 : (zE s.heap l1 l2).get? s.heap.objs.size = some _ := Heap.get?_push_of_some _ (Heap.get?_push_of_some _ (Heap.get?_push_of_some _ (Heap.get?_push_of_some _ (Heap.get?_push_size _ rfl))))
  show _ ∧ _
  rw [n2, n3, n4] at g5
  rw [n3] at g4
  rw [n1, n2] at g3
  rw [n1] at g2
  rw [n4]
  exact ⟨⟨_, g5, rfl⟩, h _ g5 g3 g4 ⟨_, g1, rfl, rfl⟩ ⟨_, g2, rfl, rfl⟩ fun c o x => Heap.get?_push_of_some _ (Heap.get?_push_of_some _ (Heap.get?_push_of_some _ (Heap.get?_push_of_some _ (Heap.get?_push_of_some _ x))))⟩
end
end My
namespace My
open PySem PySem.Spec PyProof.Rows L2
/-- zip of a list and a tuple -/
def iZipLT (K : PySem.W.Frag) (ta : TA) : TI := fun σ H R => ta σ H fun vs H1 => ∃ a b xs ys, vs = [.ref a, .ref b] ∧ SqB true K H1 a xs ∧ SqB false K H1 b ys ∧ R (ItzB true false K a b) H1
theorem pi_zipLT {X : Cx} {K : PySem.W.Frag} {e e2 : Expr} {ta : TA} {p pos tpos : Pos} {elts : List Expr} {kk : Nat} (hK : X.K = K) (hg : Gl X "zip") (hm : X.mg "zip" = none) (ha : PA X [e, e2] ta)
    (hs : starEach [e, e2] X.env = (false, eval e X.env) :: starEach [e2] X.env := by rfl) (hpl : (backTo pos (starEach [e2] X.env)).any (·.1) = false := by rfl) :
    PI X (.Tuple elts kk tpos) (.Call (.Name "zip" p) [e, e2] [] pos) (iZipLT K ta) := by
  subst hK
  refine ⟨fun pins s σ H R I h => ?_⟩
  refine Call_ (ld_blt I hg hm PyProof.Rows.boot_zip (PyProof.Rows.callWith_type1 (thn (ha.run pos pins s σ H _ I h) fun us s1 ⟨vs, H1, I1, r1, q1⟩ => ?_) hs hpl))
  obtain ⟨a, b, xs, ys, ex, hqx, hqy, q⟩ := q1
  subst ex
  obtain ⟨its, rv, p1⟩ := inv_sq I1 hqx
  obtain ⟨its2, rv2, p2⟩ := inv_sq I1 hqy
  cases r1 with
  | cons r rr =>
    cases rr with
    | cons r' rr =>
      cases rr
      cases r
      cases r'
      have fr : ∀ c, s1.heap.objs.size ≤ c → FpOk X pins H1 c := fun c hle => I1.fpOk hle (I1.hok.fresh hle)
      have fr5 : ∀ c, c ∈ [s1.heap.objs.size + 4, s1.heap.objs.size + 2, s1.heap.objs.size + 3, s1.heap.objs.size, s1.heap.objs.size + 1] → FpOk X pins H1 c := fun c hcm => by
        refine fr c ?_
        have e' : c = s1.heap.objs.size + 4 ∨ c = s1.heap.objs.size + 2 ∨ c = s1.heap.objs.size + 3 ∨ c = s1.heap.objs.size ∨ c = s1.heap.objs.size + 1 := by simpa using hcm
        rcases e' with z | z | z | z | z
        · rw [z]; exact Nat.le_add_right _ _
        · rw [z]; exact Nat.le_add_right _ _
        · rw [z]; exact Nat.le_add_right _ _
        · rw [z]; exact Nat.le_refl _
        · rw [z]; exact Nat.le_add_right _ _
      refine call_zipLT p1 p2 fun h' hz hTI hTO h1 h2 hk => wpAny_pyIter_zip hz ?_
      have I2 : Inv X pins σ H1 { s1 with heap := h' } := I1.kept (t' := s1.toks) hk
      have T : Turn X.prog X.w X.K (.Tuple elts kk tpos) (ItzB true false X.K a b) _ _ _ := turn_zipB (PySem.W.ktu_apart s1.heap.objs.size a b (Sq1.lt p1) (Sq1.lt p2))
      exact ⟨s1.heap.objs.size + 4, [s1.heap.objs.size + 4, s1.heap.objs.size + 2, s1.heap.objs.size + 3, s1.heap.objs.size, s1.heap.objs.size + 1], _, _, H1, rfl, I2, T, ⟨hz, hTI, ⟨_, _, hTO⟩, h1, h2⟩, fr5, q⟩
end My

set_option Elab.async false
set_option linter.all false
set_option maxRecDepth 100000
set_option maxHeartbeats 400000
/-! ### zip of a list and a row, list or tuple -/
namespace My
open PySem PySem.Spec PyProof.Rows L2
def iZipB (K : PySem.W.Frag) (ta : TA) : TI := fun σ H R => ta σ H fun vs H1 => ∃ (a b : Addr) (xs ys : List V) (k : Bool), vs = [.ref a, .ref b] ∧ SqB true K H1 a xs ∧ SqB k K H1 b ys ∧ R (ItzB true k K a b) H1
theorem pi_zipB {X : Cx} {K : PySem.W.Frag} {e e2 : Expr} {ta : TA} {p pos tpos : Pos} {elts : List Expr} {kk : Nat} (hK : X.K = K) (hg : Gl X "zip") (hm : X.mg "zip" = none) (ha : PA X [e, e2] ta)
    (hs : starEach [e, e2] X.env = (false, eval e X.env) :: starEach [e2] X.env := by rfl) (hpl : (backTo pos (starEach [e2] X.env)).any (·.1) = false := by rfl) :
    PI X (.Tuple elts kk tpos) (.Call (.Name "zip" p) [e, e2] [] pos) (iZipB K ta) := by
  subst hK
  refine ⟨fun pins s σ H R I h => ?_⟩
  refine Call_ (ld_blt I hg hm PyProof.Rows.boot_zip (PyProof.Rows.callWith_type1 (thn (ha.run pos pins s σ H _ I h) fun us s1 ⟨vs, H1, I1, r1, q1⟩ => ?_) hs hpl))
  obtain ⟨a, b, xs, ys, k, ex, hqx, hqy, q⟩ := q1
  subst ex
  obtain ⟨its, rv, p1⟩ := inv_sq I1 hqx
  obtain ⟨its2, rv2, p2⟩ := inv_sq I1 hqy
  cases r1 with
  | cons r rr =>
    cases rr with
    | cons r' rr =>
      cases rr
      cases r
      cases r'
      have fr : ∀ c, s1.heap.objs.size ≤ c → FpOk X pins H1 c := fun c hle => I1.fpOk hle (I1.hok.fresh hle)
      have fr5 : ∀ c, c ∈ [s1.heap.objs.size + 4, s1.heap.objs.size + 2, s1.heap.objs.size + 3, s1.heap.objs.size, s1.heap.objs.size + 1] → FpOk X pins H1 c := fun c hcm => by
        refine fr c ?_
        have e' : c = s1.heap.objs.size + 4 ∨ c = s1.heap.objs.size + 2 ∨ c = s1.heap.objs.size + 3 ∨ c = s1.heap.objs.size ∨ c = s1.heap.objs.size + 1 := by simpa using hcm
        rcases e' with z | z | z | z | z
        · rw [z]; exact Nat.le_add_right _ _
        · rw [z]; exact Nat.le_add_right _ _
        · rw [z]; exact Nat.le_add_right _ _
        · rw [z]; exact Nat.le_refl _
        · rw [z]; exact Nat.le_add_right _ _
      cases k with
      | false =>
        refine call_zipLT p1 p2 fun h' hz hTI hTO h1 h2 hk => wpAny_pyIter_zip hz ?_
        have I2 : Inv X pins σ H1 { s1 with heap := h' } := I1.kept (t' := s1.toks) hk
        have T : Turn X.prog X.w X.K (.Tuple elts kk tpos) (ItzB true false X.K a b) _ _ _ := turn_zipB (PySem.W.ktu_apart s1.heap.objs.size a b (Sq1.lt p1) (Sq1.lt p2))
        exact ⟨s1.heap.objs.size + 4, [s1.heap.objs.size + 4, s1.heap.objs.size + 2, s1.heap.objs.size + 3, s1.heap.objs.size, s1.heap.objs.size + 1], _, _, H1, rfl, I2, T, ⟨hz, hTI, ⟨_, _, hTO⟩, h1, h2⟩, fr5, q⟩
      | true =>
        refine call_zip_2 p1 p2 fun h' hz hTI hTO h1 h2 hsz hk => wpAny_pyIter_zip hz ?_
        have I2 : Inv X pins σ H1 { s1 with heap := h' } := I1.kept (t' := s1.toks) hk
        have T : Turn X.prog X.w X.K (.Tuple elts kk tpos) (ItzB true true X.K a b) _ _ _ := turn_zipB (PySem.W.ktu_apart s1.heap.objs.size a b (Sq1.lt p1) (Sq1.lt p2))
        exact ⟨s1.heap.objs.size + 4, [s1.heap.objs.size + 4, s1.heap.objs.size + 2, s1.heap.objs.size + 3, s1.heap.objs.size, s1.heap.objs.size + 1], _, _, H1, rfl, I2, T, ⟨hz, hTI, ⟨_, _, hTO⟩, h1, h2⟩, fr5, q⟩
end My

set_option Elab.async false
set_option linter.all false
set_option maxRecDepth 100000
set_option maxHeartbeats 4000000
/-! ### defs that show lists: they do their work where nothing is being shown -/
namespace My
open PySem PySem.Spec PyProof.Rows L2
/-- nothing is being shown around -/
def Still (A : Around) : Prop := A.guards = some []
theorem still_caller : Still callerA := rfl
theorem Still.in1 {A : Around} (g : Still A) : Still A.in1 := g
theorem Still.deeper {A : Around} {env : Env} (g : Still A) : Still (A.deeper env) := g
/-- FnOk for such an around -/
structure FnG (Pr : Program) (wd : World) (K : PySem.W.Frag) (mg : Str → Option Value) (base : Heap) (CX : CXT)
    (k : Nat) (f : Addr) (fd : FuncData) (ps : List Str) (sp : Sp) : Prop where
  len : ∀ xs H Q E, sp xs H Q E → xs.length = ps.length
  run : ∀ (A : Around) (out : List Env) (s : Shared) (H : Hp) (ar : Args) (us : List Value) (xs : List V) (Q : VK) (E : XK),
    Still A → Room k A → Env0 Pr wd K mg base A out s H → BindsTo s fd ar (ps.zip us) → Vals xs us → sp xs H Q E →
    codeAny (model Pr wd) A (.call (.ref f) ar)
      (CR CX out Pr wd H s Q E) s
theorem FnG.of {Pr : Program} {wd : World} {K : PySem.W.Frag} {mg : Str → Option Value} {base : Heap} {CX : CXT} {k : Nat} {f : Addr} {fd : FuncData} {ps : List Str} {sp : Sp}
    (F : FnOk Pr wd K mg base CX k f fd ps sp) : FnG Pr wd K mg base CX k f fd ps sp :=
  ⟨F.len, fun A out s H ar us xs Q E _ => F.run A out s H ar us xs Q E⟩
section
variable {X : Cx}
/-- repr of plain data -/
def rRepr (K : PySem.W.Frag) : List V → Hp → VK → Prop := fun xs H Q => ∃ (a : Addr) (d : PyData), xs = [.ref a] ∧ Dp K H (.ref a) d ∧ d.showable = true ∧ d.hasDict = false ∧ d.depth ≤ 60 ∧ d.shown.length ≤ sizeLine ∧ Q (.str d.shown) H
theorem call_reprD (g : Still X.A) (hu : X.A.units + 64 < cLine) : CallR X (.builtin "repr") (rRepr X.K) := by
  intro pins s σ H xs us Q I r h
  obtain ⟨a, d, rfl, hd, hs, hn, hp, hz, q⟩ := h
  cases r with
  | @cons _ u _ ur ra rr =>
    cases rr
    obtain ⟨as, rd⟩ := Dp.reads I d _ u hd ra
    cases (show u = Value.ref a from ra)
    refine repr_of_reads' rd hs (fun z => by rw [hn] at z; cases z) g (by omega) (fun _ _ e => e) (fun h' v tk hk => ?_) hz
    exact ⟨.str d.shown, H, I.kept hk, ⟨v, rfl⟩, q⟩
/-- f(e, ..) of such a def -/
theorem callG {CX : CXT} {f : Addr} {fd : FuncData} {ps : List Str} {sp : Sp} {E : XK} {k : Nat} {ds : List Value} {dvs : List V} (F : FnG X.prog X.w X.K X.mg X.base CX k f fd ps sp) (g : Still X.A) (hr : Room k X.A) (hb : Binds X.K fd ps ds) (hd : Vals dvs ds) (hx : Passes CX X E)
    {pins : List (Addr × Obj)} {σ : L2.St} {H : Hp} {s : Shared} {Q : VK} {us : List Value} {vs : List V} (I : Inv X pins σ H s) (r : Vals vs us) (h : sp (vs ++ dvs) H Q E) :
    wpAny (model X.prog X.w) X.A (call (.ref f) us) (EP X pins σ Q) X.xe s := by
  have rr : Vals (vs ++ dvs) (us ++ ds) := r.append hd
  have n : (us ++ ds).length = ps.length := rr.length.symm.trans (F.len _ _ _ _ h)
  have z := F.run X.A X.stack s H ⟨us, []⟩ (us ++ ds) (vs ++ dvs) Q E g hr I.env0 (hb s us I.kIn n) rr h
  refine wpAny_call (codeAny_mono z fun res s' q => ?_)
  match res, q with
  | .error e, q => exact hx pins σ H s e s' I q
  | .ok (.ret u), q => exact I.after q
  | .ok .next, q => exact False.elim q
  | .ok .brk, q => exact False.elim q
  | .ok .cont, q => exact False.elim q
theorem pe_callG {CX : CXT} {f : Addr} {fd : FuncData} {ps : List Str} {sp : Sp} {E : XK} {k : Nat} {ds : List Value} {dvs : List V} {x : Str} {e : Expr} {es : List Expr} {t : TA} {p pos : Pos} (F : FnG X.prog X.w X.K X.mg X.base CX k f fd ps sp) (g : Still X.A) (hr : Room k X.A) (hg : Gl X x) (hm : X.mg x = some (.ref f))
    (hk : PySem.W.keepIn X.K (.ref f) = true) (hb : Binds X.K fd ps ds) (hd : Vals dvs ds) (hx : Passes CX X E) (ha : PA X (e :: es) t)
    (hdb : (x == ("__debug__" : Str)) = false := by decide) (he : starEach (e :: es) X.env = (false, eval e X.env) :: starEach es X.env := by rfl) (hpl : (backTo pos (starEach es X.env)).any (·.1) = false := by rfl) :
    PE X (.Call (.Name x p) (e :: es) [] pos) (tCall sp dvs E t) :=
  ⟨fun pins s σ H Q I h => wpAny_Call_Name_kw (ld_glob I hg hm (PySem.W.callWith_K (h₀ := X.base) I.ok.mod.kin hk
    (thn (ha.run pos pins s σ H _ I h) fun us s1 z => by
      obtain ⟨vs, H1, I1, r, q⟩ := z
      exact ⟨I1.kIn, callG F g hr hb hd hx I1 r q⟩) he hpl) hdb)⟩
end
section
variable {Pr : Program} {wd : World} {K : PySem.W.Frag} {mg : Str → Option Value} {base : Heap}
/-- such a def by its body -/
theorem okStill {x qual : Str} {st : Stmt} {f : Addr} {fd : FuncData} {N ps : List Str} {k : Nat} {sp : Sp} (F : Fun K x qual st f fd) (S : FnScope N ps (defScope st)) (len : ∀ xs H Q E, sp xs H Q E → xs.length = ps.length)
    (body : ∀ (cdv : Value) (A : Around) (out : List Env) (s : Shared) (H : Hp) (xs : List V) (Q : VK) (E : XK), Still A → Room k (A.deeper (envOfC qual (defScope st) s.heap.objs.size f cdv)) → sp xs H Q E →
      ∃ t, PSs (cxOf CX0 Pr wd K mg base N qual (defScope st) f cdv A out s H E).nox (defBody st) t ∧ t { nx := fun _ H' => Q .non H', rt := Q } (start N xs) H) :
    FnG Pr wd K mg base CX0 (k + 1) f fd ps sp := by
  obtain ⟨oc, od, kV, doc, pm, an, cdv, ct, osl, rfl, lk, hcd⟩ := F.ex
  refine ⟨len, fun A out s H ar us xs Q E g hr e0 hb r h => ?_⟩
  have old : ∀ b o, base.get? b = some o → s.heap.get? b = some o := fun b o e => (e0.bs b o e).1
  have inK := e0.mod.kin.keeps old
  have kinds : ∀ y ∈ ps.zip us, (defScope st).names.lookup y.1 = some .local ∨
      ((defScope st).names.lookup y.1 = some .cell ∧ ((cellsFrom (s.heap.objs.size + 1) (defScope st).names []).lookup y.1).isSome = true) := by
    rintro ⟨y, z⟩ hy
    exact (S.par y (List.of_mem_zip hy).1).imp id fun c => ⟨c, PySem.W.cellsFrom_some _ _ _ (.inl c)⟩
  refine codeAny_call_function hr.depth (inK _ _ lk) rfl S.co S.gen rfl (PySem.W.codeRec_of inK hcd) (hb _ _ _ _ (wpAny_newFunctionEnv_cells S.kind kinds fun en he s1 y => ?_))
  subst he
  refine ⟨(e0.mod.nolimit.keeps old).keeps y.toInCall.keep, codeAny_func ?_⟩
  obtain ⟨t, ht, q⟩ := body cdv A out s H xs Q E g (hr.deeper _) h
  have I : Inv (cxOf CX0 Pr wd K mg base N qual (defScope st) f cdv A out s H E) [] (start N xs) H s1 :=
    inv_start S hr.hd e0 (len _ _ _ _ h) r y
  refine wpAny_mono (ht.nox.run [] s1 (start N xs) H _ I q) (fun fl s' z => ?_) fun _ _ z => z
  match fl, z with
  | .ret u, ⟨v, σ', H', J, rv, qv⟩ => exact ⟨v, H', J.os, J.bare, J.base, J.hok, rv, qv⟩
  | .next, ⟨σ', H', J, qv⟩ => exact ⟨.non, H', J.os, J.bare, J.base, J.hok, rfl, qv⟩
  | .brk, ⟨_, _, _, no⟩ => exact False.elim no
  | .cont, ⟨_, _, _, no⟩ => exact False.elim no
end
end My

set_option Elab.async false
set_option linter.all false
set_option maxRecDepth 100000
set_option maxHeartbeats 4000000
/-! ### the way in from the claim's caller, around whom nothing is being shown -/
namespace My
open PySem PySem.Spec PyProof.Rows L2
theorem lawG {Pr : Program} {wd : World} {K : PySem.W.Frag} {mg mb : Str → Option Value} {CX : CXT} {k : Nat} {fa a : Addr} {fd : FuncData} {x : Str} {sp : Sp} {s1 : Shared} {us : List Value} {ns : List Int}
    (kin : K.In s1.heap) (hns : s1.heap.Ns mainGlobals mg) (hbn : s1.heap.Ns builtinsNs mb) (hbt : ∀ y : Str, y ≠ "__name__" → mb y = bootBuiltins y) (nol : s1.heap.NoLimit) (gen0 : s1.gens = #[])
    (ha : s1.heap.get? a = some { cls := .type "list", data := .seq us.toArray }) (hints : IntsAre us ns) (len : ns.length ≤ sizeLine) (room : Room k callerA)
    (F : ∀ B : Heap, K.In B → B.Ns mainGlobals mg → FnG Pr wd K mg B CX k fa fd [x] sp) (bind : ∀ (s : Shared) (u : Value), BindsTo s fd ⟨[u], []⟩ [(x, u)])
    (keeps : ∀ H : Hp, Only H → SqL K H a (ns.map V.int) → sp [.ref a] H (fun v _ => v = .bl true) fun _ _ _ => False)
    (calm : ∀ H e s', CX [] H s1 (fun _ _ _ => False) e s' → False) :
    codeAny (model Pr wd) callerA (.call (.ref fa) ⟨[.ref a], []⟩)
      (fun r s' => r = .ok (.ret (.bool true)) ∧ OldK s1.heap s'.heap ∧ s'.os = s1.os ∧ AllBare s'.gens) s1 := by
  have rel := vals_ints hints
  -- from a heap of words in which at most the script stands, and only where it is not of the written part
  have go : ∀ H : Hp, Only H → SqL K H a (ns.map V.int) → HOk Pr wd H s1.heap → (∀ b, H b ≠ none → b = a ∧ K.lookup a = none) →
      codeAny (model Pr wd) callerA (.call (.ref fa) ⟨[.ref a], []⟩)
        (fun r s' => r = .ok (.ret (.bool true)) ∧ OldK s1.heap s'.heap ∧ s'.os = s1.os ∧ AllBare s'.gens) s1 := by
    intro H only sq ok few
    have away : ∀ {b : Addr}, ¬ (b = a ∧ K.lookup a = none) → H b = none := fun {b} z => Classical.byContradiction fun y => z (few b y)
    have kin' : K.In (hidT s1.heap H) := fun b o e => hidT_get (kin b o e) (away fun z => by
      obtain ⟨rfl, y⟩ := z
      rw [y] at e
      cases e)
    have ns' : ∀ {b : Addr} {m : Str → Option Value}, s1.heap.Ns b m → (hidT s1.heap H).Ns b m := by
      rintro b m ⟨o, es, ep, e, d, r⟩
      refine ⟨o, es, ep, hidT_get e (away ?_), d, r⟩
      rintro ⟨rfl, _⟩
      cases ha.symm.trans e
      cases d
    obtain ⟨mc, l1, l2⟩ := nol
    have env : Env0 Pr wd K mg (hidT s1.heap H) callerA [] s1 H :=
      ⟨rfl, ⟨kin', ns' hns, ⟨mb, ns' hbn, hbt⟩, mc, ns' l1, l2⟩, fun b o e => of_hidT e, Nat.le_of_eq (hidT_size _ _), trivial, fun b z => (nomatch (show b ∈ ([] : List Addr) from z)), ok, .of_eq gen0⟩
    have run := (F _ kin' (ns' hns)).run callerA [] s1 H ⟨[.ref a], []⟩ [.ref a] [.ref a] _ _ still_caller room env (bind s1 (.ref a)) (.cons rfl .nil) (keeps H only sq)
    refine codeAny_mono run fun res s' z => ?_
    match res, z with
    | .error e, z => exact (calm H e s' z).elim
    | .ok .next, z => exact False.elim z
    | .ok .brk, z => exact False.elim z
    | .ok .cont, z => exact False.elim z
    | .ok (.ret u), ⟨v, H', os, bare, un, ok', rv, qv⟩ =>
      cases (show v = .bl true from qv)
      cases (show u = Value.bool true from rv)
      refine ⟨rfl, OldK.of_keep fun b o e => ?_, os, bare⟩
      rcases only b with n | ⟨ob, ys, n⟩
      · exact un.keep b o e n (fun z => nomatch (show b ∈ ([] : List Addr) from z)) (fun z => nomatch z)
      · have e1 := (ok b _ n).1
        have e2 := (ok' b _ (un.frzs b ob _ n)).1
        cases e.symm.trans e1
        exact e2
  cases hk : K.lookup a with
  | some o =>
    cases ha.symm.trans (kin a o hk)
    refine go (fun _ => none) (fun _ => .inl rfl) (.inr ⟨_, us.toArray, _, hk, rfl, rfl, rfl, ?_, by simpa using rel⟩) (fun b u z => nomatch (show (none : Option HO) = some u from z)) fun b z => absurd rfl z
    rw [List.size_toArray, hints.length]
    exact len
  | none =>
    have here : (fun b => if b = a then some (HO.frz { cls := .type "list", data := .seq us.toArray } (.lst (ns.map V.int))) else none : Hp) a = some (HO.frz { cls := .type "list", data := .seq us.toArray } (.lst (ns.map V.int))) := if_pos rfl
    have there : ∀ {b : Addr}, b ≠ a → (fun b => if b = a then some (HO.frz { cls := .type "list", data := .seq us.toArray } (.lst (ns.map V.int))) else none : Hp) b = none := fun n => if_neg n
    generalize (fun b => if b = a then some (HO.frz { cls := .type "list", data := .seq us.toArray } (.lst (ns.map V.int))) else none : Hp) = H at here there
    have two : ∀ b : Addr, b = a ∨ H b = none := fun b => (Classical.em (b = a)).imp id there
    refine go H (fun b => ?_) (.inl (.inr ⟨_, here⟩)) (fun b u z => ?_) fun b z => ⟨(two b).resolve_right z, hk⟩
    · rcases two b with rfl | n
      · exact .inr ⟨_, _, here⟩
      · exact .inl n
    · rcases two b with rfl | n
      · cases here.symm.trans z
        exact ⟨ha, by rw [List.length_map]; exact len, us, _, rel, ha⟩
      · cases n.symm.trans z
theorem walkG {l : PySem.W.OpenLaw} {n k : Nat} {q : Program} {loose : List Str} {XP : (Str → Option Value) → Heap → Prop} {YP : World → Heap → Prop} {d : DefRec} {K : Params → PySem.W.Frag} {CX : World → CXT} {sp : World → Sp} {x : Str}
    (most : l.most = some n) (nl : n ≤ sizeLine) (nod : d.params.defaults = []) (room : Room k callerA) (hY : ∀ (wd : World) (h : Heap), YP wd h → (K wd.params).In h)
    (F : ∀ (wd : World) (mg : Str → Option Value) (fa : Addr) (h : Heap), (K wd.params).In h → h.Ns mainGlobals mg → mg d.name = some (.ref fa) →
      ∃ fd : FuncData, (∀ (s : Shared) (u : Value), BindsTo s fd ⟨[u], []⟩ [(x, u)]) ∧ ∀ B : Heap, (K wd.params).In B → B.Ns mainGlobals mg → FnG l.prog wd (K wd.params) mg B (CX wd) k fa fd [x] (sp wd))
    (keeps : ∀ (wd : World) (H : Hp) (a : Addr) (ns : List Int), ns.length ≤ n → Only H → SqL (K wd.params) H a (ns.map V.int) → sp wd [.ref a] H (fun v _ => v = .bl true) fun _ _ _ => False)
    (calm : ∀ (wd : World) (H : Hp) (s : Shared) (e : Value) (s' : Shared), CX wd [] H s (fun _ _ _ => False) e s' → False) :
    PySem.W.WalkO q loose XP YP l.row.toRowW d [] (fun f vs => PySem.call f vs) :=
  Att.attach_call most nod fun wd s0 s1 mg mb fa o pm cd doc a us ns G Y ho hd hcd hmg hobj hints len gen0 => by
    obtain ⟨fd, hb, hF⟩ := F wd mg fa _ (hY wd _ Y) G.T.g hmg
    exact lawG (hY wd _ Y) G.T.g G.T.b G.T.builtins G.T.nolimit gen0 hobj hints (Nat.le_trans len nl) room hF hb (fun H => keeps wd H a ns len) fun H e s' => calm wd H s1 e s'
end My

set_option Elab.async false
set_option linter.all false
set_option maxRecDepth 100000
set_option maxHeartbeats 1000000
/-! ### sizes, levels, blocks; how words are dealt -/
namespace My
open PySem PySem.Spec PyProof.Rows L2
def sideL : List Nat := [8, 12, 16, 20, 24]
def bitsL : List Nat := [4, 4, 8, 8, 8]
def blksL : List (List Nat) := [[4], [10, 10], [22], [19, 19], [20, 19, 19]]
def cksL : List (List Nat) := [[1, 2, 3, 3], [2, 4, 6, 8], [4, 8, 10, 12], [4, 8, 10, 12], [4, 8, 10, 12]]
def offL : List (List Nat) := [[0, 1, 3, 6], [0, 2, 6, 3], [0, 60, 120, 180], [0, 60, 120, 180], [0, 60, 120, 180]]
def bitsF (s : Nat) : Nat := bitsL.getD s 4
def blkF (s : Nat) : List Nat := blksL.getD s []
def ckF (s l : Nat) : Nat := (cksL.getD s []).getD l 0
def totF (s : Nat) : Nat := (blkF s).sum
def minF (s : Nat) : Nat := (blkF s).foldl Nat.min 1000
def ownF (s l : Nat) : Nat := minF s - ckF s l
def longF (s : Nat) : List Nat := (List.range (blkF s).length).filter fun b => decide (minF s < (blkF s).getD b 0)
def stepsF (a n c : Nat) : List Nat := (List.range n).map fun k => a + k * c
/-- the indexes of the words of a block -/
def placeF (s l b : Nat) : List Nat :=
  let many := (blkF s).length
  stepsF b (ownF s l) many ++ (if b ∈ longF s then [many * ownF s l + b] else []) ++ stepsF (many * ownF s l + (longF s).length + b) (ckF s l) many
def placesF (s l : Nat) : List (List Nat) := (List.range (blkF s).length).map (placeF s l)
/-- block and place of a word -/
def spotF (s l i : Nat) : Nat × Nat :=
  let many := (blkF s).length
  if i < many * ownF s l then (i % many, i / many)
  else if i < many * ownF s l + (longF s).length then ((longF s).getD (i - many * ownF s l) 0, ownF s l)
  else ((i - (many * ownF s l + (longF s).length)) % many, (blkF s).getD ((i - (many * ownF s l + (longF s).length)) % many) 0 - ckF s l + (i - (many * ownF s l + (longF s).length)) / many)
/-- block and place of each word, in their order -/
def orderF (s l : Nat) : List (Nat × Nat) := (List.range (totF s)).map (spotF s l)
theorem bits_wd {s : Nat} (h : s < 5) : Wd (bitsF s) := by
  have : s = 0 ∨ s = 1 ∨ s = 2 ∨ s = 3 ∨ s = 4 := by omega
  rcases this with rfl | rfl | rfl | rfl | rfl
  · exact .inl rfl
  · exact .inl rfl
  · exact .inr rfl
  · exact .inr rfl
  · exact .inr rfl
theorem blk_some {s : Nat} (h : s < 5) : blksL[s]? = some (blkF s) := by
  unfold blkF
  rw [List.getD_eq_getElem?_getD, List.getElem?_eq_getElem (by exact h)]
  rfl
theorem all20 {P : Nat → Nat → Bool} (h : ((List.range 5).all fun s => (List.range 4).all fun l => P s l) = true) {s l : Nat} (hs : s < 5) (hl : l < 4) : P s l = true :=
  List.all_eq_true.mp (List.all_eq_true.mp h s (List.mem_range.mpr hs)) l (List.mem_range.mpr hl)
theorem all5 {P : Nat → Bool} (h : ((List.range 5).all P) = true) {s : Nat} (hs : s < 5) : P s = true := List.all_eq_true.mp h s (List.mem_range.mpr hs)
theorem cr_minTK {X : Cx} {K : PySem.W.Frag} (hK : X.K = K) (hc : X.calm = true) : CallR X (.builtin "min") (rMinT K) := by
  subst hK
  exact cr_minT hc
def ofN (r : List Nat) : List (Option Nat) := r.map some
theorem ofN_v (r : List Nat) : (ofN r).map vG = r.map vN := by
  unfold ofN
  rw [List.map_map]
  rfl
def gridN (g : List (List Nat)) : Grid := g.map ofN
theorem order_at {s l i : Nat} (h : i < totF s) : (orderF s l)[i]? = some (spotF s l i) := by
  unfold orderF
  rw [List.getElem?_map, List.getElem?_range h]
  rfl
theorem order_len (s l : Nat) : (orderF s l).length = totF s := by
  unfold orderF
  rw [List.length_map, List.length_range]
def okPlaces (s l : Nat) : Bool := (List.range (blkF s).length).all fun b => (placeF s l b).length == (blkF s).getD b 0 && (List.range ((blkF s).getD b 0)).all fun c => decide ((placeF s l b).getD c 0 < totF s) && spotF s l ((placeF s l b).getD c 0) == (b, c)
def okSpots (s l : Nat) : Bool := (List.range (totF s)).all fun i => decide ((spotF s l i).1 < (blkF s).length) && decide ((spotF s l i).2 < (blkF s).getD (spotF s l i).1 0) && (placeF s l (spotF s l i).1).getD (spotF s l i).2 0 == i
theorem places_ok {s l : Nat} (hs : s < 5) (hl : l < 4) : okPlaces s l = true := all20 (P := okPlaces) (by decide +kernel) hs hl
theorem spots_ok {s l : Nat} (hs : s < 5) (hl : l < 4) : okSpots s l = true := all20 (P := okSpots) (by decide +kernel) hs hl
theorem place_len {s l b : Nat} (hs : s < 5) (hl : l < 4) (hb : b < (blkF s).length) : (placeF s l b).length = (blkF s).getD b 0 := by
  have h := List.all_eq_true.mp (places_ok hs hl) b (List.mem_range.mpr hb)
  rw [Bool.and_eq_true] at h
  exact eq_of_beq h.1
theorem place_in {s l b c : Nat} (hs : s < 5) (hl : l < 4) (hb : b < (blkF s).length) (hc : c < (blkF s).getD b 0) : (placeF s l b).getD c 0 < totF s ∧ spotF s l ((placeF s l b).getD c 0) = (b, c) := by
  have h := List.all_eq_true.mp (places_ok hs hl) b (List.mem_range.mpr hb)
  rw [Bool.and_eq_true] at h
  have h2 := List.all_eq_true.mp h.2 c (List.mem_range.mpr hc)
  rw [Bool.and_eq_true] at h2
  exact ⟨of_decide_eq_true h2.1, eq_of_beq h2.2⟩
theorem spot_in {s l i : Nat} (hs : s < 5) (hl : l < 4) (hi : i < totF s) : (spotF s l i).1 < (blkF s).length ∧ (spotF s l i).2 < (blkF s).getD (spotF s l i).1 0 ∧ (placeF s l (spotF s l i).1).getD (spotF s l i).2 0 = i := by
  have h := List.all_eq_true.mp (spots_ok hs hl) i (List.mem_range.mpr hi)
  rw [Bool.and_eq_true, Bool.and_eq_true] at h
  exact ⟨of_decide_eq_true h.1.1, of_decide_eq_true h.1.2, eq_of_beq h.2⟩
/-- the words of all blocks, in the order that they are dealt in -/
def dueF (s l : Nat) (rows : List (List Nat)) : List Nat := (orderF s l).map fun q => (rows.getD q.1 []).getD q.2 0
def RowsOk (s : Nat) (rows : List (List Nat)) : Prop := rows.map List.length = blkF s ∧ ∀ r ∈ rows, ∀ x ∈ r, x < span (bitsF s)
theorem RowsOk.len {s : Nat} {rows : List (List Nat)} (h : RowsOk s rows) : rows.length = (blkF s).length := by rw [← h.1, List.length_map]
theorem RowsOk.row {s b : Nat} {rows : List (List Nat)} (h : RowsOk s rows) (hb : b < (blkF s).length) : ∃ r, rows[b]? = some r ∧ r.length = (blkF s).getD b 0 ∧ rows.getD b [] = r ∧ ∀ x ∈ r, x < span (bitsF s) := by
  have hb2 : b < rows.length := by rw [h.len]; exact hb
  refine ⟨rows[b], List.getElem?_eq_getElem hb2, ?_, getD_in hb2, h.2 _ (List.getElem_mem hb2)⟩
  have : (blkF s)[b]? = some rows[b].length := by rw [← h.1, List.getElem?_map, List.getElem?_eq_getElem hb2]; rfl
  rw [List.getD_eq_getElem?_getD, this]
  rfl
/-- the words as far as they are dealt -/
structure DealtW (s l : Nat) (rows : List (List Nat)) (i j : Nat) (W : List (Option Nat)) : Prop where
  len : W.length = totF s
  at' : ∀ b c, (b < i ∨ (b = i ∧ c < j)) → b < (blkF s).length → c < (blkF s).getD b 0 → W[(placeF s l b).getD c 0]? = some (some ((rows.getD b []).getD c 0))
theorem DealtW.start (s l : Nat) (rows : List (List Nat)) : DealtW s l rows 0 0 (List.replicate (totF s) none) where
  len := List.length_replicate
  at' b c h := by omega
theorem DealtW.step {s l i j : Nat} {rows : List (List Nat)} {W : List (Option Nat)} (hs : s < 5) (hl : l < 4) (hi : i < (blkF s).length) (hj : j < (blkF s).getD i 0) (h : DealtW s l rows i j W) :
    DealtW s l rows i (j + 1) (W.set ((placeF s l i).getD j 0) (some ((rows.getD i []).getD j 0))) where
  len := by rw [List.length_set]; exact h.len
  at' b c hh hb hc := by
    have p1 := place_in hs hl hi hj
    have p2 := place_in hs hl hb hc
    by_cases e : (placeF s l i).getD j 0 = (placeF s l b).getD c 0
    · have e2 : (i, j) = (b, c) := by rw [← p1.2, ← p2.2, e]
      cases e2
      rw [List.getElem?_set_self (by rw [h.len]; exact p1.1)]
    · rw [List.getElem?_set_ne e]
      refine h.at' b c ?_ hb hc
      rcases hh with q | ⟨rfl, q⟩
      · exact .inl q
      · by_cases ec : c = j
        · subst ec
          exact absurd rfl e
        · exact .inr ⟨rfl, by omega⟩
theorem DealtW.next {s l i j : Nat} {rows : List (List Nat)} {W : List (Option Nat)} (hj : (blkF s).getD i 0 ≤ j) (h : DealtW s l rows i j W) : DealtW s l rows (i + 1) 0 W where
  len := h.len
  at' b c hh hb hc := by
    refine h.at' b c ?_ hb hc
    rcases hh with q | ⟨rfl, q⟩
    · by_cases e : b = i
      · subst e
        exact .inr ⟨rfl, by omega⟩
      · exact .inl (by omega)
    · omega
theorem DealtW.done {s l : Nat} {rows : List (List Nat)} {W : List (Option Nat)} (hs : s < 5) (hl : l < 4) (h : DealtW s l rows (blkF s).length 0 W) : W = ofN (dueF s l rows) := by
  refine List.ext_getElem? fun i => ?_
  by_cases hi : i < totF s
  · obtain ⟨q1, q2, q3⟩ := spot_in hs hl hi
    have := h.at' _ _ (.inl q1) q1 q2
    rw [q3] at this
    rw [this]
    unfold ofN dueF
    rw [List.getElem?_map, List.getElem?_map, order_at hi]
    rfl
  · rw [List.getElem?_eq_none (by rw [h.len]; omega), List.getElem?_eq_none]
    unfold ofN dueF
    rw [List.length_map, List.length_map, order_len]
    omega
theorem rep1 {α : Type} (v : α) : ∀ n : Nat, (List.replicate n [v]).flatten = List.replicate n v
  | 0 => rfl
  | n + 1 => by
    rw [List.replicate_succ, List.flatten_cons, rep1 v n]
    rfl
theorem refs_ne {L : List Addr} {n : Nat} (h : 0 < n) : L.map V.ref ≠ List.replicate n V.non := by
  intro e
  cases n with
  | zero => omega
  | succ n =>
    cases L with
    | nil => cases e
    | cons a L => exact nomatch (List.cons.inj e).1
theorem words_ne {r : List Nat} {n : Nat} (h : 0 < n) : r.map vN ≠ List.replicate n V.non := by
  intro e
  cases n with
  | zero => omega
  | succ n =>
    cases r with
    | nil => cases e
    | cons a L => exact nomatch (List.cons.inj e).1
theorem tot_pos {s : Nat} (hs : s < 5) : 0 < totF s := of_decide_eq_true (all5 (P := fun s => decide (0 < totF s)) (by decide +kernel) hs)
theorem pi_enumK {X : Cx} {K : PySem.W.Frag} {e : Expr} {ta : TA} {p pos tpos : Pos} {elts : List Expr} {kk : Nat} (hK : X.K = K) (hg : Gl X "enumerate") (hm : X.mg "enumerate" = none) (ha : PA X [e] ta) (hs : starEach [e] X.env = [(false, eval e X.env)] := by rfl) :
    PI X (.Tuple elts kk tpos) (.Call (.Name "enumerate" p) [e] [] pos) (iEnumS K ta) := by
  subst hK
  exact pi_enumS hg hm ha hs
end My

set_option Elab.async false
set_option linter.all false
set_option maxRecDepth 100000
set_option maxHeartbeats 1000000
/-! ### the law's order of all places, by sorted() -/
namespace My
open PySem PySem.Spec PyProof.Rows L2
def chkI (s l : Nat) (q : Nat × Nat) : Int := if decide (((blkF s).getD q.1 0 : Int) - (ckF s l : Int) ≤ (q.2 : Int)) = true then 1 else 0
def keyI (s l : Nat) (q : Nat × Nat) : List Int := [chkI s l q, (q.2 : Int) - (((blkF s).getD q.1 0 : Int) - (ckF s l : Int)) * chkI s l q, (q.1 : Int), (q.2 : Int)]
/-- the places of the first blocks, block by block -/
def genP (s : Nat) : Nat → List (Nat × Nat)
  | 0 => []
  | i + 1 => genP s i ++ (List.range ((blkF s).getD i 0)).map fun j => (i, j)
def allP (s : Nat) : List (Nat × Nat) := genP s (blkF s).length
def okOrder (s l : Nat) : Bool := (orderF s l).isPerm (allP s) && decide ((orderF s l).Pairwise fun a b => TS.code 64 (keyI s l a) ≤ TS.code 64 (keyI s l b)) && (allP s).all fun q => decide (q.1 < 3) && decide (q.2 < 22) && (keyI s l q).all fun m => decide (0 ≤ m) && decide (m < 64)
theorem order_ok {s l : Nat} (hs : s < 5) (hl : l < 4) : okOrder s l = true := all20 (P := okOrder) (by decide +kernel) hs hl
theorem code_eq {s l : Nat} {a b : Nat × Nat} (a1 : a.1 < 3) (a2 : a.2 < 22) (b1 : b.1 < 3) (b2 : b.2 < 22) (h : TS.code 64 (keyI s l a) = TS.code 64 (keyI s l b)) : a = b := by
  obtain ⟨x, y⟩ := a
  obtain ⟨u, v⟩ := b
  unfold keyI TS.code TS.code TS.code TS.code TS.code at h
  generalize chkI s l (x, y) = c1 at h
  generalize chkI s l (u, v) = c2 at h
  generalize ((x, y).2 : Int) - (((blkF s).getD (x, y).1 0 : Int) - (ckF s l : Int)) * c1 = d1 at h
  generalize ((u, v).2 : Int) - (((blkF s).getD (u, v).1 0 : Int) - (ckF s l : Int)) * c2 = d2 at h
  simp at h a1 a2 b1 b2
  have e1 : x = u := by omega
  have e2 : y = v := by omega
  rw [e1, e2]
structure KeysAt (H : Hp) (ts : List Addr) (s l : Nat) (qs : List (Nat × Nat)) : Prop where
  len : ts.length = qs.length
  at' : ∀ (k : Nat) (t : Addr) (q : Nat × Nat), ts[k]? = some t → qs[k]? = some q → H t = some (.tup ((keyI s l q).map V.int))
theorem key_inj {s l : Nat} {a b : Nat × Nat} (h : (keyI s l a).map V.int = (keyI s l b).map V.int) : a = b := by
  obtain ⟨x, y⟩ := a
  obtain ⟨u, v⟩ := b
  unfold keyI at h
  simp at h
  obtain ⟨_, _, h1, h2⟩ := h
  rw [Int.ofNat.inj h1, Int.ofNat.inj h2]
theorem order_mem {s l : Nat} (hs : s < 5) (hl : l < 4) {q : Nat × Nat} (h : q ∈ allP s) : q.1 < 3 ∧ q.2 < 22 ∧ TS.Bd 64 (keyI s l q) := by
  have o := order_ok hs hl
  unfold okOrder at o
  rw [Bool.and_eq_true, Bool.and_eq_true] at o
  have h2 := List.all_eq_true.mp o.2 q h
  rw [Bool.and_eq_true, Bool.and_eq_true] at h2
  refine ⟨of_decide_eq_true h2.1.1, of_decide_eq_true h2.1.2, fun m hm => ?_⟩
  have h3 := List.all_eq_true.mp h2.2 m hm
  rw [Bool.and_eq_true] at h3
  exact ⟨of_decide_eq_true h3.1, of_decide_eq_true h3.2⟩
open Classical in
theorem sorted_is {K : PySem.W.Frag} {H : Hp} {ts : List Addr} {s l : Nat} {ys : List V} (hs : s < 5) (hl : l < 4) (h : KeysAt H ts s l (allP s)) (hp : ys.Perm (ts.map V.ref))
    (hw : ys.Pairwise fun x y => ∀ n m, TupI K H x n → TupI K H y m → TS.code 64 n ≤ TS.code 64 m) :
    ys.length = totF s ∧ ∀ i, i < totF s → ∃ t, ys[i]? = some (V.ref t) ∧ H t = some (.tup ((keyI s l (spotF s l i)).map V.int)) := by
  have o := order_ok hs hl
  unfold okOrder at o
  rw [Bool.and_eq_true, Bool.and_eq_true] at o
  have o1 : (orderF s l).Perm (allP s) := List.isPerm_iff.mp o.1.1
  have o2 := of_decide_eq_true o.1.2
  let Good : V → Nat × Nat → Prop := fun y q => q ∈ allP s ∧ ∃ t, y = V.ref t ∧ H t = some (.tup ((keyI s l q).map V.int))
  have uniq : ∀ y a b, Good y a → Good y b → a = b := by
    rintro y a b ⟨_, t, rfl, h1⟩ ⟨_, t', e, h2⟩
    cases e
    rw [h1] at h2
    exact key_inj (HO.tup.inj (Option.some.inj h2))
  have good : ∀ (k : Nat) (t : Addr), ts[k]? = some t → ∃ q, (allP s)[k]? = some q ∧ Good (V.ref t) q := fun k t e => by
    have hk := (List.getElem?_eq_some_iff.mp e).1
    rw [h.len] at hk
    have e2 : (allP s)[k]? = some (allP s)[k] := List.getElem?_eq_getElem hk
    exact ⟨_, e2, List.getElem_mem hk, t, rfl, h.at' k t _ e e2⟩
  let f : V → Nat × Nat := fun y => if c : ∃ q, Good y q then choose c else (0, 0)
  have hf : ∀ y, (∃ q, Good y q) → Good y (f y) := fun y c => by
    show Good y (if c : ∃ q, Good y q then choose c else (0, 0))
    rw [dif_pos c]
    exact choose_spec c
  have hin : ∀ y, y ∈ ys → Good y (f y) := fun y hy => by
    obtain ⟨t, ht, rfl⟩ := List.mem_map.mp (hp.mem_iff.mp hy)
    obtain ⟨k, hk, e⟩ := List.getElem_of_mem ht
    obtain ⟨q, _, g⟩ := good k t (by rw [List.getElem?_eq_getElem hk, e])
    exact hf _ ⟨q, g⟩
  have hfm : (ts.map V.ref).map f = allP s := by
    refine List.ext_getElem? fun k => ?_
    rw [List.getElem?_map, List.getElem?_map]
    cases e : ts[k]? with
    | none =>
      have hk := List.getElem?_eq_none_iff.mp e
      rw [List.getElem?_eq_none (by rw [← h.len]; exact hk)]
      rfl
    | some t =>
      obtain ⟨q, e2, g⟩ := good k t e
      rw [e2]
      exact congrArg some (uniq _ _ _ (hf _ ⟨q, g⟩) g)
  have p1 : (ys.map f).Perm (allP s) := by
    rw [← hfm]
    exact hp.map f
  have w1 : (ys.map f).Pairwise fun a b => TS.code 64 (keyI s l a) ≤ TS.code 64 (keyI s l b) := by
    rw [List.pairwise_map]
    refine List.Pairwise.imp_of_mem (fun {x y} hx hy q => ?_) hw
    obtain ⟨_, t, ex, gx⟩ := hin x hx
    obtain ⟨_, u, ey, gy⟩ := hin y hy
    exact q _ _ ⟨t, ex, .inl (.inl gx)⟩ ⟨u, ey, .inl (.inl gy)⟩
  have eq : ys.map f = orderF s l := by
    refine List.Perm.eq_of_pairwise (fun a b ha hb h1 h2 => ?_) w1 o2 (p1.trans o1.symm)
    have ma := order_mem hs hl (p1.mem_iff.mp ha)
    have mb := order_mem hs hl (o1.mem_iff.mp hb)
    exact code_eq ma.1 ma.2.1 mb.1 mb.2.1 (Int.le_antisymm h1 h2)
  have len : ys.length = totF s := by
    have := congrArg List.length eq
    rw [List.length_map, order_len] at this
    exact this
  refine ⟨len, fun i hi => ?_⟩
  have e1 : ys[i]? = some (ys[i]'(by omega)) := List.getElem?_eq_getElem _
  have e2 : (ys.map f)[i]? = some (spotF s l i) := by
    rw [eq]
    exact order_at hi
  rw [List.getElem?_map, e1] at e2
  have e3 : f (ys[i]'(by omega)) = spotF s l i := Option.some.inj e2
  obtain ⟨_, t, ey, gy⟩ := hin _ (List.getElem_mem (by omega : i < ys.length))
  rw [e3] at gy
  exact ⟨t, by rw [e1, ey], gy⟩
theorem gen_len (s : Nat) : ∀ i, (genP s (i + 1)).length = (genP s i).length + (blkF s).getD i 0 := fun i => by
  show (genP s i ++ _).length = _
  rw [List.length_append, List.length_map, List.length_range]
theorem all_len {s : Nat} (hs : s < 5) : (allP s).length ≤ 58 := of_decide_eq_true (all5 (P := fun s => decide ((allP s).length ≤ 58)) (by decide +kernel) hs)
theorem gen_le {s : Nat} : ∀ {i j : Nat}, i ≤ j → (genP s i).length ≤ (genP s j).length
  | i, 0, h => by
    have : i = 0 := by omega
    subst this
    exact Nat.le_refl _
  | i, j + 1, h => by
    by_cases e : i = j + 1
    · subst e; exact Nat.le_refl _
    · have := gen_le (s := s) (i := i) (j := j) (by omega)
      rw [gen_len]
      omega
theorem KeysAt.push {H H2 : Hp} {ts : List Addr} {s l : Nat} {qs : List (Nat × Nat)} {q : Nat × Nat} {F u : Addr} {xs : List V} {o : HO} (h : KeysAt H ts s l qs) (sm : Same H H2) (gF : H2 F = some (.lst xs)) (gu : H2 u = some (.tup ((keyI s l q).map V.int))) :
    KeysAt (upd H2 F o) (ts ++ [u]) s l (qs ++ [q]) where
  len := by rw [List.length_append, List.length_append, h.len]; rfl
  at' k t r e1 e2 := by
    have tn : ∀ {t : Addr} {ys : List V}, H2 t = some (.tup ys) → t ≠ F := fun e z => by rw [z, gF] at e; cases e
    by_cases c : k < ts.length
    · rw [List.getElem?_append_left c] at e1
      rw [List.getElem?_append_left (by rw [← h.len]; exact c)] at e2
      have g := sm _ _ (h.at' k t r e1 e2)
      rw [upd_ne (tn g)]
      exact g
    · have hk := (List.getElem?_eq_some_iff.mp e1).1
      rw [List.length_append] at hk
      have ek : k = ts.length := by simp at hk; omega
      subst ek
      rw [List.getElem?_append_right (Nat.le_refl _), Nat.sub_self] at e1
      rw [h.len, List.getElem?_append_right (Nat.le_refl _), Nat.sub_self] at e2
      cases e1
      cases e2
      rw [upd_ne (tn gu)]
      exact gu
theorem KeysAt.same {H H2 : Hp} {ts : List Addr} {s l : Nat} {qs : List (Nat × Nat)} (h : KeysAt H ts s l qs) (sm : Same H H2) : KeysAt H2 ts s l qs := ⟨h.len, fun k t q e1 e2 => sm _ _ (h.at' k t q e1 e2)⟩
/-- four values the other way round -/
def rev4 {α : Type} : List α → List α
  | [a, b, c, d] => [d, c, b, a]
  | l => l
theorem rev4_rel {zs : List V} {ws : List Value} (r : Vals zs ws) : Vals (rev4 zs) (rev4 ws) := by
  cases r with
  | nil => exact .nil
  | cons r1 r =>
    cases r with
    | nil => exact .cons r1 .nil
    | cons r2 r =>
      cases r with
      | nil => exact .cons r1 (.cons r2 .nil)
      | cons r3 r =>
        cases r with
        | nil => exact .cons r1 (.cons r2 (.cons r3 .nil))
        | cons r4 r =>
          cases r with
          | nil => exact .cons r4 (.cons r3 (.cons r2 (.cons r1 .nil)))
          | cons r5 r => exact .cons r1 (.cons r2 (.cons r3 (.cons r4 (.cons r5 r))))
theorem text_le : ∀ (ts : List Str) (k : Nat) (acc : Str), (textFrom k acc ts).length ≤ acc.length + (ts.map fun t => t.length + 2).sum
  | [], _, acc => Nat.le_refl _
  | t :: r, k, acc => by
    have h := text_le r (k + 1) (acc ++ (if k > 0 then ", " else "" : String) ++ t)
    have e : (acc ++ (if k > 0 then ", " else "" : String) ++ t).length = acc.length + (if k > 0 then 2 else 0) + t.length := by
      rw [strLen_append, strLen_append]
      split <;> rfl
    rw [e] at h
    have d : (if k > 0 then 2 else 0 : Nat) ≤ 2 := by split <;> decide
    show (textFrom (k + 1) _ r).length ≤ acc.length + (List.map (fun t => t.length + 2) (t :: r)).sum
    rw [List.map_cons, List.sum_cons]
    omega
theorem list_le {ts : List Str} {m : Nat} (h : ∀ t ∈ ts, t.length ≤ m) : (listText ts).length ≤ 2 + ts.length * (m + 2) := by
  unfold listText
  rw [strLen_append]
  have h1 := text_le ts 0 "["
  have h2 : (ts.map fun t => t.length + 2).sum ≤ ts.length * (m + 2) := by
    clear h1
    induction ts with
    | nil => exact Nat.zero_le _
    | cons t r ih =>
      rw [List.map_cons, List.sum_cons, List.length_cons, Nat.succ_mul]
      have a := h t (List.mem_cons_self ..)
      have b := ih fun u hu => h u (List.mem_cons_of_mem _ hu)
      omega
  have h3 : (Str.ofString "[").length = 1 := rfl
  have h4 : (Str.ofString "]").length = 1 := rfl
  omega
theorem shownAll_map : ∀ ds : List PyData, PyData.shownAll ds = ds.map PyData.shown
  | [] => rfl
  | d :: r => by
    show PyData.shown d :: PyData.shownAll r = _
    rw [shownAll_map r]
    rfl
theorem int_shown {n : Nat} (h : n < 256) : (PyData.shown (dI n)).length ≤ 3 := by
  have q : ((List.range 256).all fun n => decide ((PyData.shown (dI n)).length ≤ 3)) = true := by decide +kernel
  exact of_decide_eq_true (List.all_eq_true.mp q n (List.mem_range.mpr h))
theorem grid_shown {rows : List (List Nat)} (h3 : rows.length ≤ 3) (h : ∀ r ∈ rows, r.length ≤ 22 ∧ ∀ x ∈ r, x < 256) : (PyData.shown (dGr (gridN rows))).length ≤ 400 := by
  have e : PyData.shown (dGr (gridN rows)) = listText (((gridN rows).map dRow).map PyData.shown) := by
    rw [← shownAll_map]
    rfl
  rw [e]
  have l : ∀ t ∈ ((gridN rows).map dRow).map PyData.shown, t.length ≤ 112 := by
    intro t ht
    obtain ⟨d, hd, rfl⟩ := List.mem_map.mp ht
    obtain ⟨g, hg, rfl⟩ := List.mem_map.mp hd
    obtain ⟨r, hr, rfl⟩ := List.mem_map.mp hg
    have hh := h r hr
    have e2 : PyData.shown (dRow (ofN r)) = listText (((ofN r).map dG).map PyData.shown) := by
      rw [← shownAll_map]
      rfl
    rw [e2]
    have l2 := list_le (ts := ((ofN r).map dG).map PyData.shown) (m := 3) fun t ht => by
      obtain ⟨d, hd, rfl⟩ := List.mem_map.mp ht
      obtain ⟨o, ho, rfl⟩ := List.mem_map.mp hd
      obtain ⟨x, hx, rfl⟩ := List.mem_map.mp ho
      exact int_shown (hh.2 x hx)
    unfold ofN at l2 ⊢
    rw [List.length_map, List.length_map, List.length_map] at l2
    omega
  have l3 := list_le l
  unfold gridN at l3 ⊢
  rw [List.length_map, List.length_map, List.length_map] at l3
  omega
theorem dRow_show : ∀ r : List Nat, (∀ x ∈ r, x < 256) → PyData.showableAll ((ofN r).map dG) = true
  | [], _ => rfl
  | x :: r, h => by
    have hx := h x (List.mem_cons_self ..)
    have q : ((List.range 256).all fun n => (dI n).showable) = true := by decide +kernel
    have q2 : (dI x).showable = true := List.all_eq_true.mp q x (List.mem_range.mpr hx)
    show ((dI x).showable && PyData.showableAll ((ofN r).map dG)) = true
    rw [q2, dRow_show r fun y hy => h y (List.mem_cons_of_mem _ hy)]
    rfl
theorem dGr_show : ∀ rows : List (List Nat), (∀ r ∈ rows, ∀ x ∈ r, x < 256) → PyData.showableAll ((gridN rows).map dRow) = true
  | [], _ => rfl
  | r :: rows, h => by
    show (PyData.showableAll ((ofN r).map dG) && PyData.showableAll ((gridN rows).map dRow)) = true
    rw [dRow_show r (h r (List.mem_cons_self ..)), dGr_show rows fun q hq => h q (List.mem_cons_of_mem _ hq)]
    rfl
theorem dRow_dict : ∀ r : List (Option Nat), PyData.hasDictAll (r.map dG) = false
  | [] => rfl
  | o :: r => by
    show (PyData.hasDict (dG o) || PyData.hasDictAll (r.map dG)) = false
    rw [dRow_dict r]
    cases o <;> rfl
theorem dGr_dict : ∀ g : Grid, PyData.hasDictAll (g.map dRow) = false
  | [] => rfl
  | r :: g => by
    show (PyData.hasDictAll (r.map dG) || PyData.hasDictAll (g.map dRow)) = false
    rw [dRow_dict r, dGr_dict g]
    rfl
theorem grid_reprs {K : PySem.W.Frag} {H : Hp} {a : Addr} {rows : List (List Nat)} (g : GrB true K H a (gridN rows)) (h3 : rows.length ≤ 3) (h : ∀ r ∈ rows, r.length ≤ 22 ∧ ∀ x ∈ r, x < 256) :
    Dp K H (.ref a) (dGr (gridN rows)) ∧ (dGr (gridN rows)).showable = true ∧ (dGr (gridN rows)).hasDict = false ∧ (dGr (gridN rows)).depth ≤ 60 ∧ (dGr (gridN rows)).shown.length ≤ sizeLine := by
  refine ⟨g.dp, dGr_show rows fun r hr => (h r hr).2, dGr_dict _, ?_, Nat.le_trans (grid_shown h3 h) (by decide)⟩
  have := dRow_depth (gridN rows)
  show PyData.depthAll ((gridN rows).map dRow) + 1 ≤ 60
  omega
end My

set_option Elab.async false
set_option linter.all false
set_option maxRecDepth 100000
set_option maxHeartbeats 1000000
/-! ### the way through the word dots; grids with dots turned -/
namespace My
open PySem PySem.Spec PyProof.Rows L2
def spA (m a : Nat) : Nat × Nat := (1 + a / (m - 2), 1 + a % (m - 2))
def spB (m a : Nat) : Nat × Nat := (m - 2 - a % (m - 2), 1 + a / (m - 2))
def ribA (m i : Nat) : List (Nat × Nat) := ((List.range i).map (spA m)).take 10
def ribB (m i : Nat) : List (Nat × Nat) := (((List.range i).map (spB m)).filter fun q => !(ribA m ((m - 2) * (m - 2))).contains q).take 10
/-- the dots of the ribbons -/
def usedF (m : Nat) : List (Nat × Nat) := ribA m ((m - 2) * (m - 2)) ++ ribB m ((m - 2) * (m - 2))
def rowW (m b k : Nat) : Nat := if b % 2 = 0 then m - 2 - k else 1 + k
def cellsW (u : List (Nat × Nat)) (m b k : Nat) : List (Nat × Nat) := [(rowW m b k, m - 2 - 2 * b), (rowW m b k, m - 3 - 2 * b)].filter fun q => !u.contains q
def wayTo (u : List (Nat × Nat)) (m b k : Nat) : List (Nat × Nat) := ((List.range b).flatMap fun b => (List.range (m - 2)).flatMap (cellsW u m b)) ++ (List.range k).flatMap (cellsW u m b)
def wayF (m : Nat) : List (Nat × Nat) := wayTo (usedF m) m ((m - 2) / 2) 0
def sdF (s : Nat) : Nat := sideL.getD s 0
def ptF (s : Nat) : Nat := [16, 80, 176, 304, 464].getD s 0
def usedL : List (List (Nat × Nat)) := [[(1, 1), (1, 2), (1, 3), (1, 4), (1, 5), (1, 6), (2, 1), (2, 2), (2, 3), (2, 4), (6, 1), (5, 1), (4, 1), (3, 1), (6, 2), (5, 2), (4, 2), (3, 2), (6, 3), (5, 3)], [(1, 1), (1, 2), (1, 3), (1, 4), (1, 5), (1, 6), (1, 7), (1, 8), (1, 9), (1, 10), (10, 1), (9, 1), (8, 1), (7, 1), (6, 1), (5, 1), (4, 1), (3, 1), (2, 1), (10, 2)], [(1, 1), (1, 2), (1, 3), (1, 4), (1, 5), (1, 6), (1, 7), (1, 8), (1, 9), (1, 10), (14, 1), (13, 1), (12, 1), (11, 1), (10, 1), (9, 1), (8, 1), (7, 1), (6, 1), (5, 1)], [(1, 1), (1, 2), (1, 3), (1, 4), (1, 5), (1, 6), (1, 7), (1, 8), (1, 9), (1, 10), (18, 1), (17, 1), (16, 1), (15, 1), (14, 1), (13, 1), (12, 1), (11, 1), (10, 1), (9, 1)], [(1, 1), (1, 2), (1, 3), (1, 4), (1, 5), (1, 6), (1, 7), (1, 8), (1, 9), (1, 10), (22, 1), (21, 1), (20, 1), (19, 1), (18, 1), (17, 1), (16, 1), (15, 1), (14, 1), (13, 1)]]
def wayL : List (List (Nat × Nat)) := [[(6, 6), (6, 5), (5, 6), (5, 5), (4, 6), (4, 5), (3, 6), (3, 5), (2, 6), (2, 5), (3, 4), (3, 3), (4, 4), (4, 3), (5, 4), (6, 4)], [(10, 10), (10, 9), (9, 10), (9, 9), (8, 10), (8, 9), (7, 10), (7, 9), (6, 10), (6, 9), (5, 10), (5, 9), (4, 10), (4, 9), (3, 10), (3, 9), (2, 10), (2, 9), (2, 8), (2, 7), (3, 8), (3, 7), (4, 8), (4, 7), (5, 8), (5, 7), (6, 8), (6, 7), (7, 8), (7, 7), (8, 8), (8, 7), (9, 8), (9, 7), (10, 8), (10, 7), (10, 6), (10, 5), (9, 6), (9, 5), (8, 6), (8, 5), (7, 6), (7, 5), (6, 6), (6, 5), (5, 6), (5, 5), (4, 6), (4, 5), (3, 6), (3, 5), (2, 6), (2, 5), (2, 4), (2, 3), (3, 4), (3, 3), (4, 4), (4, 3), (5, 4), (5, 3), (6, 4), (6, 3), (7, 4), (7, 3), (8, 4), (8, 3), (9, 4), (9, 3), (10, 4), (10, 3), (9, 2), (8, 2), (7, 2), (6, 2), (5, 2), (4, 2), (3, 2), (2, 2)], [(14, 14), (14, 13), (13, 14), (13, 13), (12, 14), (12, 13), (11, 14), (11, 13), (10, 14), (10, 13), (9, 14), (9, 13), (8, 14), (8, 13), (7, 14), (7, 13), (6, 14), (6, 13), (5, 14), (5, 13), (4, 14), (4, 13), (3, 14), (3, 13), (2, 14), (2, 13), (1, 14), (1, 13), (1, 12), (1, 11), (2, 12), (2, 11), (3, 12), (3, 11), (4, 12), (4, 11), (5, 12), (5, 11), (6, 12), (6, 11), (7, 12), (7, 11), (8, 12), (8, 11), (9, 12), (9, 11), (10, 12), (10, 11), (11, 12), (11, 11), (12, 12), (12, 11), (13, 12), (13, 11), (14, 12), (14, 11), (14, 10), (14, 9), (13, 10), (13, 9), (12, 10), (12, 9), (11, 10), (11, 9), (10, 10), (10, 9), (9, 10), (9, 9), (8, 10), (8, 9), (7, 10), (7, 9), (6, 10), (6, 9), (5, 10), (5, 9), (4, 10), (4, 9), (3, 10), (3, 9), (2, 10), (2, 9), (2, 8), (2, 7), (3, 8), (3, 7), (4, 8), (4, 7), (5, 8), (5, 7), (6, 8), (6, 7), (7, 8), (7, 7), (8, 8), (8, 7), (9, 8), (9, 7), (10, 8), (10, 7), (11, 8), (11, 7), (12, 8), (12, 7), (13, 8), (13, 7), (14, 8), (14, 7), (14, 6), (14, 5), (13, 6), (13, 5), (12, 6), (12, 5), (11, 6), (11, 5), (10, 6), (10, 5), (9, 6), (9, 5), (8, 6), (8, 5), (7, 6), (7, 5), (6, 6), (6, 5), (5, 6), (5, 5), (4, 6), (4, 5), (3, 6), (3, 5), (2, 6), (2, 5), (2, 4), (2, 3), (3, 4), (3, 3), (4, 4), (4, 3), (5, 4), (5, 3), (6, 4), (6, 3), (7, 4), (7, 3), (8, 4), (8, 3), (9, 4), (9, 3), (10, 4), (10, 3), (11, 4), (11, 3), (12, 4), (12, 3), (13, 4), (13, 3), (14, 4), (14, 3), (14, 2), (13, 2), (12, 2), (11, 2), (10, 2), (9, 2), (8, 2), (7, 2), (6, 2), (5, 2), (4, 2), (4, 1), (3, 2), (3, 1), (2, 2), (2, 1)], [(18, 18), (18, 17), (17, 18), (17, 17), (16, 18), (16, 17), (15, 18), (15, 17), (14, 18), (14, 17), (13, 18), (13, 17), (12, 18), (12, 17), (11, 18), (11, 17), (10, 18), (10, 17), (9, 18), (9, 17), (8, 18), (8, 17), (7, 18), (7, 17), (6, 18), (6, 17), (5, 18), (5, 17), (4, 18), (4, 17), (3, 18), (3, 17), (2, 18), (2, 17), (1, 18), (1, 17), (1, 16), (1, 15), (2, 16), (2, 15), (3, 16), (3, 15), (4, 16), (4, 15), (5, 16), (5, 15), (6, 16), (6, 15), (7, 16), (7, 15), (8, 16), (8, 15), (9, 16), (9, 15), (10, 16), (10, 15), (11, 16), (11, 15), (12, 16), (12, 15), (13, 16), (13, 15), (14, 16), (14, 15), (15, 16), (15, 15), (16, 16), (16, 15), (17, 16), (17, 15), (18, 16), (18, 15), (18, 14), (18, 13), (17, 14), (17, 13), (16, 14), (16, 13), (15, 14), (15, 13), (14, 14), (14, 13), (13, 14), (13, 13), (12, 14), (12, 13), (11, 14), (11, 13), (10, 14), (10, 13), (9, 14), (9, 13), (8, 14), (8, 13), (7, 14), (7, 13), (6, 14), (6, 13), (5, 14), (5, 13), (4, 14), (4, 13), (3, 14), (3, 13), (2, 14), (2, 13), (1, 14), (1, 13), (1, 12), (1, 11), (2, 12), (2, 11), (3, 12), (3, 11), (4, 12), (4, 11), (5, 12), (5, 11), (6, 12), (6, 11), (7, 12), (7, 11), (8, 12), (8, 11), (9, 12), (9, 11), (10, 12), (10, 11), (11, 12), (11, 11), (12, 12), (12, 11), (13, 12), (13, 11), (14, 12), (14, 11), (15, 12), (15, 11), (16, 12), (16, 11), (17, 12), (17, 11), (18, 12), (18, 11), (18, 10), (18, 9), (17, 10), (17, 9), (16, 10), (16, 9), (15, 10), (15, 9), (14, 10), (14, 9), (13, 10), (13, 9), (12, 10), (12, 9), (11, 10), (11, 9), (10, 10), (10, 9), (9, 10), (9, 9), (8, 10), (8, 9), (7, 10), (7, 9), (6, 10), (6, 9), (5, 10), (5, 9), (4, 10), (4, 9), (3, 10), (3, 9), (2, 10), (2, 9), (2, 8), (2, 7), (3, 8), (3, 7), (4, 8), (4, 7), (5, 8), (5, 7), (6, 8), (6, 7), (7, 8), (7, 7), (8, 8), (8, 7), (9, 8), (9, 7), (10, 8), (10, 7), (11, 8), (11, 7), (12, 8), (12, 7), (13, 8), (13, 7), (14, 8), (14, 7), (15, 8), (15, 7), (16, 8), (16, 7), (17, 8), (17, 7), (18, 8), (18, 7), (18, 6), (18, 5), (17, 6), (17, 5), (16, 6), (16, 5), (15, 6), (15, 5), (14, 6), (14, 5), (13, 6), (13, 5), (12, 6), (12, 5), (11, 6), (11, 5), (10, 6), (10, 5), (9, 6), (9, 5), (8, 6), (8, 5), (7, 6), (7, 5), (6, 6), (6, 5), (5, 6), (5, 5), (4, 6), (4, 5), (3, 6), (3, 5), (2, 6), (2, 5), (2, 4), (2, 3), (3, 4), (3, 3), (4, 4), (4, 3), (5, 4), (5, 3), (6, 4), (6, 3), (7, 4), (7, 3), (8, 4), (8, 3), (9, 4), (9, 3), (10, 4), (10, 3), (11, 4), (11, 3), (12, 4), (12, 3), (13, 4), (13, 3), (14, 4), (14, 3), (15, 4), (15, 3), (16, 4), (16, 3), (17, 4), (17, 3), (18, 4), (18, 3), (18, 2), (17, 2), (16, 2), (15, 2), (14, 2), (13, 2), (12, 2), (11, 2), (10, 2), (9, 2), (8, 2), (8, 1), (7, 2), (7, 1), (6, 2), (6, 1), (5, 2), (5, 1), (4, 2), (4, 1), (3, 2), (3, 1), (2, 2), (2, 1)], [(22, 22), (22, 21), (21, 22), (21, 21), (20, 22), (20, 21), (19, 22), (19, 21), (18, 22), (18, 21), (17, 22), (17, 21), (16, 22), (16, 21), (15, 22), (15, 21), (14, 22), (14, 21), (13, 22), (13, 21), (12, 22), (12, 21), (11, 22), (11, 21), (10, 22), (10, 21), (9, 22), (9, 21), (8, 22), (8, 21), (7, 22), (7, 21), (6, 22), (6, 21), (5, 22), (5, 21), (4, 22), (4, 21), (3, 22), (3, 21), (2, 22), (2, 21), (1, 22), (1, 21), (1, 20), (1, 19), (2, 20), (2, 19), (3, 20), (3, 19), (4, 20), (4, 19), (5, 20), (5, 19), (6, 20), (6, 19), (7, 20), (7, 19), (8, 20), (8, 19), (9, 20), (9, 19), (10, 20), (10, 19), (11, 20), (11, 19), (12, 20), (12, 19), (13, 20), (13, 19), (14, 20), (14, 19), (15, 20), (15, 19), (16, 20), (16, 19), (17, 20), (17, 19), (18, 20), (18, 19), (19, 20), (19, 19), (20, 20), (20, 19), (21, 20), (21, 19), (22, 20), (22, 19), (22, 18), (22, 17), (21, 18), (21, 17), (20, 18), (20, 17), (19, 18), (19, 17), (18, 18), (18, 17), (17, 18), (17, 17), (16, 18), (16, 17), (15, 18), (15, 17), (14, 18), (14, 17), (13, 18), (13, 17), (12, 18), (12, 17), (11, 18), (11, 17), (10, 18), (10, 17), (9, 18), (9, 17), (8, 18), (8, 17), (7, 18), (7, 17), (6, 18), (6, 17), (5, 18), (5, 17), (4, 18), (4, 17), (3, 18), (3, 17), (2, 18), (2, 17), (1, 18), (1, 17), (1, 16), (1, 15), (2, 16), (2, 15), (3, 16), (3, 15), (4, 16), (4, 15), (5, 16), (5, 15), (6, 16), (6, 15), (7, 16), (7, 15), (8, 16), (8, 15), (9, 16), (9, 15), (10, 16), (10, 15), (11, 16), (11, 15), (12, 16), (12, 15), (13, 16), (13, 15), (14, 16), (14, 15), (15, 16), (15, 15), (16, 16), (16, 15), (17, 16), (17, 15), (18, 16), (18, 15), (19, 16), (19, 15), (20, 16), (20, 15), (21, 16), (21, 15), (22, 16), (22, 15), (22, 14), (22, 13), (21, 14), (21, 13), (20, 14), (20, 13), (19, 14), (19, 13), (18, 14), (18, 13), (17, 14), (17, 13), (16, 14), (16, 13), (15, 14), (15, 13), (14, 14), (14, 13), (13, 14), (13, 13), (12, 14), (12, 13), (11, 14), (11, 13), (10, 14), (10, 13), (9, 14), (9, 13), (8, 14), (8, 13), (7, 14), (7, 13), (6, 14), (6, 13), (5, 14), (5, 13), (4, 14), (4, 13), (3, 14), (3, 13), (2, 14), (2, 13), (1, 14), (1, 13), (1, 12), (1, 11), (2, 12), (2, 11), (3, 12), (3, 11), (4, 12), (4, 11), (5, 12), (5, 11), (6, 12), (6, 11), (7, 12), (7, 11), (8, 12), (8, 11), (9, 12), (9, 11), (10, 12), (10, 11), (11, 12), (11, 11), (12, 12), (12, 11), (13, 12), (13, 11), (14, 12), (14, 11), (15, 12), (15, 11), (16, 12), (16, 11), (17, 12), (17, 11), (18, 12), (18, 11), (19, 12), (19, 11), (20, 12), (20, 11), (21, 12), (21, 11), (22, 12), (22, 11), (22, 10), (22, 9), (21, 10), (21, 9), (20, 10), (20, 9), (19, 10), (19, 9), (18, 10), (18, 9), (17, 10), (17, 9), (16, 10), (16, 9), (15, 10), (15, 9), (14, 10), (14, 9), (13, 10), (13, 9), (12, 10), (12, 9), (11, 10), (11, 9), (10, 10), (10, 9), (9, 10), (9, 9), (8, 10), (8, 9), (7, 10), (7, 9), (6, 10), (6, 9), (5, 10), (5, 9), (4, 10), (4, 9), (3, 10), (3, 9), (2, 10), (2, 9), (2, 8), (2, 7), (3, 8), (3, 7), (4, 8), (4, 7), (5, 8), (5, 7), (6, 8), (6, 7), (7, 8), (7, 7), (8, 8), (8, 7), (9, 8), (9, 7), (10, 8), (10, 7), (11, 8), (11, 7), (12, 8), (12, 7), (13, 8), (13, 7), (14, 8), (14, 7), (15, 8), (15, 7), (16, 8), (16, 7), (17, 8), (17, 7), (18, 8), (18, 7), (19, 8), (19, 7), (20, 8), (20, 7), (21, 8), (21, 7), (22, 8), (22, 7), (22, 6), (22, 5), (21, 6), (21, 5), (20, 6), (20, 5), (19, 6), (19, 5), (18, 6), (18, 5), (17, 6), (17, 5), (16, 6), (16, 5), (15, 6), (15, 5), (14, 6), (14, 5), (13, 6), (13, 5), (12, 6), (12, 5), (11, 6), (11, 5), (10, 6), (10, 5), (9, 6), (9, 5), (8, 6), (8, 5), (7, 6), (7, 5), (6, 6), (6, 5), (5, 6), (5, 5), (4, 6), (4, 5), (3, 6), (3, 5), (2, 6), (2, 5), (2, 4), (2, 3), (3, 4), (3, 3), (4, 4), (4, 3), (5, 4), (5, 3), (6, 4), (6, 3), (7, 4), (7, 3), (8, 4), (8, 3), (9, 4), (9, 3), (10, 4), (10, 3), (11, 4), (11, 3), (12, 4), (12, 3), (13, 4), (13, 3), (14, 4), (14, 3), (15, 4), (15, 3), (16, 4), (16, 3), (17, 4), (17, 3), (18, 4), (18, 3), (19, 4), (19, 3), (20, 4), (20, 3), (21, 4), (21, 3), (22, 4), (22, 3), (22, 2), (21, 2), (20, 2), (19, 2), (18, 2), (17, 2), (16, 2), (15, 2), (14, 2), (13, 2), (12, 2), (12, 1), (11, 2), (11, 1), (10, 2), (10, 1), (9, 2), (9, 1), (8, 2), (8, 1), (7, 2), (7, 1), (6, 2), (6, 1), (5, 2), (5, 1), (4, 2), (4, 1), (3, 2), (3, 1), (2, 2), (2, 1)]]
theorem used_at {s : Nat} (hs : s < 5) : usedF (sdF s) = usedL.getD s [] := eq_of_beq (all5 (P := fun s => usedF (sdF s) == usedL.getD s []) (by decide +kernel) hs)
theorem way_at {s : Nat} (hs : s < 5) : wayF (sdF s) = wayL.getD s [] := by
  unfold wayF
  rw [used_at hs]
  exact eq_of_beq (all5 (P := fun s => wayTo (usedL.getD s []) (sdF s) ((sdF s - 2) / 2) 0 == wayL.getD s []) (by decide +kernel) hs)
theorem way_len {s : Nat} (hs : s < 5) : (wayF (sdF s)).length = ptF s := by
  rw [way_at hs]
  exact of_decide_eq_true (all5 (P := fun s => decide ((wayL.getD s []).length = ptF s)) (by decide +kernel) hs)
theorem way_in {s : Nat} (hs : s < 5) {q : Nat × Nat} (h : q ∈ wayF (sdF s)) : q.1 < sdF s ∧ q.2 < sdF s := by
  rw [way_at hs] at h
  have z := List.all_eq_true.mp (all5 (P := fun s => (wayL.getD s []).all fun q => decide (q.1 < sdF s) && decide (q.2 < sdF s)) (by decide +kernel) hs) q h
  rw [Bool.and_eq_true] at z
  exact ⟨of_decide_eq_true z.1, of_decide_eq_true z.2⟩
theorem sd_ok {s : Nat} (hs : s < 5) : SideOk (sdF s) := by
  have : s = 0 ∨ s = 1 ∨ s = 2 ∨ s = 3 ∨ s = 4 := by omega
  rcases this with rfl | rfl | rfl | rfl | rfl
  · exact .inl rfl
  · exact .inr (.inl rfl)
  · exact .inr (.inr (.inl rfl))
  · exact .inr (.inr (.inr (.inl rfl)))
  · exact .inr (.inr (.inr (.inr rfl)))
theorem sd_side {s : Nat} (hs : s < 5) : sidesI[s]? = some (sdF s : Int) := by
  have : s = 0 ∨ s = 1 ∨ s = 2 ∨ s = 3 ∨ s = 4 := by omega
  rcases this with rfl | rfl | rfl | rfl | rfl <;> rfl
theorem take_step {α : Type} (l : List α) (x : α) : (l ++ [x]).take 10 = if (l.take 10).length < 10 then l.take 10 ++ [x] else l.take 10 := by
  rw [List.length_take]
  split
  · next c =>
    have h : l.length < 10 := by omega
    have h2 : (l ++ [x]).length ≤ 10 := by
      rw [List.length_append]
      show l.length + 1 ≤ 10
      omega
    rw [List.take_of_length_le h2, List.take_of_length_le (show l.length ≤ 10 by omega)]
  · next c => rw [List.take_append_of_le_length (by omega)]
theorem ribA_step (m i : Nat) : ribA m (i + 1) = if (ribA m i).length < 10 then ribA m i ++ [spA m i] else ribA m i := by
  unfold ribA
  rw [List.range_succ, List.map_append]
  exact take_step _ _
theorem ribB_step (m i : Nat) : ribB m (i + 1) = if (ribB m i).length < 10 ∧ spB m i ∉ ribA m ((m - 2) * (m - 2)) then ribB m i ++ [spB m i] else ribB m i := by
  unfold ribB
  rw [List.range_succ, List.map_append, List.filter_append]
  by_cases c : spB m i ∈ ribA m ((m - 2) * (m - 2))
  · rw [if_neg (fun h => h.2 c)]
    have e : ([spB m i].filter fun q => !(ribA m ((m - 2) * (m - 2))).contains q) = [] := by simp [c]
    show List.take 10 (_ ++ ([spB m i].filter fun q => !(ribA m ((m - 2) * (m - 2))).contains q)) = _
    rw [e, List.append_nil]
  · have e : ([spB m i].filter fun q => !(ribA m ((m - 2) * (m - 2))).contains q) = [spB m i] := by simp [c]
    show List.take 10 (_ ++ ([spB m i].filter fun q => !(ribA m ((m - 2) * (m - 2))).contains q)) = _
    rw [e, take_step]
    simp only [c, not_false_eq_true, and_true]
theorem way_step (u : List (Nat × Nat)) (m b k : Nat) : wayTo u m b (k + 1) = wayTo u m b k ++ cellsW u m b k := by
  unfold wayTo
  rw [List.range_succ, List.flatMap_append, List.append_assoc]
  simp
theorem way_next (u : List (Nat × Nat)) (m b : Nat) : wayTo u m (b + 1) 0 = wayTo u m b (m - 2) := by
  unfold wayTo
  rw [List.range_succ, List.flatMap_append]
  simp
/-! ### dots turned -/
def flipO : Option Nat → Option Nat
  | none => none
  | some x => some (1 - x)
/-- the grid with the dots turned for which b holds -/
def turnG (b : Nat → Nat → Bool) (g : Grid) : Grid := g.mapIdx fun r row => row.mapIdx fun c o => if b r c = true then flipO o else o
theorem flip_ok {o : Option Nat} (h : DotOk o) : DotOk (flipO o) := by
  rcases h with rfl | rfl | rfl
  · exact .inl rfl
  · exact .inr (.inr rfl)
  · exact .inr (.inl rfl)
theorem flip_flip {o : Option Nat} (h : DotOk o) : flipO (flipO o) = o := by
  rcases h with rfl | rfl | rfl <;> rfl
theorem turn_row {b : Nat → Nat → Bool} {g : Grid} {i : Nat} {r : List (Option Nat)} (e : g[i]? = some r) : (turnG b g)[i]? = some (r.mapIdx fun c o => if b i c = true then flipO o else o) := by
  unfold turnG
  rw [List.getElem?_mapIdx, e]
  rfl
theorem turnG_sq {n : Nat} {b : Nat → Nat → Bool} {g : Grid} (h : Sq n g) : Sq n (turnG b g) where
  len := by unfold turnG; rw [List.length_mapIdx, h.len]
  row r hr := by
    obtain ⟨i, hi, rfl⟩ := List.mem_mapIdx.mp hr
    rw [List.length_mapIdx]
    exact h.row _ (List.getElem_mem hi)
  dot r hr o ho := by
    obtain ⟨i, hi, rfl⟩ := List.mem_mapIdx.mp hr
    obtain ⟨j, hj, rfl⟩ := List.mem_mapIdx.mp ho
    have z := h.dot _ (List.getElem_mem hi) _ (List.getElem_mem hj)
    split
    · exact flip_ok z
    · exact z
theorem cell_turn {n : Nat} {b : Nat → Nat → Bool} {g : Grid} (h : Sq n g) {i j : Nat} (hi : i < n) (hj : j < n) : cell (turnG b g) i j = if b i j = true then flipO (cell g i j) else cell g i j := by
  have l := h.len
  have l2 := (turnG_sq (b := b) h).len
  unfold cell
  have e : g[i]? = some (g[i]'(by omega)) := List.getElem?_eq_getElem _
  have r1 := h.row _ (List.getElem_mem (show i < g.length by omega))
  rw [List.getD_eq_getElem?_getD (l := turnG b g), turn_row e, List.getD_eq_getElem?_getD (l := g), e]
  simp only [Option.getD_some]
  rw [List.getD_eq_getElem?_getD, List.getElem?_mapIdx, List.getElem?_eq_getElem (by omega), List.getD_eq_getElem?_getD, List.getElem?_eq_getElem (by omega)]
  rfl
theorem turn_turn {n : Nat} {b : Nat → Nat → Bool} {g : Grid} (h : Sq n g) : turnG b (turnG b g) = g := by
  refine grid_ext (turnG_sq (turnG_sq h)) h fun i j hi hj => ?_
  rw [cell_turn (turnG_sq h) hi hj, cell_turn h hi hj]
  have l := h.len
  have r1 := h.row _ (getD_mem (d := []) (show i < g.length by omega))
  have z : DotOk (cell g i j) := dot_getD (h.dot _ (getD_mem (by omega)))
  split
  · exact flip_flip z
  · rfl
theorem turn_congr {n : Nat} {b b' : Nat → Nat → Bool} {g : Grid} (h : Sq n g) (e : ∀ i j, i < n → j < n → b i j = b' i j) : turnG b g = turnG b' g := by
  refine grid_ext (turnG_sq h) (turnG_sq h) fun i j hi hj => ?_
  rw [cell_turn h hi hj, cell_turn h hi hj, e i j hi hj]
theorem turn_none {n : Nat} {g : Grid} (h : Sq n g) : turnG (fun _ _ => false) g = g := by
  refine grid_ext (turnG_sq h) h fun i j hi hj => ?_
  rw [cell_turn h hi hj]
  rfl
/-- a dot put into a grid -/
def putG (g : Grid) (i j : Nat) (o : Option Nat) : Grid := g.set i ((g.getD i []).set j o)
theorem putG_sq {n : Nat} {g : Grid} {i j : Nat} {o : Option Nat} (h : Sq n g) (hi : i < n) (ho : DotOk o) : Sq n (putG g i j o) where
  len := by unfold putG; rw [List.length_set, h.len]
  row r hr := by
    have l := h.len
    rcases List.mem_or_eq_of_mem_set hr with h1 | rfl
    · exact h.row r h1
    · rw [List.length_set]
      exact h.row _ (getD_mem (by omega))
  dot r hr x hx := by
    have l := h.len
    rcases List.mem_or_eq_of_mem_set hr with h1 | rfl
    · exact h.dot r h1 x hx
    · rcases List.mem_or_eq_of_mem_set hx with h2 | rfl
      · exact h.dot _ (getD_mem (by omega)) x h2
      · exact ho
theorem cell_put {n : Nat} {g : Grid} {i j a b : Nat} {o : Option Nat} (h : Sq n g) (hi : i < n) (hj : j < n) (ha : a < n) (hb : b < n) : cell (putG g i j o) a b = if a = i ∧ b = j then o else cell g a b := by
  have l := h.len
  have r1 := h.row _ (getD_mem (d := []) (show i < g.length by omega))
  unfold cell putG
  by_cases c : a = i
  · subst c
    rw [List.getD_eq_getElem?_getD (l := g.set a _), List.getElem?_set_self (by omega)]
    simp only [Option.getD_some, true_and]
    by_cases d : b = j
    · subst d
      rw [if_pos rfl, List.getD_eq_getElem?_getD, List.getElem?_set_self (by omega)]
      rfl
    · rw [if_neg d, List.getD_eq_getElem?_getD, List.getElem?_set_ne (by omega), ← List.getD_eq_getElem?_getD]
  · rw [if_neg (fun z => c z.1), List.getD_eq_getElem?_getD (l := g.set i _), List.getElem?_set_ne (by omega), ← List.getD_eq_getElem?_getD]
/-- one more dot turned -/
theorem turn_put {n : Nat} {b b' : Nat → Nat → Bool} {g : Grid} {i j : Nat} (h : Sq n g) (hi : i < n) (hj : j < n) (h0 : b i j = false) (h1 : b' i j = true) (e : ∀ x y, x < n → y < n → ¬(x = i ∧ y = j) → b' x y = b x y) : putG (turnG b g) i j (flipO (cell g i j)) = turnG b' g := by
  have l := h.len
  have z : DotOk (cell g i j) := dot_getD (h.dot _ (getD_mem (by omega)))
  refine grid_ext (putG_sq (turnG_sq h) hi (flip_ok z)) (turnG_sq h) fun x y hx hy => ?_
  rw [cell_put (turnG_sq h) hi hj hx hy]
  by_cases c : x = i ∧ y = j
  · obtain ⟨rfl, rfl⟩ := c
    rw [if_pos ⟨rfl, rfl⟩, cell_turn h hx hy, h1]
    rfl
  · rw [if_neg c, cell_turn h hx hy, cell_turn h hx hy, e x y hx hy c]
theorem turn_keep {n : Nat} {b b' : Nat → Nat → Bool} {g : Grid} {i j : Nat} (h : Sq n g) (hi : i < n) (hj : j < n) (hn : cell g i j = none ∨ b' i j = b i j) (e : ∀ x y, x < n → y < n → ¬(x = i ∧ y = j) → b' x y = b x y) : turnG b g = turnG b' g := by
  refine grid_ext (turnG_sq h) (turnG_sq h) fun x y hx hy => ?_
  rw [cell_turn h hx hy, cell_turn h hx hy]
  by_cases c : x = i ∧ y = j
  · obtain ⟨rfl, rfl⟩ := c
    rcases hn with hn | hn
    · rw [hn]
      split <;> split <;> rfl
    · rw [hn]
  · rw [e x y hx hy c]
end My

set_option Elab.async false
set_option linter.all false
set_option maxRecDepth 100000
set_option maxHeartbeats 400000
/-! ### zip of a row, list or tuple, and a tuple -/
namespace My
open PySem PySem.Spec PyProof.Rows L2
def iZipRT (K : PySem.W.Frag) (ta : TA) : TI := fun σ H R => ta σ H fun vs H1 => ∃ (a b : Addr) (xs ys : List V) (k : Bool), vs = [.ref a, .ref b] ∧ SqB k K H1 a xs ∧ SqB false K H1 b ys ∧ R (ItzB k false K a b) H1
theorem pi_zipRT {X : Cx} {K : PySem.W.Frag} {e e2 : Expr} {ta : TA} {p pos tpos : Pos} {elts : List Expr} {kk : Nat} (hK : X.K = K) (hg : Gl X "zip") (hm : X.mg "zip" = none) (ha : PA X [e, e2] ta)
    (hs : starEach [e, e2] X.env = (false, eval e X.env) :: starEach [e2] X.env := by rfl) (hpl : (backTo pos (starEach [e2] X.env)).any (·.1) = false := by rfl) :
    PI X (.Tuple elts kk tpos) (.Call (.Name "zip" p) [e, e2] [] pos) (iZipRT K ta) := by
  subst hK
  refine ⟨fun pins s σ H R I h => ?_⟩
  refine Call_ (ld_blt I hg hm PyProof.Rows.boot_zip (PyProof.Rows.callWith_type1 (thn (ha.run pos pins s σ H _ I h) fun us s1 ⟨vs, H1, I1, r1, q1⟩ => ?_) hs hpl))
  obtain ⟨a, b, xs, ys, k, ex, hqx, hqy, q⟩ := q1
  subst ex
  obtain ⟨its, rv, p1⟩ := inv_sq I1 hqx
  obtain ⟨its2, rv2, p2⟩ := inv_sq I1 hqy
  cases r1 with
  | cons r rr =>
    cases rr with
    | cons r' rr =>
      cases rr
      cases r
      cases r'
      have fr : ∀ c, s1.heap.objs.size ≤ c → FpOk X pins H1 c := fun c hle => I1.fpOk hle (I1.hok.fresh hle)
      have fr5 : ∀ c, c ∈ [s1.heap.objs.size + 4, s1.heap.objs.size + 2, s1.heap.objs.size + 3, s1.heap.objs.size, s1.heap.objs.size + 1] → FpOk X pins H1 c := fun c hcm => by
        refine fr c ?_
        have e' : c = s1.heap.objs.size + 4 ∨ c = s1.heap.objs.size + 2 ∨ c = s1.heap.objs.size + 3 ∨ c = s1.heap.objs.size ∨ c = s1.heap.objs.size + 1 := by simpa using hcm
        rcases e' with z | z | z | z | z
        · rw [z]; exact Nat.le_add_right _ _
        · rw [z]; exact Nat.le_add_right _ _
        · rw [z]; exact Nat.le_add_right _ _
        · rw [z]; exact Nat.le_refl _
        · rw [z]; exact Nat.le_add_right _ _
      cases k with
      | true =>
        refine call_zipLT p1 p2 fun h' hz hTI hTO h1 h2 hk => wpAny_pyIter_zip hz ?_
        have I2 : Inv X pins σ H1 { s1 with heap := h' } := I1.kept (t' := s1.toks) hk
        have T : Turn X.prog X.w X.K (.Tuple elts kk tpos) (ItzB true false X.K a b) _ _ _ := turn_zipB (PySem.W.ktu_apart s1.heap.objs.size a b (Sq1.lt p1) (Sq1.lt p2))
        exact ⟨s1.heap.objs.size + 4, [s1.heap.objs.size + 4, s1.heap.objs.size + 2, s1.heap.objs.size + 3, s1.heap.objs.size, s1.heap.objs.size + 1], _, _, H1, rfl, I2, T, ⟨hz, hTI, ⟨_, _, hTO⟩, h1, h2⟩, fr5, q⟩
      | false =>
        refine RZ.call_zipT p1 p2 fun h' hz hTI hTO h1 h2 hsz hk => wpAny_pyIter_zip hz ?_
        have I2 : Inv X pins σ H1 { s1 with heap := h' } := I1.kept (t' := s1.toks) hk
        have T : Turn X.prog X.w X.K (.Tuple elts kk tpos) (ItzB false false X.K a b) _ _ _ := turn_zipB (PySem.W.ktu_apart s1.heap.objs.size a b (Sq1.lt p1) (Sq1.lt p2))
        exact ⟨s1.heap.objs.size + 4, [s1.heap.objs.size + 4, s1.heap.objs.size + 2, s1.heap.objs.size + 3, s1.heap.objs.size, s1.heap.objs.size + 1], _, _, H1, rfl, I2, T, ⟨hz, hTI, ⟨_, _, hTO⟩, h1, h2⟩, fr5, q⟩
theorem un1 {k : Nat} {A : Around} (r : Room k A) : A.units + 65 < cLine := by have := r.un; omega
theorem op_notInDK {X : Cx} {K : PySem.W.Frag} (h : X.K = K) (hu : X.A.units + 65 < cLine) : OpR X (compareOp .NotIn) (rNotInD K) := by
  subst h
  exact op_notInD hu
end My

set_option Elab.async false
set_option linter.all false
set_option maxRecDepth 100000
set_option maxHeartbeats 1000000
/-! ### how long a shown grid of dots is -/
namespace My
open PySem PySem.Spec PyProof.Rows L2
theorem dot_shown {o : Option Nat} (h : DotOk o) : (PyData.shown (dG o)).length ≤ 4 ∧ (dG o).showable = true := by
  rcases h with rfl | rfl | rfl <;> decide +kernel
theorem dotRow_show : ∀ r : List (Option Nat), (∀ o ∈ r, DotOk o) → PyData.showableAll (r.map dG) = true
  | [], _ => rfl
  | o :: r, h => by
    show ((dG o).showable && PyData.showableAll (r.map dG)) = true
    rw [(dot_shown (h o (List.mem_cons_self ..))).2, dotRow_show r fun y hy => h y (List.mem_cons_of_mem _ hy)]
    rfl
theorem dots_show : ∀ g : Grid, (∀ r ∈ g, ∀ o ∈ r, DotOk o) → PyData.showableAll (g.map dRow) = true
  | [], _ => rfl
  | r :: g, h => by
    show (PyData.showableAll (r.map dG) && PyData.showableAll (g.map dRow)) = true
    rw [dotRow_show r (h r (List.mem_cons_self ..)), dots_show g fun q hq => h q (List.mem_cons_of_mem _ hq)]
    rfl
theorem dots_len {n : Nat} {g : Grid} (sq : Sq n g) (hn : n ≤ 24) : (PyData.shown (dGr g)).length ≤ 4000 := by
  have e : PyData.shown (dGr g) = listText ((g.map dRow).map PyData.shown) := by
    rw [← shownAll_map]
    rfl
  rw [e]
  have l : ∀ t ∈ (g.map dRow).map PyData.shown, t.length ≤ 150 := by
    intro t ht
    obtain ⟨d, hd, rfl⟩ := List.mem_map.mp ht
    obtain ⟨r, hr, rfl⟩ := List.mem_map.mp hd
    have e2 : PyData.shown (dRow r) = listText ((r.map dG).map PyData.shown) := by
      rw [← shownAll_map]
      rfl
    rw [e2]
    have l2 := list_le (ts := (r.map dG).map PyData.shown) (m := 4) fun t ht => by
      obtain ⟨d, hd, rfl⟩ := List.mem_map.mp ht
      obtain ⟨o, ho, rfl⟩ := List.mem_map.mp hd
      exact (dot_shown (sq.dot r hr o ho)).1
    have := sq.row r hr
    rw [List.length_map, List.length_map] at l2
    omega
  have l3 := list_le l
  have := sq.len
  rw [List.length_map, List.length_map] at l3
  omega
theorem dots_reprs {K : PySem.W.Frag} {H : Hp} {a : Addr} {n : Nat} {g : Grid} (h : GrB true K H a g) (sq : Sq n g) (hn : n ≤ 24) :
    Dp K H (.ref a) (dGr g) ∧ (dGr g).showable = true ∧ (dGr g).hasDict = false ∧ (dGr g).depth ≤ 60 ∧ (dGr g).shown.length ≤ sizeLine := by
  refine ⟨h.dp, dots_show g fun r hr => sq.dot r hr, dGr_dict _, ?_, Nat.le_trans (dots_len sq hn) (by decide)⟩
  have := dRow_depth g
  show PyData.depthAll (g.map dRow) + 1 ≤ 60
  omega
end My

set_option Elab.async false
set_option linter.all false
set_option maxRecDepth 100000
set_option maxHeartbeats 1000000
/-! ### lists of dots: tuples of two, as they lie; whether a dot is among them -/
namespace My
open PySem PySem.Spec PyProof.Rows L2
def dQ (q : Nat × Nat) : PyData := .tuple [dI q.1, dI q.2]
def tQ (q : Nat × Nat) : HO := .tup [vN q.1, vN q.2]
theorem dI_eqv (x y : Nat) : PyData.eqv (dI x) (dI y) = decide (x = y) := by
  show ((x : Int) == (y : Int)) = decide (x = y)
  by_cases h : x = y
  · subst h; simp
  · simp [h]
    omega
theorem dQ_eqv (a b : Nat × Nat) : PyData.eqv (dQ a) (dQ b) = (a == b) := by
  show (PyData.eqv (dI a.1) (dI b.1) && (PyData.eqv (dI a.2) (dI b.2) && true)) = (a == b)
  rw [dI_eqv, dI_eqv, Bool.and_true]
  obtain ⟨a1, a2⟩ := a
  obtain ⟨b1, b2⟩ := b
  by_cases h : a1 = b1 <;> by_cases h2 : a2 = b2 <;> simp [h, h2]
theorem dQ_any (q : Nat × Nat) : ∀ w : List (Nat × Nat), ((w.map dQ).any fun z => PyData.eqv z (dQ q)) = w.contains q
  | [] => rfl
  | a :: w => by
    show (PyData.eqv (dQ a) (dQ q) || ((w.map dQ).any fun z => PyData.eqv z (dQ q))) = (a :: w).contains q
    rw [dQ_any q w, dQ_eqv, List.contains_cons]
    by_cases h : a = q
    · subst h; simp
    · have h2 : ¬ q = a := fun z => h z.symm
      rw [beq_false_of_ne h, beq_false_of_ne h2]
theorem dQ_lay : ∀ w : List (Nat × Nat), PyData.canLayAll0 (w.map dQ) = true
  | [] => rfl
  | q :: w => by
    show (PyData.canLay0 (dQ q) && PyData.canLayAll0 (w.map dQ)) = true
    rw [dQ_lay w]
    rfl
theorem dQ_depth : ∀ w : List (Nat × Nat), PyData.depthAll (w.map dQ) ≤ 1
  | [] => Nat.zero_le _
  | q :: w => by
    show max (PyData.depth (dQ q)) (PyData.depthAll (w.map dQ)) ≤ 1
    have := dQ_depth w
    have e : PyData.depth (dQ q) = 1 := rfl
    omega
theorem dQ_shaped (q : Nat × Nat) : SeqAt.shaped (dQ q) = true := rfl
theorem dQs_shaped (w : List (Nat × Nat)) : SeqAt.shaped (.list (w.map dQ)) = true := by
  unfold SeqAt.shaped
  have h1 : PyData.canLay0 (.list (w.map dQ)) = true := dQ_lay w
  have h2 : PyData.depth (.list (w.map dQ)) ≤ 64 := by
    show PyData.depthAll (w.map dQ) + 1 ≤ 64
    have := dQ_depth w
    omega
  rw [h1, Bool.true_and]
  exact decide_eq_true h2
/-- the dots of a way, each a tuple of its own -/
structure Spots (H : Hp) (L : List Addr) (w : List (Nat × Nat)) : Prop where
  len : L.length = w.length
  at' : ∀ (j : Nat) (l : Addr) (q : Nat × Nat), L[j]? = some l → w[j]? = some q → H l = some (tQ q)
theorem Spots.nil {H : Hp} : Spots H [] [] := ⟨rfl, fun j l q e => by cases e⟩
theorem Spots.same {H H2 : Hp} {L : List Addr} {w : List (Nat × Nat)} (h : Spots H L w) (s : Same H H2) : Spots H2 L w := ⟨h.len, fun j l q e1 e2 => s _ _ (h.at' j l q e1 e2)⟩
/-- what is no list stays -/
theorem Spots.keep {H H2 : Hp} {L : List Addr} {w : List (Nat × Nat)} (h : Spots H L w) (s : ∀ b xs, H b = some (.tup xs) → H2 b = some (.tup xs)) : Spots H2 L w := ⟨h.len, fun j l q e1 e2 => s _ _ (h.at' j l q e1 e2)⟩
theorem Spots.append {H : Hp} {L M : List Addr} {w v : List (Nat × Nat)} (h : Spots H L w) (g : Spots H M v) : Spots H (L ++ M) (w ++ v) where
  len := by rw [List.length_append, List.length_append, h.len, g.len]
  at' j l q e1 e2 := by
    by_cases c : j < L.length
    · rw [List.getElem?_append_left c] at e1
      rw [List.getElem?_append_left (by rw [← h.len]; exact c)] at e2
      exact h.at' j l q e1 e2
    · rw [List.getElem?_append_right (by omega)] at e1
      rw [List.getElem?_append_right (by rw [← h.len]; omega), ← h.len] at e2
      exact g.at' _ l q e1 e2
theorem Spots.one {H : Hp} {t : Addr} {q : Nat × Nat} (h : H t = some (tQ q)) : Spots H [t] [q] := ⟨rfl, fun j l r e1 e2 => by
  cases j with
  | zero => cases e1; cases e2; exact h
  | succ j => cases e1⟩
theorem Spots.snoc {H : Hp} {L : List Addr} {w : List (Nat × Nat)} {t : Addr} {q : Nat × Nat} (h : Spots H L w) (g : H t = some (tQ q)) : Spots H (L ++ [t]) (w ++ [q]) := h.append (.one g)
theorem spot_dp {K : PySem.W.Frag} {H : Hp} {t : Addr} {q : Nat × Nat} (h : H t = some (tQ q)) : Dp K H (.ref t) (dQ q) := .tup (.inl (.inl h)) (.cons (.int _) (.cons (.int _) .nil))
theorem Spots.all {K : PySem.W.Frag} {H : Hp} : ∀ {L : List Addr} {w : List (Nat × Nat)}, Spots H L w → DpAll K H (L.map V.ref) (w.map dQ)
  | [], [], _ => .nil
  | [], _ :: _, h => by cases h.len
  | _ :: _, [], h => by cases h.len
  | l :: L, q :: w, h => .cons (spot_dp (h.at' 0 l q rfl rfl)) (Spots.all ⟨Nat.succ.inj h.len, fun j l' q' e1 e2 => h.at' (j + 1) l' q' e1 e2⟩)
theorem Spots.dp {K : PySem.W.Frag} {H : Hp} {F : Addr} {L : List Addr} {w : List (Nat × Nat)} (h : Spots H L w) (g : SqL K H F (L.map V.ref)) : Dp K H (.ref F) (.list (w.map dQ)) := .lst g h.all
end My

set_option Elab.async false
set_option linter.all false
set_option maxRecDepth 100000
set_option maxHeartbeats 1000000
/-! ### f'{n:b}' -/
namespace My
open PySem PySem.Spec PyProof.Rows L2
open Builtin Builtin.Str Builtin.Int Builtin.Float
def bText (n : Nat) : Str := ⟨((Nat.toDigits 2 n).map Char.toNat).toArray⟩
def bSpec : Str := Str.ofString "b"
theorem parse_b : ∃ f, parseFormatSpec bSpec.cps.toList "int" 62 = .ok f ∧ f.type = some 98 ∧ f.precision = none ∧ f.noNeg0 = false ∧ f.alt = false ∧ f.width = none ∧ f.grouping = none ∧ f.sign = none ∧ f.align = 62 := ⟨_, rfl, rfl, rfl, rfl, rfl, rfl, rfl, rfl, rfl⟩
section
variable {prog : Program} {w : World} {A : Around} {E : Value → Shared → Prop} {s : Shared}
theorem retStr_as {x y : Str} {Q : PySem.Fin → Shared → Prop} (e : x = y) (h : wpAny (model prog w) A (retStr y) Q E s) : wpAny (model prog w) A (retStr x) Q E s := by rw [e]; exact h
theorem formatField_b {n : Nat} {t : Tok} {Q : Value → Shared → Prop} (hz : (bText n).length ≤ sizeLine)
    (h : Q (.str (bText n) (s.toks + 1)) { s with toks := s.toks + 1 + 1 }) : wpAny (model prog w) A (formatField (.int n t) bSpec) Q E s := by
  obtain ⟨f, hp, h1, h2, h3, h4, h5, h6, h7, h8⟩ := parse_b
  show wpAny _ _ (holding [.int n t] (pyFormat (.int n t) bSpec)) Q E s
  refine wpAny_holding ?_
  unfold pyFormat
  refine wpAny_bind (wpAny_mkStr ?_ (by decide))
  refine wpAny_bind (m := callSpecial? (.int n t) (Str.ofString "__format__") [.str bSpec s.toks]) (wpAny_callSpecial?_slot (name := Str.ofString "__format__") (typeIs_int _ _ t) slot_int_format ?_)
  refine wpAny_call (codeAny_call_builtin slot_int_format.plain entry_int_format (slot_int_format.check _ _ _ _ _ _ _ _ (typeIs_int _ _ t) (args_int_format _ _) ?_))
  have hne : (bSpec.length == 0) = false := by decide
  have hasc : ((bSpec.cps.toList.drop 1).any (· ≥ 128) || (bSpec.cps.getD 0 0 ≥ 128 && !([60, 62, 61, 94] : List Nat).contains (bSpec.cps.getD 1 0))) = false := by decide
  unfold Builtin.«int.__format__»
  simp only [selfAndOne, noKeywords, Int.intOfSelf, asInt?, asStr?, List.isEmpty_nil, if_true, pure_bind, bind_pure, bind_assoc, hne, hasc, Bool.false_eq_true, if_false,
    show (Value.str bSpec s.toks == Value.none) = false from rfl]
  refine wpAny_bind (wpAny_typeNameOf (T := "str") (typeIs_str _ _ _) (by decide) fun _ => ?_)
  refine wpAny_bind (wpAny_typeNameOfCut_int ?_)
  simp only [hp, h1, Option.getD_some]
  rw [if_pos (by decide)]
  show wpAny _ _ (if _ then _ else _) _ _ _
  rw [if_neg (by simp [h2])]
  show wpAny _ _ (if _ then _ else _) _ _ _
  rw [if_neg (by simp [h3])]
  show wpAny _ _ (if _ then _ else _) _ _ _
  rw [if_neg (by decide)]
  rw [if_pos (show ((98 : Nat) == 98) = true from rfl)]
  show wpAny _ _ (if ((2 : Nat) == 10) = true then _ else _) _ _ _
  rw [if_neg (by decide)]
  show wpAny _ _ (if f.width.getD 0 > 100000 then _ else _) _ _ _
  rw [if_neg (by rw [h5]; decide)]
  show wpAny _ _ (retStr _) _ _ _
  refine retStr_as (y := bText n) ?_ ?_
  · conv => lhs; whnf
    have hneg : decide ((n : Int) < 0) = false := decide_eq_false (by omega)
    simp only [h4, h5, h6, h7, h8, hneg]
    simp [bText]
    cases instDecidableEqBool (f.align == 60) true <;> simp
  · unfold retStr
    refine wpAny_bind (wpAny_mkStr (wpAny_pure ?_) hz)
    exact wpAny_bind (wpAny_isInstance (typeIs_str _ _ _) isSubtype_str_str (wpAny_pure h))
end
section
variable {X : Cx}
/-- {x:b}, x a whole number not below nought -/
def tFmtB (te : TE) : TE := fun σ H Q => te σ H fun x H1 => ∃ n : Nat, x = .int n ∧ (bText n).length ≤ sizeLine ∧ Q (.str (bText n)) H1
theorem pe_fmtB {e : Expr} {te : TE} {k : Nat} {p2 p3 pos : Pos} (he : PE X e te) : PE X (.FormattedValue e (-1) (some (.JoinedStr [.Constant (.str "b") k p2] p3)) pos) (tFmtB te) := by
  refine ⟨fun pins s σ H Q I h => ?_⟩
  refine wpAny_FormattedValue_spec (thn (he.run pins s σ H _ I h) fun v s1 hv => ?_)
  obtain ⟨x, H1, I1, r1, n, rfl, hz, q⟩ := hv
  obtain ⟨t, rfl⟩ := r1
  refine thn ((pe_joined1 (pe_str (X := X))).run pins s1 σ H1 (fun x H2 => x = .str bSpec ∧ H2 = H1) I1 ⟨rfl, rfl⟩) fun r s2 hr => ?_
  obtain ⟨x2, H2, I2, r2, rfl, rfl⟩ := hr
  obtain ⟨t2, rfl⟩ := r2
  exact ⟨bSpec, t2, rfl, formatField_b hz ⟨.str (bText n), H2, I2.tok _, ⟨_, rfl⟩, q⟩⟩
end
end My

set_option Elab.async false
set_option linter.all false
set_option maxRecDepth 100000
set_option maxHeartbeats 1000000
/-! ### t.count(sign): how often a sign stands in a text -/
namespace My
open PySem PySem.Spec PyProof.Rows L2
open Builtin Builtin.Str StrLaws
theorem sub_at {L : List Nat} {c i : Nat} (h : i < L.length) : subAt ⟨L.toArray⟩ ⟨#[c]⟩ i = decide (L[i] = c) := by
  have e : L.toArray.extract i (i + 1) = #[L[i]] := by
    apply Array.ext
    · simp
      omega
    · intro j h1 h2
      have : j = 0 := by simpa using h2
      subst this
      simp
  show (L.toArray.extract i (i + 1) == #[c]) = _
  rw [e]
  by_cases z : L[i] = c
  · rw [z, decide_eq_true rfl]
    exact beq_self_eq_true _
  · rw [decide_eq_false z, beq_eq_false_iff_ne]
    intro y
    exact z (by simpa using y)
theorem cnt_from (L : List Nat) (c : Nat) : ∀ (k i : Nat) (fnd : Array Nat) (free : Nat), i + k = L.length + 1 → free ≤ i → fnd.size ≤ i →
    (forIn (List.range' i k) (fnd, free) (occBody ⟨L.toArray⟩ ⟨#[c]⟩ L.length (L.length + 1))).run.fst.size = fnd.size + (L.drop i).count c
  | 0, i, fnd, free, h, _, _ => by
    rw [List.drop_eq_nil_of_le (by omega)]
    rfl
  | k + 1, i, fnd, free, h, hf, hs => by
    rw [List.range'_succ, List.forIn_cons]
    have hlen : (⟨#[c]⟩ : Str).length = 1 := rfl
    by_cases hi : i < L.length
    · have hd : L.drop i = L[i] :: L.drop (i + 1) := List.drop_eq_getElem_cons hi
      unfold occBody
      by_cases z : L[i] = c
      · rw [if_pos ⟨⟨⟨by show fnd.size < L.length + 1; omega, hf⟩, by rw [hlen]; omega⟩, by rw [sub_at hi, decide_eq_true z]⟩]
        have ih := cnt_from L c k (i + 1) (fnd.push i) (i + (⟨#[c]⟩ : Str).length) (by omega) (by rw [hlen]; exact Nat.le_refl _) (by rw [Array.size_push]; omega)
        rw [Array.size_push] at ih
        rw [hd, z, List.count_cons_self]
        refine Eq.trans ih ?_
        omega
      · rw [if_neg (fun y => z (by have := y.2; rw [sub_at hi] at this; exact of_decide_eq_true this))]
        have ih := cnt_from L c k (i + 1) fnd free (by omega) (by omega) (by omega)
        rw [hd, List.count_cons_of_ne z]
        exact ih
    · unfold occBody
      rw [if_neg (fun y => hi (by have := y.1.2; rw [hlen] at this; omega))]
      have ih := cnt_from L c k (i + 1) fnd free (by omega) (by omega) (by omega)
      rw [List.drop_eq_nil_of_le (by omega)] at ih ⊢
      exact ih
theorem count_sign (L : List Nat) (c : Nat) : Txt.count ⟨L.toArray⟩ ⟨#[c]⟩ = ((L.count c : Nat) : Int) := by
  show ((occurrences ⟨L.toArray⟩ ⟨#[c]⟩ 0 (Str.length ⟨L.toArray⟩) ((Str.length ⟨L.toArray⟩) + 1)).length : Int) = _
  have hl : Str.length ⟨L.toArray⟩ = L.length := by show L.toArray.size = _; simp
  rw [hl, occ_eq, Array.length_toList]
  have := cnt_from L c (L.length + 1) 0 #[] 0 (by omega) (Nat.le_refl _) (Nat.zero_le _)
  rw [List.drop_zero] at this
  rw [show L.length + 1 - 0 = L.length + 1 from rfl, this]
  simp
/-- how many bits of a number are one -/
def pop (n : Nat) : Nat := ((Nat.toDigits 2 n).map Char.toNat).count 49
theorem ones_b (n : Nat) : Txt.count (bText n) ⟨#[49]⟩ = ((pop n : Nat) : Int) := count_sign _ _
theorem pop_zero : pop 0 = 0 := by decide
theorem pop_one : pop 1 = 1 := by decide
theorem pop_step {n d : Nat} (hn : 0 < n) (hd : d < 2) : pop (2 * n + d) = pop n + d := by
  unfold pop
  rw [← Nat.toDigits_append_toDigits (by decide) hn hd, List.map_append, List.count_append]
  have : d = 0 ∨ d = 1 := by omega
  rcases this with rfl | rfl
  · rfl
  · rfl
theorem pop_rec (n : Nat) : pop n = pop (n / 2) + n % 2 := by
  by_cases h : n < 2
  · have : n = 0 ∨ n = 1 := by omega
    rcases this with rfl | rfl <;> decide
  · have e : 2 * (n / 2) + n % 2 = n := by omega
    have := pop_step (n := n / 2) (d := n % 2) (by omega) (by omega)
    rw [e] at this
    exact this
/-- how many of the first bits are one -/
theorem pop_bits : ∀ (k n : Nat), n < 2 ^ k → pop n = ((List.range k).filter fun i => n.testBit i).length
  | 0, n, h => by
    have : n = 0 := by simpa using h
    subst this
    decide
  | k + 1, n, h => by
    have h2 : n / 2 < 2 ^ k := by rw [Nat.pow_succ] at h; omega
    rw [pop_rec, pop_bits k (n / 2) h2, List.range_succ_eq_map, List.filter_cons]
    have e : ((List.range k).map Nat.succ).filter (fun i => n.testBit i) = ((List.range k).filter fun i => (n / 2).testBit i).map Nat.succ := by
      rw [List.filter_map]
      congr 1
      refine List.filter_congr fun i _ => ?_
      show n.testBit (i + 1) = (n / 2).testBit i
      rw [Nat.testBit_succ]
    rw [e]
    have z : n.testBit 0 = decide (n % 2 = 1) := Nat.testBit_zero n
    rw [z]
    by_cases b : n % 2 = 1
    · rw [if_pos (by simp [b]), List.length_cons, List.length_map, b]
    · have b0 : n % 2 = 0 := by omega
      rw [if_neg (by simp [b0]), List.length_map, b0]; rfl
end My

set_option Elab.async false
set_option linter.all false
set_option maxRecDepth 100000
set_option maxHeartbeats 1000000
/-! ### for a, b in d.items(), d a dict whose keys are tuples -/
namespace My
open PySem PySem.W PySem.Spec PyProof.Rows PyProof.V L2
section
variable {X : Cx} {pins : List (Addr × Obj)} {σ : L2.St} {H : Hp} {s : Shared} {d : Addr} {o : Obj}
/-- what a locked dict with tuple keys is: each entry's key and value -/
theorem frz_ents {kvs : List (List Key × V)} (I : Inv X pins σ H s) (h : H d = some (.frz o (.dT kvs))) :
    (d == sysModules) = false ∧ s.heap.get? d = some o ∧ o.ExactDict ∧ ∃ (es : Array DictEntry) (ep : Nat), o.data = .dict es ep ∧ es.size = kvs.length ∧
      ∀ (i : Nat) (k : List Key) (v : V), kvs[i]? = some (k, v) → ∃ (en : DictEntry) (q : Addr), es[i]? = some en ∧ en.key = .ref q ∧ H q = some (.tup (k.map kV)) ∧ RelV v en.val := by
  obtain ⟨hd, z, hs, xs, pr, o', es, ep, ho, hx, hdt, he, _⟩ := I.hok d _ h
  rw [hd] at ho
  cases ho
  refine ⟨hs, hd, hx, es, ep, hdt, ?_, fun i k v e => ?_⟩
  · have l1 : es.size = xs.length := size_of_entries he
    have l2 : kvs.length = xs.length := Paired.length pr
    omega
  · obtain ⟨b, hb, e1, e2, e3⟩ := paired_get pr e
    have q := entry_at he i
    rw [hb] at q
    exact ⟨_, b.2.1, q, rfl, e2, e3⟩
end
def ItiT (d : Addr) (o : Obj) (kvs : List (List Key × V)) : It :=
  ⟨fun i H => H d = some (.frz o (.dT kvs)) ∧ i < kvs.length,
   fun i H x H' => ∃ (T q : Addr) (k : List Key) (v : V), kvs[i]? = some (k, v) ∧ x = .ref T ∧ H T = none ∧ H q = some (.tup (k.map kV)) ∧ H' = upd H T (.tup [.ref q, v]),
   fun i H => H d = some (.frz o (.dT kvs)) ∧ kvs.length ≤ i⟩
theorem turn_itemsT {P : Program} {w : World} {K : PySem.W.Frag} {d : Addr} {o : Obj} {es : Array DictEntry} {ep : Nat} {kvs : List (List Key × V)} {elts : List Expr} {kk : Nat} {tpos : Pos} (it : Addr) (hod : o.data = .dict es ep) :
    Turn P w K (.Tuple elts kk tpos) (ItiT d o kvs) [it] it (fun i h => ∃ ok ov, IsItemIter h it d i kvs.length ep ok ov) where
  mem := List.mem_singleton.mpr rfl
  obj := fun i h st b hb => by
    obtain ⟨ok, ov, e⟩ := st
    rw [List.mem_singleton.mp hb]
    exact ⟨_, e, fun v z => nomatch z⟩
  keep := fun i h h' st k => let ⟨ok, ov, e⟩ := st; ⟨ok, ov, k it (List.mem_singleton.mpr rfl) _ e⟩
  item := by
    intro X hP hw hK hc i pins s σ H E I hf st hg
    subst hP hw hK
    obtain ⟨hd, hi⟩ := hg
    obtain ⟨hs, hgd, hx, es', ep', hdt, hsz, ent⟩ := frz_ents I hd
    obtain ⟨rfl, rfl⟩ := dict_ep hod hdt
    obtain ⟨en, q, hen, hkey, hq, rv⟩ := ent i kvs[i].1 kvs[i].2 (List.getElem?_eq_getElem hi)
    obtain ⟨ok, ov, he⟩ := st
    rw [← hsz] at he
    have hi' : i < es'.size := by rw [hsz]; exact hi
    have hlt : it < s.heap.objs.size := Heap.lt_size he
    have een : es'[i] = en := by
      rw [Array.getElem?_eq_getElem hi'] at hen
      exact Option.some.inj hen
    refine DT.nextI he ⟨o, hgd, hx, hdt⟩ hi' fun h' ho hT hz hk => ?_
    refine ⟨_, rfl, wpAny_letOwnedTupleGo_items (s := { s with heap := h' }) ho fun h'' he' sb => ?_⟩
    have hT2 : h''.get? s.heap.objs.size = some { cls := .type "tuple", data := .seq #[es'[i].key, es'[i].val] } := (sb.2 _ (Nat.ne_of_gt hlt)).trans hT
    rw [een, hkey] at hT2
    have new : ObjOk X.prog X.w (upd H s.heap.objs.size (.tup [.ref q, kvs[i].2])) h'' s.heap.objs.size (.tup [.ref q, kvs[i].2]) :=
      ⟨by show 2 ≤ sizeLine; decide, [.ref q, en.val], .cons rfl (.cons rv .nil), ⟨_, hT2, rfl, _, rfl⟩⟩
    have I1 : Inv X pins σ (upd H s.heap.objs.size (.tup [.ref q, kvs[i].2])) { s with heap := h'' } :=
      I.turnedNew (t' := s.toks) (ch := [it]) (fun b ob hb e => (sb.2 b (fun z => hb (List.mem_singleton.mpr z))).trans (hk b ob (fun z => hb (List.mem_singleton.mpr z)) e)) hf (Nat.le_refl _) new
    refine ⟨.ref s.heap.objs.size, _, I1, rfl, ⟨_, q, kvs[i].1, kvs[i].2, List.getElem?_eq_getElem hi, rfl, I.hok.fresh (Nat.le_refl _), hq, rfl⟩, ⟨es'[i].key, es'[i].val, ?_⟩, fun b hb => ?_⟩
    · rw [← hsz]; exact he'
    · rw [List.mem_singleton.mp hb, upd_ne (Nat.ne_of_lt hlt)]
      exact (hf it (List.mem_singleton.mpr rfl)).1
  done := by
    intro X hP hw hK hc i pins s σ H E I hf st hg
    subst hP hw hK
    obtain ⟨hd, hi⟩ := hg
    obtain ⟨f0, f1, f2, f3, f4, f5⟩ := hf it (List.mem_singleton.mpr rfl)
    obtain ⟨hs, hgd, hx, es', ep', hdt, hsz, ent⟩ := frz_ents I hd
    obtain ⟨rfl, rfl⟩ := dict_ep hod hdt
    obtain ⟨ok, ov, he⟩ := st
    rw [← hsz] at he
    exact DT.endI (I.ok.hd hc) he ⟨o, hgd, hx, hdt⟩ (by rw [hsz]; exact hi) fun h' eb => ⟨rfl, I.turned (t' := s.toks) (fun b ob hb e => eb b ob hb e) f0 f1 f3 f4 f5⟩
  self := fun A i s Q E st h => let ⟨_, _, e⟩ := st; PySem.W.kcp_self e h
/-- the dict is locked by the walk and stays so -/
def iItemsT (td : TE) : TI := fun σ H R => td σ H fun x H1 => ∃ d kvs, x = .ref d ∧ H1 d = some (.dT kvs) ∧ ∀ o, R (ItiT d o kvs) (upd H1 d (.frz o (.dT kvs)))
theorem pi_itemsT {X : Cx} {e : Expr} {td : TE} {apos cpos : Pos} {elts : List Expr} {kk : Nat} {tpos : Pos} (he : PE X e td) (hbase : attributeBase e "items" X.env (eval e X.env) = eval e X.env := by rfl) (hline : (apos.endLine == cpos.line) = true := by rfl) :
    PI X (.Tuple elts kk tpos) (.Call (.Attribute e "items" apos) [] [] cpos) (iItemsT td) := by
  refine ⟨fun pins s σ H R I h => ?_⟩
  refine wpAny_Call_method (T := "dict") (id := "dict.items") hbase rfl hline F.plainAttrs_dict F.slot_dict_items F.type_dict_items (thn (he.run pins s σ H _ I h) fun u s1 ⟨x, H1, I0, rx, d, kvs, ex, hd0, q0⟩ => ?_)
  subst ex
  obtain rfl : u = Value.ref d := rx
  obtain ⟨o, I1⟩ := I0.lock hd0 True.intro
  have q := q0 o
  have hd : upd H1 d (.frz o (.dT kvs)) d = some (.frz o (.dT kvs)) := upd_same
  obtain ⟨hs, hgd, hx, es, ep, hdt, hsz, ent⟩ := frz_ents I1 hd
  refine ⟨⟨o, hgd, hx.1⟩, fun b eb => ?_, ?_⟩
  · cases eb
    exact ⟨o, hgd, hx.2.1⟩
  have I2 : Inv X pins σ (upd H1 d (.frz o (.dT kvs))) { s1 with heap := s1.heap.push { cls := .type "dict_items", data := .fields #[.ref d] } } := I1.kept (t' := s1.toks) fun b ob q => Heap.get?_push_of_some _ q
  have fin : wpAny (model X.prog X.w) X.A (pyIter (.ref s1.heap.objs.size)) (PIE X pins σ (.Tuple elts kk tpos) R) X.xe { s1 with heap := s1.heap.push { cls := .type "dict_items", data := .fields #[.ref d] } } := by
    refine DT.iterI (d := d) ⟨_, Heap.get?_push_size _ rfl, rfl, rfl⟩ (DT.Raw.push ⟨o, hgd, hx, hdt⟩ _) (pi_one (tk := s1.toks) I2 _ (turn_itemsT _ hdt) ⟨.none, .none, ?_⟩ q)
    rw [← hsz]
    exact Heap.get?_push_size _ rfl
  show wpAny _ _ (callWith cpos (.builtin "dict.items") [.ref d] [] []) _ X.xe s1
  exact method_meetsIn F.slot_dict_items F.entry_dict_items rfl (PySem.evalArgs_none ⟨rfl, ⟨o, hgd, hx.1⟩, F.args_dict_items_1 _, _, DT.meetsItems hs, ⟨⟨o, hgd, hx, hdt⟩, fin⟩⟩)
theorem walk_itemsT {d : Addr} {o : Obj} {kvs : List (List Key × V)} : Walk (ItiT d o kvs) kvs.length (fun H => H d = some (.frz o (.dT kvs)))
    (fun i H x H' => ∃ (T q : Addr) (k : List Key) (v : V), kvs[i]? = some (k, v) ∧ x = .ref T ∧ H T = none ∧ H q = some (.tup (k.map kV)) ∧ H' = upd H T (.tup [.ref q, v])) :=
  ⟨fun _ _ hi q => ⟨q, hi⟩, fun _ q => ⟨q, Nat.le_refl _⟩, fun _ _ _ _ _ _ y => y⟩
/-! ### min(d.values()) -/
theorem meets_valsRaw {prog : Program} {w : World} {d : Addr} {es : Array DictEntry} {ep : Nat} (hd : (d == sysModules) = false) :
    PySem.MeetsIn prog w (Builtin.«dict.values» ⟨[.ref d], []⟩) (fun _ R s => DT.Raw s.heap d es ep ∧
      R (.ok (.ret (.ref s.heap.objs.size))) { s with heap := s.heap.push (DSub.viewOb "dict_values" d) }) :=
  .of_wp fun A R s ⟨hm, h⟩ => by
    unfold Builtin.«dict.values»
    refine wpAny_bind ?_
    unfold Builtin.Dict.noArgs
    refine wpAny_bind (wpAny_notOrdered_dict hm.typeIs ?_)
    show wpAny _ _ (pure d) _ _ s
    refine wpAny_pure ?_
    show wpAny _ _ (Builtin.Dict.showsAll d >>= _) _ _ s
    unfold Builtin.Dict.showsAll
    rw [if_neg (by rw [hd]; exact Bool.false_ne_true)]
    refine wpAny_bind (wpAny_pure ?_)
    exact wpAny_bind (wpAny_newObj_type (wpAny_pure ⟨_, rfl, h⟩))
def tMinValsT (td : TE) : TE := fun σ H Q => td σ H fun x H1 => ∃ a kvs is, x = V.ref a ∧ H1 a = some (.dT kvs) ∧ kvs.map (·.2) = is.map V.int ∧ is ≠ [] ∧ ∀ m, m ∈ is → (∀ j ∈ is, m ≤ j) → Q (.int m) H1
theorem pe_minValsT {X : Cx} {o : Expr} {p pos apos mpos : Pos} {td : TE} (hc : X.calm = true) (hg : Gl X "min") (hm : X.mg "min" = none) (hd : PE X o td) (hbase : attributeBase o "values" X.env (eval o X.env) = eval o X.env := by rfl) (hline : (apos.endLine == mpos.line) = true := by rfl)
    (hse : starEach [Expr.Call (.Attribute o "values" apos) [] [] mpos] X.env = [(false, eval (Expr.Call (.Attribute o "values" apos) [] [] mpos) X.env)] := by rfl) :
    PE X (.Call (.Name "min" p) [.Call (.Attribute o "values" apos) [] [] mpos] [] pos) (tMinValsT td) := by
  refine ⟨fun pins s σ H Q I h => ?_⟩
  refine wpAny_Call_Name_kw (ld_blt I hg hm (u := .builtin "min") (by first | rfl | decide +kernel) ?_ (by first | decide +kernel | decide) (by first | decide +kernel | decide))
  rw [hse]
  refine PySem.callWith_builtin1 (wpAny_Call_method0_late hbase hline (thn (hd.run pins s σ H _ I h) fun v s1 ⟨x, H1, I1, r1, a, kvs, is, ex, ha, hv, hne, q⟩ => ?_))
  subst ex
  obtain rfl : v = Value.ref a := r1
  obtain ⟨o0, J1⟩ := I1.lock ha True.intro
  obtain ⟨hsys, hgd, hx, es, ep, hdt, hsz, ent⟩ := frz_ents J1 upd_same
  refine ⟨"dict", "dict.values", F.plainAttrs_dict, F.slot_dict_values, F.type_dict_values, ⟨o0, hgd, hx.1⟩, fun b e => ?_, PySem.Calls.callWith_builtin rfl (PySem.evalArgs_none ?_)⟩
  · cases e
    exact ⟨o0, hgd, hx.2.1⟩
  refine call_meetsIn F.slot_dict_values ⟨o0, hgd, hx.1⟩ F.entry_dict_values (F.args_dict_values_1 _) (meets_valsRaw hsys) ⟨⟨o0, hgd, hx, hdt⟩, ?_⟩
  have hl : es.size = is.length := by
    have e1 := congrArg List.length hv
    rw [List.length_map, List.length_map] at e1
    rw [hsz, e1]
  have hlt : a < s1.heap.objs.size := Heap.lt_size hgd
  have hval : ∀ (i : Nat) (e : DictEntry), es[i]? = some e → ∃ t, e.val = Value.int (is.getD i 0) t := fun i e he => by
    obtain ⟨hi, e1⟩ := Array.getElem?_eq_some_iff.mp he
    have hk : i < kvs.length := by rw [← hsz]; exact hi
    obtain ⟨en, qa, h1, _, _, rv⟩ := ent i kvs[i].1 kvs[i].2 (List.getElem?_eq_getElem hk)
    rw [he] at h1
    obtain rfl := Option.some.inj h1
    have e2 : (kvs.map (·.2))[i]? = some kvs[i].2 := by rw [List.getElem?_map, List.getElem?_eq_getElem hk] <;> rfl
    rw [hv, List.getElem?_map] at e2
    obtain ⟨j, hj, e3⟩ := Option.map_eq_some_iff.mp e2
    rw [← e3] at rv
    obtain ⟨t, e4⟩ := rv
    exact ⟨t, by rw [e4, List.getD_eq_getElem?_getD, hj] <;> rfl⟩
  have g1 : (s1.heap.push (DSub.viewOb "dict_values" a)).get? a = some o0 := Heap.get?_push_of_some _ hgd
  have hz1 : (s1.heap.push (DSub.viewOb "dict_values" a)).objs.size = s1.heap.objs.size + 1 := Heap.size_push _ _
  refine call_min_walk (DSub.iter_vals (v := s1.heap.objs.size) (a := a) (Heap.get?_push_size _ rfl) g1 hdt ?_)
  refine ⟨_, _, _, _, _, _, _, rfl, DSub.walksVal (A := X.A.in1) (P := fun i v => ∃ t, v = Value.int (is.getD i 0) t) (I.ok.hd hc) (by rw [hz1]; exact Nat.ne_of_lt (Nat.lt_succ_of_lt hlt)) hdt hval,
    ⟨Heap.get?_push_size _ rfl, Heap.get?_push_of_some _ g1⟩, fun b hb => ?_, by rw [hl]; exact List.length_pos_iff.mpr hne, CmpOf.ints_lt (fun i => is.getD i 0) (fun _ _ h => h), fun v h' tk hP hk => ?_⟩
  · show b < ((s1.heap.push _).push _).objs.size
    rw [Heap.size_push, Heap.size_push]
    rcases List.mem_cons.mp hb with e | hb
    · rw [e, hz1]
      exact Nat.lt_succ_self _
    · rw [List.mem_singleton.mp hb]
      exact Nat.lt_succ_of_lt (Nat.lt_succ_of_lt hlt)
  · obtain ⟨t, rfl⟩ := hP
    obtain ⟨b1, b2⟩ := argBest_lt (fun i => is.getD i 0) (es.size - 1)
    refine ⟨.int _, H1, I1.kept (t' := tk) fun b u e => hk b u (fun hmem => ?_) (Heap.get?_push_of_some _ (Heap.get?_push_of_some _ e)), ⟨t, rfl⟩, q _ ?_ fun j hj => ?_⟩
    · have e1 := List.mem_singleton.mp hmem
      have e2 := Heap.lt_size e
      rw [e1, hz1] at e2
      exact absurd e2 (Nat.not_lt.mpr (Nat.le_succ _))
    · have hp := List.length_pos_iff.mpr hne
      have hb : argBest (fun i j => decide (is.getD i 0 < is.getD j 0)) (es.size - 1) < is.length := by omega
      rw [List.getD_eq_getElem?_getD, List.getElem?_eq_getElem hb]
      exact List.getElem_mem hb
    · obtain ⟨i, hi, e⟩ := List.mem_iff_getElem.mp hj
      have e2 : is.getD i 0 = j := by rw [List.getD_eq_getElem?_getD, List.getElem?_eq_getElem hi, ← e] <;> rfl
      rw [← e2]
      exact b2 i (by omega)
end My

set_option Elab.async false
set_option linter.all false
set_option maxRecDepth 100000
set_option maxHeartbeats 1000000
/-! ### an int | a truth -/
namespace My
open PySem PySem.Spec PyProof.Rows L2
section
variable {prog : Program} {w : World} {A : Around} {E : Value → Shared → Prop} {s : Shared} {a : Int} {t : Tok} {b : Bool}
theorem meets_orB : Meets (Builtin.«int.__or__» ⟨[.int a t, .bool b], []⟩) (fun _ R s => R (.ok (.ret (.int (Builtin.bitOr a (if b = true then 1 else 0)) s.toks))) { s with toks := s.toks + 1 }) := fun prog w A R s h =>
  (show wpAny _ _ (do ret (← mkInt (Builtin.bitOr a (if b = true then 1 else 0)))) _ _ s from wpAny_bind (wpAny_mkInt (wpAny_pure h)))
theorem plain_or : plainId "int.__or__" = true := by decide +kernel
theorem meets_rorB : Meets (Builtin.«bool.__ror__» ⟨[.bool b, .int a t], []⟩) (fun _ R s => R (.ok (.ret (.int (Builtin.bitOr a (if b = true then 1 else 0)) s.toks))) { s with toks := s.toks + 1 }) := fun prog w A R s h => by
  show wpAny _ _ (slotArgs "__ror__" 1 ⟨[.bool b, .int a t], []⟩ >>= _) _ _ s
  refine wpAny_bind (wpAny_of_eq (a := (.bool b, [.int a t])) rfl ?_)
  show wpAny _ _ (asInt? (.int a t) >>= _) _ _ s
  refine wpAny_bind (wpAny_of_eq (a := some a) rfl ?_)
  show wpAny _ _ (rule "bool.bitwise.as-ints" >>= _) _ _ s
  refine wpAny_bind (wpAny_rule ?_)
  show wpAny _ _ (again (.builtin "int.__or__" ⟨[.int a t, .bool b], []⟩)) _ _ s
  exact wpAny_pure ⟨plainId_quiet plain_or _, codeAny_builtin PyProof.Rows.entry_int_or (by rw [Around.under_plainId plain_or _]; exact meets_orB prog w A R s h)⟩
theorem call_rorB {Q : Value → Shared → Prop} (h : Q (.int (Builtin.bitOr a (if b = true then 1 else 0)) s.toks) { s with toks := s.toks + 1 }) :
    wpAny (model prog w) A (call (.builtin "bool.__ror__") [.bool b, .int a t]) (fun v s1 => v ≠ .notImplemented ∧ Q v s1) E s :=
  call_meets F.slot_bool_ror rfl F.entry_bool_ror (F.args_bool_ror_2 _ _) meets_rorB ⟨nofun, h⟩
theorem refl_or : reflectedDiffers (.type "int") (.type "bool") "or" = pure true := by
  unfold reflectedDiffers
  show (typeLookup (.type "bool") (dunderR "or") >>= fun rb => typeLookup (.type "int") (dunderR "or") >>= fun ra => pure (rb.isSome && rb != ra)) = pure true
  rw [typeLookup_type, typeLookup_type, builtinLookup_eq_fast]; kernel_rfl
theorem or_intB {Q : Value → Shared → Prop} (h : Q (.int (Builtin.bitOr a (if b = true then 1 else 0)) s.toks) { s with toks := s.toks + 1 }) : wpAny (model prog w) A (binaryOp .BitOr (.int a t) (.bool b)) Q E s := by
  simp only [binaryOp]
  refine wpAny_holding ?_
  refine wpAny_bind ?_
  show wpAny _ _ (binaryOp1 "or" (.int a t) (.bool b)) _ _ s
  simp only [binaryOp1]
  refine wpAny_bind (wpAny_typeOf (T := "int") (typeIs_int s a t) (wpAny_bind (wpAny_typeOf (T := "bool") rfl (wpAny_bind (wpAny_of_eq PyProof.Rows.fills_int_or ?_)))))
  have hne : (Value.type "int" == Value.type "bool") = false := by decide
  simp only [hne, Bool.false_eq_true, if_false]
  refine wpAny_bind (wpAny_of_eq F.fills_bool_or ?_)
  simp only [Bool.and_self, if_true]
  refine wpAny_bind (wpAny_of_eq isSubtype_bool_int ?_)
  simp only [if_true]
  refine wpAny_bind (wpAny_of_eq refl_or ?_)
  simp only [if_true]
  refine wpAny_bind (wpAny_rule ?_)
  refine wpAny_bind ?_
  unfold tryMethod
  refine wpAny_bind (wpAny_callSpecial?_slot (T := "bool") rfl F.slot_bool_ror (wpAny_mono (call_rorB h) (fun v s1 h1 => ?_) fun _ _ x => x))
  obtain ⟨hv, hq⟩ := h1
  cases v <;> first | exact absurd rfl hv | exact wpAny_pure (wpAny_pure (wpAny_pure hq))
end
def rIB (f : Int → Int → V) : R2 := fun x y H Q => ∃ (i : Int) (c : Bool), x = .int i ∧ y = .bl c ∧ Q (f i (if c = true then 1 else 0)) H
theorem op_orB {X : Cx} : OpR X (binaryOp .BitOr) (rIB fun i j => .int (Builtin.bitOr i j)) := by
  intro pins s σ H x y v u Q I rx ry h
  obtain ⟨i, c, rfl, rfl, q⟩ := h
  obtain ⟨t, rfl⟩ := rx
  obtain rfl : u = Value.bool c := ry
  exact or_intB ⟨.int (Builtin.bitOr i (if c = true then 1 else 0)), H, I.tok _, ⟨_, rfl⟩, q⟩
end My

set_option Elab.async false
set_option linter.all false
set_option maxRecDepth 100000
set_option maxHeartbeats 1000000
/-! ### formats: their words, and how far a strip is from one -/
namespace My
open PySem PySem.Spec PyProof.Rows L2
def fwL : List Nat := [709, 752, 666, 687, 590, 635, 529, 548, 979, 998, 908, 953, 856, 877, 775, 818, 220, 233, 131, 182, 87, 98, 8, 61, 458, 511, 405, 416, 321, 372, 286, 299]
def fwF (i : Nat) : Nat := fwL.getD i 0
theorem fw_lt {i : Nat} : fwF i < 1024 := by
  unfold fwF
  by_cases h : i < 32
  · have q : ((List.range 32).all fun i => decide (fwL.getD i 0 < 1024)) = true := by decide +kernel
    exact of_decide_eq_true (List.all_eq_true.mp q i (List.mem_range.mpr h))
  · rw [List.getD_eq_getElem?_getD, List.getElem?_eq_none (by show 32 ≤ i; omega)]
    decide
/-- the number of bits written one behind the other, the first the highest -/
def stp (a x : Nat) : Nat := 2 * a + x
def foldB (l : List Nat) : Nat := l.foldl stp 0
theorem foldB_snoc (l : List Nat) (x : Nat) : foldB (l ++ [x]) = 2 * foldB l + x := by
  unfold foldB
  rw [List.foldl_append]
  rfl
theorem foldl_lt : ∀ (l : List Nat) (a k : Nat), (∀ x ∈ l, x < 2) → a < 2 ^ k → l.foldl stp a < 2 ^ (k + l.length)
  | [], a, k, _, h => h
  | x :: l, a, k, hb, h => by
    have hx := hb x (List.mem_cons_self ..)
    have := foldl_lt l (stp a x) (k + 1) (fun y hy => hb y (List.mem_cons_of_mem _ hy)) (by unfold stp; rw [Nat.pow_succ]; omega)
    rw [List.foldl_cons, List.length_cons, show k + (l.length + 1) = k + 1 + l.length by omega]
    exact this
theorem foldB_lt {l : List Nat} (h : ∀ x ∈ l, x < 2) : foldB l < 2 ^ l.length := by
  have := foldl_lt l 0 0 h (by decide)
  rw [Nat.zero_add] at this
  exact this
theorem dbl_div {a x : Nat} (h : x < 2) : (2 * a + x) / 2 = a := by omega
theorem dbl_mod {a x : Nat} (h : x < 2) : (2 * a + x) % 2 = x := by omega
theorem dbl_xor {a b x y : Nat} (hx : x < 2) (hy : y < 2) : (2 * a + x) ^^^ (2 * b + y) = 2 * (a ^^^ b) + (x ^^^ y) := by
  have hz : x ^^^ y < 2 := by
    have : x = 0 ∨ x = 1 := by omega
    have : y = 0 ∨ y = 1 := by omega
    rcases ‹x = 0 ∨ x = 1› with rfl | rfl <;> rcases ‹y = 0 ∨ y = 1› with rfl | rfl <;> decide
  refine Nat.eq_of_testBit_eq fun i => ?_
  cases i with
  | zero =>
    rw [Nat.testBit_xor, Nat.testBit_zero, Nat.testBit_zero, Nat.testBit_zero, dbl_mod hx, dbl_mod hy, dbl_mod hz]
    have : x = 0 ∨ x = 1 := by omega
    have : y = 0 ∨ y = 1 := by omega
    rcases ‹x = 0 ∨ x = 1› with rfl | rfl <;> rcases ‹y = 0 ∨ y = 1› with rfl | rfl <;> decide
  | succ i => rw [Nat.testBit_xor, Nat.testBit_succ, Nat.testBit_succ, Nat.testBit_succ, dbl_div hx, dbl_div hy, dbl_div hz, Nat.testBit_xor]
theorem dbl_and {a b x y : Nat} (hx : x < 2) (hy : y < 2) : (2 * a + x) &&& (2 * b + y) = 2 * (a &&& b) + (x &&& y) := by
  have hz : x &&& y < 2 := by
    have : x = 0 ∨ x = 1 := by omega
    have : y = 0 ∨ y = 1 := by omega
    rcases ‹x = 0 ∨ x = 1› with rfl | rfl <;> rcases ‹y = 0 ∨ y = 1› with rfl | rfl <;> decide
  refine Nat.eq_of_testBit_eq fun i => ?_
  cases i with
  | zero =>
    rw [Nat.testBit_and, Nat.testBit_zero, Nat.testBit_zero, Nat.testBit_zero, dbl_mod hx, dbl_mod hy, dbl_mod hz]
    have : x = 0 ∨ x = 1 := by omega
    have : y = 0 ∨ y = 1 := by omega
    rcases ‹x = 0 ∨ x = 1› with rfl | rfl <;> rcases ‹y = 0 ∨ y = 1› with rfl | rfl <;> decide
  | succ i => rw [Nat.testBit_and, Nat.testBit_succ, Nat.testBit_succ, Nat.testBit_succ, dbl_div hx, dbl_div hy, dbl_div hz, Nat.testBit_and]
def darkF (cs : List (Option Nat)) : Nat := foldB (cs.map fun o => o.getD 0)
def seenF (cs : List (Option Nat)) : Nat := foldB (cs.map fun o => if o.isSome = true then 1 else 0)
/-- how many of the told dots are not as the bits say -/
def wrongF (bits : List Nat) (cs : List (Option Nat)) : Nat := ((bits.zip cs).filter fun p => decide (p.2 = some (1 - p.1))).length
theorem wrong_acc : ∀ (bits : List Nat) (cs : List (Option Nat)) (A D S : Nat), bits.length = cs.length → (∀ x ∈ bits, x < 2) → (∀ o ∈ cs, DotOk o) →
    pop ((bits.foldl stp A ^^^ (cs.map fun o => o.getD 0).foldl stp D) &&& (cs.map fun o => if o.isSome = true then 1 else 0).foldl stp S) = pop ((A ^^^ D) &&& S) + wrongF bits cs
  | [], [], A, D, S, _, _, _ => rfl
  | [], _ :: _, _, _, _, h, _, _ => by simp at h
  | _ :: _, [], _, _, _, h, _, _ => by simp at h
  | x :: bits, o :: cs, A, D, S, hl, hb, hc => by
    have hx := hb x (List.mem_cons_self ..)
    have ho := hc o (List.mem_cons_self ..)
    have hd : o.getD 0 < 2 := by rcases ho with rfl | rfl | rfl <;> decide
    have hs : (if o.isSome = true then 1 else 0) < 2 := by split <;> decide
    rw [List.map_cons, List.map_cons, List.foldl_cons, List.foldl_cons, List.foldl_cons]
    rw [wrong_acc bits cs _ _ _ (by simpa using hl) (fun y hy => hb y (List.mem_cons_of_mem _ hy)) (fun y hy => hc y (List.mem_cons_of_mem _ hy))]
    have hz : x ^^^ o.getD 0 < 2 := by
      have : x = 0 ∨ x = 1 := by omega
      rcases this with rfl | rfl <;> rcases ho with rfl | rfl | rfl <;> decide
    have hw : (x ^^^ o.getD 0) &&& (if o.isSome = true then 1 else 0) < 2 ∧ (x ^^^ o.getD 0) &&& (if o.isSome = true then 1 else 0) = (if decide (o = some (1 - x)) = true then 1 else 0) := by
      have : x = 0 ∨ x = 1 := by omega
      rcases this with rfl | rfl <;> rcases ho with rfl | rfl | rfl <;> decide
    unfold stp
    rw [dbl_xor hx hd, dbl_and hz hs, pop_rec, dbl_div hw.1, dbl_mod hw.1, hw.2]
    unfold wrongF
    rw [List.zip_cons_cons, List.filter_cons]
    by_cases e : o = some (1 - x)
    · rw [if_pos (decide_eq_true e), if_pos (decide_eq_true e), List.length_cons]
      omega
    · rw [if_neg (by simp [e]), if_neg (by simp [e]), Nat.add_zero]
theorem wrong_eq {bits : List Nat} {cs : List (Option Nat)} (hl : bits.length = cs.length) (hb : ∀ x ∈ bits, x < 2) (hc : ∀ o ∈ cs, DotOk o) :
    pop ((foldB bits ^^^ darkF cs) &&& seenF cs) = wrongF bits cs := by
  have := wrong_acc bits cs 0 0 0 hl hb hc
  rw [show pop ((0 ^^^ 0) &&& 0) = 0 from pop_zero, Nat.zero_add] at this
  exact this
/-- a format's bits, as its word says them -/
def fbits (i : Nat) : List Nat := (List.range 10).map fun k => fwF i / 2 ^ (9 - k) % 2
theorem fbits_len (i : Nat) : (fbits i).length = 10 := by
  unfold fbits
  rw [List.length_map, List.length_range]
theorem fbits_lt {i : Nat} : ∀ x ∈ fbits i, x < 2 := by
  intro x h
  obtain ⟨k, _, rfl⟩ := List.mem_map.mp h
  exact Nat.mod_lt _ (by decide)
theorem all32 {P : Nat → Bool} (h : ((List.range 32).all P) = true) {m : Nat} (hm : m < 32) : P m = true := List.all_eq_true.mp h m (List.mem_range.mpr hm)
theorem fbits_word {i : Nat} (h : i < 32) : foldB (fbits i ++ fbits i) = (fwF i * 2 ^ 10) ^^^ fwF i :=
  of_decide_eq_true (all32 (P := fun i => decide (foldB (fbits i ++ fbits i) = (fwF i * 2 ^ 10) ^^^ fwF i)) (by decide +kernel) h)
/-- how far dots are from a format -/
def farF (d s i : Nat) : Nat := pop ((((fwF i * 2 ^ 10) ^^^ fwF i) ^^^ d) &&& s)
theorem far_wrong {cs : List (Option Nat)} {i : Nat} (hl : cs.length = 20) (hc : ∀ o ∈ cs, DotOk o) (hi : i < 32) : farF (darkF cs) (seenF cs) i = wrongF (fbits i ++ fbits i) cs := by
  unfold farF
  rw [← fbits_word hi]
  refine wrong_eq (by rw [List.length_append, fbits_len, hl]) (fun x hx => ?_) hc
  rcases List.mem_append.mp hx with h | h
  · exact fbits_lt x h
  · exact fbits_lt x h
theorem dark_lt {cs : List (Option Nat)} (hl : cs.length = 20) (hc : ∀ o ∈ cs, DotOk o) : darkF cs < 2 ^ 20 := by
  have := foldB_lt (l := cs.map fun o => o.getD 0) (fun x hx => by
    obtain ⟨o, ho, rfl⟩ := List.mem_map.mp hx
    rcases hc o ho with rfl | rfl | rfl <;> decide)
  rw [List.length_map, hl] at this
  exact this
theorem seen_lt {cs : List (Option Nat)} (hl : cs.length = 20) : seenF cs < 2 ^ 20 := by
  have := foldB_lt (l := cs.map fun o => if o.isSome = true then 1 else 0) (fun x hx => by
    obtain ⟨o, ho, rfl⟩ := List.mem_map.mp hx
    split <;> decide)
  rw [List.length_map, hl] at this
  exact this
/-! ### the nearest format -/
def toldF (fs : List Nat) : Option (Nat × Nat) := match fs.min? with
  | some m => if fs.count m = 1 then some (fs.idxOf m, m) else none
  | none => none
def farsF (d s : Nat) : List Nat := (List.range 32).map (farF d s)
theorem fars_len (d s : Nat) : (farsF d s).length = 32 := by
  unfold farsF
  rw [List.length_map, List.length_range]
theorem fars_at {d s i : Nat} (h : i < 32) : (farsF d s)[i]? = some (farF d s i) := by
  unfold farsF
  rw [List.getElem?_map, List.getElem?_range h]
  rfl
theorem fars_min (d s : Nat) : ∃ m, (farsF d s).min? = some m ∧ m ∈ farsF d s ∧ ∀ y ∈ farsF d s, m ≤ y := by
  cases e : (farsF d s).min? with
  | none =>
    have := List.min?_eq_none_iff.mp e
    have l := fars_len d s
    rw [this] at l
    cases l
  | some m =>
    have := List.min?_eq_some_iff.mp e
    exact ⟨m, rfl, this.1, this.2⟩
/-- counting bits with fuel -/
def popK : Nat → Nat → Nat
  | 0, _ => 0
  | k + 1, n => popK k (n / 2) + n % 2
theorem pop_K : ∀ (k n : Nat), n < 2 ^ k → pop n = popK k n
  | 0, n, h => by
    have : n = 0 := by simpa using h
    subst this
    exact pop_zero
  | k + 1, n, h => by
    rw [pop_rec, pop_K k (n / 2) (by rw [Nat.pow_succ] at h; omega)]
    rfl
theorem far_K {d s i : Nat} (hs : s < 2 ^ 20) : farF d s i = popK 20 ((((fwF i * 2 ^ 10) ^^^ fwF i) ^^^ d) &&& s) := pop_K 20 _ (Nat.lt_of_le_of_lt Nat.and_le_right hs)
theorem fars_K {d s : Nat} (hs : s < 2 ^ 20) : farsF d s = (List.range 32).map fun i => popK 20 ((((fwF i * 2 ^ 10) ^^^ fwF i) ^^^ d) &&& s) := List.map_congr_left fun i _ => far_K hs
theorem fw_or {i : Nat} (h : i < 32) : (fwF i * 2 ^ 10) ||| fwF i = (fwF i * 2 ^ 10) ^^^ fwF i :=
  of_decide_eq_true (all32 (P := fun i => decide ((fwF i * 2 ^ 10) ||| fwF i = (fwF i * 2 ^ 10) ^^^ fwF i)) (by decide +kernel) h)
/-- a strip that is a format's is told so -/
theorem told_whole {i : Nat} (h : i < 32) : toldF (farsF ((fwF i * 2 ^ 10) ||| fwF i) 1048575) = some (i, 0) := by
  rw [fars_K (by decide)]
  exact of_decide_eq_true (all32 (P := fun i => decide (toldF ((List.range 32).map fun j => popK 20 ((((fwF j * 2 ^ 10) ^^^ fwF j) ^^^ ((fwF i * 2 ^ 10) ||| fwF i)) &&& 1048575)) = some (i, 0))) (by decide +kernel) h)
def apartF (a b : List Nat) : Nat := ((a.zip b).filter fun p => p.1 != p.2).length
theorem apart_le : ∀ (a b : List Nat) (cs : List (Option Nat)), a.length = cs.length → b.length = cs.length → (∀ x ∈ a, x < 2) → (∀ x ∈ b, x < 2) → (∀ o ∈ cs, o = some 0 ∨ o = some 1) → apartF a b ≤ wrongF a cs + wrongF b cs
  | [], _, _, _, _, _, _, _ => Nat.zero_le _
  | x :: a, [], [], h, _, _, _, _ => by simp at h
  | x :: a, y :: b, [], h, _, _, _, _ => by simp at h
  | x :: a, [], o :: cs, _, h, _, _, _ => by simp at h
  | x :: a, y :: b, o :: cs, h1, h2, h3, h4, h5 => by
    have ih := apart_le a b cs (by simpa using h1) (by simpa using h2) (fun z hz => h3 z (List.mem_cons_of_mem _ hz)) (fun z hz => h4 z (List.mem_cons_of_mem _ hz)) (fun z hz => h5 z (List.mem_cons_of_mem _ hz))
    have hx := h3 x (List.mem_cons_self ..)
    have hy := h4 y (List.mem_cons_self ..)
    unfold apartF wrongF at ih ⊢
    rw [List.zip_cons_cons, List.zip_cons_cons, List.zip_cons_cons, List.filter_cons, List.filter_cons, List.filter_cons]
    have : x = 0 ∨ x = 1 := by omega
    have : y = 0 ∨ y = 1 := by omega
    rcases ‹x = 0 ∨ x = 1› with rfl | rfl <;> rcases ‹y = 0 ∨ y = 1› with rfl | rfl <;> rcases h5 o (List.mem_cons_self ..) with rfl | rfl <;> simp <;> omega
theorem apart8 {i j : Nat} (hi : i < 32) (hj : j < 32) (h : i ≠ j) : 8 ≤ apartF (fbits i ++ fbits i) (fbits j ++ fbits j) := by
  have := of_decide_eq_true (List.all_eq_true.mp (all32 (P := fun i => (List.range 32).all fun j => decide (i = j ∨ 8 ≤ apartF (fbits i ++ fbits i) (fbits j ++ fbits j))) (by decide +kernel) hi) j (List.mem_range.mpr hj))
  exact this.resolve_left h
theorem idx_of {fs : List Nat} {i m : Nat} (h : fs[i]? = some m) (o : ∀ j, j < i → fs[j]? ≠ some m) : fs.idxOf m = i := by
  have hi := (List.getElem?_eq_some_iff.mp h).1
  have hm : m ∈ fs := List.mem_iff_getElem?.mpr ⟨i, h⟩
  have hl := List.idxOf_lt_length_of_mem hm
  have e := List.getElem_idxOf hl
  rcases Nat.lt_trichotomy (fs.idxOf m) i with c | c | c
  · exact absurd (List.getElem?_eq_some_iff.mpr ⟨hl, e⟩) (o _ c)
  · exact c
  · have := List.not_of_lt_findIdx c
    have e2 := (List.getElem?_eq_some_iff.mp h).2
    simp [e2] at this
theorem count_one {fs : List Nat} {i m : Nat} (h : fs[i]? = some m) (o : ∀ j, j ≠ i → fs[j]? ≠ some m) : fs.count m = 1 := by
  have hi := (List.getElem?_eq_some_iff.mp h).1
  have e : fs = fs.take i ++ m :: fs.drop (i + 1) := by
    rw [← (List.getElem?_eq_some_iff.mp h).2, ← List.drop_eq_getElem_cons hi, List.take_append_drop]
  have z1 : (fs.take i).count m = 0 := List.count_eq_zero.mpr fun hm => by
    obtain ⟨j, hj⟩ := List.mem_iff_getElem?.mp hm
    have hl := (List.getElem?_eq_some_iff.mp hj).1
    rw [List.length_take] at hl
    rw [List.getElem?_take_of_lt (by omega)] at hj
    exact o j (by omega) hj
  have z2 : (fs.drop (i + 1)).count m = 0 := List.count_eq_zero.mpr fun hm => by
    obtain ⟨j, hj⟩ := List.mem_iff_getElem?.mp hm
    rw [List.getElem?_drop] at hj
    exact o _ (by omega) hj
  rw [e, List.count_append, List.count_cons_self, z1, z2]
/-- a whole strip with less than four lies is told as it was -/
theorem told_lies {cs : List (Option Nat)} {i k : Nat} (hl : cs.length = 20) (hc : ∀ o ∈ cs, o = some 0 ∨ o = some 1) (hi : i < 32) (hw : wrongF (fbits i ++ fbits i) cs = k) (hk : k < 4) : toldF (farsF (darkF cs) (seenF cs)) = some (i, k) := by
  have dok : ∀ o ∈ cs, DotOk o := fun o ho => by
    rcases hc o ho with rfl | rfl
    · exact .inr (.inl rfl)
    · exact .inr (.inr rfl)
  have lt2 : ∀ j, ∀ x ∈ fbits j ++ fbits j, x < 2 := fun j x hx => by
    rcases List.mem_append.mp hx with h | h
    · exact fbits_lt x h
    · exact fbits_lt x h
  have l20 : ∀ j, (fbits j ++ fbits j).length = cs.length := fun j => by rw [List.length_append, fbits_len, hl]
  have hi' : (farsF (darkF cs) (seenF cs))[i]? = some k := by rw [fars_at hi, far_wrong hl dok hi, hw]
  have hj' : ∀ j, j ≠ i → ∀ y, (farsF (darkF cs) (seenF cs))[j]? = some y → k < y := fun j hj y hy => by
    have j32 : j < 32 := by
      have := (List.getElem?_eq_some_iff.mp hy).1
      rw [fars_len] at this
      exact this
    rw [fars_at j32, far_wrong hl dok j32] at hy
    have h8 := apart8 hi j32 (fun e => hj e.symm)
    have hle := apart_le _ _ cs (l20 i) (l20 j) (lt2 i) (lt2 j) hc
    rw [hw] at hle
    have := Option.some.inj hy
    omega
  have hm : (farsF (darkF cs) (seenF cs)).min? = some k := List.min?_eq_some_iff.mpr ⟨List.mem_iff_getElem?.mpr ⟨i, hi'⟩, fun y hy => by
    obtain ⟨j, e⟩ := List.mem_iff_getElem?.mp hy
    by_cases c : j = i
    · subst c
      rw [hi'] at e
      exact Nat.le_of_eq (Option.some.inj e)
    · exact Nat.le_of_lt (hj' j c y e)⟩
  have other : ∀ j, j ≠ i → (farsF (darkF cs) (seenF cs))[j]? ≠ some k := fun j c e => Nat.lt_irrefl _ (hj' j c k e)
  unfold toldF
  rw [hm]
  show (if _ then _ else _) = _
  rw [if_pos (count_one hi' other), idx_of hi' fun j hj => other j (by omega)]
end My

set_option Elab.async false
set_option linter.all false
set_option maxRecDepth 100000
set_option maxHeartbeats 1000000
/-! ### xs.count(x), flat items -/
namespace My
open PySem PySem.Spec PyProof.Rows L2
def rCountF (K : PySem.W.Frag) : V → List V → Hp → VK → Prop := fun x xs H Q => ∃ (a : Addr) (ys : List V) (y : V), x = V.ref a ∧ xs = [y] ∧ SqL K H a ys ∧ flatV y = true ∧ ys.all flatV = true ∧ Q (.int ((ys.countP fun z => eqV z y : Nat) : Int)) H
theorem count_vals {y : V} : ∀ {ys : List V} {us : List Value}, Vals ys us → ys.all flatV = true → us.countP (eqU y) = ys.countP fun z => eqV z y
  | _, _, .nil, _ => rfl
  | z :: ys, u :: us, .cons r t, h => by
    rw [List.all_cons, Bool.and_eq_true] at h
    rw [List.countP_cons, List.countP_cons, count_vals t h.2, eqU_of r h.1]
theorem mt_countF {X : Cx} {K : PySem.W.Frag} (hK : X.K = K) : MtR X "list.count" (rCountF K) := by
  subst hK
  intro pins s σ H x xs v us Q I rx rxs h
  obtain ⟨a, ys, y, rfl, rfl, hs, fy, fys, q⟩ := h
  cases rx
  cases rxs with
  | cons ry rt =>
    rename_i uy ut
    cases rt
    obtain ⟨its, rv, ⟨⟨cls, dd, data, sl⟩, n, ho, hc, hdn, hd⟩, hlen⟩ := I.list hs
    simp only at hc hd
    subst hc hd
    refine call_meets PySem.F.slot_list_count ⟨_, ho, rfl⟩ PySem.F.entry_list_count (PySem.F.args_list_count_2 _ _) (SeqAt.list_countAt a its.toArray n dd sl uy (eqU y)) ⟨ho, fun u' hu' => mem_eqAt ry fy rv fys u' (by simpa using hu'), ?_⟩
    have e : its.toArray.toList.countP (eqU y) = ys.countP fun z => eqV z y := count_vals rv fys
    rw [e]
    exact ⟨.int _, H, I.tok _, ⟨_, rfl⟩, q⟩
end My

set_option Elab.async false
set_option linter.all false
set_option maxRecDepth 100000
set_option maxHeartbeats 4000000
namespace My
open PySem PySem.Spec PyProof.Rows L2
def topS (i : Nat) : Stmt := PySem.Challenge.pw_dotquilts_k34_whole_formats_read.main.body.getD i (.Pass ⟨0, 0, 0, 0⟩)
abbrev s_is_number_to : Stmt := topS 3
theorem sc_is_number_to : FnScope ["thing", "least", "most"] ["thing", "least", "most"] (defScope s_is_number_to) := ⟨rfl, rfl, rfl, by decide +kernel, rfl, by decide +kernel, by decide +kernel⟩
abbrev s_need_mask : Stmt := topS 28
theorem sc_need_mask : FnScope ["mask"] ["mask"] (defScope s_need_mask) := ⟨rfl, rfl, rfl, by decide +kernel, rfl, by decide +kernel, by decide +kernel⟩
abbrev s_need_level : Stmt := topS 17
theorem sc_need_level : FnScope ["level"] ["level"] (defScope s_need_level) := ⟨rfl, rfl, rfl, by decide +kernel, rfl, by decide +kernel, by decide +kernel⟩
abbrev s_is_row : Stmt := topS 5
theorem sc_is_row : FnScope ["thing"] ["thing"] (defScope s_is_row) := ⟨rfl, rfl, rfl, by decide +kernel, rfl, by decide +kernel, by decide +kernel⟩
abbrev s_is_plain_grid : Stmt := topS 19
theorem sc_is_plain_grid : FnScope ["many", "grid", "odd", "dots", "dot"] ["many", "grid"] (defScope s_is_plain_grid) := ⟨rfl, rfl, rfl, by decide +kernel, rfl, by decide +kernel, by decide +kernel⟩
abbrev s_need_dot_rows : Stmt := topS 21
theorem sc_need_dot_rows : FnScope ["many", "grid", "gapped", "dots", "row"] ["many", "grid", "gapped"] (defScope s_need_dot_rows) := ⟨rfl, rfl, rfl, by decide +kernel, rfl, by decide +kernel, by decide +kernel⟩
abbrev s_need_grid : Stmt := topS 22
theorem sc_need_grid : FnScope ["size", "grid"] ["size", "grid"] (defScope s_need_grid) := ⟨rfl, rfl, rfl, by decide +kernel, rfl, by decide +kernel, by decide +kernel⟩
abbrev s_need_size : Stmt := topS 16
theorem sc_need_size : FnScope ["size"] ["size"] (defScope s_need_size) := ⟨rfl, rfl, rfl, by decide +kernel, rfl, by decide +kernel, by decide +kernel⟩
abbrev s__law_cell_at : Stmt := topS 36
theorem sc__law_cell_at : FnScope ["_law_script", "_law_k"] ["_law_script", "_law_k"] (defScope s__law_cell_at) := ⟨rfl, rfl, rfl, by decide +kernel, rfl, by decide +kernel, by decide +kernel⟩
abbrev s__law_source_of : Stmt := topS 37
theorem sc__law_source_of : FnScope ["_law_cell"] ["_law_cell"] (defScope s__law_source_of) := ⟨rfl, rfl, rfl, by decide +kernel, rfl, by decide +kernel, by decide +kernel⟩
abbrev s__law_next : Stmt := topS 38
theorem sc__law_next : FnScope ["_law_source", "_law_bound", "_law_found", "_law_prime", "_law_mixed"] ["_law_source", "_law_bound"] (defScope s__law_next) := ⟨rfl, rfl, rfl, by decide +kernel, rfl, by decide +kernel, by decide +kernel⟩
abbrev s__law_table : Stmt := topS 40
theorem sc__law_table : FnScope ["_law_size_so", "_law_rows", "_law_later", "_law_many", "_law_sizes_so"] ["_law_size_so"] (defScope s__law_table) := ⟨rfl, rfl, rfl, by decide +kernel, rfl, by decide +kernel, by decide +kernel⟩
abbrev s__law_pick : Stmt := topS 39
theorem sc__law_pick : FnScope ["_law_source", "_law_some"] ["_law_source", "_law_some"] (defScope s__law_pick) := ⟨rfl, rfl, rfl, by decide +kernel, rfl, by decide +kernel, by decide +kernel⟩
abbrev s__law_ribbons : Stmt := topS 42
theorem sc__law_ribbons : FnScope ["_law_many", "_law_first", "_law_second", "_law_at", "_law_spot"] ["_law_many"] (defScope s__law_ribbons) := ⟨rfl, rfl, rfl, by decide +kernel, rfl, by decide +kernel, by decide +kernel⟩
abbrev s__law_grid : Stmt := topS 44
theorem sc__law_grid : FnScope ["_law_source", "_law_many", "_law_share", "_law_rows", "_law_turn", "_law_row", "_law_at"] ["_law_source", "_law_many"] (defScope s__law_grid) := ⟨rfl, rfl, rfl, by decide +kernel, rfl, by decide +kernel, by decide +kernel⟩
abbrev s_word_of_format : Stmt := topS 29
theorem sc_word_of_format : FnScope ["level", "mask"] ["level", "mask"] (defScope s_word_of_format) := ⟨rfl, rfl, rfl, by decide +kernel, rfl, by decide +kernel, by decide +kernel⟩
abbrev s_ones : Stmt := topS 1
theorem sc_ones : FnScope ["number", "text"] ["number"] (defScope s_ones) := ⟨rfl, rfl, rfl, by decide +kernel, rfl, by decide +kernel, by decide +kernel⟩
abbrev s_unlike_dots : Stmt := topS 31
theorem sc_unlike_dots : FnScope ["dark", "seen", "word"] ["dark", "seen", "word"] (defScope s_unlike_dots) := ⟨rfl, rfl, rfl, by decide +kernel, rfl, by decide +kernel, by decide +kernel⟩
abbrev s_seen_strips : Stmt := topS 30
theorem sc_seen_strips : FnScope ["size", "grid", "many", "dark", "seen", "at", "shade"] ["size", "grid"] (defScope s_seen_strips) := ⟨rfl, rfl, rfl, by decide +kernel, rfl, by decide +kernel, by decide +kernel⟩
abbrev s_nearest_told : Stmt := topS 32
theorem sc_nearest_told : FnScope ["dark", "seen", "word", "level", "mask", "counts", "least", "other"] ["dark", "seen"] (defScope s_nearest_told) := ⟨rfl, rfl, rfl, by decide +kernel, rfl, by decide +kernel, by decide +kernel⟩
abbrev s_nearest_format : Stmt := topS 33
theorem sc_nearest_format : FnScope ["size", "grid", "dark", "seen"] ["size", "grid"] (defScope s_nearest_format) := ⟨rfl, rfl, rfl, by decide +kernel, rfl, by decide +kernel, by decide +kernel⟩
abbrev s_unlike_format : Stmt := topS 34
theorem sc_unlike_format : FnScope ["size", "grid", "level", "mask", "dark", "seen"] ["size", "grid", "level", "mask"] (defScope s_unlike_format) := ⟨rfl, rfl, rfl, by decide +kernel, rfl, by decide +kernel, by decide +kernel⟩
abbrev s__law_written : Stmt := topS 43
theorem sc__law_written : FnScope ["_law_level_so", "_law_mask_so", "_law_number", "_law_at", "_law_told_so", "_law_left", "_law_to", "_law_bit", "_law_one", "_law_other"] ["_law_level_so", "_law_mask_so"] (defScope s__law_written) := ⟨rfl, rfl, rfl, by decide +kernel, rfl, by decide +kernel, by decide +kernel⟩
abbrev s__law_asked : Stmt := topS 45
theorem sc__law_asked : FnScope ["_law_source", "_law_size_so", "_law_level_so", "_law_mask_so", "_law_many", "_law_rows", "_law_ribbons_here", "_law_dots", "_law_bits", "_law_ribbon", "_law_spot", "_law_bit", "_law_lies", "_law_gone", "_law_turn", "_law_row", "_law_column"] ["_law_source", "_law_size_so", "_law_level_so", "_law_mask_so"] (defScope s__law_asked) := ⟨rfl, rfl, rfl, by decide +kernel, rfl, by decide +kernel, by decide +kernel⟩
abbrev s__law_right : Stmt := topS 46
theorem sc__law_right : FnScope ["_law_source", "_law_size_so", "_law_level_so", "_law_mask_so", "_law_rows", "_law_lies", "_law_gone", "_law_ribbons_here", "_law_table_here", "_law_shown", "_law_one", "_law_other", "_law_many", "_law_ribbon", "_law_row", "_law_column", "_law_bit", "_law_least", "_law_some", "_law_due", "_law_as_rows", "_law_key"] ["_law_source"] (defScope s__law_right) := ⟨rfl, rfl, rfl, by decide +kernel, rfl, by decide +kernel, by decide +kernel⟩
abbrev s_law : Stmt := topS 47
theorem sc_law : FnScope ["_law_script", "_law_k", "_law_source", "_law_turn"] ["_law_script"] (defScope s_law) := ⟨rfl, rfl, rfl, by decide +kernel, rfl, by decide +kernel, by decide +kernel⟩
structure Txt (K : PySem.W.Frag) (mg : Str → Option Value) where
  f_is_number_to : Addr
  d_is_number_to : FuncData
  F_is_number_to : Fun K "is_number_to" "is_number_to" s_is_number_to f_is_number_to d_is_number_to
  g_is_number_to : mg "is_number_to" = some (.ref f_is_number_to)
  b_is_number_to : Binds K d_is_number_to ["thing", "least", "most"] []
  f_need_mask : Addr
  d_need_mask : FuncData
  F_need_mask : Fun K "need_mask" "need_mask" s_need_mask f_need_mask d_need_mask
  g_need_mask : mg "need_mask" = some (.ref f_need_mask)
  b_need_mask : Binds K d_need_mask ["mask"] []
  f_need_level : Addr
  d_need_level : FuncData
  F_need_level : Fun K "need_level" "need_level" s_need_level f_need_level d_need_level
  g_need_level : mg "need_level" = some (.ref f_need_level)
  b_need_level : Binds K d_need_level ["level"] []
  f_is_row : Addr
  d_is_row : FuncData
  F_is_row : Fun K "is_row" "is_row" s_is_row f_is_row d_is_row
  g_is_row : mg "is_row" = some (.ref f_is_row)
  b_is_row : Binds K d_is_row ["thing"] []
  f_is_plain_grid : Addr
  d_is_plain_grid : FuncData
  F_is_plain_grid : Fun K "is_plain_grid" "is_plain_grid" s_is_plain_grid f_is_plain_grid d_is_plain_grid
  g_is_plain_grid : mg "is_plain_grid" = some (.ref f_is_plain_grid)
  b_is_plain_grid : Binds K d_is_plain_grid ["many", "grid"] []
  f_need_dot_rows : Addr
  d_need_dot_rows : FuncData
  F_need_dot_rows : Fun K "need_dot_rows" "need_dot_rows" s_need_dot_rows f_need_dot_rows d_need_dot_rows
  g_need_dot_rows : mg "need_dot_rows" = some (.ref f_need_dot_rows)
  b_need_dot_rows : Binds K d_need_dot_rows ["many", "grid", "gapped"] []
  f_need_grid : Addr
  d_need_grid : FuncData
  F_need_grid : Fun K "need_grid" "need_grid" s_need_grid f_need_grid d_need_grid
  g_need_grid : mg "need_grid" = some (.ref f_need_grid)
  b_need_grid : Binds K d_need_grid ["size", "grid"] []
  f_need_size : Addr
  d_need_size : FuncData
  F_need_size : Fun K "need_size" "need_size" s_need_size f_need_size d_need_size
  g_need_size : mg "need_size" = some (.ref f_need_size)
  b_need_size : Binds K d_need_size ["size"] []
  f__law_cell_at : Addr
  d__law_cell_at : FuncData
  F__law_cell_at : Fun K "_law_cell_at" "_law_cell_at" s__law_cell_at f__law_cell_at d__law_cell_at
  g__law_cell_at : mg "_law_cell_at" = some (.ref f__law_cell_at)
  b__law_cell_at : Binds K d__law_cell_at ["_law_script", "_law_k"] []
  f__law_source_of : Addr
  d__law_source_of : FuncData
  F__law_source_of : Fun K "_law_source_of" "_law_source_of" s__law_source_of f__law_source_of d__law_source_of
  g__law_source_of : mg "_law_source_of" = some (.ref f__law_source_of)
  b__law_source_of : Binds K d__law_source_of ["_law_cell"] []
  f__law_next : Addr
  d__law_next : FuncData
  F__law_next : Fun K "_law_next" "_law_next" s__law_next f__law_next d__law_next
  g__law_next : mg "_law_next" = some (.ref f__law_next)
  b__law_next : Binds K d__law_next ["_law_source", "_law_bound"] []
  f__law_table : Addr
  d__law_table : FuncData
  F__law_table : Fun K "_law_table" "_law_table" s__law_table f__law_table d__law_table
  g__law_table : mg "_law_table" = some (.ref f__law_table)
  b__law_table : Binds K d__law_table ["_law_size_so"] []
  f__law_pick : Addr
  d__law_pick : FuncData
  F__law_pick : Fun K "_law_pick" "_law_pick" s__law_pick f__law_pick d__law_pick
  g__law_pick : mg "_law_pick" = some (.ref f__law_pick)
  b__law_pick : Binds K d__law_pick ["_law_source", "_law_some"] []
  f__law_ribbons : Addr
  d__law_ribbons : FuncData
  F__law_ribbons : Fun K "_law_ribbons" "_law_ribbons" s__law_ribbons f__law_ribbons d__law_ribbons
  g__law_ribbons : mg "_law_ribbons" = some (.ref f__law_ribbons)
  b__law_ribbons : Binds K d__law_ribbons ["_law_many"] []
  f__law_grid : Addr
  d__law_grid : FuncData
  F__law_grid : Fun K "_law_grid" "_law_grid" s__law_grid f__law_grid d__law_grid
  g__law_grid : mg "_law_grid" = some (.ref f__law_grid)
  b__law_grid : Binds K d__law_grid ["_law_source", "_law_many"] []
  f_word_of_format : Addr
  d_word_of_format : FuncData
  F_word_of_format : Fun K "word_of_format" "word_of_format" s_word_of_format f_word_of_format d_word_of_format
  g_word_of_format : mg "word_of_format" = some (.ref f_word_of_format)
  b_word_of_format : Binds K d_word_of_format ["level", "mask"] []
  f_ones : Addr
  d_ones : FuncData
  F_ones : Fun K "ones" "ones" s_ones f_ones d_ones
  g_ones : mg "ones" = some (.ref f_ones)
  b_ones : Binds K d_ones ["number"] []
  f_unlike_dots : Addr
  d_unlike_dots : FuncData
  F_unlike_dots : Fun K "unlike_dots" "unlike_dots" s_unlike_dots f_unlike_dots d_unlike_dots
  g_unlike_dots : mg "unlike_dots" = some (.ref f_unlike_dots)
  b_unlike_dots : Binds K d_unlike_dots ["dark", "seen", "word"] []
  f_seen_strips : Addr
  d_seen_strips : FuncData
  F_seen_strips : Fun K "seen_strips" "seen_strips" s_seen_strips f_seen_strips d_seen_strips
  g_seen_strips : mg "seen_strips" = some (.ref f_seen_strips)
  b_seen_strips : Binds K d_seen_strips ["size", "grid"] []
  f_nearest_told : Addr
  d_nearest_told : FuncData
  F_nearest_told : Fun K "nearest_told" "nearest_told" s_nearest_told f_nearest_told d_nearest_told
  g_nearest_told : mg "nearest_told" = some (.ref f_nearest_told)
  b_nearest_told : Binds K d_nearest_told ["dark", "seen"] []
  f_nearest_format : Addr
  d_nearest_format : FuncData
  F_nearest_format : Fun K "nearest_format" "nearest_format" s_nearest_format f_nearest_format d_nearest_format
  g_nearest_format : mg "nearest_format" = some (.ref f_nearest_format)
  b_nearest_format : Binds K d_nearest_format ["size", "grid"] []
  f_unlike_format : Addr
  d_unlike_format : FuncData
  F_unlike_format : Fun K "unlike_format" "unlike_format" s_unlike_format f_unlike_format d_unlike_format
  g_unlike_format : mg "unlike_format" = some (.ref f_unlike_format)
  b_unlike_format : Binds K d_unlike_format ["size", "grid", "level", "mask"] []
  f__law_written : Addr
  d__law_written : FuncData
  F__law_written : Fun K "_law_written" "_law_written" s__law_written f__law_written d__law_written
  g__law_written : mg "_law_written" = some (.ref f__law_written)
  b__law_written : Binds K d__law_written ["_law_level_so", "_law_mask_so"] []
  f__law_asked : Addr
  d__law_asked : FuncData
  F__law_asked : Fun K "_law_asked" "_law_asked" s__law_asked f__law_asked d__law_asked
  g__law_asked : mg "_law_asked" = some (.ref f__law_asked)
  b__law_asked : Binds K d__law_asked ["_law_source", "_law_size_so", "_law_level_so", "_law_mask_so"] []
  f__law_right : Addr
  d__law_right : FuncData
  F__law_right : Fun K "_law_right" "_law_right" s__law_right f__law_right d__law_right
  g__law_right : mg "_law_right" = some (.ref f__law_right)
  b__law_right : Binds K d__law_right ["_law_source"] []
  f_law : Addr
  d_law : FuncData
  F_law : Fun K "law" "law" s_law f_law d_law
  g_law : mg "law" = some (.ref f_law)
  b_law : Binds K d_law ["_law_script"] []
  n_bool : mg "bool" = none
  n_divmod : mg "divmod" = none
  n_enumerate : mg "enumerate" = none
  n_int : mg "int" = none
  n_isinstance : mg "isinstance" = none
  n_len : mg "len" = none
  n_list : mg "list" = none
  n_max : mg "max" = none
  n_min : mg "min" = none
  n_range : mg "range" = none
  n_repr : mg "repr" = none
  n_tuple : mg "tuple" = none
  n_type : mg "type" = none
  n_zip : mg "zip" = none
  g_ALL_SEEN : ∃ t, mg "ALL_SEEN" = some (.int 1048575 t)
  a_FORMAT_WORDS : Addr
  g_FORMAT_WORDS : mg "FORMAT_WORDS" = some (.ref a_FORMAT_WORDS)
  l_FORMAT_WORDS : tupB K a_FORMAT_WORDS [709, 752, 666, 687, 590, 635, 529, 548, 979, 998, 908, 953, 856, 877, 775, 818, 220, 233, 131, 182, 87, 98, 8, 61, 458, 511, 405, 416, 321, 372, 286, 299] = true
  g_LEVELS : ∃ t, mg "LEVELS" = some (.int 4 t)
  g_MASKS : ∃ t, mg "MASKS" = some (.int 8 t)
  a_SIDES : Addr
  g_SIDES : mg "SIDES" = some (.ref a_SIDES)
  l_SIDES : tupB K a_SIDES [8, 12, 16, 20, 24] = true
  g_STRIP : ∃ t, mg "STRIP" = some (.int 10 t)
  c_STRIPS0 : Addr
  t_STRIPS0 : tupB K c_STRIPS0 [9, 10, 11, 12, 13, 14, 17, 18, 19, 20, 49, 41, 33, 25, 50, 42, 34, 26, 51, 43] = true
  c_STRIPS1 : Addr
  t_STRIPS1 : tupB K c_STRIPS1 [13, 14, 15, 16, 17, 18, 19, 20, 21, 22, 121, 109, 97, 85, 73, 61, 49, 37, 25, 122] = true
  c_STRIPS2 : Addr
  t_STRIPS2 : tupB K c_STRIPS2 [17, 18, 19, 20, 21, 22, 23, 24, 25, 26, 225, 209, 193, 177, 161, 145, 129, 113, 97, 81] = true
  c_STRIPS3 : Addr
  t_STRIPS3 : tupB K c_STRIPS3 [21, 22, 23, 24, 25, 26, 27, 28, 29, 30, 361, 341, 321, 301, 281, 261, 241, 221, 201, 181] = true
  c_STRIPS4 : Addr
  t_STRIPS4 : tupB K c_STRIPS4 [25, 26, 27, 28, 29, 30, 31, 32, 33, 34, 529, 505, 481, 457, 433, 409, 385, 361, 337, 313] = true
  a_STRIPS : Addr
  g_STRIPS : mg "STRIPS" = some (.ref a_STRIPS)
  l_STRIPS : KTupR K a_STRIPS [c_STRIPS0, c_STRIPS1, c_STRIPS2, c_STRIPS3, c_STRIPS4]
section
variable {P : Program} {w : World} {K : PySem.W.Frag} {mg : Str → Option Value} {base : Heap}
/-! ### the program's defs -/
def sp_is_number_to : Sp := fun vs H Q _ => ∃ (x : V) (l m : Int), vs = [x, .int l, .int m] ∧ ((∃ i, x = .int i ∧ Q (.bl (decide (l ≤ i) && decide (i ≤ m))) H) ∨ (x = .non ∧ Q (.bl false) H))
theorem ok_is_number_to (T : Txt K mg) : FnOk P w K mg base CX0 1 T.f_is_number_to T.d_is_number_to ["thing", "least", "most"] sp_is_number_to := by
  refine T.F_is_number_to.ok sc_is_number_to (fun vs H Q E h => ?_) (fun cdv A outer s H vs Q E hr h => ?_)
  · obtain ⟨x, l, m, rfl, _⟩ := h
    rfl
  · obtain ⟨x, l, m, rfl, q⟩ := h
    refine ⟨_, (pss_one (ps_ret (pe_and (pe_callB call_isi (by rfl) T.n_isinstance (by decide +kernel) (pa_cons (pv 0) (pa_cons (pe_bltn (v := .ty "int") (by rfl) T.n_int (by decide +kernel) rfl) pa_nil))) (pe_and (pe_not (pe_callB call_isi (by rfl) T.n_isinstance (by decide +kernel) (pa_cons (pv 0) (pa_cons (pe_bltn (v := .ty "bool") (by rfl) T.n_bool (by decide +kernel) rfl) pa_nil)))) (pe_one (pe_chain op_le op_le (pv 1) (pv 0) (pv 2))))))), ?_⟩
    rcases q with ⟨i, rfl, q⟩ | ⟨rfl, q⟩
    · refine ⟨_, rfl, .int i, .ty "int", .type "int", .type "int", true, rfl, .ty _, .base (.int i), kit_ty (by decide +kernel), true, rfl, ?_⟩
      refine ⟨_, rfl, .int i, .ty "bool", .type "int", .type "bool", false, rfl, .ty _, .base (.int i), kit_ty (by decide +kernel), _, rfl, true, rfl, ?_⟩
      refine ⟨_, rfl, _, rfl, _, _, rfl, rfl, _, rfl, ?_⟩
      refine ite2 (fun c => ?_) (fun c => ?_)
      · refine ⟨_, rfl, _, _, rfl, rfl, ?_⟩
        rw [show decide (l ≤ i) = true from c, Bool.true_and] at q
        exact q
      · rw [show decide (l ≤ i) = false by simpa using c, Bool.false_and] at q
        exact q
    · refine ⟨_, rfl, .non, .ty "int", .type "NoneType", .type "int", false, rfl, .ty _, .base .non, kit_ty (by decide +kernel), false, rfl, ?_⟩
      exact q
def sp_need_mask : Sp := fun vs H Q _ => ∃ m : Nat, vs = [vN m] ∧ m < 8 ∧ Q .non H
theorem ok_need_mask (T : Txt K mg) : FnOk P w K mg base CX0 2 T.f_need_mask T.d_need_mask ["mask"] sp_need_mask := by
  refine T.F_need_mask.ok sc_need_mask (fun vs H Q E h => ?_) (fun cdv A outer s H vs Q E hr h => ?_)
  · obtain ⟨m, rfl, _⟩ := h
    rfl
  · obtain ⟨m, rfl, hm, q⟩ := h
    refine ⟨_, (pss_one (ps_if (pt_not (pt_val (pe_call (ok_is_number_to T) (hr.mono (by decide)) (by rfl) T.g_is_number_to T.F_is_number_to.kp T.b_is_number_to .nil pass0 (pa_cons (pv 0) (pa_cons pe_int (pa_cons (pe_op op_sub (pe_glob (v := .int 8) (by rfl) T.g_MASKS.choose_spec ⟨_, rfl⟩) pe_int) pa_nil)))))) (pss_one ps_never) pss_nil)), ?_⟩
    refine ⟨_, rfl, _, _, rfl, rfl, _, _, _, rfl, .inl ⟨_, rfl, ?_⟩⟩
    have e : (decide ((0 : Int) ≤ (m : Int)) && decide ((m : Int) ≤ 8 - 1)) = true := by
      simp
      omega
    rw [e]
    exact ⟨_, rfl, iteF q⟩
def sp_need_level : Sp := fun vs H Q _ => ∃ m : Nat, vs = [vN m] ∧ m < 4 ∧ Q .non H
theorem ok_need_level (T : Txt K mg) : FnOk P w K mg base CX0 2 T.f_need_level T.d_need_level ["level"] sp_need_level := by
  refine T.F_need_level.ok sc_need_level (fun vs H Q E h => ?_) (fun cdv A outer s H vs Q E hr h => ?_)
  · obtain ⟨m, rfl, _⟩ := h
    rfl
  · obtain ⟨m, rfl, hm, q⟩ := h
    refine ⟨_, (pss_one (ps_if (pt_not (pt_val (pe_call (ok_is_number_to T) (hr.mono (by decide)) (by rfl) T.g_is_number_to T.F_is_number_to.kp T.b_is_number_to .nil pass0 (pa_cons (pv 0) (pa_cons pe_int (pa_cons (pe_op op_sub (pe_glob (v := .int 4) (by rfl) T.g_LEVELS.choose_spec ⟨_, rfl⟩) pe_int) pa_nil)))))) (pss_one ps_never) pss_nil)), ?_⟩
    refine ⟨_, rfl, _, _, rfl, rfl, _, _, _, rfl, .inl ⟨_, rfl, ?_⟩⟩
    have e : (decide ((0 : Int) ≤ (m : Int)) && decide ((m : Int) ≤ 4 - 1)) = true := by
      simp
      omega
    rw [e]
    exact ⟨_, rfl, iteF q⟩
def sp_is_row (K : PySem.W.Frag) : Sp := fun vs H Q _ => ∃ (a : Addr) (k : Bool) (xs : List V), vs = [.ref a] ∧ SqB k K H a xs ∧ ∀ H', Same H H' → Q (.bl true) H'
theorem ok_is_row (T : Txt K mg) : FnOk P w K mg base CX0 1 T.f_is_row T.d_is_row ["thing"] (sp_is_row K) := by
  refine T.F_is_row.ok sc_is_row (fun vs H Q E h => ?_) (fun cdv A outer s H vs Q E hr h => ?_)
  · obtain ⟨a, k, xs, rfl, _⟩ := h
    rfl
  · obtain ⟨a, k, xs, rfl, hq, q⟩ := h
    refine ⟨_, (pss_one (ps_ret (pe_callB call_isiT (by rfl) T.n_isinstance (by decide +kernel) (pa_cons (pv 0) (pa_cons (pe_tup (pa_cons (pe_bltn (v := .ty "list") (by rfl) T.n_list (by decide +kernel) rfl) (pa_cons (pe_bltn (v := .ty "tuple") (by rfl) T.n_tuple (by decide +kernel) rfl) pa_nil))) pa_nil))))), ?_⟩
    refine ⟨_, rfl, (by show 2 ≤ sizeLine; decide), fun tp htp => ?_⟩
    have hq2 := Same.sqb (same_upd (o := .tup [.ty "list", .ty "tuple"]) htp) hq
    refine ⟨.ref a, tp, [.ty "list", .ty "tuple"], .type (if k = true then "list" else "tuple"), [.type "list", .type "tuple"], true, rfl, upd_same, .cons (.ty _) (.cons (.ty _) .nil), hq2.ty, ?_, q _ (same_upd htp)⟩
    cases k
    · exact kitAny_cons (kit_ty (r := false) (by decide +kernel)) (fun _ => kitAny_cons (kit_ty (r := true) (by decide +kernel)) (fun z => by cases z) (fun _ => rfl)) (fun z => by cases z)
    · exact kitAny_cons (kit_ty (r := true) (by decide +kernel)) (fun z => by cases z) (fun _ => rfl)
def sp_plain (K : PySem.W.Frag) : Sp := fun vs H Q _ => ∃ (n : Nat) (a : Addr) (k : Bool) (g : Grid), vs = [vN n, .ref a] ∧ GrB k K H a g ∧ Sq n g ∧ ∀ H', Same H H' → Q (.bl true) H'
theorem ok_is_plain_grid (T : Txt K mg) : FnOk P w K mg base CX0 1 T.f_is_plain_grid T.d_is_plain_grid ["many", "grid"] (sp_plain K) := by
  refine T.F_is_plain_grid.ok sc_is_plain_grid (fun vs H Q E h => ?_) (fun cdv A outer s H vs Q E hr h => ?_)
  · obtain ⟨n, a, k, g, rfl, _⟩ := h
    rfl
  · obtain ⟨n, a, k, g, rfl, hg, hs, q⟩ := h
    refine ⟨_, (pss_cons (ps_if (pt_truth (pe_lc (own := [("dots", 3)]) rfl sc_is_plain_grid.nd (pi_seq (pv 1)) (blkOk_by (N := ["many", "grid", "odd", "dots", "dot"]) (sc := defScope s_is_plain_grid) (by decide +kernel)) (fun _ _ _ _ _ => by exact (pg_name (i := 3) sc_is_plain_grid.nd rfl (.inl rfl))) (fun _ _ _ _ _ => by exact (pts_one (PW.pt (pw_or (pt_not (pt_val (pe_callB (call_isiTK (K := K) rfl) (by rfl) T.n_isinstance (by decide +kernel) (pa_cons (pv 3) (pa_cons (pe_tup (pa_cons (pe_bltn (v := .ty "list") (by rfl) T.n_list (by decide +kernel) rfl) (pa_cons (pe_bltn (v := .ty "tuple") (by rfl) T.n_tuple (by decide +kernel) rfl) pa_nil))) pa_nil))))) (pw_or1 (pt_cmpR op_ne (pe_callB (call_len_seqG (K := K) rfl) (by rfl) T.n_len (by decide +kernel) (pa_cons (pv 3) pa_nil)) (pv 0) (nomark _))))))) (fun _ _ _ _ _ => by exact (pv 3))) (by intro _; rfl)) (pss_one (ps_ret pe_bl)) pss_nil)
      (pss_cons (ps_setLc2 (i := 2) (g := (gName 3)) (g1 := (gName 4)) (own := [("dots", 3), ("dot", 4)]) (vs1 := [4]) rfl sc_is_plain_grid.nd rfl rfl (sw_true rfl rfl rfl (by decide +kernel)) (pi_seq (pv 1)) (blkOk_by (N := ["many", "grid", "odd", "dots", "dot"]) (sc := defScope s_is_plain_grid) (by decide +kernel)) (by decide) (fun _ _ _ _ _ => by exact (pg_name (i := 3) sc_is_plain_grid.nd rfl (.inl rfl))) (fun _ _ _ _ _ => by exact pts_nil) (fun _ _ _ _ _ => by exact (pi_seqK (K := K) rfl (pv 3))) (fun _ _ _ _ _ => by exact (pg_name (i := 4) sc_is_plain_grid.nd rfl (.inl rfl))) (fun _ _ _ _ _ => by exact (pts_one (PW.pt (pw_and (PW.pt (pw_or (pt_cmpR op_isNotTy (pe_callTy call_typeG (by rfl) T.n_type (by decide +kernel) (pa_cons (pv 4) pa_nil)) (pe_bltn (v := .ty "int") (by rfl) T.n_int (by decide +kernel) rfl) (nomark _)) (pw_or (pt_cmpR op_gt (pv 4) pe_int (nomark _)) (pw_or1 (pt_cmpR op_lt (pv 4) pe_int (nomark _)))))) (pw_and1 (pt_cmpR op_notN (pv 4) pe_non (nomark _))))))) (fun _ _ _ _ _ => by exact (pv 4)))
      (pss_one (ps_ret (pe_notT (pv 2)))))), ?_⟩
    obtain ⟨L, h1, h2, h3⟩ := hg.ex
    have hrow : ∀ i (v : V), i < (L.map V.ref).length → (L.map V.ref)[i]? = some v → ∃ (l : Addr) (r : List (Option Nat)), v = .ref l ∧ SqB k K H l (r.map vG) ∧ r ∈ g := fun i v hi e => by
      rw [List.length_map] at hi
      have e1 : L[i]? = some L[i] := List.getElem?_eq_getElem hi
      have e2 : g[i]? = some (g[i]'(by omega)) := List.getElem?_eq_getElem _
      rw [List.getElem?_map, e1] at e
      exact ⟨_, _, (Option.some.inj e).symm, h3 i _ _ e1 e2, List.getElem_mem _⟩
    refine ⟨_, rfl, a, _, k, rfl, h1, fun D hD => ?_⟩
    refine lc_it (walk_seq (b := k) (K := K) (a := a) (xs := L.map V.ref)) (fun i H' => Same H H' ∧ H' D = some (.lst [])) ⟨same_upd hD, upd_same⟩ (fun i H' _ h => Same.sqb h.1 h1) ?_ ?_
    · rintro i v H1 H2 hi ⟨sm, gD⟩ ⟨rfl, e2⟩
      obtain ⟨l, r, rfl, hq, hm⟩ := hrow i v hi e2
      refine ⟨rfl, ?_⟩
      refine ⟨_, rfl, (by show 2 ≤ sizeLine; decide), fun tp htp => ?_⟩
      have st := same_upd (o := .tup [.ty "list", .ty "tuple"]) htp
      have hq2 := Same.sqb (sm.trans st) hq
      refine ⟨.ref l, tp, [.ty "list", .ty "tuple"], .type (if k = true then "list" else "tuple"), [.type "list", .type "tuple"], true, rfl, upd_same, .cons (.ty _) (.cons (.ty _) .nil), hq2.ty, ?_, ?_⟩
      · cases k
        · exact kitAny_cons (kit_ty (r := false) (by decide +kernel)) (fun _ => kitAny_cons (kit_ty (r := true) (by decide +kernel)) (fun z => by cases z) (fun _ => rfl)) (fun z => by cases z)
        · exact kitAny_cons (kit_ty (r := true) (by decide +kernel)) (fun z => by cases z) (fun _ => rfl)
      have hl : (r.map vG).length = n := by rw [List.length_map]; exact hs.row r hm
      refine ⟨true, rfl, iteF ⟨_, rfl, l, _, rfl, hq2.or, ?_⟩⟩
      rw [hl]
      refine ⟨_, rfl, rfl, _, rfl, ?_⟩
      rw [show (!decide (V.int (n : Int) = vN n)) = false from by simp [vN]]
      exact iteF ⟨sm.trans st, st _ _ gD⟩
    · rintro H1 ⟨s1, g1⟩
      refine ⟨_, SqB.truB (b := true) (.inl (.inl g1)), iteF ?_⟩
      refine ⟨_, rfl, a, _, k, rfl, Same.sqb s1 h1, fun D2 hD2 => ?_⟩
      refine lc2_it (walk_seq (b := k) (K := K) (a := a) (xs := L.map V.ref)) (fun i H' => Same H1 H' ∧ H' D2 = some (.lst [])) ⟨same_upd hD2, upd_same⟩ (fun i H' _ h => Same.sqb (s1.trans h.1) h1) ?_ ?_
      · rintro i v H2 H3 hi ⟨sm, gD⟩ ⟨rfl, e2⟩
        obtain ⟨l, r, rfl, hq, hm⟩ := hrow i v hi e2
        have hq2 := Same.sqb (s1.trans sm) hq
        refine ⟨rfl, ?_⟩
        refine iteT (B := Same H1 H3 ∧ H3 D2 = some (HO.lst [])) ⟨_, rfl, l, _, k, rfl, hq2, ?_⟩
        refine lc_in (walk_seq (b := k) (K := K) (a := l) (xs := r.map vG)) (fun j H' => Same H1 H' ∧ H' D2 = some (.lst [])) ⟨sm, gD⟩ (fun i H' _ h => Same.sqb (s1.trans h.1) hq) ?_ (fun H' h => h)
        rintro j v H4 H5 hj ⟨s4, g4⟩ ⟨rfl, e4⟩
        obtain ⟨o, ho, rfl⟩ : ∃ o, o ∈ r ∧ v = vG o := by
          obtain ⟨o, ho, e⟩ := List.mem_map.mp (List.mem_of_getElem? e4)
          exact ⟨o, ho, e.symm⟩
        refine ⟨rfl, ?_⟩
        refine ⟨_, rfl, o, rfl, _, _, rfl, rfl, _, rfl, ?_⟩
        rcases hs.dot r hm o ho with rfl | rfl | rfl
        · rw [show (!decide (tyG none = "int")) = true from by decide]
          exact iteT ⟨_, rfl, rfl, _, rfl, iteF ⟨s4, g4⟩⟩
        · rw [show (!decide (tyG (some 0) = "int")) = false from by decide]
          exact iteF ⟨_, rfl, _, _, rfl, rfl, _, rfl, iteF ⟨_, rfl, _, _, rfl, rfl, _, rfl, iteF (iteF ⟨s4, g4⟩)⟩⟩
        · rw [show (!decide (tyG (some 1) = "int")) = false from by decide]
          exact iteF ⟨_, rfl, _, _, rfl, rfl, _, rfl, iteF ⟨_, rfl, _, _, rfl, rfl, _, rfl, iteF (iteF ⟨s4, g4⟩)⟩⟩
      · rintro H2 ⟨s2, g2⟩
        exact ⟨_, rfl, _, SqB.truB (b := true) (.inl (.inl g2)), q _ (s1.trans s2)⟩
/-! CUT -/
def sp_ndr (K : PySem.W.Frag) : Sp := fun vs H Q _ => ∃ (n : Nat) (a : Addr) (k : Bool) (g : Grid), vs = [vN n, .ref a, .bl true] ∧ GrB k K H a g ∧ Sq n g ∧ ∀ H', Same H H' → Q .non H'
theorem ok_need_dot_rows (T : Txt K mg) : FnOk P w K mg base CX0 2 T.f_need_dot_rows T.d_need_dot_rows ["many", "grid", "gapped"] (sp_ndr K) := by
  refine T.F_need_dot_rows.ok sc_need_dot_rows (fun vs H Q E h => ?_) (fun cdv A outer s H vs Q E hr h => ?_)
  · obtain ⟨n, a, k, g, rfl, _⟩ := h
    rfl
  · obtain ⟨n, a, k, g, rfl, hg, hs, q⟩ := h
    refine ⟨_, (pss_cons (ps_if (PW.pt (pw_or (pt_not (pt_val (pe_call (ok_is_row T) (hr.mono (by decide)) (by rfl) T.g_is_row T.F_is_row.kp T.b_is_row .nil pass0 (pa_cons (pv 1) pa_nil)))) (pw_or1 (pt_cmpR op_ne (pe_callB call_len_seq (by rfl) T.n_len (by decide +kernel) (pa_cons (pv 1) pa_nil)) (pv 0) (nomark _))))) (pss_one ps_never) pss_nil)
      (pss_cons (ps_if (PW.pt (pw_and (pt_val (pe_call (ok_is_plain_grid T) (hr.mono (by decide)) (by rfl) T.g_is_plain_grid T.F_is_plain_grid.kp T.b_is_plain_grid .nil pass0 (pa_cons (pv 0) (pa_cons (pv 1) pa_nil)))) (pw_and1 (PW.pt (pw_or (pt_val (pv 2)) (pw_or1 pt_never)))))) (pss_one ps_retN) pss_nil)
      (pss_one ps_never))), ?_⟩
    obtain ⟨L, h1, h2, h3⟩ := hg.ex
    have hl : (L.map V.ref).length = n := by rw [List.length_map, h2, hs.len]
    refine ⟨_, rfl, a, k, _, rfl, h1, fun H1 s1 => ⟨true, rfl, iteF ⟨_, rfl, a, _, rfl, (Same.sqb s1 h1).or, ?_⟩⟩⟩
    rw [hl]
    refine ⟨_, rfl, rfl, _, rfl, ?_⟩
    rw [show (!decide (V.int (n : Int) = vN n)) = false from by simp [vN]]
    refine iteF ?_
    refine ⟨_, rfl, _, rfl, n, a, k, g, rfl, hg.same s1, hs, fun H2 s2 => ⟨true, rfl, iteT ⟨_, rfl, true, rfl, iteT (iteT (q H2 (s1.trans s2)))⟩⟩⟩
def sp_ng (K : PySem.W.Frag) : Sp := fun vs H Q _ => ∃ (n i : Nat) (a : Addr) (k : Bool) (g : Grid), vs = [.int ((i : Int) + 1), .ref a] ∧ i < 5 ∧ sidesI[i]? = some (n : Int) ∧ GrB k K H a g ∧ Sq n g ∧ ∀ H', Same H H' → Q .non H'
theorem ok_need_grid (T : Txt K mg) : FnOk P w K mg base CX0 3 T.f_need_grid T.d_need_grid ["size", "grid"] (sp_ng K) := by
  refine T.F_need_grid.ok sc_need_grid (fun vs H Q E h => ?_) (fun cdv A outer s H vs Q E hr h => ?_)
  · obtain ⟨n, i, a, k, g, rfl, _⟩ := h
    rfl
  · obtain ⟨n, i, a, k, g, rfl, hi, hn, hg, hs, q⟩ := h
    refine ⟨_, (pss_one (ps_expr (pe_call (ok_need_dot_rows T) (hr.mono (by decide)) (by rfl) T.g_need_dot_rows T.F_need_dot_rows.kp T.b_need_dot_rows .nil pass0 (pa_cons (pe_ix ix_rowB (pe_glob (v := .ref T.a_SIDES) (by rfl) T.g_SIDES rfl) (pe_op op_sub (pv 0) pe_int) (fun _ _ => rfl)) (pa_cons (pv 1) (pa_cons pe_bl pa_nil)))))), ?_⟩
    refine ⟨_, rfl, _, _, rfl, rfl, T.a_SIDES, _, _, vN n, false, rfl, rfl, tupB_ok (xs := sidesI) T.l_SIDES, ?_, ?_⟩
    · rw [show (i : Int) + 1 - 1 = (i : Int) by omega]
      refine atI_nat ?_
      rw [List.getElem?_map, hn]
      rfl
    exact ⟨_, rfl, n, a, k, g, rfl, hg, hs, fun H1 s1 => q H1 s1⟩
def sp_need_size : Sp := fun vs H Q _ => ∃ s : Nat, vs = [.int ((s : Int) + 1)] ∧ s < 5 ∧ Q .non H
theorem ok_need_size (T : Txt K mg) : FnOk P w K mg base CX0 2 T.f_need_size T.d_need_size ["size"] sp_need_size := by
  refine T.F_need_size.ok sc_need_size (fun vs H Q E h => ?_) (fun cdv A outer s H vs Q E hr h => ?_)
  · obtain ⟨s, rfl, _⟩ := h
    rfl
  · obtain ⟨s0, rfl, hs, q⟩ := h
    refine ⟨_, (pss_one (ps_if (pt_not (pt_val (pe_call (ok_is_number_to T) (hr.mono (by decide)) (by rfl) T.g_is_number_to T.F_is_number_to.kp T.b_is_number_to .nil pass0 (pa_cons (pv 0) (pa_cons pe_int (pa_cons (pe_callB call_len_seq (by rfl) T.n_len (by decide +kernel) (pa_cons (pe_glob (v := .ref T.a_SIDES) (by rfl) T.g_SIDES rfl) pa_nil)) pa_nil)))))) (pss_one ps_never) pss_nil)), ?_⟩
    refine ⟨_, rfl, T.a_SIDES, _, rfl, .inr (tupB_ok (xs := sidesI) T.l_SIDES), _, _, _, rfl, .inl ⟨_, rfl, ?_⟩⟩
    have e : (decide ((1 : Int) ≤ (s0 : Int) + 1) && decide ((s0 : Int) + 1 ≤ (((sidesI.map V.int).length : Nat) : Int))) = true := by
      have : (sidesI.map V.int).length = 5 := rfl
      rw [this]
      simp
      omega
    rw [e]
    exact ⟨_, rfl, iteF q⟩
/-! CUT -/
/-! ### the law's defs -/
theorem ixN_nat {n j : Nat} (h : j < n) : ixN n (j : Int) = some j := by
  unfold ixN
  rw [if_pos (by omega), if_pos (by omega), Int.toNat_natCast]def Kp (p : Addr) (H H' : Hp) : Prop := ∀ b o, H b = some o → b ≠ p → H' b = some o
theorem Kp.upd {p : Addr} {H : Hp} {o : HO} : Kp p H (upd H p o) := fun b u e n => by
  rw [upd_ne n]
  exact e
theorem Kp.trans {p : Addr} {H H1 H2 : Hp} (a : Kp p H H1) (b : Kp p H1 H2) : Kp p H H2 := fun c o e n => b c o (a c o e n) n
theorem Same.kp {p : Addr} {H H1 : Hp} (a : Same H H1) : Kp p H H1 := fun c o e _ => a c o e
theorem Kp.sqb {p a : Addr} {k : Bool} {K : PySem.W.Frag} {H H' : Hp} {xs ys : List V} (kp : Kp p H H') (hp : H p = some (.lst ys)) (hne : xs ≠ ys) (h : SqB k K H a xs) : SqB k K H' a xs := by
  cases k
  · rcases h with (h | ⟨o, h⟩) | h
    · exact .inl (.inl (kp _ _ h (fun e => by rw [e, hp] at h; cases h)))
    · exact .inl (.inr ⟨o, kp _ _ h (fun e => by rw [e, hp] at h; cases h)⟩)
    · exact .inr h
  · rcases h with (h | ⟨o, h⟩) | h
    · exact .inl (.inl (kp _ _ h (fun e => by rw [e, hp] at h; cases h; exact hne rfl)))
    · exact .inl (.inr ⟨o, kp _ _ h (fun e => by rw [e, hp] at h; cases h)⟩)
    · exact .inr h
theorem len_ne {α : Type} {xs ys : List α} (h : xs.length ≠ ys.length) : xs ≠ ys := fun e => h (by rw [e])
def sp_cell (K : PySem.W.Frag) : Sp := fun vs H Q _ => ∃ (a : Addr) (ns : List Int) (k : Nat), vs = [.ref a, vN k] ∧ SqL K H a (ns.map V.int) ∧ ∀ n : Int, Q (.int n) H
theorem ok__law_cell_at (T : Txt K mg) : FnOk P w K mg base CX0 1 T.f__law_cell_at T.d__law_cell_at ["_law_script", "_law_k"] (sp_cell K) := by
  refine T.F__law_cell_at.ok sc__law_cell_at (fun vs H Q E h => ?_) (fun cdv A outer s H vs Q E hr h => ?_)
  · obtain ⟨a, ns, k, rfl, _⟩ := h
    rfl
  · obtain ⟨a, ns, k, rfl, ha, q⟩ := h
    refine ⟨_, (pss_cons (ps_if (pt_cmpR op_lt (pv 1) (pe_callB call_len_seq (by rfl) T.n_len (by decide +kernel) (pa_cons (pv 0) pa_nil)) (nomark _)) (pss_one (ps_ret (pe_ix ix_list (pv 0) (pv 1) (fun _ _ => rfl)))) pss_nil)
      (pss_one (ps_ret pe_int))), ?_⟩
    refine ⟨_, rfl, _, rfl, a, _, rfl, .inl ha, _, _, rfl, rfl, _, rfl, ?_⟩
    refine ite2 (fun c => ?_) (fun _ => q 0)
    have hk : k < ns.length := by
      have := of_decide_eq_true c
      rw [List.length_map] at this
      omega
    exact ⟨_, rfl, _, rfl, a, _, _, .int ns[k], rfl, rfl, ha, atI_nat (by rw [List.getElem?_map, List.getElem?_eq_getElem hk]; rfl), q _⟩
def WellL (a b c : Int) : HO := .lst [.int a, .int b, .int c]
def sp_source : Sp := fun vs H Q _ => ∃ n : Int, vs = [.int n] ∧ ∀ (p : Addr) (x y z : Int), H p = none → Q (.ref p) (upd H p (WellL x y z))
theorem ok__law_source_of (T : Txt K mg) : FnOk P w K mg base CX0 1 T.f__law_source_of T.d__law_source_of ["_law_cell"] (sp_source) := by
  refine T.F__law_source_of.ok sc__law_source_of (fun vs H Q E h => ?_) (fun cdv A outer s H vs Q E hr h => ?_)
  · obtain ⟨n, rfl, _⟩ := h
    rfl
  · obtain ⟨n, rfl, q⟩ := h
    refine ⟨_, (Evl.pss_cut (ps_set (i := 0) sc__law_source_of.nd rfl (.inl rfl) (pe_ifExp (pt_cmpR op_ge (pv 0) pe_int (nomark _)) (pv 0) (pe_op op_sub (pe_op op_sub pe_int (pe_op op_mul pe_int (pv 0))) pe_int)))
      (pss_one (ps_ret (pe_lst (pa_cons (pe_op op_mul (pv 0) (pe_callTy call_int1 (by rfl) T.n_int (by decide +kernel) (pa_cons (pe_cmpR op_ge (pv 0) (pe_op op_pow pe_int pe_int) (nomark _)) pa_nil))) (pa_cons (pe_op op_mod (pe_callTy call_int1 (by rfl) T.n_int (by decide +kernel) (pa_cons (pv 0) pa_nil)) pe_int) (pa_cons pe_int pa_nil))))))), ?_⟩
    refine ⟨fun σ' H' => ∃ m : Int, σ' = [some (.int m)] ∧ H' = H, ?_, ?_⟩
    · refine ⟨_, rfl, _, _, rfl, rfl, _, rfl, ?_⟩
      refine ite2 (fun c => ?_) (fun c => ?_)
      · exact ⟨_, rfl, n, rfl, rfl⟩
      · exact ⟨_, rfl, _, _, rfl, rfl, .inl ⟨by decide, by decide⟩, _, _, rfl, rfl, _, _, rfl, rfl, _, rfl, rfl⟩
    rintro σ H1 ⟨m, rfl, rfl⟩
    refine ⟨_, rfl, _, rfl, _, _, rfl, rfl, ⟨by decide, by decide⟩, _, _, rfl, rfl, .inr ⟨_, rfl, ?_⟩⟩
    refine ⟨_, _, rfl, rfl, .inr ⟨by split <;> decide, by split <;> decide⟩, _, rfl, .inl ⟨_, rfl, _, _, rfl, rfl, (show (0 : Int) < 2147483647 by decide), (by show 3 ≤ sizeLine; decide), fun p hp => q p _ _ _ hp⟩⟩
def sp_next : Sp := fun vs H Q _ => ∃ (p : Addr) (a b c m : Int), vs = [.ref p, .int m] ∧ H p = some (WellL a b c) ∧ 0 < m ∧ m < 1073741824 ∧ ∀ n a' c' : Int, 0 ≤ n → n < m → Q (.int n) (upd H p (WellL a' b c'))
theorem ok__law_next (T : Txt K mg) : FnOk P w K mg base CX0 1 T.f__law_next T.d__law_next ["_law_source", "_law_bound"] (sp_next) := by
  refine T.F__law_next.ok sc__law_next (fun vs H Q E h => ?_) (fun cdv A outer s H vs Q E hr h => ?_)
  · obtain ⟨p, a, b, c, m, rfl, _⟩ := h
    rfl
  · obtain ⟨p, a, b, c, m, rfl, hp, m0, m1, q⟩ := h
    refine ⟨_, (pss_cons (ps_if (pt_cmpR op_gt (pe_ix ix_list (pv 0) pe_int (fun _ _ => rfl)) pe_int (nomark _)) (pss_cons (ps_set (i := 2) sc__law_next.nd rfl (.inl rfl) (pe_op op_mod (pe_callTy call_int1 (by rfl) T.n_int (by decide +kernel) (pa_cons (pe_ix ix_list (pv 0) pe_int (fun _ _ => rfl)) pa_nil)) (pv 1)))
      (pss_cons (ps_asg (pe_op op_fdiv (pe_ix ix_list (pv 0) pe_int (fun _ _ => rfl)) (pv 1)) (pg_sub (pv 0) pe_int set_list))
      (pss_one (ps_ret (pv 2))))) pss_nil)
      (pss_cons (ps_asg (pe_op op_add (pe_ix ix_list (pv 0) pe_int (fun _ _ => rfl)) pe_int) (pg_sub (pv 0) pe_int set_list))
      (pss_cons (ps_set (i := 3) sc__law_next.nd rfl (.inl rfl) pe_int)
      (pss_cons (ps_set (i := 4) sc__law_next.nd rfl (.inl rfl) (pe_op op_mod (pe_callTy call_int1 (by rfl) T.n_int (by decide +kernel) (pa_cons (pe_op op_add (pe_op op_add (pe_ix ix_list (pv 0) pe_int (fun _ _ => rfl)) (pe_op op_mul pe_int (pe_ix ix_list (pv 0) pe_int (fun _ _ => rfl)))) pe_int) pa_nil)) (pv 3)))
      (pss_cons (ps_set (i := 4) sc__law_next.nd rfl (.inl rfl) (pe_op op_mod (pe_callTy call_int1 (by rfl) T.n_int (by decide +kernel) (pa_cons (pe_op op_mul (pv 4) pe_int) pa_nil)) (pv 3)))
      (pss_cons (ps_set (i := 4) sc__law_next.nd rfl (.inl rfl) (pe_op op_mod (pe_callTy call_int1 (by rfl) T.n_int (by decide +kernel) (pa_cons (pe_op op_mul (pv 4) (pe_op op_add (pe_op op_fdiv (pv 4) pe_int) pe_int)) pa_nil)) (pv 3)))
      (pss_cons (ps_set (i := 4) sc__law_next.nd rfl (.inl rfl) (pe_op op_mod (pe_callTy call_int1 (by rfl) T.n_int (by decide +kernel) (pa_cons (pe_op op_mul (pv 4) (pe_op op_add (pe_op op_fdiv (pv 4) pe_int) pe_int)) pa_nil)) pe_int))
      (pss_one (ps_ret (pe_op op_mod (pe_callTy call_int1 (by rfl) T.n_int (by decide +kernel) (pa_cons (pe_op op_fdiv (pv 4) pe_int) pa_nil)) (pv 1))))))))))), ?_⟩
    have hw : ∀ {H' : Hp} {xs : List V}, H' p = some (.lst xs) → SqL K H' p xs := fun h => .inl (.inl h)
    refine ⟨_, rfl, p, _, 0, _, rfl, rfl, hw hp, rfl, _, _, rfl, rfl, _, rfl, ?_⟩
    refine ite2 (fun cc => ?_) (fun cc => ?_)
    · refine ⟨_, rfl, p, _, 0, _, rfl, rfl, hw hp, rfl, .inl ⟨_, rfl, _, rfl, _, _, rfl, rfl, m0, ?_⟩⟩
      refine ⟨_, rfl, p, _, 0, _, rfl, rfl, hw hp, rfl, _, rfl, _, _, rfl, rfl, ⟨m0, m1⟩, ?_⟩
      refine ⟨_, rfl, p, _, 0, 0, rfl, rfl, hp, rfl, ?_⟩
      exact ⟨_, rfl, q _ _ _ (Int.emod_nonneg _ (by omega)) (Int.emod_lt_of_pos _ m0)⟩
    · refine ⟨_, rfl, p, _, 2, _, rfl, rfl, hw hp, rfl, _, _, rfl, rfl, _, rfl, p, _, 2, 2, rfl, rfl, hp, rfl, ?_⟩
      have hs : (upd H p (.lst ([V.int a, V.int b, V.int c].set 2 (.int (c + 1))))) p = some (WellL a b (c + 1)) := upd_same
      refine ⟨_, rfl, p, _, 1, _, rfl, rfl, hw hs, rfl, _, rfl, p, _, 2, _, rfl, rfl, hw hs, rfl, _, _, rfl, rfl, .inl ⟨by decide, by decide⟩, _, _, rfl, rfl, _, _, rfl, rfl, .inl ⟨_, rfl, _, rfl, _, _, rfl, rfl, (show (0 : Int) < 2147483647 by decide), ?_⟩⟩
      generalize (b + 104729 * (c + 1) + 7919) % 2147483647 = x
      refine ⟨_, rfl, _, _, rfl, rfl, .inr ⟨by decide, by decide⟩, .inl ⟨_, rfl, _, rfl, _, _, rfl, rfl, (show (0 : Int) < 2147483647 by decide), ?_⟩⟩
      have y0 := Int.emod_nonneg (x * 48271) (show (2147483647 : Int) ≠ 0 by decide)
      have y1 := Int.emod_lt_of_pos (x * 48271) (show (0 : Int) < 2147483647 by decide)
      generalize x * 48271 % 2147483647 = y at y0 y1
      refine ⟨_, rfl, _, rfl, _, _, rfl, rfl, ⟨by decide, by decide⟩, _, _, rfl, rfl, _, _, rfl, rfl, .inl ⟨by omega, by omega⟩, .inl ⟨_, rfl, _, rfl, _, _, rfl, rfl, (show (0 : Int) < 2147483647 by decide), ?_⟩⟩
      have z0 := Int.emod_nonneg (y * (y / 1009 + 69621)) (show (2147483647 : Int) ≠ 0 by decide)
      have z1 := Int.emod_lt_of_pos (y * (y / 1009 + 69621)) (show (0 : Int) < 2147483647 by decide)
      generalize y * (y / 1009 + 69621) % 2147483647 = z at z0 z1
      refine ⟨_, rfl, _, rfl, _, _, rfl, rfl, ⟨by decide, by decide⟩, _, _, rfl, rfl, _, _, rfl, rfl, .inl ⟨by omega, by omega⟩, .inl ⟨_, rfl, _, _, rfl, rfl, (show (0 : Int) < 2147483399 by decide), ?_⟩⟩
      generalize z * (z / 2003 + 40692) % 2147483399 = t
      refine ⟨_, rfl, _, _, rfl, rfl, ⟨by decide, by decide⟩, .inl ⟨_, rfl, _, rfl, _, _, rfl, rfl, m0, q _ _ _ (Int.emod_nonneg _ (by omega)) (Int.emod_lt_of_pos _ m0)⟩⟩
/-- a row of the law's table -/
def TabRow (H0 H' : Hp) (t : Addr) (j : Nat) : Prop := ∃ c1 c2 c3 : Addr, H' t = some (.tup [vN (sideL.getD j 0), vN (bitsF j), .ref c1, .ref c2, .ref c3]) ∧ H' c1 = some (.lst ((blkF j).map vN)) ∧ H' c2 = some (.lst ((cksL.getD j []).map vN)) ∧ H0 t = none ∧ H0 c1 = none
theorem TabRow.same {H0 H H' : Hp} {t : Addr} {j : Nat} (h : TabRow H0 H t j) (s : Same H H') : TabRow H0 H' t j :=
  let ⟨c1, c2, c3, a, b, c, d, e⟩ := h
  ⟨c1, c2, c3, s _ _ a, s _ _ b, s _ _ c, d, e⟩
theorem word_ne {L : List Addr} (r : List Nat) (h : 0 < L.length := by decide) : HO.lst (r.map vN) ≠ .lst (L.map V.ref) := by
  intro e
  cases L with
  | nil => exact absurd h (Nat.lt_irrefl 0)
  | cons a L =>
    cases r with
    | nil => cases e
    | cons x r => exact nomatch (List.cons.inj (HO.lst.inj e)).1
theorem TabRow.kp {H0 H H' : Hp} {t R : Addr} {j : Nat} {L : List Addr} (h : TabRow H0 H t j) (k : Kp R H H') (g : H R = some (.lst (L.map V.ref))) (hl : 0 < L.length) : TabRow H0 H' t j := by
  obtain ⟨c1, c2, c3, a, b, c, d, e⟩ := h
  refine ⟨c1, c2, c3, k _ _ a (fun z => ?_), k _ _ b (fun z => ?_), k _ _ c (fun z => ?_), d, e⟩
  · rw [z, g] at a; cases a
  · rw [z, g] at b; exact word_ne _ hl (Option.some.inj b).symm
  · rw [z, g] at c; exact word_ne _ hl (Option.some.inj c).symm
def sp_table : Sp := fun vs H Q _ => ∃ s : Nat, vs = [.int ((s : Int) + 1)] ∧ s < 5 ∧ ∀ (t c1 c2 c3 : Addr) H', Same H H' → H t = none → H c1 = none → H' t = some (.tup [vN (sideL.getD s 0), vN (bitsF s), .ref c1, .ref c2, .ref c3]) → H' c1 = some (.lst ((blkF s).map vN)) → H' c2 = some (.lst ((cksL.getD s []).map vN)) → Q (.ref t) H'
theorem ok__law_table (T : Txt K mg) : FnOk P w K mg base CX0 1 T.f__law_table T.d__law_table ["_law_size_so"] (sp_table) := by
  refine T.F__law_table.ok sc__law_table (fun vs H Q E h => ?_) (fun cdv A outer s H vs Q E hr h => ?_)
  · obtain ⟨s, rfl, _⟩ := h
    rfl
  · obtain ⟨s0, rfl, hs, q⟩ := h
    refine ⟨_, (pss_cons (ps_set (i := 1) sc__law_table.nd rfl (.inl rfl) (pe_lst (pa_cons (pe_tup (pa_cons pe_int (pa_cons pe_int (pa_cons (pe_lst (pa_cons pe_int pa_nil)) (pa_cons (pe_lst (pa_cons pe_int (pa_cons pe_int (pa_cons pe_int (pa_cons pe_int pa_nil))))) (pa_cons (pe_lst (pa_cons pe_int (pa_cons pe_int (pa_cons pe_int (pa_cons pe_int pa_nil))))) pa_nil)))))) (pa_cons (pe_tup (pa_cons pe_int (pa_cons pe_int (pa_cons (pe_lst (pa_cons pe_int (pa_cons pe_int pa_nil))) (pa_cons (pe_lst (pa_cons pe_int (pa_cons pe_int (pa_cons pe_int (pa_cons pe_int pa_nil))))) (pa_cons (pe_lst (pa_cons pe_int (pa_cons pe_int (pa_cons pe_int (pa_cons pe_int pa_nil))))) pa_nil)))))) pa_nil))))
      (pss_cons (ps_set (i := 2) sc__law_table.nd rfl (.inl rfl) (pe_tup (pa_cons (pe_lst (pa_cons pe_int (pa_cons pe_int (pa_cons pe_int (pa_cons pe_int pa_nil))))) (pa_cons (pe_lst (pa_cons pe_int (pa_cons pe_int (pa_cons pe_int (pa_cons pe_int pa_nil))))) pa_nil))))
      (pss_cons (ps_for PassesOwn.never rfl (pi_seq (pe_tup (pa_cons (pe_tup (pa_cons pe_int (pa_cons (pe_lst (pa_cons pe_int pa_nil)) pa_nil))) (pa_cons (pe_tup (pa_cons pe_int (pa_cons (pe_lst (pa_cons pe_int (pa_cons pe_int pa_nil))) pa_nil))) (pa_cons (pe_tup (pa_cons pe_int (pa_cons (pe_lst (pa_cons pe_int (pa_cons pe_int (pa_cons pe_int pa_nil)))) pa_nil))) pa_nil))))) (pg_tup rfl (pgs_cons (pg_name (i := 3) sc__law_table.nd rfl (.inl rfl)) (pgs_cons (pg_name (i := 4) sc__law_table.nd rfl (.inl rfl)) pgs_nil))) (pss_one (ps_expr (pe_bm PySem.F.plainAttrs_list PySem.F.slot_list_append PySem.F.type_list_append mt_append (pv 1) (pa_cons (pe_op op_catT (pe_tup (pa_cons (pv 3) (pa_cons pe_int (pa_cons (pv 4) pa_nil)))) (pv 2)) pa_nil)))))
      (pss_one (ps_ret (pe_ix ix_list (pv 1) (pe_op op_sub (pv 0) pe_int) (fun _ _ => rfl))))))), ?_⟩
    refine ⟨(by show 1 ≤ sizeLine; decide), fun a1 n_a1 => ?_⟩
    have s_a1 := same_upd (o := .lst [V.int 4]) n_a1
    have x_a1 := upd_same (H := H) (a := a1) (o := .lst [V.int 4])
    generalize upd H a1 (.lst [V.int 4]) = H_a1 at s_a1 x_a1 ⊢
    have c_a1 := s_a1
    have f_a1 : H a1 = none := n_a1
    refine ⟨(by show 4 ≤ sizeLine; decide), fun a2 n_a2 => ?_⟩
    have s_a2 := same_upd (o := .lst [V.int 1, V.int 2, V.int 3, V.int 3]) n_a2
    have x_a2 := upd_same (H := H_a1) (a := a2) (o := .lst [V.int 1, V.int 2, V.int 3, V.int 3])
    generalize upd H_a1 a2 (.lst [V.int 1, V.int 2, V.int 3, V.int 3]) = H_a2 at s_a2 x_a2 ⊢
    have c_a2 := c_a1.trans s_a2
    have f_a2 : H a2 = none := Same.free c_a1 n_a2
    refine ⟨(by show 4 ≤ sizeLine; decide), fun a3 n_a3 => ?_⟩
    have s_a3 := same_upd (o := .lst [V.int 0, V.int 1, V.int 3, V.int 6]) n_a3
    have x_a3 := upd_same (H := H_a2) (a := a3) (o := .lst [V.int 0, V.int 1, V.int 3, V.int 6])
    generalize upd H_a2 a3 (.lst [V.int 0, V.int 1, V.int 3, V.int 6]) = H_a3 at s_a3 x_a3 ⊢
    have c_a3 := c_a2.trans s_a3
    have f_a3 : H a3 = none := Same.free c_a2 n_a3
    refine ⟨(by show 5 ≤ sizeLine; decide), fun t0 n_t0 => ?_⟩
    have s_t0 := same_upd (o := .tup [V.int 8, V.int 4, V.ref a1, V.ref a2, V.ref a3]) n_t0
    have x_t0 := upd_same (H := H_a3) (a := t0) (o := .tup [V.int 8, V.int 4, V.ref a1, V.ref a2, V.ref a3])
    generalize upd H_a3 t0 (.tup [V.int 8, V.int 4, V.ref a1, V.ref a2, V.ref a3]) = H_t0 at s_t0 x_t0 ⊢
    have c_t0 := c_a3.trans s_t0
    have f_t0 : H t0 = none := Same.free c_a3 n_t0
    refine ⟨(by show 2 ≤ sizeLine; decide), fun b1 n_b1 => ?_⟩
    have s_b1 := same_upd (o := .lst [V.int 10, V.int 10]) n_b1
    have x_b1 := upd_same (H := H_t0) (a := b1) (o := .lst [V.int 10, V.int 10])
    generalize upd H_t0 b1 (.lst [V.int 10, V.int 10]) = H_b1 at s_b1 x_b1 ⊢
    have c_b1 := c_t0.trans s_b1
    have f_b1 : H b1 = none := Same.free c_t0 n_b1
    refine ⟨(by show 4 ≤ sizeLine; decide), fun b2 n_b2 => ?_⟩
    have s_b2 := same_upd (o := .lst [V.int 2, V.int 4, V.int 6, V.int 8]) n_b2
    have x_b2 := upd_same (H := H_b1) (a := b2) (o := .lst [V.int 2, V.int 4, V.int 6, V.int 8])
    generalize upd H_b1 b2 (.lst [V.int 2, V.int 4, V.int 6, V.int 8]) = H_b2 at s_b2 x_b2 ⊢
    have c_b2 := c_b1.trans s_b2
    have f_b2 : H b2 = none := Same.free c_b1 n_b2
    refine ⟨(by show 4 ≤ sizeLine; decide), fun b3 n_b3 => ?_⟩
    have s_b3 := same_upd (o := .lst [V.int 0, V.int 2, V.int 6, V.int 3]) n_b3
    have x_b3 := upd_same (H := H_b2) (a := b3) (o := .lst [V.int 0, V.int 2, V.int 6, V.int 3])
    generalize upd H_b2 b3 (.lst [V.int 0, V.int 2, V.int 6, V.int 3]) = H_b3 at s_b3 x_b3 ⊢
    have c_b3 := c_b2.trans s_b3
    have f_b3 : H b3 = none := Same.free c_b2 n_b3
    refine ⟨(by show 5 ≤ sizeLine; decide), fun t1 n_t1 => ?_⟩
    have s_t1 := same_upd (o := .tup [V.int 12, V.int 4, V.ref b1, V.ref b2, V.ref b3]) n_t1
    have x_t1 := upd_same (H := H_b3) (a := t1) (o := .tup [V.int 12, V.int 4, V.ref b1, V.ref b2, V.ref b3])
    generalize upd H_b3 t1 (.tup [V.int 12, V.int 4, V.ref b1, V.ref b2, V.ref b3]) = H_t1 at s_t1 x_t1 ⊢
    have c_t1 := c_b3.trans s_t1
    have f_t1 : H t1 = none := Same.free c_b3 n_t1
    refine ⟨(by show 2 ≤ sizeLine; decide), fun R n_R => ?_⟩
    have s_R := same_upd (o := .lst [V.ref t0, V.ref t1]) n_R
    have x_R := upd_same (H := H_t1) (a := R) (o := .lst [V.ref t0, V.ref t1])
    generalize upd H_t1 R (.lst [V.ref t0, V.ref t1]) = H_R at s_R x_R ⊢
    have c_R := c_t1.trans s_R
    have f_R : H R = none := Same.free c_t1 n_R
    refine ⟨(by show 4 ≤ sizeLine; decide), fun l1 n_l1 => ?_⟩
    have s_l1 := same_upd (o := .lst [V.int 4, V.int 8, V.int 10, V.int 12]) n_l1
    have x_l1 := upd_same (H := H_R) (a := l1) (o := .lst [V.int 4, V.int 8, V.int 10, V.int 12])
    generalize upd H_R l1 (.lst [V.int 4, V.int 8, V.int 10, V.int 12]) = H_l1 at s_l1 x_l1 ⊢
    have c_l1 := c_R.trans s_l1
    have f_l1 : H l1 = none := Same.free c_R n_l1
    refine ⟨(by show 4 ≤ sizeLine; decide), fun l2 n_l2 => ?_⟩
    have s_l2 := same_upd (o := .lst [V.int 0, V.int 60, V.int 120, V.int 180]) n_l2
    have x_l2 := upd_same (H := H_l1) (a := l2) (o := .lst [V.int 0, V.int 60, V.int 120, V.int 180])
    generalize upd H_l1 l2 (.lst [V.int 0, V.int 60, V.int 120, V.int 180]) = H_l2 at s_l2 x_l2 ⊢
    have c_l2 := c_l1.trans s_l2
    have f_l2 : H l2 = none := Same.free c_l1 n_l2
    refine ⟨(by show 2 ≤ sizeLine; decide), fun Lt n_Lt => ?_⟩
    have s_Lt := same_upd (o := .tup [V.ref l1, V.ref l2]) n_Lt
    have x_Lt := upd_same (H := H_l2) (a := Lt) (o := .tup [V.ref l1, V.ref l2])
    generalize upd H_l2 Lt (.tup [V.ref l1, V.ref l2]) = H_Lt at s_Lt x_Lt ⊢
    have c_Lt := c_l2.trans s_Lt
    have f_Lt : H Lt = none := Same.free c_l2 n_Lt
    refine ⟨(by show 1 ≤ sizeLine; decide), fun p0 n_p0 => ?_⟩
    have s_p0 := same_upd (o := .lst [V.int 22]) n_p0
    have x_p0 := upd_same (H := H_Lt) (a := p0) (o := .lst [V.int 22])
    generalize upd H_Lt p0 (.lst [V.int 22]) = H_p0 at s_p0 x_p0 ⊢
    have c_p0 := c_Lt.trans s_p0
    have f_p0 : H p0 = none := Same.free c_Lt n_p0
    refine ⟨(by show 2 ≤ sizeLine; decide), fun u0 n_u0 => ?_⟩
    have s_u0 := same_upd (o := .tup [V.int 16, V.ref p0]) n_u0
    have x_u0 := upd_same (H := H_p0) (a := u0) (o := .tup [V.int 16, V.ref p0])
    generalize upd H_p0 u0 (.tup [V.int 16, V.ref p0]) = H_u0 at s_u0 x_u0 ⊢
    have c_u0 := c_p0.trans s_u0
    have f_u0 : H u0 = none := Same.free c_p0 n_u0
    refine ⟨(by show 2 ≤ sizeLine; decide), fun p1 n_p1 => ?_⟩
    have s_p1 := same_upd (o := .lst [V.int 19, V.int 19]) n_p1
    have x_p1 := upd_same (H := H_u0) (a := p1) (o := .lst [V.int 19, V.int 19])
    generalize upd H_u0 p1 (.lst [V.int 19, V.int 19]) = H_p1 at s_p1 x_p1 ⊢
    have c_p1 := c_u0.trans s_p1
    have f_p1 : H p1 = none := Same.free c_u0 n_p1
    refine ⟨(by show 2 ≤ sizeLine; decide), fun u1 n_u1 => ?_⟩
    have s_u1 := same_upd (o := .tup [V.int 20, V.ref p1]) n_u1
    have x_u1 := upd_same (H := H_p1) (a := u1) (o := .tup [V.int 20, V.ref p1])
    generalize upd H_p1 u1 (.tup [V.int 20, V.ref p1]) = H_u1 at s_u1 x_u1 ⊢
    have c_u1 := c_p1.trans s_u1
    have f_u1 : H u1 = none := Same.free c_p1 n_u1
    refine ⟨(by show 3 ≤ sizeLine; decide), fun p2 n_p2 => ?_⟩
    have s_p2 := same_upd (o := .lst [V.int 20, V.int 19, V.int 19]) n_p2
    have x_p2 := upd_same (H := H_u1) (a := p2) (o := .lst [V.int 20, V.int 19, V.int 19])
    generalize upd H_u1 p2 (.lst [V.int 20, V.int 19, V.int 19]) = H_p2 at s_p2 x_p2 ⊢
    have c_p2 := c_u1.trans s_p2
    have f_p2 : H p2 = none := Same.free c_u1 n_p2
    refine ⟨(by show 2 ≤ sizeLine; decide), fun u2 n_u2 => ?_⟩
    have s_u2 := same_upd (o := .tup [V.int 24, V.ref p2]) n_u2
    have x_u2 := upd_same (H := H_p2) (a := u2) (o := .tup [V.int 24, V.ref p2])
    generalize upd H_p2 u2 (.tup [V.int 24, V.ref p2]) = H_u2 at s_u2 x_u2 ⊢
    have c_u2 := c_p2.trans s_u2
    have f_u2 : H u2 = none := Same.free c_p2 n_u2
    refine ⟨(by show 3 ≤ sizeLine; decide), fun U n_U => ?_⟩
    have s_U := same_upd (o := .tup [V.ref u0, V.ref u1, V.ref u2]) n_U
    have x_U := upd_same (H := H_u2) (a := U) (o := .tup [V.ref u0, V.ref u1, V.ref u2])
    generalize upd H_u2 U (.tup [V.ref u0, V.ref u1, V.ref u2]) = H_U at s_U x_U ⊢
    have c_U := c_u2.trans s_U
    have f_U : H U = none := Same.free c_u2 n_U
    have d_U := Same.refl H_U
    have d_u2 := s_U.trans d_U
    have d_p2 := s_u2.trans d_u2
    have d_u1 := s_p2.trans d_p2
    have d_p1 := s_u1.trans d_u1
    have d_u0 := s_p1.trans d_p1
    have d_p0 := s_u0.trans d_u0
    have d_Lt := s_p0.trans d_p0
    have d_l2 := s_Lt.trans d_Lt
    have d_l1 := s_l2.trans d_l2
    have d_R := s_l1.trans d_l1
    have d_t1 := s_R.trans d_R
    have d_b3 := s_t1.trans d_t1
    have d_b2 := s_b3.trans d_b3
    have d_b1 := s_b2.trans d_b2
    have d_t0 := s_b1.trans d_b1
    have d_a3 := s_t0.trans d_t0
    have d_a2 := s_a3.trans d_a3
    have d_a1 := s_a2.trans d_a2
    clear n_a1 n_a2 n_a3 n_t0 n_b1 n_b2 n_b3 n_t1 n_R n_l1 n_l2 n_Lt n_p0 n_u0 n_p1 n_u1 n_p2 n_u2 n_U
    have g_R := d_R _ _ x_R
    have hit : ∀ i, i < 3 → ∃ u l : Addr, [V.ref u0, V.ref u1, V.ref u2][i]? = some (V.ref u) ∧ H_U u = some (.tup [vN (sideL.getD (2 + i) 0), .ref l]) ∧ H_U l = some (.lst ((blkF (2 + i)).map vN)) ∧ H l = none ∧ bitsF (2 + i) = 8 ∧ cksL.getD (2 + i) [] = [4, 8, 10, 12] := by
      intro i h3
      have : i = 0 ∨ i = 1 ∨ i = 2 := by omega
      rcases this with rfl | rfl | rfl
      · exact ⟨u0, p0, rfl, d_u0 _ _ x_u0, d_p0 _ _ x_p0, f_p0, rfl, rfl⟩
      · exact ⟨u1, p1, rfl, d_u1 _ _ x_u1, d_p1 _ _ x_p1, f_p1, rfl, rfl⟩
      · exact ⟨u2, p2, rfl, d_u2 _ _ x_u2, d_p2 _ _ x_p2, f_p2, rfl, rfl⟩
    have row0 : ∀ (j : Nat) (t : Addr), [t0, t1][j]? = some t → TabRow H H_U t j := by
      intro j t e
      have hj : j < 2 := (List.getElem?_eq_some_iff.mp e).1
      have : j = 0 ∨ j = 1 := by omega
      rcases this with rfl | rfl
      · cases e
        exact ⟨a1, a2, a3, d_t0 _ _ x_t0, d_a1 _ _ x_a1, d_a2 _ _ x_a2, f_t0, f_a1⟩
      · cases e
        exact ⟨b1, b2, b3, d_t1 _ _ x_t1, d_b1 _ _ x_b1, d_b2 _ _ x_b2, f_t1, f_b1⟩
    have gU : ∀ H', Kp R H_U H' → H' U = some (.tup [V.ref u0, V.ref u1, V.ref u2]) := fun H' kp => kp _ _ x_U (fun z => by rw [← z, x_U] at g_R; cases g_R)
    refine ⟨U, _, false, rfl, .inl (.inl x_U), ?_⟩
    refine for_it (walk_seq (b := false) (K := K) (a := U) (xs := [V.ref u0, V.ref u1, V.ref u2])) (fun i σ H' => ∃ (z3 z4 : Option V) (ts : List Addr), σ = [some (.int ((s0 : Int) + 1)), some (.ref R), some (.ref Lt), z3, z4] ∧ Kp R H_U H' ∧ H' R = some (.lst (ts.map V.ref)) ∧ ts.length = 2 + i ∧ ∀ (j : Nat) (t : Addr), ts[j]? = some t → TabRow H H' t j)
      ⟨_, _, [t0, t1], rfl, Same.kp (Same.refl _), g_R, rfl, row0⟩ (fun i σ H' _ ⟨_, _, _, _, kp, _⟩ => .inl (.inl (gU H' kp))) ?_ ?_
    · rintro i x σ H1 H2 hi ⟨z3, z4, ts, rfl, kp, gR, lt, rows⟩ ⟨rfl, e2⟩
      have hi3 : i < 3 := hi
      obtain ⟨u, l, eu, hu, hl, fl, eb, ec⟩ := hit i hi3
      replace e2 : [V.ref u0, V.ref u1, V.ref u2][i]? = some x := e2
      rw [eu] at e2
      obtain rfl := (Option.some.inj e2).symm
      have kv : ∀ {c : Addr} {o : HO}, H_U c = some o → o ≠ .lst [V.ref t0, V.ref t1] → H2 c = some o := fun h n => kp _ _ h (fun z => n (by rw [z, g_R] at h; exact (Option.some.inj h).symm))
      have hu2 := kv hu (by intro z; cases z)
      have hl2 := kv hl (word_ne (L := [t0, t1]) _ (by show 0 < 2; decide))
      refine ⟨u, [_, _], rfl, .inl (.inl hu2), rfl, _, [_], rfl, _, [], rfl, rfl, ?_⟩
      refine ⟨_, rfl, .inl ⟨rfl, _, .inl (.inl gR)⟩, ?_⟩
      refine ⟨_, rfl, _, rfl, (by show 3 ≤ sizeLine; decide), fun v nv => ?_⟩
      have sv := same_upd (o := .tup [vN (sideL.getD (2 + i) 0), V.int 8, V.ref l]) nv
      have xv := upd_same (H := H2) (a := v) (o := .tup [vN (sideL.getD (2 + i) 0), V.int 8, V.ref l])
      have gL := kv (d_Lt _ _ x_Lt) (by intro z; cases z)
      generalize upd H2 v (.tup [vN (sideL.getD (2 + i) 0), V.int 8, V.ref l]) = H3 at sv xv ⊢
      refine ⟨_, rfl, v, Lt, _, _, rfl, rfl, .inl (.inl xv), .inl (.inl (sv _ _ gL)), (by intro z; cases z), (by show 5 ≤ sizeLine; decide), (fun z => by cases z), fun _ tt ntt => ?_⟩
      have st := same_upd (o := .tup ([vN (sideL.getD (2 + i) 0), V.int 8, V.ref l] ++ [V.ref l1, V.ref l2])) ntt
      have xt := upd_same (H := H3) (a := tt) (o := .tup ([vN (sideL.getD (2 + i) 0), V.int 8, V.ref l] ++ [V.ref l1, V.ref l2]))
      have ftt : H tt = none := by
        cases hh : H tt with
        | none => rfl
        | some o =>
          have h1 := c_U _ _ hh
          have ne : tt ≠ R := fun z => by rw [z, f_R] at hh; cases hh
          have h2 := (sv _ _ (kp _ _ h1 ne)).symm.trans ntt
          cases h2
      generalize upd H3 tt (.tup ([vN (sideL.getD (2 + i) 0), V.int 8, V.ref l] ++ [V.ref l1, V.ref l2])) = H4 at st xt ⊢
      have s24 := sv.trans st
      have gR4 := s24 _ _ gR
      refine ⟨R, _, _, rfl, rfl, gR4, small1000 (by rw [List.length_map]; omega), ?_⟩
      have nttR : tt ≠ R := fun z => by rw [z, gR4] at xt; cases xt
      have kp5 : Kp R H4 (upd H4 R (.lst (ts.map V.ref ++ [V.ref tt]))) := Kp.upd
      refine ⟨_, _, ts ++ [tt], rfl, (kp.trans (Same.kp s24)).trans kp5, by rw [upd_same, List.map_append]; rfl, by rw [List.length_append, lt]; rfl, fun j t e => ?_⟩
      have ge2 : 0 < ts.length := by omega
      by_cases cj : j < ts.length
      · rw [List.getElem?_append_left cj] at e
        exact ((rows j t e).same s24).kp kp5 gR4 ge2
      · have hj := (List.getElem?_eq_some_iff.mp e).1
        rw [List.length_append] at hj
        have ej : j = 2 + i := by simp at hj; omega
        subst ej
        rw [List.getElem?_append_right (by omega), lt, Nat.sub_self] at e
        cases e
        have TR : TabRow H H4 tt (2 + i) := ⟨l, l1, l2, by rw [eb]; exact xt, s24 _ _ hl2, by rw [ec]; exact s24 _ _ (kv (d_l1 _ _ x_l1) (by intro z; cases z)), ftt, fl⟩
        exact TR.kp kp5 gR4 ge2
    · rintro σ H1 ⟨z3, z4, ts, rfl, kp, gR, lt, rows⟩
      have l5 : ts.length = 5 := lt
      have et : ts[s0]? = some (ts[s0]'(by omega)) := List.getElem?_eq_getElem _
      generalize ts[s0]'(by omega) = t at et
      obtain ⟨c1, c2, c3, g1, g2, g3, f1, f2⟩ := rows s0 t et
      refine ⟨_, rfl, _, rfl, _, _, rfl, rfl, R, _, _, .ref t, rfl, rfl, .inl (.inl gR), ?_, q t c1 c2 c3 H1 ?_ f1 f2 g1 g2 g3⟩
      · rw [show (s0 : Int) + 1 - 1 = (s0 : Int) by omega]
        exact atI_nat (by rw [List.getElem?_map, et]; rfl)
      · exact fun b o hb => kp _ _ (c_U _ _ hb) (ne_of_none hb f_R)
/-! CUT -/
def sp_pick : Sp := fun vs H Q _ => ∃ (p l : Addr) (a b c : Int) (xs : List V), vs = [.ref p, .ref l] ∧ p ≠ l ∧ H p = some (WellL a b c) ∧ H l = some (.lst xs) ∧ 0 < xs.length ∧ xs.length ≤ 1000 ∧ ∀ (i : Nat) (v : V) (a' c' : Int), xs[i]? = some v → Q v (upd H p (WellL a' b c'))
theorem ok__law_pick (T : Txt K mg) : FnOk P w K mg base CX0 2 T.f__law_pick T.d__law_pick ["_law_source", "_law_some"] sp_pick := by
  refine T.F__law_pick.ok sc__law_pick (fun vs H Q E h => ?_) (fun cdv A outer s H vs Q E hr h => ?_)
  · obtain ⟨p, l, a, b, c, xs, rfl, _⟩ := h
    rfl
  · obtain ⟨p, l, a, b, c, xs, rfl, hpl, hp, hl, l0, l1, q⟩ := h
    refine ⟨_, (pss_one (ps_ret (pe_ix ix_list (pv 1) (pe_call (ok__law_next T) (hr.mono (by decide)) (by rfl) T.g__law_next T.F__law_next.kp T.b__law_next .nil pass0 (pa_cons (pv 0) (pa_cons (pe_callB call_len_seq (by rfl) T.n_len (by decide +kernel) (pa_cons (pv 1) pa_nil)) pa_nil))) (fun _ _ => rfl)))), ?_⟩
    refine ⟨_, rfl, _, rfl, _, rfl, l, xs, rfl, .inl (.inl (.inl hl)), p, a, b, c, _, rfl, hp, by omega, by omega, fun n a' c' n0 n1 => ?_⟩
    obtain ⟨k, rfl⟩ := Int.eq_ofNat_of_zero_le n0
    have hk : k < xs.length := by omega
    exact ⟨l, xs, (k : Int), xs[k], rfl, rfl, .inl (.inl (by rw [upd_ne hpl.symm]; exact hl)), atI_nat (List.getElem?_eq_getElem hk), q k _ a' c' (List.getElem?_eq_getElem hk)⟩
/-! CUT -/
/-! ### the law's way -/
theorem sub2 {m : Nat} (h : 8 ≤ m) : (m : Int) - 2 = ((m - 2 : Nat) : Int) := by omega
theorem eA1 {m : Nat} (h : 8 ≤ m) (a : Nat) : 1 + (0 + (a : Int)) / ((m : Int) - 2) = ((1 + a / (m - 2) : Nat) : Int) := by
  rw [sub2 h, Int.zero_add]
  exact (Int.natCast_add 1 (a / (m - 2))).symm
theorem eA2 {m : Nat} (h : 8 ≤ m) (a : Nat) : 1 + (0 + (a : Int)) % ((m : Int) - 2) = ((1 + a % (m - 2) : Nat) : Int) := by
  rw [sub2 h, Int.zero_add]
  exact (Int.natCast_add 1 (a % (m - 2))).symm
theorem eB1 {m : Nat} (h : 8 ≤ m) (a : Nat) : (m : Int) - 2 - (0 + (a : Int)) % ((m : Int) - 2) = ((m - 2 - a % (m - 2) : Nat) : Int) := by
  rw [sub2 h, Int.zero_add]
  have l : a % (m - 2) < m - 2 := Nat.mod_lt _ (by omega)
  exact (Int.ofNat_sub (Nat.le_of_lt l)).symm
theorem eN {m : Nat} (h : 8 ≤ m) : ((m : Int) - 2) * ((m : Int) - 2) = (((m - 2) * (m - 2) : Nat) : Int) := by
  rw [sub2 h]
  rfl
def sp_rib : Sp := fun vs H Q _ => ∃ m : Nat, vs = [vN m] ∧ 8 ≤ m ∧ m ≤ 24 ∧ ∀ (F A B : Addr) (LA LB : List Addr) H', Same H H' → H' F = some (.lst [.ref A, .ref B]) → H' A = some (.lst (LA.map V.ref)) → H' B = some (.lst (LB.map V.ref)) → Spots H' LA (ribA m ((m - 2) * (m - 2))) → Spots H' LB (ribB m ((m - 2) * (m - 2))) → Q (.ref F) H'
theorem ok__law_ribbons (T : Txt K mg) : FnOk P w K mg base CX0 1 T.f__law_ribbons T.d__law_ribbons ["_law_many"] sp_rib := by
  refine T.F__law_ribbons.ok sc__law_ribbons (fun vs H Q E h => ?_) (fun cdv A outer s H vs Q E hr h => ?_)
  · obtain ⟨m, rfl, _⟩ := h
    rfl
  · obtain ⟨m, rfl, m1, m2, q⟩ := h
    refine ⟨_, (pss_cons (ps_par (i := 1) (j := 2) (by rfl) sc__law_ribbons.nd rfl rfl (by decide) rfl rfl (pa_cons (pe_lst pa_nil) (pa_cons (pe_lst pa_nil) pa_nil)) (by rfl))
      (pss_cons (ps_for PassesOwn.never rfl (pi_range1 (by rfl) T.n_range (pa_cons (pe_op op_mul (pe_op op_sub (pv 0) pe_int) (pe_op op_sub (pv 0) pe_int)) pa_nil)) (pg_name (i := 3) sc__law_ribbons.nd rfl (.inl rfl)) (pss_cons (ps_set (i := 4) sc__law_ribbons.nd rfl (.inl rfl) (pe_tup (pa_cons (pe_op op_add pe_int (pe_op op_fdiv (pv 3) (pe_op op_sub (pv 0) pe_int))) (pa_cons (pe_op op_add pe_int (pe_op op_mod (pe_callTy call_int1 (by rfl) T.n_int (by decide +kernel) (pa_cons (pv 3) pa_nil)) (pe_op op_sub (pv 0) pe_int))) pa_nil))))
      (pss_one (ps_if (pt_cmpR op_lt (pe_callB call_len_seq (by rfl) T.n_len (by decide +kernel) (pa_cons (pv 1) pa_nil)) pe_int (nomark _)) (pss_one (ps_expr (pe_bm PySem.F.plainAttrs_list PySem.F.slot_list_append PySem.F.type_list_append mt_append (pv 1) (pa_cons (pv 4) pa_nil)))) pss_nil))))
      (pss_cons (ps_for PassesOwn.never rfl (pi_range1 (by rfl) T.n_range (pa_cons (pe_op op_mul (pe_op op_sub (pv 0) pe_int) (pe_op op_sub (pv 0) pe_int)) pa_nil)) (pg_name (i := 3) sc__law_ribbons.nd rfl (.inl rfl)) (pss_cons (ps_set (i := 4) sc__law_ribbons.nd rfl (.inl rfl) (pe_tup (pa_cons (pe_op op_sub (pe_op op_sub (pv 0) pe_int) (pe_op op_mod (pe_callTy call_int1 (by rfl) T.n_int (by decide +kernel) (pa_cons (pv 3) pa_nil)) (pe_op op_sub (pv 0) pe_int))) (pa_cons (pe_op op_add pe_int (pe_op op_fdiv (pv 3) (pe_op op_sub (pv 0) pe_int))) pa_nil))))
      (pss_one (ps_if (PW.pt (pw_and (pt_cmpR op_lt (pe_callB call_len_seq (by rfl) T.n_len (by decide +kernel) (pa_cons (pv 2) pa_nil)) pe_int (nomark _)) (pw_and1 (pt_cmpR (op_notInD (un1 hr)) (pv 4) (pv 1) (by rfl))))) (pss_one (ps_expr (pe_bm PySem.F.plainAttrs_list PySem.F.slot_list_append PySem.F.type_list_append mt_append (pv 2) (pa_cons (pv 4) pa_nil)))) pss_nil))))
      (pss_one (ps_ret (pe_lst (pa_cons (pv 1) (pa_cons (pv 2) pa_nil)))))))), ?_⟩
    have q2 : (m - 2) * (m - 2) ≤ 484 := Nat.mul_le_mul (show m - 2 ≤ 22 by omega) (show m - 2 ≤ 22 by omega)
    have eN1 := eN m1
    refine ⟨(by show 0 ≤ sizeLine; decide), fun a na => ⟨(by show 0 ≤ sizeLine; decide), fun b nb => ?_⟩⟩
    have sa := same_upd (o := .lst []) na
    have sb := same_upd (o := .lst []) nb
    have ga := sb _ _ (upd_same (H := H) (a := a) (o := .lst []))
    have gb := upd_same (H := upd H a (.lst [])) (a := b) (o := .lst [])
    have nb0 : H b = none := Same.free sa nb
    have nab : a ≠ b := fun e => by rw [← e, upd_same] at nb; cases nb
    have s0 := sa.trans sb
    generalize (upd (upd H a (.lst [])) b (.lst [])) = H1 at s0 ga gb ⊢
    clear sa sb nb
    refine ⟨_, _, rfl, ?_⟩
    refine ⟨_, rfl, _, _, rfl, rfl, _, rfl, _, _, rfl, rfl, _, _, rfl, rfl, .inl ⟨by omega, by omega⟩, (((m - 2) * (m - 2) : Nat) : Int), congrArg (fun z => [V.int z]) eN1, by omega, by omega, ?_⟩
    refine for_range (lo := 0) (n := (m - 2) * (m - 2)) (fun i σ H' => ∃ (z3 z4 : Option V) (LA : List Addr), σ = [some (vN m), some (.ref a), some (.ref b), z3, z4] ∧ Same H H' ∧ H' a = some (.lst (LA.map V.ref)) ∧ H' b = some (.lst []) ∧ Spots H' LA (ribA m i)) ⟨_, _, [], rfl, s0, ga, gb, .nil⟩ ?_ ?_
    · rintro i σ H2 hi ⟨z3, z4, LA, rfl, s2, ga2, gb2, sp⟩
      refine ⟨_, rfl, _, rfl, _, _, rfl, rfl, _, _, rfl, rfl, ⟨by omega, by omega⟩, _, _, rfl, rfl, ?_⟩
      refine ⟨_, rfl, .inl ⟨_, rfl, _, rfl, _, _, rfl, rfl, _, _, rfl, rfl, by omega, _, _, rfl, rfl, (by show 2 ≤ sizeLine; decide), fun t nt => ?_⟩⟩
      have st := same_upd (o := .tup [.int (1 + (0 + (i : Int)) / ((m : Int) - 2)), .int (1 + (0 + (i : Int)) % ((m : Int) - 2))]) nt
      have gt : (upd H2 t (.tup [.int (1 + (0 + (i : Int)) / ((m : Int) - 2)), .int (1 + (0 + (i : Int)) % ((m : Int) - 2))])) t = some (tQ (spA m i)) := by
        rw [upd_same, eA1 m1, eA2 m1]
        rfl
      generalize (upd H2 t (.tup [.int (1 + (0 + (i : Int)) / ((m : Int) - 2)), .int (1 + (0 + (i : Int)) % ((m : Int) - 2))])) = H3 at st gt ⊢
      have s3 := s2.trans st
      have ga3 := st _ _ ga2
      have gb3 := st _ _ gb2
      have sp3 := sp.same st
      refine ⟨_, rfl, a, _, rfl, .inl (.inl (.inl ga3)), _, _, rfl, rfl, _, rfl, ?_⟩
      have lt : (LA.map V.ref).length = (ribA m i).length := by rw [List.length_map, sp.len]
      refine ite2 (fun c => ?_) (fun c => ?_)
      · have c2 := of_decide_eq_true c
        have c3 : (ribA m i).length < 10 := by omega
        refine ⟨_, rfl, .inl ⟨rfl, _, .inl (.inl ga3)⟩, _, rfl, a, _, _, rfl, rfl, ga3, small1000 (by omega), ?_⟩
        have s4 : Same H (upd H3 a (.lst (LA.map V.ref ++ [.ref t]))) := fun x o hx => by
          rw [upd_ne (ne_of_none hx na)]
          exact s3 _ _ hx
        refine ⟨_, _, LA ++ [t], rfl, s4, by rw [upd_same, List.map_append]; rfl, by rw [upd_ne nab.symm]; exact gb3, ?_⟩
        rw [ribA_step, if_pos c3]
        exact (sp3.snoc gt).keep fun x xs hx => by rw [upd_ne (fun e => by rw [e, ga3] at hx; cases hx)]; exact hx
      · have c3 : ¬ (ribA m i).length < 10 := fun z => c (decide_eq_true (by omega))
        refine ⟨_, _, LA, rfl, s3, ga3, gb3, ?_⟩
        rw [ribA_step, if_neg c3]
        exact sp3
    · rintro σ H2 ⟨z3, z4, LA, rfl, s2, ga2, gb2, sp⟩
      refine ⟨_, rfl, _, _, rfl, rfl, _, rfl, _, _, rfl, rfl, _, _, rfl, rfl, .inl ⟨by omega, by omega⟩, (((m - 2) * (m - 2) : Nat) : Int), congrArg (fun z => [V.int z]) eN1, by omega, by omega, ?_⟩
      refine for_range (lo := 0) (n := (m - 2) * (m - 2)) (fun i σ H' => ∃ (z3 z4 : Option V) (LB : List Addr), σ = [some (vN m), some (.ref a), some (.ref b), z3, z4] ∧ Same H H' ∧ H' a = some (.lst (LA.map V.ref)) ∧ H' b = some (.lst (LB.map V.ref)) ∧ Spots H' LA (ribA m ((m - 2) * (m - 2))) ∧ Spots H' LB (ribB m i)) ⟨_, _, [], rfl, s2, ga2, gb2, sp, .nil⟩ ?_ ?_
      · clear s2 ga2 gb2 sp z3 z4 H2
        rintro i σ H2 hi ⟨z3, z4, LB, rfl, s2, ga2, gb2, spA0, sp⟩
        refine ⟨_, rfl, _, _, rfl, rfl, _, rfl, .inl ⟨_, rfl, _, rfl, _, _, rfl, rfl, _, _, rfl, rfl, by omega, _, _, rfl, rfl, ?_⟩⟩
        refine ⟨_, rfl, _, rfl, _, _, rfl, rfl, _, _, rfl, rfl, ⟨by omega, by omega⟩, _, _, rfl, rfl, (by show 2 ≤ sizeLine; decide), fun t nt => ?_⟩
        have st := same_upd (o := .tup [.int ((m : Int) - 2 - (0 + (i : Int)) % ((m : Int) - 2)), .int (1 + (0 + (i : Int)) / ((m : Int) - 2))]) nt
        have gt : (upd H2 t (.tup [.int ((m : Int) - 2 - (0 + (i : Int)) % ((m : Int) - 2)), .int (1 + (0 + (i : Int)) / ((m : Int) - 2))])) t = some (tQ (spB m i)) := by
          rw [upd_same, eA1 m1, eB1 m1]
          rfl
        generalize (upd H2 t (.tup [.int ((m : Int) - 2 - (0 + (i : Int)) % ((m : Int) - 2)), .int (1 + (0 + (i : Int)) / ((m : Int) - 2))])) = H3 at st gt ⊢
        have s3 := s2.trans st
        have ga3 := st _ _ ga2
        have gb3 := st _ _ gb2
        have sp3 := sp.same st
        have spA3 := spA0.same st
        refine ⟨_, rfl, b, _, rfl, .inl (.inl (.inl gb3)), _, _, rfl, rfl, _, rfl, ?_⟩
        have lt : (LB.map V.ref).length = (ribB m i).length := by rw [List.length_map, sp.len]
        have stay : ¬((ribB m i).length < 10 ∧ spB m i ∉ ribA m ((m - 2) * (m - 2))) → Spots H3 LB (ribB m (i + 1)) := fun z => by
          rw [ribB_step, if_neg z]
          exact sp3
        refine ite2 (fun c => ?_) (fun c => ?_)
        · have c2 := of_decide_eq_true c
          have c3 : (ribB m i).length < 10 := by omega
          refine ⟨_, rfl, _, rfl, dQ (spB m i), (ribA m ((m - 2) * (m - 2))).map dQ, spot_dp gt, spA3.dp (.inl (.inl ga3)), dQ_shaped _, dQs_shaped _, _, rfl, ?_⟩
          rw [dQ_any]
          by_cases cm : (ribA m ((m - 2) * (m - 2))).contains (spB m i) = true
          · rw [cm]
            refine iteF ⟨_, _, LB, rfl, s3, ga3, gb3, spA3, stay fun z => z.2 (by simpa using cm)⟩
          · rw [Bool.not_eq_true] at cm
            rw [cm]
            have c4 : spB m i ∉ ribA m ((m - 2) * (m - 2)) := by simpa using cm
            refine iteT ⟨_, rfl, .inl ⟨rfl, _, .inl (.inl gb3)⟩, _, rfl, b, _, _, rfl, rfl, gb3, small1000 (by omega), ?_⟩
            have keep : ∀ x xs, H3 x = some (.tup xs) → (upd H3 b (.lst (LB.map V.ref ++ [.ref t]))) x = some (.tup xs) := fun x xs hx => by rw [upd_ne (fun e => by rw [e, gb3] at hx; cases hx)]; exact hx
            refine ⟨_, _, LB ++ [t], rfl, fun x o hx => ?_, by rw [upd_ne nab]; exact ga3, by rw [upd_same, List.map_append]; rfl, spA3.keep keep, ?_⟩
            · rw [upd_ne (ne_of_none hx nb0)]
              exact s3 _ _ hx
            · rw [ribB_step, if_pos ⟨c3, c4⟩]
              exact (sp3.snoc gt).keep keep
        · exact ⟨_, _, LB, rfl, s3, ga3, gb3, spA3, stay fun z => c (decide_eq_true (by omega))⟩
      · rintro σ H3 ⟨z3, z4, LB, rfl, s3, ga3, gb3, spA3, sp3⟩
        refine ⟨_, rfl, _, rfl, (by show 2 ≤ sizeLine; decide), fun F nF => ?_⟩
        have sF := same_upd (o := .lst [.ref a, .ref b]) nF
        exact q F a b LA LB _ (s3.trans sF) upd_same (sF _ _ ga3) (sF _ _ gb3) (spA3.same sF) (sp3.same sF)
/-! CUT -/
structure RwI (p : Addr) (H H' : Hp) (D : Addr) (M : List Addr) (g : Grid) (n : Nat) : Prop where
  kp : Kp p H H'
  out : H' D = some (.lst (M.map V.ref))
  len : M.length = g.length
  row : ∀ (j : Nat) (l : Addr) (r : List (Option Nat)), M[j]? = some l → g[j]? = some r → H' l = some (.lst (r.map vG)) ∧ l ≠ D
  sq : ∀ r ∈ g, r.length = n ∧ ∀ o ∈ r, DotOk o
  nod : M.Nodup
  new : ∀ (j : Nat) (l : Addr), M[j]? = some l → H l = none
  newD : H D = none
def sp_grid : Sp := fun vs H Q _ => ∃ (p : Addr) (a b c : Int) (n : Nat), vs = [.ref p, vN n] ∧ SideOk n ∧ H p = some (WellL a b c) ∧ ∀ (D : Addr) (M : List Addr) (g : Grid) (a' c' : Int) (H' : Hp), RwI p H H' D M g n → g.length = n → H' p = some (WellL a' b c') → Q (.ref D) H'
theorem ok__law_grid (T : Txt K mg) : FnOk P w K mg base CX0 3 T.f__law_grid T.d__law_grid ["_law_source", "_law_many"] sp_grid := by
  refine T.F__law_grid.ok sc__law_grid (fun vs H Q E h => ?_) (fun cdv A outer s H vs Q E hr h => ?_)
  · obtain ⟨p, a, b, c, n, rfl, _⟩ := h
    rfl
  · obtain ⟨p, a, b0, c, n, rfl, hn, hp, q⟩ := h
    refine ⟨_, (pss_cons (ps_par (i := 2) (j := 3) (by rfl) sc__law_grid.nd rfl rfl (by decide) rfl rfl (pa_cons (pe_call (ok__law_pick T) (hr.mono (by decide)) (by rfl) T.g__law_pick T.F__law_pick.kp T.b__law_pick .nil pass0 (pa_cons (pv 0) (pa_cons (pe_lst (pa_cons pe_int (pa_cons pe_int (pa_cons pe_int (pa_cons pe_int pa_nil))))) pa_nil))) (pa_cons (pe_lst pa_nil) pa_nil)) (by rfl))
      (pss_cons (ps_for PassesOwn.never rfl (pi_range1 (by rfl) T.n_range (pa_cons (pv 1) pa_nil)) (pg_name (i := 4) sc__law_grid.nd rfl (.inl rfl)) (pss_cons (ps_set (i := 5) sc__law_grid.nd rfl (.inl rfl) (pe_lst pa_nil))
      (pss_cons (ps_for PassesOwn.never rfl (pi_range1 (by rfl) T.n_range (pa_cons (pv 1) pa_nil)) (pg_name (i := 6) sc__law_grid.nd rfl (.inl rfl)) (pss_one (ps_expr (pe_bm PySem.F.plainAttrs_list PySem.F.slot_list_append PySem.F.type_list_append mt_append (pv 5) (pa_cons (pe_ifExp (pt_cmpR op_eq (pe_call (ok__law_next T) (hr.mono (by decide)) (by rfl) T.g__law_next T.F__law_next.kp T.b__law_next .nil pass0 (pa_cons (pv 0) (pa_cons (pv 2) pa_nil))) pe_int (nomark _)) pe_non (pe_call (ok__law_next T) (hr.mono (by decide)) (by rfl) T.g__law_next T.F__law_next.kp T.b__law_next .nil pass0 (pa_cons (pv 0) (pa_cons pe_int pa_nil)))) pa_nil)))))
      (pss_one (ps_expr (pe_bm PySem.F.plainAttrs_list PySem.F.slot_list_append PySem.F.type_list_append mt_append (pv 3) (pa_cons (pv 5) pa_nil)))))))
      (pss_one (ps_ret (pv 3))))), ?_⟩
    have nn := side_le hn
    refine ⟨_, rfl, (by show 4 ≤ sizeLine; decide), fun l hl => ?_⟩
    have npl := ne_of_none hp hl
    refine ⟨p, l, a, b0, c, _, rfl, npl, (same_upd hl) _ _ hp, upd_same, (by show 0 < 4; decide), (by show 4 ≤ 1000; decide), fun i v a1 c1 hv => ⟨(by show 0 ≤ sizeLine; decide), fun D hD => ⟨_, _, rfl, ?_⟩⟩⟩
    obtain ⟨sh, rfl, h0, h1⟩ : ∃ sh : Int, v = .int sh ∧ 0 < sh ∧ sh < 1073741824 := by
      have hm := List.mem_of_getElem? hv
      simp at hm
      rcases hm with rfl | rfl | rfl | rfl
      · exact ⟨2, rfl, by decide, by decide⟩
      · exact ⟨5, rfl, by decide, by decide⟩
      · exact ⟨30, rfl, by decide, by decide⟩
      · exact ⟨1000, rfl, by decide, by decide⟩
    have k1 : Kp p H (upd (upd H l (.lst [.int 2, .int 5, .int 30, .int 1000])) p (WellL a1 b0 c1)) := (Same.kp (same_upd hl)).trans Kp.upd
    have w1 : (upd (upd H l (.lst [.int 2, .int 5, .int 30, .int 1000])) p (WellL a1 b0 c1)) p = some (WellL a1 b0 c1) := upd_same
    generalize (upd (upd H l (.lst [.int 2, .int 5, .int 30, .int 1000])) p (WellL a1 b0 c1)) = H1 at k1 w1 hD ⊢
    have nDp : D ≠ p := fun e => by rw [e, w1] at hD; cases hD
    have hD0 : H D = none := by
      cases e : H D with
      | none => rfl
      | some o => rw [k1 _ _ e nDp] at hD; cases hD
    clear hv i npl hl
    refine ⟨_, rfl, (n : Int), rfl, by omega, by omega, ?_⟩
    refine for_range (lo := 0) (n := n) (fun i σ H' => ∃ (z4 z5 z6 : Option V) (M : List Addr) (g : Grid) (x z : Int), σ = [some (.ref p), some (vN n), some (.int sh), some (.ref D), z4, z5, z6] ∧ RwI p H H' D M g n ∧ g.length = i ∧ H' p = some (WellL x b0 z))
      ⟨_, _, _, [], [], _, _, rfl, ⟨k1.trans (Same.kp (same_upd hD)), upd_same, rfl, (fun j l r e => by cases e), (fun r hr => by cases hr), .nil, (fun j l e => by cases e), hD0⟩, rfl, (same_upd hD) _ _ w1⟩ ?_ ?_
    · rintro i σ H2 hi ⟨z4, z5, z6, M, g, x0, z0, rfl, R, lg, w2⟩
      refine ⟨(by show 0 ≤ sizeLine; decide), fun D2 hD2 => ?_⟩
      have nD2p : D2 ≠ p := fun e => by rw [e, w2] at hD2; cases hD2
      have nDD : D2 ≠ D := fun e => by rw [e, R.out] at hD2; cases hD2
      refine ⟨_, rfl, (n : Int), rfl, by omega, by omega, ?_⟩
      refine for_range (lo := 0) (n := n) (fun j σ H' => ∃ (z6 : Option V) (r : List (Option Nat)) (x z : Int), σ = [some (.ref p), some (vN n), some (.int sh), some (.ref D), some (.int (0 + (i : Int))), some (.ref D2), z6] ∧ Kp p H2 H' ∧ H' p = some (WellL x b0 z) ∧ r.length = j ∧ (∀ o ∈ r, DotOk o) ∧ H' D2 = some (.lst (r.map vG)))
        ⟨_, [], _, _, rfl, Same.kp (same_upd hD2), (same_upd hD2) _ _ w2, rfl, (fun o ho => by cases ho), upd_same⟩ ?_ ?_
      · rintro j σ H3 hj ⟨z6, r, x3, z3, rfl, k3, w3, lr, dr, g3⟩
        have push : ∀ (o : Option Nat) (v : V) (x z : Int) (H5 : Hp) (z6 : Option V), v = vG o → DotOk o → Kp p H2 H5 → H5 p = some (WellL x b0 z) → H5 D2 = some (.lst (r.map vG)) →
            ∃ (z6' : Option V) (r' : List (Option Nat)) (x z : Int), [some (.ref p), some (vN n), some (.int sh), some (.ref D), some (.int (0 + (i : Int))), some (.ref D2), z6] = [some (V.ref p), some (vN n), some (.int sh), some (.ref D), some (.int (0 + (i : Int))), some (.ref D2), z6'] ∧ Kp p H2 (upd H5 D2 (.lst (r.map vG ++ [v]))) ∧ (upd H5 D2 (.lst (r.map vG ++ [v]))) p = some (WellL x b0 z) ∧ r'.length = j + 1 ∧ (∀ o ∈ r', DotOk o) ∧ (upd H5 D2 (.lst (r.map vG ++ [v]))) D2 = some (.lst (r'.map vG)) := by
          rintro o v x z H5 z6 rfl ho k5 w5 g5
          refine ⟨_, r ++ [o], x, z, rfl, fun c0 o0 hc n0 => ?_, ?_, by rw [List.length_append, lr]; rfl, fun o' ho' => ?_, ?_⟩
          · rw [upd_ne (ne_of_none hc hD2)]
            exact k5 _ _ hc n0
          · rw [upd_ne nD2p.symm]
            exact w5
          · rcases List.mem_append.mp ho' with h | h
            · exact dr o' h
            · rw [List.mem_singleton.mp h]
              exact ho
          · rw [upd_same, List.map_append]
            rfl
        have small : (r.map vG).length < 1000 := by
          rw [List.length_map, lr]
          omega
        refine ⟨_, rfl, .inl ⟨rfl, _, .inl (.inl g3)⟩, _, rfl, _, rfl, p, x3, b0, z3, sh, rfl, w3, h0, h1, fun m x4 z4 m0 m1 => ⟨rfl, _, rfl, ?_⟩⟩
        have k4 : Kp p H2 (upd H3 p (WellL x4 b0 z4)) := k3.trans Kp.upd
        have g4 : (upd H3 p (WellL x4 b0 z4)) D2 = some (.lst (r.map vG)) := by rw [upd_ne nD2p]; exact g3
        refine ite2 (fun _ => ?_) (fun _ => ?_)
        · exact ⟨D2, _, _, rfl, rfl, g4, small1000 (Nat.le_of_lt small), push none _ _ _ _ _ rfl (.inl rfl) k4 upd_same g4⟩
        · refine ⟨_, rfl, p, x4, b0, z4, 2, rfl, upd_same, by decide, by decide, fun m2 x5 z5 m20 m21 => ?_⟩
          have k5 : Kp p H2 (upd (upd H3 p (WellL x4 b0 z4)) p (WellL x5 b0 z5)) := k4.trans Kp.upd
          have g5 : (upd (upd H3 p (WellL x4 b0 z4)) p (WellL x5 b0 z5)) D2 = some (.lst (r.map vG)) := by rw [upd_ne nD2p]; exact g4
          obtain ⟨o, eo, ho⟩ : ∃ o, V.int m2 = vG o ∧ DotOk o := by
            have : m2 = 0 ∨ m2 = 1 := by omega
            rcases this with rfl | rfl
            · exact ⟨some 0, rfl, .inr (.inl rfl)⟩
            · exact ⟨some 1, rfl, .inr (.inr rfl)⟩
          exact ⟨D2, _, _, rfl, rfl, g5, small1000 (Nat.le_of_lt small), push o _ _ _ _ _ eo ho k5 upd_same g5⟩
      · rintro σ H3 ⟨z6, r, x3, z3, rfl, k3, w3, lr, dr, g3⟩
        have gD3 := k3 _ _ R.out nDp
        refine ⟨_, rfl, .inl ⟨rfl, _, .inl (.inl gD3)⟩, _, rfl, D, _, _, rfl, rfl, gD3, ?_, ?_⟩
        · rw [List.length_map, R.len, lg]
          exact small1000 (by omega)
        refine ⟨_, _, _, M ++ [D2], g ++ [r], x3, z3, rfl, ⟨?_, ?_, ?_, ?_, ?_, ?_, ?_, R.newD⟩, by rw [List.length_append, lg]; rfl, ?_⟩
        · intro c0 o0 hc n0
          rw [upd_ne (ne_of_none hc hD0)]
          exact k3 _ _ (R.kp _ _ hc n0) n0
        · rw [upd_same, List.map_append]
          rfl
        · rw [List.length_append, List.length_append, R.len]
          rfl
        · intro j l0 r0 e1 e2
          by_cases cj : j < M.length
          · rw [List.getElem?_append_left cj] at e1
            rw [List.getElem?_append_left (by rw [← R.len]; exact cj)] at e2
            obtain ⟨q1, q2⟩ := R.row j l0 r0 e1 e2
            have nl : l0 ≠ p := fun e => by
              rw [e, w2] at q1
              have h3 := congrArg List.length (HO.lst.inj (Option.some.inj q1))
              rw [List.length_map, (R.sq r0 (List.mem_of_getElem? e2)).1] at h3
              have : 3 = n := h3
              omega
            exact ⟨by rw [upd_ne q2]; exact k3 _ _ q1 nl, q2⟩
          · have hl := (List.getElem?_eq_some_iff.mp e1).1
            rw [List.length_append] at hl
            have ej : j = M.length := by simp at hl; omega
            subst ej
            rw [List.getElem?_append_right (Nat.le_refl _), Nat.sub_self] at e1
            rw [List.getElem?_append_right (by rw [← R.len]; exact Nat.le_refl _), ← R.len, Nat.sub_self] at e2
            cases e1
            cases e2
            exact ⟨by rw [upd_ne nDD]; exact g3, nDD⟩
        · intro r0 hr0
          rcases List.mem_append.mp hr0 with h | h
          · exact R.sq r0 h
          · rw [List.mem_singleton.mp h]
            exact ⟨lr, dr⟩
        · rw [List.nodup_append]
          refine ⟨R.nod, List.nodup_cons.mpr ⟨by simp, .nil⟩, fun a ha b hb e => ?_⟩
          rw [List.mem_singleton.mp hb] at e
          obtain ⟨j, hj, rfl⟩ := List.getElem_of_mem ha
          have lj := R.len
          have q := (R.row j _ _ (List.getElem?_eq_getElem hj) (List.getElem?_eq_getElem (show j < g.length by omega))).1
          rw [e, hD2] at q
          cases q
        · intro j l0 e1
          by_cases cj : j < M.length
          · rw [List.getElem?_append_left cj] at e1
            exact R.new j l0 e1
          · have hl := (List.getElem?_eq_some_iff.mp e1).1
            rw [List.length_append] at hl
            have ej : j = M.length := by simp at hl; omega
            subst ej
            rw [List.getElem?_append_right (Nat.le_refl _), Nat.sub_self] at e1
            cases e1
            cases e : H D2 with
            | none => rfl
            | some o =>
              have := R.kp _ _ e nD2p
              rw [hD2] at this
              cases this
        · rw [upd_ne nDp.symm]
          exact w3
    · rintro σ H2 ⟨z4, z5, z6, M, g, x0, z0, rfl, R, lg, w2⟩
      exact ⟨_, rfl, q D M g _ _ H2 R lg w2⟩
/-! CUT -/
def fwI : List Int := fwL.map fun x : Nat => (x : Int)
theorem fwI_at {i : Nat} (h : i < 32) : atI (fwI.map V.int) (i : Int) = some (vN (fwF i)) := by
  refine atI_nat ?_
  unfold fwI
  rw [List.map_map, List.getElem?_map, fwF, List.getD_eq_getElem?_getD, List.getElem?_eq_getElem (by exact h)]
  rfl
def sp_wof : Sp := fun vs H Q _ => ∃ l m : Nat, vs = [vN l, vN m] ∧ l < 4 ∧ m < 8 ∧ Q (vN (fwF (8 * l + m))) H
theorem ok_word_of_format (T : Txt K mg) : FnOk P w K mg base CX0 1 T.f_word_of_format T.d_word_of_format ["level", "mask"] sp_wof := by
  refine T.F_word_of_format.ok sc_word_of_format (fun vs H Q E h => ?_) (fun cdv A outer s H vs Q E hr h => ?_)
  · obtain ⟨l, m, rfl, _⟩ := h
    rfl
  · obtain ⟨l, m, rfl, hl, hm, q⟩ := h
    refine ⟨_, (pss_one (ps_ret (pe_ix ix_rowB (pe_glob (v := .ref T.a_FORMAT_WORDS) (by rfl) T.g_FORMAT_WORDS rfl) (pe_op op_add (pe_op op_mul (pe_glob (v := .int 8) (by rfl) T.g_MASKS.choose_spec ⟨_, rfl⟩) (pv 0)) (pv 1)) (fun _ _ => rfl)))), ?_⟩
    exact ⟨_, rfl, _, _, rfl, rfl, .inl ⟨by decide, by decide⟩, _, rfl, _, _, rfl, rfl, T.a_FORMAT_WORDS, _, _, vN (fwF (8 * l + m)), false, rfl, rfl, tupB_ok (xs := fwI) T.l_FORMAT_WORDS, fwI_at (i := 8 * l + m) (by omega), q⟩
theorem digits_len : ∀ (k n : Nat), n < 2 ^ (k + 1) → (Nat.toDigits 2 n).length ≤ k + 1
  | 0, n, h => by
    have : n = 0 ∨ n = 1 := by
      have : n < 2 := h
      omega
    rcases this with rfl | rfl <;> decide
  | k + 1, n, h => by
    by_cases h2 : n < 2
    · have : n = 0 ∨ n = 1 := by omega
      rcases this with rfl | rfl
      · exact Nat.le_trans (show (Nat.toDigits 2 0).length ≤ 1 by decide) (by omega)
      · exact Nat.le_trans (show (Nat.toDigits 2 1).length ≤ 1 by decide) (by omega)
    · have e := Nat.toDigits_append_toDigits (b := 2) (n := n / 2) (d := n % 2) (by decide) (by omega) (by omega)
      rw [show 2 * (n / 2) + n % 2 = n by omega] at e
      rw [← e, List.length_append]
      have h3 : n / 2 < 2 ^ (k + 1) := by rw [Nat.pow_succ] at h; omega
      have h4 := digits_len k (n / 2) h3
      have h5 : (Nat.toDigits 2 (n % 2)).length ≤ 1 := by
        have : n % 2 = 0 ∨ n % 2 = 1 := by omega
        rcases this with z | z <;> rw [z] <;> decide
      omega
theorem bText_len {n : Nat} (h : n < 2 ^ 20) : (bText n).length ≤ sizeLine := by
  have := digits_len 19 n h
  refine Nat.le_of_lt (small1000 ?_)
  unfold bText PySem.Str.length
  simp
  omega
def sp_ones : Sp := fun vs H Q _ => ∃ n : Nat, vs = [vN n] ∧ n < 2 ^ 20 ∧ Q (.int ((pop n : Nat) : Int)) H
theorem ok_ones (T : Txt K mg) : FnOk P w K mg base CX0 1 T.f_ones T.d_ones ["number"] sp_ones := by
  refine T.F_ones.ok sc_ones (fun vs H Q E h => ?_) (fun cdv A outer s H vs Q E hr h => ?_)
  · obtain ⟨n, rfl, _⟩ := h
    rfl
  · obtain ⟨n, rfl, hn, q⟩ := h
    refine ⟨_, (pss_cons (ps_set (i := 1) sc_ones.nd rfl (.inl rfl) (pe_joined1 (pe_fmtB (pv 0))))
      (pss_one (ps_ret (pe_m1 PySem.F.slot_str_count PySem.F.type_str_count mt_count (pv 1) pe_str)))), ?_⟩
    refine ⟨_, rfl, n, rfl, bText_len hn, ?_⟩
    refine ⟨_, rfl, ⟨_, rfl⟩, _, _, rfl, rfl, ?_⟩
    rw [show Txt.count (bText n) (Str.ofString "1") = ((pop n : Nat) : Int) from ones_b n]
    exact q
theorem ba (a b : Nat) : Builtin.bitAnd (a : Int) (b : Int) = ((a &&& b : Nat) : Int) := by
  have h := PyProof.Rows.bitAnd_pp (x := (a : Int)) (y := (b : Int)) (by omega) (by omega)
  rw [Int.toNat_natCast, Int.toNat_natCast] at h
  exact h
theorem far_int (d s i : Nat) : Builtin.bitAnd (Builtin.bitXor (Builtin.bitXor ((fwF i : Int) * 2 ^ ((10 : Int)).toNat) (fwF i : Int)) (d : Int)) (s : Int) = (((((fwF i * 2 ^ 10) ^^^ fwF i) ^^^ d) &&& s : Nat) : Int) := by
  rw [show (fwF i : Int) * 2 ^ ((10 : Int)).toNat = ((fwF i * 2 ^ 10 : Nat) : Int) from rfl, bx, bx, ba]
def sp_unlike : Sp := fun vs H Q _ => ∃ d s i : Nat, vs = [vN d, vN s, vN (fwF i)] ∧ s < 2 ^ 20 ∧ Q (vN (farF d s i)) H
theorem ok_unlike_dots (T : Txt K mg) : FnOk P w K mg base CX0 2 T.f_unlike_dots T.d_unlike_dots ["dark", "seen", "word"] sp_unlike := by
  refine T.F_unlike_dots.ok sc_unlike_dots (fun vs H Q E h => ?_) (fun cdv A outer s H vs Q E hr h => ?_)
  · obtain ⟨d, s, i, rfl, _⟩ := h
    rfl
  · obtain ⟨d, s0, i, rfl, hs, q⟩ := h
    refine ⟨_, (pss_one (ps_ret (pe_call (ok_ones T) (hr.mono (by decide)) (by rfl) T.g_ones T.F_ones.kp T.b_ones .nil pass0 (pa_cons (pe_op op_and (pe_op op_xor (pe_op op_xor (pe_op op_shl (pv 2) (pe_glob (v := .int 10) (by rfl) T.g_STRIP.choose_spec ⟨_, rfl⟩)) (pv 2)) (pv 0)) (pv 1)) pa_nil)))), ?_⟩
    have hf : fwF i < 1024 := fw_lt
    refine ⟨_, rfl, _, _, rfl, rfl, ⟨by decide, by decide, by rw [Int.natAbs_natCast]; exact Nat.lt_trans hf (by decide)⟩, _, rfl, _, _, rfl, rfl, _, rfl, _, _, rfl, rfl, _, rfl, _, _, rfl, rfl, ?_⟩
    exact ⟨_, congrArg (fun z => [V.int z]) (far_int d s0 i), Nat.lt_of_le_of_lt Nat.and_le_right hs, q⟩
def cellsF (s : Nat) (g : Grid) : List (Option Nat) := (usedF (sdF s)).map fun q => cell g q.1 q.2
theorem bor1 (d x : Nat) (h : x < 2) : Builtin.bitOr ((d : Int) * 2 ^ ((1 : Int)).toNat) (x : Int) = ((2 * d + x : Nat) : Int) := by
  rw [show (d : Int) * 2 ^ ((1 : Int)).toNat = ((2 * d : Nat) : Int) by rw [Nat.mul_comm]; rfl, PyProof.Rows.bitOr_and, ba]
  have e : 2 * d &&& x = 0 := by
    have := dbl_and (a := d) (b := 0) (x := 0) (y := x) (by decide) h
    rw [Nat.mul_zero, Nat.zero_add, Nat.add_zero, Nat.and_zero, Nat.zero_and] at this
    exact this
  rw [e]
  omega
theorem dark_step {cs : List (Option Nat)} {i : Nat} {o : Option Nat} (h : cs[i]? = some o) : darkF (cs.take (i + 1)) = 2 * darkF (cs.take i) + o.getD 0 := by
  unfold darkF
  rw [List.take_add_one, h, Option.toList_some, List.map_append, List.map_cons, List.map_nil, foldB_snoc]
theorem seen_step {cs : List (Option Nat)} {i : Nat} {o : Option Nat} (h : cs[i]? = some o) : seenF (cs.take (i + 1)) = 2 * seenF (cs.take i) + if o.isSome = true then 1 else 0 := by
  unfold seenF
  rw [List.take_add_one, h, Option.toList_some, List.map_append, List.map_cons, List.map_nil, foldB_snoc]
theorem cells_len {s : Nat} (hs : s < 5) (g : Grid) : (cellsF s g).length = 20 := by
  unfold cellsF
  rw [List.length_map, used_at hs]
  exact of_decide_eq_true (all5 (P := fun s => decide ((usedL.getD s []).length = 20)) (by decide +kernel) hs)
theorem used_in {s : Nat} (hs : s < 5) {q : Nat × Nat} (h : q ∈ usedF (sdF s)) : q.1 < sdF s ∧ q.2 < sdF s := by
  rw [used_at hs] at h
  have := List.all_eq_true.mp (all5 (P := fun s => (usedL.getD s []).all fun q => decide (q.1 < sdF s ∧ q.2 < sdF s)) (by decide +kernel) hs) q h
  exact of_decide_eq_true this
theorem cells_ok {s : Nat} (hs : s < 5) {g : Grid} (sq : Sq (sdF s) g) : ∀ o ∈ cellsF s g, DotOk o := by
  intro o ho
  obtain ⟨q, hq, rfl⟩ := List.mem_map.mp ho
  have hi := used_in hs hq
  exact sq.dot _ (getD_mem (by rw [sq.len]; exact hi.1)) _ (getD_mem (by rw [sq.row _ (getD_mem (by rw [sq.len]; exact hi.1))]; exact hi.2))
def stripF (s : Nat) : List Nat := (usedF (sdF s)).map fun q => q.1 * sdF s + q.2
theorem strip_at (T : Txt K mg) {s : Nat} (hs : s < 5) : ∃ c, atI ([T.c_STRIPS0, T.c_STRIPS1, T.c_STRIPS2, T.c_STRIPS3, T.c_STRIPS4].map V.ref) (s : Int) = some (.ref c) ∧ ∀ H, SqT K H c ((stripF s).map vN) := by
  have : s = 0 ∨ s = 1 ∨ s = 2 ∨ s = 3 ∨ s = 4 := by omega
  rcases this with rfl | rfl | rfl | rfl | rfl
  · exact ⟨T.c_STRIPS0, rfl, fun H => by
      rw [show stripF 0 = [9, 10, 11, 12, 13, 14, 17, 18, 19, 20, 49, 41, 33, 25, 50, 42, 34, 26, 51, 43] by unfold stripF; rw [used_at (by decide)]; decide +kernel]
      exact tupB_ok (xs := [9, 10, 11, 12, 13, 14, 17, 18, 19, 20, 49, 41, 33, 25, 50, 42, 34, 26, 51, 43]) T.t_STRIPS0⟩
  · exact ⟨T.c_STRIPS1, rfl, fun H => by
      rw [show stripF 1 = [13, 14, 15, 16, 17, 18, 19, 20, 21, 22, 121, 109, 97, 85, 73, 61, 49, 37, 25, 122] by unfold stripF; rw [used_at (by decide)]; decide +kernel]
      exact tupB_ok (xs := [13, 14, 15, 16, 17, 18, 19, 20, 21, 22, 121, 109, 97, 85, 73, 61, 49, 37, 25, 122]) T.t_STRIPS1⟩
  · exact ⟨T.c_STRIPS2, rfl, fun H => by
      rw [show stripF 2 = [17, 18, 19, 20, 21, 22, 23, 24, 25, 26, 225, 209, 193, 177, 161, 145, 129, 113, 97, 81] by unfold stripF; rw [used_at (by decide)]; decide +kernel]
      exact tupB_ok (xs := [17, 18, 19, 20, 21, 22, 23, 24, 25, 26, 225, 209, 193, 177, 161, 145, 129, 113, 97, 81]) T.t_STRIPS2⟩
  · exact ⟨T.c_STRIPS3, rfl, fun H => by
      rw [show stripF 3 = [21, 22, 23, 24, 25, 26, 27, 28, 29, 30, 361, 341, 321, 301, 281, 261, 241, 221, 201, 181] by unfold stripF; rw [used_at (by decide)]; decide +kernel]
      exact tupB_ok (xs := [21, 22, 23, 24, 25, 26, 27, 28, 29, 30, 361, 341, 321, 301, 281, 261, 241, 221, 201, 181]) T.t_STRIPS3⟩
  · exact ⟨T.c_STRIPS4, rfl, fun H => by
      rw [show stripF 4 = [25, 26, 27, 28, 29, 30, 31, 32, 33, 34, 529, 505, 481, 457, 433, 409, 385, 361, 337, 313] by unfold stripF; rw [used_at (by decide)]; decide +kernel]
      exact tupB_ok (xs := [25, 26, 27, 28, 29, 30, 31, 32, 33, 34, 529, 505, 481, 457, 433, 409, 385, 361, 337, 313]) T.t_STRIPS4⟩
def sp_seen (K : PySem.W.Frag) : Sp := fun vs H Q _ => ∃ (s : Nat) (a : Addr) (k : Bool) (g : Grid), vs = [.int ((s : Int) + 1), .ref a] ∧ s < 5 ∧ GrB k K H a g ∧ Sq (sdF s) g ∧ ∀ (t : Addr) H', Same H H' → H' t = some (.tup [vN (darkF (cellsF s g)), vN (seenF (cellsF s g))]) → Q (.ref t) H'
theorem ok_seen_strips (T : Txt K mg) : FnOk P w K mg base CX0 1 T.f_seen_strips T.d_seen_strips ["size", "grid"] (sp_seen K) := by
  refine T.F_seen_strips.ok sc_seen_strips (fun vs H Q E h => ?_) (fun cdv A outer s H vs Q E hr h => ?_)
  · obtain ⟨s, a, k, g, rfl, _⟩ := h
    rfl
  · obtain ⟨s0, a, k, g, rfl, hs, hG, sq, q⟩ := h
    refine ⟨_, (pss_cons (ps_set (i := 2) sc_seen_strips.nd rfl (.inl rfl) (pe_ix ix_rowB (pe_glob (v := .ref T.a_SIDES) (by rfl) T.g_SIDES rfl) (pe_op op_sub (pv 0) pe_int) (fun _ _ => rfl)))
      (pss_cons (ps_set (i := 3) sc_seen_strips.nd rfl (.inl rfl) pe_int)
      (pss_cons (ps_set (i := 4) sc_seen_strips.nd rfl (.inl rfl) pe_int)
      (pss_cons (ps_for PassesOwn.never rfl (pi_seqK (K := K) rfl (pe_ix (ix_rowBK (K := K) rfl) (pe_glob (v := .ref T.a_STRIPS) (by rfl) T.g_STRIPS rfl) (pe_op op_sub (pv 0) pe_int) (fun _ _ => rfl))) (pg_name (i := 5) sc_seen_strips.nd rfl (.inl rfl)) (pss_cons (ps_set (i := 6) sc_seen_strips.nd rfl (.inl rfl) (pe_ix (ix_rowBK (K := K) rfl) (pe_ix (ix_rowBK (K := K) rfl) (pv 1) (pe_op op_fdiv (pv 5) (pv 2)) (fun _ _ => rfl)) (pe_op op_mod (pv 5) (pv 2)) (fun _ _ => rfl)))
      (pss_cons (ps_set (i := 3) sc_seen_strips.nd rfl (.inl rfl) (pe_op op_or (pe_op op_shl (pv 3) pe_int) (pe_orT (pv 6) (pe_one pe_int))))
      (pss_one (ps_set (i := 4) sc_seen_strips.nd rfl (.inl rfl) (pe_op op_orB (pe_op op_shl (pv 4) pe_int) (pe_cmpR op_notN (pv 6) pe_non (nomark _))))))))
      (pss_one (ps_ret (pe_tup (pa_cons (pv 3) (pa_cons (pv 4) pa_nil))))))))), ?_⟩
    obtain ⟨c, hc, hrow⟩ := strip_at T hs
    obtain ⟨L, h1, h2, h3⟩ := hG.ex
    have one : (s0 : Int) + 1 - 1 = (s0 : Int) := by omega
    have hm : 8 ≤ sdF s0 ∧ sdF s0 ≤ 24 := side_le (sd_ok hs)
    refine ⟨_, rfl, _, _, rfl, rfl, T.a_SIDES, _, _, vN (sdF s0), false, rfl, rfl, tupB_ok (xs := sidesI) T.l_SIDES, (by rw [one]; exact atI_nat (by rw [List.getElem?_map, sd_side hs]; rfl)), ?_⟩
    refine ⟨_, rfl, _, _, rfl, rfl, T.a_STRIPS, _, _, .ref c, false, rfl, rfl, (T.l_STRIPS.sq (hz := by show 5 ≤ 1000; decide)), (by rw [one]; exact hc), ?_⟩
    refine ⟨c, _, false, rfl, hrow _, ?_⟩
    refine for_it (walk_seq (b := false) (K := K) (a := c) (xs := (stripF s0).map vN)) (fun i σ H' => ∃ z5 z6 : Option V, σ = [some (.int ((s0 : Int) + 1)), some (.ref a), some (vN (sdF s0)), some (vN (darkF ((cellsF s0 g).take i))), some (vN (seenF ((cellsF s0 g).take i))), z5, z6] ∧ H' = H) ⟨_, _, rfl, rfl⟩ (fun i σ H' _ ⟨_, _, _, e⟩ => by rw [e]; exact hrow _) ?_ ?_
    · rintro i v σ H1 H2 hi ⟨z5, z6, rfl, rfl⟩ ⟨rfl, e2⟩
      have hlen : (stripF s0).length = 20 := by
        unfold stripF
        rw [List.length_map]
        have := cells_len hs g
        unfold cellsF at this
        rw [List.length_map] at this
        exact this
      rw [List.length_map, hlen] at hi
      have hu : (usedF (sdF s0)).length = 20 := by
        unfold stripF at hlen
        rw [List.length_map] at hlen
        exact hlen
      have eq0 : (usedF (sdF s0))[i]? = some ((usedF (sdF s0))[i]'(by omega)) := List.getElem?_eq_getElem _
      generalize (usedF (sdF s0))[i]'(by omega) = qq at eq0
      obtain ⟨x, y⟩ := qq
      obtain ⟨hx, hy⟩ := used_in hs (List.mem_iff_getElem?.mpr ⟨i, eq0⟩)
      have hx : x < sdF s0 := hx
      have hy : y < sdF s0 := hy
      have ev : v = vN (x * sdF s0 + y) := by
        unfold stripF at e2
        rw [List.getElem?_map, List.getElem?_map, eq0] at e2
        exact (Option.some.inj e2).symm
      subst ev
      have ec : (cellsF s0 g)[i]? = some (cell g x y) := by
        unfold cellsF
        rw [List.getElem?_map, eq0]
        rfl
      have eL : L[x]? = some (L[x]'(by rw [h2, sq.len]; exact hx)) := List.getElem?_eq_getElem _
      generalize L[x]'(by rw [h2, sq.len]; exact hx) = l at eL
      have er : g[x]? = some (g.getD x []) := by
        rw [getD_in (by rw [sq.len]; exact hx)]
        exact List.getElem?_eq_getElem _
      have hr2 := h3 x l _ eL er
      have hrl : (g.getD x []).length = sdF s0 := sq.row _ (List.mem_iff_getElem?.mpr ⟨x, er⟩)
      have ey : (g.getD x [])[y]? = some (cell g x y) := by
        unfold cell
        rw [List.getD_eq_getElem?_getD (l := g.getD x []), List.getElem?_eq_getElem (by rw [hrl]; exact hy)]
        rfl
      have dv : ((x * sdF s0 + y : Nat) : Int) / ((sdF s0 : Nat) : Int) = (x : Int) := by
        rw [← Int.natCast_ediv, Nat.mul_comm, Nat.mul_add_div (by omega), Nat.div_eq_of_lt hy, Nat.add_zero]
      have md : ((x * sdF s0 + y : Nat) : Int) % ((sdF s0 : Nat) : Int) = (y : Int) := by
        rw [← Int.natCast_emod, Nat.mul_comm, Nat.mul_add_mod, Nat.mod_eq_of_lt hy]
      have dok : DotOk (cell g x y) := sq.dot _ (List.mem_iff_getElem?.mpr ⟨x, er⟩) _ (List.mem_iff_getElem?.mpr ⟨y, ey⟩)
      have dl : darkF ((cellsF s0 g).take i) < 2 ^ 20 ∧ seenF ((cellsF s0 g).take i) < 2 ^ 20 := by
        have lt : ((cellsF s0 g).take i).length ≤ 20 := by rw [List.length_take, cells_len hs]; omega
        have p2 : 2 ^ ((cellsF s0 g).take i).length ≤ 2 ^ 20 := Nat.pow_le_pow_right (by decide) lt
        refine ⟨Nat.lt_of_lt_of_le (foldB_lt (l := ((cellsF s0 g).take i).map fun o => o.getD 0) fun z hz => ?_) (by rw [List.length_map]; exact p2), Nat.lt_of_lt_of_le (foldB_lt (l := ((cellsF s0 g).take i).map fun o => if o.isSome = true then 1 else 0) fun z hz => ?_) (by rw [List.length_map]; exact p2)⟩
        · obtain ⟨o, ho, rfl⟩ := List.mem_map.mp hz
          rcases cells_ok hs sq o (List.mem_of_mem_take ho) with rfl | rfl | rfl <;> decide
        · obtain ⟨o, ho, rfl⟩ := List.mem_map.mp hz
          split <;> decide
      refine ⟨_, rfl, _, rfl, _, rfl, _, _, rfl, rfl, ⟨by omega, by omega⟩, a, _, _, .ref l, _, rfl, rfl, h1, (by rw [dv]; exact atI_nat (by rw [List.getElem?_map, eL]; rfl)), ?_⟩
      refine ⟨_, rfl, _, rfl, _, _, rfl, rfl, (show (0 : Int) < ((sdF s0 : Nat) : Int) by omega), l, _, _, vG (cell g x y), _, rfl, rfl, hr2, (by rw [md]; exact atI_nat (by rw [List.getElem?_map, ey]; rfl)), ?_⟩
      have g2 : (cell g x y).getD 0 < 2 := by rcases dok with h | h | h <;> rw [h] <;> decide
      have g3 : (if (cell g x y).isSome = true then 1 else 0) < 2 := by split <;> decide
      have E3 : V.int (Builtin.bitOr ((darkF ((cellsF s0 g).take i) : Int) * 2 ^ ((1 : Int)).toNat) (((cell g x y).getD 0 : Nat) : Int)) = vN (darkF ((cellsF s0 g).take (i + 1))) := congrArg V.int (by rw [bor1 _ _ g2, dark_step ec])
      have E4 : V.int (Builtin.bitOr ((seenF ((cellsF s0 g).take i) : Int) * 2 ^ ((1 : Int)).toNat) (((if (cell g x y).isSome = true then 1 else 0 : Nat)) : Int)) = vN (seenF ((cellsF s0 g).take (i + 1))) := congrArg V.int (by rw [bor1 _ _ g3, seen_step ec])
      have C1 : CPow (darkF ((cellsF s0 g).take i) : Int) 1 := ⟨by decide, by decide, by rw [Int.natAbs_natCast]; exact Nat.lt_trans dl.1 (by decide)⟩
      have C2 : CPow (seenF ((cellsF s0 g).take i) : Int) 1 := ⟨by decide, by decide, by rw [Int.natAbs_natCast]; exact Nat.lt_trans dl.2 (by decide)⟩
      rcases dok with h | h | h
      · rw [h] at E3 E4 ⊢
        refine ⟨_, rfl, _, _, rfl, rfl, C1, _, rfl, false, rfl, iteF ⟨_, _, rfl, rfl, ?_⟩⟩
        refine ⟨_, rfl, _, _, rfl, rfl, C2, _, rfl, rfl, _, false, rfl, rfl, some (vN (x * sdF s0 + y)), some (vG none), ?_, rfl⟩
        rw [← E3, ← E4]
        rfl
      · rw [h] at E3 E4 ⊢
        refine ⟨_, rfl, _, _, rfl, rfl, C1, _, rfl, false, rfl, iteF ⟨_, _, rfl, rfl, ?_⟩⟩
        refine ⟨_, rfl, _, _, rfl, rfl, C2, _, rfl, rfl, _, true, rfl, rfl, some (vN (x * sdF s0 + y)), some (vG (some 0)), ?_, rfl⟩
        rw [← E3, ← E4]
        rfl
      · rw [h] at E3 E4 ⊢
        refine ⟨_, rfl, _, _, rfl, rfl, C1, _, rfl, true, rfl, iteT ⟨_, _, rfl, rfl, ?_⟩⟩
        refine ⟨_, rfl, _, _, rfl, rfl, C2, _, rfl, rfl, _, true, rfl, rfl, some (vN (x * sdF s0 + y)), some (vG (some 1)), ?_, rfl⟩
        rw [← E3, ← E4]
        rfl
    · rintro σ H1 ⟨z5, z6, rfl, rfl⟩
      have hlen : ((stripF s0).map vN).length = (cellsF s0 g).length := by
        unfold stripF cellsF
        rw [List.length_map, List.length_map, List.length_map]
      rw [hlen, List.take_length]
      exact ⟨_, rfl, _, rfl, (by show 2 ≤ sizeLine; decide), fun t ht => q t _ (same_upd ht) upd_same⟩
/-! CUT -/
theorem and_to {A B : TT} {σ : L2.St} {H : Hp} {Q : Bool → Hp → Prop} (a b : Bool) (ha : ∀ Q' : Bool → Hp → Prop, Q' a H → A σ H Q') (hb : ∀ Q' : Bool → Hp → Prop, Q' b H → B σ H Q') (q : Q (a && b) H) : tAnd A B σ H Q := by
  show A σ H fun c H1 => if c = true then B σ H1 Q else Q false H1
  refine ha _ ?_
  cases a with
  | false => exact iteF q
  | true => exact iteT (hb _ q)
theorem flat_vN : ∀ r : List Nat, (r.map vN).all flatV = true
  | [] => rfl
  | x :: r => by
    show (flatV (vN x) && (r.map vN).all flatV) = true
    rw [flat_vN r]
    rfl
theorem eqV_vN (x y : Nat) : eqV (vN x) (vN y) = decide (x = y) := by
  show ((x : Int) == (y : Int)) = decide (x = y)
  by_cases h : x = y
  · rw [h, decide_eq_true rfl]
    exact beq_self_eq_true _
  · rw [decide_eq_false h]
    exact beq_eq_false_iff_ne.mpr fun e => h (by omega)
theorem count_vN (k : Nat) : ∀ r : List Nat, ((r.map vN).countP fun z => eqV z (vN k)) = r.count k
  | [] => rfl
  | x :: r => by
    rw [List.map_cons, List.countP_cons, count_vN k r, List.count_cons, eqV_vN]
    by_cases h : x = k <;> simp [h]
theorem vN_inj {x y : Nat} (e : vN x = vN y) : x = y := by
  have h : (x : Int) = (y : Int) := V.int.inj e
  omega
theorem fw_inj {i j : Nat} (hi : i < 32) (hj : j < 32) (h : fwF i = fwF j) : i = j := by
  have := of_decide_eq_true (List.all_eq_true.mp (all32 (P := fun i => (List.range 32).all fun j => decide (i = j ∨ fwF i ≠ fwF j)) (by decide +kernel) hi) j (List.mem_range.mpr hj))
  exact this.resolve_right fun c => c h
theorem fwI_get {i : Nat} (h : i < 32) : fwI[i]? = some (fwF i : Int) := by
  unfold fwI
  rw [List.getElem?_map, fwF, List.getD_eq_getElem?_getD, List.getElem?_eq_getElem (by exact h)]
  rfl
theorem fw_known {w : Nat} (h : inV (vN w) (fwI.map V.int) = true) : ∃ i, i < 32 ∧ fwF i = w := by
  obtain ⟨z, hz, e⟩ := List.any_eq_true.mp h
  obtain ⟨j, hj⟩ := List.mem_iff_getElem?.mp hz
  have hl : j < 32 := by
    have := (List.getElem?_eq_some_iff.mp hj).1
    rw [List.length_map] at this
    exact this
  rw [List.getElem?_map, fwI_get hl] at hj
  obtain rfl := Option.some.inj hj
  have e : eqV (vN (fwF j)) (vN w) = true := e
  rw [eqV_vN] at e
  exact ⟨j, hl, of_decide_eq_true e⟩
theorem flat_fwI : (fwI.map V.int).all flatV = true := flat_ints fwI
theorem shr10 (d : Nat) : (d : Int) / 2 ^ ((10 : Int)).toNat = ((d / 1024 : Nat) : Int) := rfl
theorem bor10 (w : Nat) : Builtin.bitOr ((w : Int) * 2 ^ ((10 : Int)).toNat) (w : Int) = ((w * 2 ^ 10 : Nat) : Int) + (w : Int) - ((w * 2 ^ 10 &&& w : Nat) : Int) := by
  rw [show (w : Int) * 2 ^ ((10 : Int)).toNat = ((w * 2 ^ 10 : Nat) : Int) from rfl, PyProof.Rows.bitOr_and, ba]
theorem fw_sum {i : Nat} (h : i < 32) : Builtin.bitOr ((fwF i : Int) * 2 ^ ((10 : Int)).toNat) (fwF i : Int) = (((fwF i * 2 ^ 10) ||| fwF i : Nat) : Int) :=
  of_decide_eq_true (all32 (P := fun i => decide (Builtin.bitOr ((fwF i : Int) * 2 ^ ((10 : Int)).toNat) (fwF i : Int) = (((fwF i * 2 ^ 10) ||| fwF i : Nat) : Int))) (by decide +kernel) h)
def sp_told : Sp := fun vs H Q _ => ∃ d s : Nat, vs = [vN d, vN s] ∧ d < 2 ^ 20 ∧ s < 2 ^ 20 ∧ ((toldF (farsF d s) = none → ∀ H', Same H H' → Q .non H') ∧ ∀ i k, toldF (farsF d s) = some (i, k) → ∀ (t : Addr) H', Same H H' → H' t = some (.tup [vN (i / 8), vN (i % 8), vN k]) → Q (.ref t) H')
theorem ok_nearest_told (T : Txt K mg) : FnOk P w K mg base CX0 3 T.f_nearest_told T.d_nearest_told ["dark", "seen"] sp_told := by
  refine T.F_nearest_told.ok sc_nearest_told (fun vs H Q E h => ?_) (fun cdv A outer s H vs Q E hr h => ?_)
  · obtain ⟨d, s, rfl, _⟩ := h
    rfl
  · obtain ⟨d, s0, rfl, hd, hs, q1, q2⟩ := h
    refine ⟨_, (Evl.pss_cut (ps_set (i := 2) sc_nearest_told.nd rfl (.inl rfl) (pe_op op_shr (pv 0) (pe_glob (v := .int 10) (by rfl) T.g_STRIP.choose_spec ⟨_, rfl⟩)))
      (Evl.pss_cut (ps_if (PW.pt (pw_and (pt_cmpR op_eq (pv 1) (pe_glob (v := .int 1048575) (by rfl) T.g_ALL_SEEN.choose_spec ⟨_, rfl⟩) (nomark _)) (pw_and (pt_cmpR op_eq (pv 0) (pe_op op_or (pe_op op_shl (pv 2) (pe_glob (v := .int 10) (by rfl) T.g_STRIP.choose_spec ⟨_, rfl⟩)) (pv 2)) (nomark _)) (pw_and1 (pt_cmpR op_in_seq (pv 2) (pe_glob (v := .ref T.a_FORMAT_WORDS) (by rfl) T.g_FORMAT_WORDS rfl) (by rfl)))))) (pss_cons (ps_asg (pe_callB call_divmod (by rfl) T.n_divmod (by decide +kernel) (pa_cons (pe_bm PySem.F.plainAttrs_tuple PySem.F.slot_tuple_index PySem.F.type_tuple_index mt_tup_ixI (pe_glob (v := .ref T.a_FORMAT_WORDS) (by rfl) T.g_FORMAT_WORDS rfl) (pa_cons (pv 2) pa_nil)) (pa_cons (pe_glob (v := .int 8) (by rfl) T.g_MASKS.choose_spec ⟨_, rfl⟩) pa_nil))) (pg_tup rfl (pgs_cons (pg_name (i := 3) sc_nearest_told.nd rfl (.inl rfl)) (pgs_cons (pg_name (i := 4) sc_nearest_told.nd rfl (.inl rfl)) pgs_nil))))
      (pss_one (ps_ret (pe_tup (pa_cons (pv 3) (pa_cons (pv 4) (pa_cons pe_int pa_nil))))))) pss_nil)
      (pss_cons (ps_setLc (i := 5) (own := [("other", 7)]) rfl sc_nearest_told.nd rfl rfl (sw_true rfl rfl rfl (by decide +kernel)) (pi_seqK (K := K) rfl (pe_glob (v := .ref T.a_FORMAT_WORDS) (by rfl) T.g_FORMAT_WORDS rfl)) (blkOk_by (N := ["dark", "seen", "word", "level", "mask", "counts", "least", "other"]) (sc := defScope s_nearest_told) (by decide +kernel)) (fun _ _ _ _ _ => by exact (pg_name (i := 7) sc_nearest_told.nd rfl (.inl rfl))) (fun _ _ _ _ _ => by exact pts_nil) (fun _ _ _ _ _ => by exact (pe_call (ok_unlike_dots T) (hr.mono (by decide)) (by rfl) T.g_unlike_dots T.F_unlike_dots.kp T.b_unlike_dots .nil pass0 (pa_cons (pv 0) (pa_cons (pv 1) (pa_cons (pv 7) pa_nil))))))
      (pss_cons (ps_set (i := 6) sc_nearest_told.nd rfl (.inl rfl) (pe_callB (cr_min rfl) (by rfl) T.n_min (by decide +kernel) (pa_cons (pv 5) pa_nil)))
      (pss_cons (ps_if (pt_cmpR op_gt (pe_bm PySem.F.plainAttrs_list PySem.F.slot_list_count PySem.F.type_list_count (mt_countF (K := K) rfl) (pv 5) (pa_cons (pv 6) pa_nil)) pe_int (nomark _)) (pss_one (ps_ret pe_non)) pss_nil)
      (pss_cons (ps_asg (pe_callB call_divmod (by rfl) T.n_divmod (by decide +kernel) (pa_cons (pe_bm PySem.F.plainAttrs_list PySem.F.slot_list_index PySem.F.type_list_index mt_index (pv 5) (pa_cons (pv 6) pa_nil)) (pa_cons (pe_glob (v := .int 8) (by rfl) T.g_MASKS.choose_spec ⟨_, rfl⟩) pa_nil))) (pg_tup rfl (pgs_cons (pg_name (i := 3) sc_nearest_told.nd rfl (.inl rfl)) (pgs_cons (pg_name (i := 4) sc_nearest_told.nd rfl (.inl rfl)) pgs_nil))))
      (pss_one (ps_ret (pe_tup (pa_cons (pv 3) (pa_cons (pv 4) (pa_cons (pv 6) pa_nil)))))))))))), ?_⟩
    have hw : d / 1024 < 1024 := Nat.div_lt_of_lt_mul hd
    refine ⟨fun σ' H' => σ' = [some (vN d), some (vN s0), some (vN (d / 1024)), none, none, none, none, none] ∧ H' = H, ⟨_, rfl, _, _, rfl, rfl, (by decide : (0 : Int) ≤ 10), rfl, rfl⟩, ?_⟩
    rintro σ H1 ⟨rfl, rfl⟩
    refine ⟨fun σ' H' => σ' = [some (vN d), some (vN s0), some (vN (d / 1024)), none, none, none, none, none] ∧ H' = H1, ?_, ?_⟩
    rotate_left
    · rintro σ H ⟨rfl, rfl⟩
      have hF : ∀ H', SqT K H' T.a_FORMAT_WORDS (fwI.map V.int) := fun H' => tupB_ok (xs := fwI) T.l_FORMAT_WORDS
      refine ⟨T.a_FORMAT_WORDS, _, false, rfl, hF _, fun D hD => ?_⟩
      refine lc_it (walk_seq (b := false) (K := K) (a := T.a_FORMAT_WORDS) (xs := fwI.map V.int)) (fun i H' => Same H H' ∧ H' D = some (.lst (((farsF d s0).take i).map vN))) ⟨same_upd hD, upd_same⟩ (fun i H' _ _ => hF _) ?_ ?_
      · rintro i v H2 H3 hi ⟨sm, out⟩ ⟨rfl, e2⟩
        have hi : i < 32 := by
          rw [List.length_map] at hi
          exact hi
        rw [List.getElem?_map, fwI_get hi] at e2
        obtain rfl := (Option.some.inj e2).symm
        refine ⟨rfl, ?_⟩
        refine ⟨_, rfl, _, rfl, _, rfl, d, s0, i, rfl, hs, ?_⟩
        refine ⟨_, out, ?_, fun x o hx => ?_, ?_⟩
        · rw [List.length_map, List.length_take, fars_len]
          exact small1000 (by omega)
        · rw [upd_ne (ne_of_none hx hD)]
          exact sm _ _ hx
        · rw [upd_same, List.take_add_one, fars_at hi, Option.toList_some, List.map_append]
          rfl
      · rintro H2 ⟨sm, out⟩
        rw [List.length_map, show fwI.length = 32 from rfl, List.take_of_length_le (by rw [fars_len]; exact Nat.le_refl _)] at out
        obtain ⟨k0, hk1, hk2, hk3⟩ := fars_min d s0
        refine ⟨_, rfl, D, (farsF d s0).map fun x : Nat => (x : Int), rfl, .inl (.inl (by rw [out, List.map_map]; rfl)), by rw [List.length_map, fars_len]; decide, fun m hm hle => ?_⟩
        have em : m = (k0 : Int) := by
          obtain ⟨y, hy, rfl⟩ := List.mem_map.mp hm
          have h1 := hle _ (List.mem_map_of_mem (f := fun x : Nat => (x : Int)) hk2)
          have h2 := hk3 y hy
          omega
        subst em
        refine ⟨_, rfl, .inl ⟨rfl, _, .inl (.inl out)⟩, _, rfl, D, _, vN k0, rfl, rfl, .inl (.inl out), rfl, flat_vN _, ?_⟩
        refine ⟨_, _, rfl, rfl, _, rfl, ?_⟩
        refine ite2 (fun c => ?_) (fun c => ?_)
        · have c1 := of_decide_eq_true c
          rw [count_vN] at c1
          refine q1 ?_ _ sm
          unfold toldF
          rw [hk1]
          show (if _ then _ else _) = _
          rw [if_neg (by omega)]
        · have c1 : (farsF d s0).count k0 = 1 := by
            have p := List.count_pos_iff.mpr hk2
            by_cases z : (1 : Int) < (((farsF d s0).count k0 : Nat) : Int)
            · rw [← count_vN] at z
              exact absurd (decide_eq_true z) c
            · omega
          have told : toldF (farsF d s0) = some ((farsF d s0).idxOf k0, k0) := by
            unfold toldF
            rw [hk1]
            show (if _ then _ else _) = _
            rw [if_pos c1]
          have hl := List.idxOf_lt_length_of_mem hk2
          have ej : (farsF d s0)[(farsF d s0).idxOf k0]? = some k0 := by
            rw [List.getElem?_eq_getElem hl, List.getElem_idxOf hl]
          have fst : ∀ (m : Nat) (z' : V), m < (farsF d s0).idxOf k0 → ((farsF d s0).map vN)[m]? = some z' → eqV z' (vN k0) = false := fun m z' hm e => by
            rw [List.getElem?_map] at e
            obtain ⟨y, hy, rfl⟩ := Option.map_eq_some_iff.mp e
            rw [eqV_vN]
            refine decide_eq_false fun e => ?_
            subst e
            have hm2 := (List.getElem?_eq_some_iff.mp hy).1
            have n := List.not_of_lt_findIdx hm
            have e2 := (List.getElem?_eq_some_iff.mp hy).2
            simp [e2] at n
          refine ⟨_, rfl, .inl ⟨rfl, _, .inl (.inl out)⟩, _, rfl, D, _, vN k0, (farsF d s0).idxOf k0, vN k0, rfl, rfl, .inl (.inl out), rfl, flat_vN _, (by rw [List.getElem?_map, ej]; rfl), (by rw [eqV_vN]; exact decide_eq_true rfl), fst, ?_⟩
          refine ⟨_, _, rfl, ⟨by decide, by decide⟩, fun p hp => ?_⟩
          refine ⟨p, _, rfl, .inl (.inl upd_same), rfl, _, _, rfl, _, _, rfl, rfl, ?_⟩
          exact ⟨_, rfl, _, rfl, _, rfl, (by show 3 ≤ sizeLine; decide), fun t ht => q2 _ _ told t _ ((sm.trans (same_upd hp)).trans (same_upd ht)) upd_same⟩
    refine and_to (decide (V.int (s0 : Int) = V.int 1048575)) (decide (vN d = V.int (Builtin.bitOr (((d / 1024 : Nat) : Int) * 2 ^ ((10 : Int)).toNat) ((d / 1024 : Nat) : Int))) && inV (vN (d / 1024)) (fwI.map V.int))
      (fun Q' q => ⟨_, rfl, rfl, _, rfl, q⟩) (fun Q' q => and_to _ _ (fun Q' q => ⟨_, rfl, _, rfl, _, _, rfl, rfl, ⟨by decide, by decide, by rw [Int.natAbs_natCast]; exact Nat.lt_trans hw (by decide)⟩, _, rfl, _, _, rfl, rfl, rfl, _, rfl, q⟩)
        (fun Q' q => ⟨_, rfl, T.a_FORMAT_WORDS, _, rfl, .inr (tupB_ok (xs := fwI) T.l_FORMAT_WORDS), rfl, flat_fwI, _, rfl, q⟩) q) ?_
    generalize hc : (decide (V.int (s0 : Int) = V.int 1048575) && (decide (vN d = V.int (Builtin.bitOr (((d / 1024 : Nat) : Int) * 2 ^ ((10 : Int)).toNat) ((d / 1024 : Nat) : Int))) && inV (vN (d / 1024)) (fwI.map V.int))) = c
    cases c with
    | true =>
      rw [Bool.and_eq_true, Bool.and_eq_true] at hc
      obtain ⟨c1, c2, c3⟩ := hc
      obtain ⟨i, hi, ei⟩ := fw_known c3
      have e1 : s0 = 1048575 := by
        have h : (s0 : Int) = 1048575 := V.int.inj (of_decide_eq_true c1)
        omega
      have e2 : d = (fwF i * 2 ^ 10) ||| fwF i := by
        have h : (d : Int) = _ := V.int.inj (of_decide_eq_true c2)
        rw [← ei, fw_sum hi] at h
        omega
      have told : toldF (farsF d s0) = some (i, 0) := by
        rw [e1, e2]
        exact told_whole hi
      refine iteT ?_
      have hF : ∀ H', SqT K H' T.a_FORMAT_WORDS (fwI.map V.int) := fun H' => tupB_ok (xs := fwI) T.l_FORMAT_WORDS
      refine ⟨.inr (.inl ⟨rfl, tupB_ty T.l_FORMAT_WORDS⟩), _, rfl, T.a_FORMAT_WORDS, fwI, ((d / 1024 : Nat) : Int), i, rfl, rfl, hF _, (by rw [fwI_get hi, ei]), (fun m hm e => ?_), ?_⟩
      · rw [fwI_get (by omega)] at e
        have := Option.some.inj e
        exact Nat.ne_of_lt hm (fw_inj (by omega) hi (by rw [ei]; omega))
      refine ⟨_, _, rfl, ⟨by decide, by decide⟩, fun p hp => ?_⟩
      refine ⟨p, _, rfl, .inl (.inl upd_same), rfl, _, _, rfl, _, _, rfl, rfl, ?_⟩
      exact ⟨_, rfl, _, rfl, (by show 3 ≤ sizeLine; decide), fun t ht => q2 _ _ told t _ ((same_upd hp).trans (same_upd ht)) upd_same⟩
    | false => exact iteF ⟨rfl, rfl⟩
def Nf (s : Nat) (g : Grid) : Option (Nat × Nat) := toldF (farsF (darkF (cellsF s g)) (seenF (cellsF s g)))
def dT3 (a b c : Nat) : PyData := .tuple [dI a, dI b, dI c]
theorem dT3_eqv (a b c a' b' c' : Nat) : PyData.eqv (dT3 a b c) (dT3 a' b' c') = (decide (a = a') && (decide (b = b') && decide (c = c'))) := by
  show (PyData.eqv (dI a) (dI a') && (PyData.eqv (dI b) (dI b') && (PyData.eqv (dI c) (dI c') && true))) = _
  rw [dI_eqv, dI_eqv, dI_eqv, Bool.and_true]
def dDue : Option (Nat × Nat) → PyData
  | none => .none
  | some (i, n) => dT3 (i / 8) (i % 8) n
theorem dDue_refl (o : Option (Nat × Nat)) : PyData.eqv (dDue o) (dDue o) = true := by
  cases o with
  | none => rfl
  | some p =>
    show PyData.eqv (dT3 _ _ _) (dT3 _ _ _) = true
    rw [dT3_eqv, decide_eq_true rfl, decide_eq_true rfl, decide_eq_true rfl]
    rfl
theorem dDue_shaped (o : Option (Nat × Nat)) : SeqAt.shaped (dDue o) = true := by cases o <;> rfl
theorem dT3_dp {K : PySem.W.Frag} {H : Hp} {t : Addr} {a b c : Nat} (h : H t = some (.tup [vN a, vN b, vN c])) : Dp K H (.ref t) (dT3 a b c) := .tup (.inl (.inl h)) (.cons (.int _) (.cons (.int _) (.cons (.int _) .nil)))
theorem nf_q {K : PySem.W.Frag} {H : Hp} {s : Nat} {g : Grid} {Q : V → Hp → Prop} (q : ∀ v H', Same H H' → Dp K H' v (dDue (Nf s g)) → Q v H') :
    (Nf s g = none → ∀ H', Same H H' → Q .non H') ∧ ∀ i n, Nf s g = some (i, n) → ∀ (t : Addr) H', Same H H' → H' t = some (.tup [vN (i / 8), vN (i % 8), vN n]) → Q (.ref t) H' :=
  ⟨fun e H' s' => q _ H' s' (by rw [e]; exact .non), fun i n e t H' s' ht => q _ H' s' (by rw [e]; exact dT3_dp ht)⟩
def sp_nf (K : PySem.W.Frag) : Sp := fun vs H Q _ => ∃ (s : Nat) (a : Addr) (k : Bool) (g : Grid), vs = [.int ((s : Int) + 1), .ref a] ∧ s < 5 ∧ GrB k K H a g ∧ Sq (sdF s) g ∧ ∀ v H', Same H H' → Dp K H' v (dDue (Nf s g)) → Q v H'
theorem ok_nearest_format (T : Txt K mg) : FnOk P w K mg base CX0 4 T.f_nearest_format T.d_nearest_format ["size", "grid"] (sp_nf K) := by
  refine T.F_nearest_format.ok sc_nearest_format (fun vs H Q E h => ?_) (fun cdv A outer s H vs Q E hr h => ?_)
  · obtain ⟨s, a, k, g, rfl, _⟩ := h
    rfl
  · obtain ⟨s0, a, k, g, rfl, hs, hG, sq, q⟩ := h
    obtain ⟨q1, q2⟩ := nf_q q
    refine ⟨_, (pss_cons (ps_expr (pe_call (ok_need_size T) (hr.mono (by decide)) (by rfl) T.g_need_size T.F_need_size.kp T.b_need_size .nil pass0 (pa_cons (pv 0) pa_nil)))
      (pss_cons (ps_expr (pe_call (ok_need_grid T) (hr.mono (by decide)) (by rfl) T.g_need_grid T.F_need_grid.kp T.b_need_grid .nil pass0 (pa_cons (pv 0) (pa_cons (pv 1) pa_nil))))
      (pss_cons (ps_asg (pe_call (ok_seen_strips T) (hr.mono (by decide)) (by rfl) T.g_seen_strips T.F_seen_strips.kp T.b_seen_strips .nil pass0 (pa_cons (pv 0) (pa_cons (pv 1) pa_nil))) (pg_tup rfl (pgs_cons (pg_name (i := 2) sc_nearest_format.nd rfl (.inl rfl)) (pgs_cons (pg_name (i := 3) sc_nearest_format.nd rfl (.inl rfl)) pgs_nil))))
      (pss_one (ps_ret (pe_call (ok_nearest_told T) (hr.mono (by decide)) (by rfl) T.g_nearest_told T.F_nearest_told.kp T.b_nearest_told .nil pass0 (pa_cons (pv 2) (pa_cons (pv 3) pa_nil)))))))), ?_⟩
    refine ⟨_, rfl, s0, rfl, hs, ?_⟩
    refine ⟨_, rfl, _, rfl, sdF s0, s0, a, k, g, rfl, hs, sd_side hs, hG, sq, fun H1 s1 => ?_⟩
    have G1 := hG.same s1
    refine ⟨_, rfl, _, rfl, s0, a, k, g, rfl, hs, G1, sq, fun t H2 s2 ht => ?_⟩
    refine ⟨t, _, rfl, .inl (.inl ht), rfl, _, _, rfl, _, _, rfl, rfl, ?_⟩
    refine ⟨_, rfl, _, rfl, _, _, rfl, dark_lt (cells_len hs g) (cells_ok hs sq), seen_lt (cells_len hs g), fun e H3 s3 => q1 e _ ((s1.trans s2).trans s3), fun i n e t3 H3 s3 h3 => q2 i n e t3 _ ((s1.trans s2).trans s3) h3⟩
def sp_uf (K : PySem.W.Frag) : Sp := fun vs H Q _ => ∃ (s : Nat) (a : Addr) (k : Bool) (g : Grid) (l m : Nat), vs = [.int ((s : Int) + 1), .ref a, vN l, vN m] ∧ s < 5 ∧ l < 4 ∧ m < 8 ∧ GrB k K H a g ∧ Sq (sdF s) g ∧ ∀ H', Same H H' → Q (vN (farF (darkF (cellsF s g)) (seenF (cellsF s g)) (8 * l + m))) H'
theorem ok_unlike_format (T : Txt K mg) : FnOk P w K mg base CX0 4 T.f_unlike_format T.d_unlike_format ["size", "grid", "level", "mask"] (sp_uf K) := by
  refine T.F_unlike_format.ok sc_unlike_format (fun vs H Q E h => ?_) (fun cdv A outer s H vs Q E hr h => ?_)
  · obtain ⟨s, a, k, g, l, m, rfl, _⟩ := h
    rfl
  · obtain ⟨s0, a, k, g, l, m, rfl, hs, hl, hm, hG, sq, q⟩ := h
    refine ⟨_, (pss_cons (ps_expr (pe_call (ok_need_size T) (hr.mono (by decide)) (by rfl) T.g_need_size T.F_need_size.kp T.b_need_size .nil pass0 (pa_cons (pv 0) pa_nil)))
      (pss_cons (ps_expr (pe_call (ok_need_grid T) (hr.mono (by decide)) (by rfl) T.g_need_grid T.F_need_grid.kp T.b_need_grid .nil pass0 (pa_cons (pv 0) (pa_cons (pv 1) pa_nil))))
      (pss_cons (ps_expr (pe_call (ok_need_level T) (hr.mono (by decide)) (by rfl) T.g_need_level T.F_need_level.kp T.b_need_level .nil pass0 (pa_cons (pv 2) pa_nil)))
      (pss_cons (ps_expr (pe_call (ok_need_mask T) (hr.mono (by decide)) (by rfl) T.g_need_mask T.F_need_mask.kp T.b_need_mask .nil pass0 (pa_cons (pv 3) pa_nil)))
      (pss_cons (ps_asg (pe_call (ok_seen_strips T) (hr.mono (by decide)) (by rfl) T.g_seen_strips T.F_seen_strips.kp T.b_seen_strips .nil pass0 (pa_cons (pv 0) (pa_cons (pv 1) pa_nil))) (pg_tup rfl (pgs_cons (pg_name (i := 4) sc_unlike_format.nd rfl (.inl rfl)) (pgs_cons (pg_name (i := 5) sc_unlike_format.nd rfl (.inl rfl)) pgs_nil))))
      (pss_one (ps_ret (pe_call (ok_unlike_dots T) (hr.mono (by decide)) (by rfl) T.g_unlike_dots T.F_unlike_dots.kp T.b_unlike_dots .nil pass0 (pa_cons (pv 4) (pa_cons (pv 5) (pa_cons (pe_call (ok_word_of_format T) (hr.mono (by decide)) (by rfl) T.g_word_of_format T.F_word_of_format.kp T.b_word_of_format .nil pass0 (pa_cons (pv 2) (pa_cons (pv 3) pa_nil))) pa_nil))))))))))), ?_⟩
    refine ⟨_, rfl, s0, rfl, hs, ?_⟩
    refine ⟨_, rfl, _, rfl, sdF s0, s0, a, k, g, rfl, hs, sd_side hs, hG, sq, fun H1 s1 => ?_⟩
    have G1 := hG.same s1
    refine ⟨_, rfl, l, rfl, hl, ?_⟩
    refine ⟨_, rfl, m, rfl, hm, ?_⟩
    refine ⟨_, rfl, _, rfl, s0, a, k, g, rfl, hs, G1, sq, fun t H2 s2 ht => ?_⟩
    refine ⟨t, _, rfl, .inl (.inl ht), rfl, _, _, rfl, _, _, rfl, rfl, ?_⟩
    exact ⟨_, rfl, _, rfl, _, rfl, _, rfl, l, m, rfl, hl, hm, _, _, 8 * l + m, rfl, seen_lt (cells_len hs g), q _ (s1.trans s2)⟩
/-! CUT -/
def toldN (n : Nat) : List Nat := (List.range 5).map fun a => n / 2 ^ (4 - a) % 2
def genB : List Nat := [1, 1, 0, 1, 0, 1]
def xorAt (L : List Nat) (i : Nat) : Nat → List Nat
  | 0 => L
  | j + 1 => (xorAt L i j).set (i + j) ((xorAt L i j).getD (i + j) 0 ^^^ genB.getD j 0)
def leftF (n : Nat) : Nat → List Nat
  | 0 => toldN n ++ List.replicate 5 0
  | i + 1 => if (leftF n i).getD i 0 = 1 then xorAt (leftF n i) i 6 else leftF n i
def maskB : List Nat := [1, 0, 1, 1, 0, 0, 0, 1, 0, 1]
theorem written_bits {n : Nat} (h : n < 32) : ((toldN n ++ (leftF n 5).drop 5).zip maskB).map (fun p => p.1 ^^^ p.2) = fbits n :=
  of_decide_eq_true (all32 (P := fun n => decide (((toldN n ++ (leftF n 5).drop 5).zip maskB).map (fun p => p.1 ^^^ p.2) = fbits n)) (by decide +kernel) h)
theorem xorAt_len (L : List Nat) (i : Nat) : ∀ j, (xorAt L i j).length = L.length
  | 0 => rfl
  | j + 1 => by
    show (List.set _ _ _).length = _
    rw [List.length_set, xorAt_len L i j]
theorem leftF_len (n : Nat) : ∀ i, (leftF n i).length = 10
  | 0 => rfl
  | i + 1 => by
    unfold leftF
    split
    · rw [xorAt_len, leftF_len n i]
    · exact leftF_len n i
theorem cut5 (L : List Nat) (h : L.length = 10) : cutV (L.map vN) (some 5) none = (L.drop 5).map vN := by
  unfold cutV
  rw [List.length_map, h, show HT.sIx 10 0 (some 5) = 5 by decide, show HT.sIx 10 10 none = 10 by decide, List.take_of_length_le (by rw [List.length_drop, List.length_map, h]; decide), List.map_drop]
def sp_written : Sp := fun vs H Q _ => ∃ l m : Nat, vs = [vN l, vN m] ∧ l < 4 ∧ m < 8 ∧ ∀ (D : Addr) H', Same H H' → H D = none → H' D = some (.lst ((fbits (8 * l + m)).map vN)) → Q (.ref D) H'
theorem ok__law_written (T : Txt K mg) : FnOk P w K mg base CX0 1 T.f__law_written T.d__law_written ["_law_level_so", "_law_mask_so"] sp_written := by
  refine T.F__law_written.ok sc__law_written (fun vs H Q E h => ?_) (fun cdv A outer s H vs Q E hr h => ?_)
  · obtain ⟨l, m, rfl, _⟩ := h
    rfl
  · obtain ⟨l, m, rfl, hl, hm, q⟩ := h
    refine ⟨_, (pss_cons (ps_set (i := 2) sc__law_written.nd rfl (.inr rfl) (pe_op op_add (pe_op op_mul pe_int (pv 0)) (pv 1)))
      (pss_cons (ps_setLc (i := 4) (own := [("_law_at", 3)]) rfl sc__law_written.nd rfl rfl (sw_true rfl rfl rfl (by decide +kernel)) (pi_range1 (by rfl) T.n_range (pa_cons pe_int pa_nil)) (blkOk_by (N := ["_law_level_so", "_law_mask_so", "_law_number", "_law_at", "_law_told_so", "_law_left", "_law_to", "_law_bit", "_law_one", "_law_other"]) (sc := defScope s__law_written) (by decide +kernel)) (fun _ _ _ _ _ => by exact (pg_name (i := 3) sc__law_written.nd rfl (.inl rfl))) (fun _ _ _ _ _ => by exact pts_nil) (fun _ _ _ _ _ => by exact (pe_op op_and (pe_op op_shr (pv 2) (pe_op op_sub pe_int (pv 3))) pe_int)))
      (pss_cons (ps_set (i := 5) sc__law_written.nd rfl (.inl rfl) (pe_op op_cat (pv 4) (pe_op op_rep (pe_lst (pa_cons pe_int pa_nil)) pe_int)))
      (pss_cons (ps_for PassesOwn.never rfl (pi_range1 (by rfl) T.n_range (pa_cons pe_int pa_nil)) (pg_name (i := 3) sc__law_written.nd rfl (.inl rfl)) (pss_one (ps_if (pt_cmpR op_eq (pe_ix ix_list (pv 5) (pv 3) (fun _ _ => rfl)) pe_int (nomark _)) (pss_one (ps_for PassesOwn.never rfl (pi_enum (by rfl) T.n_enumerate (pa_cons (pe_lst (pa_cons pe_int (pa_cons pe_int (pa_cons pe_int (pa_cons pe_int (pa_cons pe_int (pa_cons pe_int pa_nil))))))) pa_nil)) (pg_tup rfl (pgs_cons (pg_name (i := 6) sc__law_written.nd rfl (.inl rfl)) (pgs_cons (pg_name (i := 7) sc__law_written.nd rfl (.inl rfl)) pgs_nil))) (pss_one (ps_asg (pe_op op_xor (pe_ix ix_list (pv 5) (pe_op op_add (pv 3) (pv 6)) (fun _ _ => rfl)) (pv 7)) (pg_sub (pv 5) (pe_op op_add (pv 3) (pv 6)) set_list))))) pss_nil)))
      (pss_one (ps_ret (pe_lc (own := [("_law_one", 8), ("_law_other", 9)]) (g := gTup K 2 (gCons (gName 8) (gCons (gName 9) gNil))) rfl sc__law_written.nd (pi_zip (by rfl) T.n_zip (pa_cons (pe_op op_cat (pv 4) (pe_slice sl_list (pv 5) (po_some pe_int) po_none)) (pa_cons (pe_lst (pa_cons pe_int (pa_cons pe_int (pa_cons pe_int (pa_cons pe_int (pa_cons pe_int (pa_cons pe_int (pa_cons pe_int (pa_cons pe_int (pa_cons pe_int (pa_cons pe_int pa_nil))))))))))) pa_nil))) (blkOk_by (N := ["_law_level_so", "_law_mask_so", "_law_number", "_law_at", "_law_told_so", "_law_left", "_law_to", "_law_bit", "_law_one", "_law_other"]) (sc := defScope s__law_written) (by decide +kernel)) (fun _ _ _ _ _ => by (refine pg_tup ?_ ?_); (exact rfl); (refine pgs_cons ?_ ?_); (exact (pg_name (i := 8) sc__law_written.nd rfl (.inl rfl))); (refine pgs_cons ?_ ?_); (exact (pg_name (i := 9) sc__law_written.nd rfl (.inl rfl))); (exact pgs_nil)) (fun _ _ _ _ _ => by exact pts_nil) (fun _ _ _ _ _ => by exact (pe_op op_xor (pv 8) (pv 9)))))))))), ?_⟩
    refine ⟨_, rfl, _, _, rfl, rfl, .inl ⟨by decide, by decide⟩, _, rfl, _, _, rfl, rfl, ?_⟩
    have hn : 8 * l + m < 32 := by omega
    generalize en : 8 * l + m = n at hn q
    have eN : V.int (8 * (l : Int) + (m : Int)) = vN n := by
      rw [← en]
      rfl
    refine ⟨5, rfl, by decide, by decide, fun D hD => ?_⟩
    refine lc_range (lo := 0) (n := 5) (fun i H' => Same H H' ∧ H' D = some (.lst (((toldN n).take i).map vN))) ⟨same_upd hD, upd_same⟩ ?_ ?_
    · rintro i H1 hi ⟨sm, out⟩
      refine ⟨rfl, ?_⟩
      refine ⟨_, rfl, _, rfl, _, _, rfl, rfl, _, _, rfl, rfl, (by omega), _, _, rfl, rfl, ?_⟩
      have ev : V.int (Builtin.bitAnd ((8 * (l : Int) + (m : Int)) / 2 ^ ((4 : Int) - (0 + (i : Int))).toNat) 1) = vN (n / 2 ^ (4 - i) % 2) := by
        have e1 : ((4 : Int) - (0 + (i : Int))).toNat = 4 - i := by omega
        have e2 : (8 * (l : Int) + (m : Int)) = (n : Int) := V.int.inj eN
        have e3 : (n : Int) / 2 ^ (4 - i) = ((n / 2 ^ (4 - i) : Nat) : Int) := by
          rw [Int.natCast_ediv, Int.natCast_pow]
          rfl
        rw [e1, e2, e3, band1]
        rfl
      have et : (toldN n)[i]? = some (n / 2 ^ (4 - i) % 2) := by
        unfold toldN
        rw [List.getElem?_map, List.getElem?_range hi]
        rfl
      refine ⟨_, out, ?_, fun x o hx => ?_, ?_⟩
      · rw [List.length_map, List.length_take]
        exact small1000 (by omega)
      · rw [upd_ne (ne_of_none hx hD)]
        exact sm _ _ hx
      · rw [upd_same, List.take_add_one, et, Option.toList_some, List.map_append, List.map_cons, List.map_nil, ← ev]
    · rintro H1 ⟨sm, out⟩
      rw [List.take_of_length_le (by unfold toldN; rw [List.length_map, List.length_range]; exact Nat.le_refl _)] at out
      refine ⟨_, rfl, (by show 1 ≤ sizeLine; decide), fun z hz => ?_⟩
      have s2 := same_upd (o := .lst [V.int 0]) hz
      refine ⟨z, _, _, rfl, rfl, upd_same, by decide, by decide, (by show 1 * 5 ≤ sizeLine; decide), fun z2 hz2 => ?_⟩
      have s3 := same_upd (o := .lst (List.replicate ((5 : Int)).toNat [V.int 0]).flatten) hz2
      refine ⟨D, z2, _, _, rfl, rfl, s3 _ _ (s2 _ _ out), upd_same, (by show 10 ≤ sizeLine; decide), fun tl htl => ?_⟩
      have s4 := same_upd (o := .lst (List.map vN (toldN n) ++ (List.replicate ((5 : Int)).toNat [V.int 0]).flatten)) htl
      have oD := s4 _ _ (s3 _ _ (s2 _ _ out))
      have oL : (upd (upd (upd H1 z (.lst [V.int 0])) z2 (.lst (List.replicate ((5 : Int)).toNat [V.int 0]).flatten)) tl (.lst (List.map vN (toldN n) ++ (List.replicate ((5 : Int)).toNat [V.int 0]).flatten))) tl = some (.lst ((leftF n 0).map vN)) := by
        rw [upd_same]
        unfold leftF
        rw [List.map_append]
        rfl
      have sA := ((sm.trans s2).trans s3).trans s4
      have neq : tl ≠ D := fun e => by
        have := s3 _ _ (s2 _ _ out)
        rw [← e, htl] at this
        cases this
      have freeT : H tl = none := Same.free ((sm.trans s2).trans s3) htl
      generalize (upd (upd (upd H1 z (.lst [V.int 0])) z2 (.lst (List.replicate ((5 : Int)).toNat [V.int 0]).flatten)) tl (.lst (List.map vN (toldN n) ++ (List.replicate ((5 : Int)).toNat [V.int 0]).flatten))) = H2 at oD oL sA ⊢
      refine ⟨5, rfl, by decide, by decide, ?_⟩
      refine for_range (lo := 0) (n := 5) (fun i σ H' => ∃ z3 z6 z7 : Option V, σ = [some (vN l), some (vN m), some (.int (8 * (l : Int) + (m : Int))), z3, some (.ref D), some (.ref tl), z6, z7, none, none] ∧ Same H H' ∧ H' D = some (.lst ((toldN n).map vN)) ∧ H' tl = some (.lst ((leftF n i).map vN))) ⟨_, _, _, rfl, sA, oD, oL⟩ ?_ ?_
      · clear sA oD oL s4 H2
        rintro i σ H2 hi ⟨z3, z6, z7, rfl, sA, oD, oL⟩
        have ll := leftF_len n i
        have el : (leftF n i)[i]? = some ((leftF n i).getD i 0) := by
          rw [List.getD_eq_getElem?_getD, List.getElem?_eq_getElem (by omega)]
          rfl
        refine ⟨_, rfl, _, rfl, tl, _, _, vN ((leftF n i).getD i 0), rfl, rfl, .inl (.inl oL), (by rw [Int.zero_add]; exact atI_nat (by rw [List.getElem?_map, el]; rfl)), rfl, _, rfl, ?_⟩
        refine ite2 (fun c => ?_) (fun c => ?_)
        · have c1 : (leftF n i).getD i 0 = 1 := vN_inj (y := 1) (of_decide_eq_true c)
          refine ⟨(by show 6 ≤ sizeLine; decide), fun e he => ?_⟩
          have s5 := same_upd (o := .lst (genB.map vN)) he
          refine ⟨e, _, rfl, .inl (.inl upd_same), ?_⟩
          have neT : tl ≠ e := fun z => by rw [z, he] at oL; cases oL
          have neD : D ≠ e := fun z => by rw [z, he] at oD; cases oD
          refine for_it (walk_enum (K := K) (a := e) (xs := genB.map vN)) (fun j σ H' => ∃ z6 z7 : Option V, σ = [some (vN l), some (vN m), some (.int (8 * (l : Int) + (m : Int))), some (.int (0 + (i : Int))), some (.ref D), some (.ref tl), z6, z7, none, none] ∧ Same H H' ∧ H' D = some (.lst ((toldN n).map vN)) ∧ H' tl = some (.lst ((xorAt (leftF n i) i j).map vN)) ∧ H' e = some (.lst (genB.map vN)))
            ⟨_, _, rfl, sA.trans s5, s5 _ _ oD, s5 _ _ oL, upd_same⟩ (fun j σ H' _ ⟨_, _, _, _, _, _, h⟩ => .inl (.inl h)) ?_ ?_
          · rintro j v σ H3 H4 hj ⟨z6, z7, rfl, sB, pD, pL, pe⟩ ⟨T1, x, y, rfl, hT1, rfl, hx, hy⟩
            have hj : j < 6 := hj
            cases hx
            have ey : y = vN (genB.getD j 0) := by
              have hy : (genB.map vN)[j]? = some y := hy
              rw [List.getElem?_map] at hy
              obtain ⟨b, hb, rfl⟩ := Option.map_eq_some_iff.mp hy
              rw [List.getD_eq_getElem?_getD, hb]
              rfl
            subst ey
            have s6 := same_upd (o := .tup [.int (j : Int), vN (genB.getD j 0)]) hT1
            have xl := xorAt_len (leftF n i) i j
            have ex : (xorAt (leftF n i) i j)[i + j]? = some ((xorAt (leftF n i) i j).getD (i + j) 0) := by
              rw [List.getD_eq_getElem?_getD, List.getElem?_eq_getElem (by omega)]
              rfl
            have eij : (0 : Int) + (i : Int) + (j : Int) = ((i + j : Nat) : Int) := by omega
            refine ⟨T1, _, rfl, .inl (.inl upd_same), rfl, _, _, rfl, _, _, rfl, rfl, ?_⟩
            refine ⟨_, rfl, _, rfl, _, rfl, _, _, rfl, rfl, tl, _, _, vN ((xorAt (leftF n i) i j).getD (i + j) 0), rfl, rfl, .inl (.inl (s6 _ _ pL)), (by rw [eij]; exact atI_nat (by rw [List.getElem?_map, ex]; rfl)), ?_⟩
            refine ⟨_, rfl, _, _, rfl, rfl, ?_⟩
            refine ⟨_, rfl, _, rfl, _, rfl, _, _, rfl, rfl, tl, _, _, i + j, rfl, rfl, s6 _ _ pL, (by rw [eij]; exact ixN_nat (by rw [List.length_map]; omega)), ?_⟩
            refine ⟨_, _, rfl, fun x o hx => ?_, ?_, ?_, ?_⟩
            · rw [upd_ne (ne_of_none hx freeT)]
              exact s6 _ _ (sB _ _ hx)
            · rw [upd_ne neq.symm]
              exact s6 _ _ pD
            · rw [upd_same]
              show some (HO.lst _) = some (HO.lst ((List.set _ _ _).map vN))
              rw [List.map_set]
              exact congrArg (fun z => some (HO.lst (List.set (List.map vN (xorAt (leftF n i) i j)) (i + j) z))) (congrArg V.int (bx _ _))
            · rw [upd_ne neT.symm]
              exact s6 _ _ pe
          · rintro σ H3 ⟨z6, z7, rfl, sB, pD, pL, pe⟩
            refine ⟨_, _, _, rfl, sB, pD, ?_⟩
            show H3 tl = some (.lst ((if _ then _ else _ : List Nat).map vN))
            rw [if_pos c1]
            exact pL
        · refine ⟨_, _, _, rfl, sA, oD, ?_⟩
          show H2 tl = some (.lst ((if _ then _ else _ : List Nat).map vN))
          rw [if_neg (fun e => c (decide_eq_true (by rw [e]; rfl)))]
          exact oL
      · clear sA oD oL s4 H2
        rintro σ H2 ⟨z3, z6, z7, rfl, sA, oD, oL⟩
        have c5 := cut5 _ (leftF_len n 5)
        have l5 : ((leftF n 5).drop 5).length = 5 := by rw [List.length_drop, leftF_len]
        have lt : (toldN n).length = 5 := by unfold toldN; rw [List.length_map, List.length_range]
        have lz : (toldN n ++ (leftF n 5).drop 5).length = 10 := by rw [List.length_append, lt, l5]
        refine ⟨_, rfl, _, rfl, 5, rfl, tl, _, rfl, .inl (.inl oL), fun p hp => ?_⟩
        have s3 := same_upd (o := .lst (cutV ((leftF n 5).map vN) (some 5) none)) hp
        refine ⟨D, p, _, _, rfl, rfl, s3 _ _ oD, upd_same, ?_, fun ca hca => ?_⟩
        · rw [c5, List.length_map, List.length_map, lt, l5]
          decide
        have s4 := same_upd (o := .lst (List.map vN (toldN n) ++ cutV ((leftF n 5).map vN) (some 5) none)) hca
        refine ⟨(by show 10 ≤ sizeLine; decide), fun cb hcb => ?_⟩
        have s5 := same_upd (o := .lst (maskB.map vN)) hcb
        have gA : (upd (upd (upd H2 p (.lst (cutV ((leftF n 5).map vN) (some 5) none))) ca (.lst (List.map vN (toldN n) ++ cutV ((leftF n 5).map vN) (some 5) none))) cb (.lst (maskB.map vN))) ca = some (.lst ((toldN n ++ (leftF n 5).drop 5).map vN)) := s5 _ _ (by rw [upd_same, c5, List.map_append])
        have gB : (upd (upd (upd H2 p (.lst (cutV ((leftF n 5).map vN) (some 5) none))) ca (.lst (List.map vN (toldN n) ++ cutV ((leftF n 5).map vN) (some 5) none))) cb (.lst (maskB.map vN))) cb = some (.lst (maskB.map vN)) := upd_same
        have sB := ((sA.trans s3).trans s4).trans s5
        generalize ht : (upd (upd (upd H2 p (.lst (cutV ((leftF n 5).map vN) (some 5) none))) ca (.lst (List.map vN (toldN n) ++ cutV ((leftF n 5).map vN) (some 5) none))) cb (.lst (maskB.map vN))) = H5 at gA gB sB
        refine ⟨ca, cb, (toldN n ++ (leftF n 5).drop 5).map vN, maskB.map vN, rfl, .inl (.inl (by rw [← gA, ← ht]; rfl)), .inl (.inl (by rw [← gB, ← ht]; rfl)), fun R hR => ?_⟩
        refine lc_it (walk_zip (K := K) (a := ca) (b := cb) (xs := (toldN n ++ (leftF n 5).drop 5).map vN) (ys := maskB.map vN) (n := 10) (by rw [List.length_map, lz]; rfl)) (fun i H' => Same H5 H' ∧ H' R = some (.lst (((fbits n).take i).map vN))) ?_ (fun i H' _ h => ⟨.inl (.inl (h.1 _ _ gA)), .inl (.inl (h.1 _ _ gB))⟩) ?_ ?_
        · refine ⟨fun b o hb => ?_, upd_same⟩
          rw [← ht] at hb
          exact same_upd hR b o hb
        · rintro i v H6 H7 hi ⟨sm, out⟩ ⟨T1, x, y, rfl, hT, rfl, hx, hy⟩
          have hR' : H5 R = none := by
            rw [← ht]
            exact hR
          have hx : ((toldN n ++ (leftF n 5).drop 5).map vN)[i]? = some x := hx
          have hy : (maskB.map vN)[i]? = some y := hy
          rw [List.getElem?_map] at hx hy
          obtain ⟨a0, ha, rfl⟩ := Option.map_eq_some_iff.mp hx
          obtain ⟨b0, hb, rfl⟩ := Option.map_eq_some_iff.mp hy
          have ef : (fbits n)[i]? = some (a0 ^^^ b0) := by
            rw [← written_bits hn, List.getElem?_map, (List.getElem?_zip_eq_some (z := (a0, b0))).mpr ⟨ha, hb⟩]
            rfl
          have s6 := same_upd (o := .tup [vN a0, vN b0]) hT
          refine ⟨T1, _, rfl, .inl (.inl upd_same), rfl, _, _, rfl, _, _, rfl, rfl, rfl, ?_⟩
          refine ⟨_, rfl, _, rfl, _, _, rfl, rfl, ?_⟩
          refine ⟨_, s6 _ _ out, ?_, fun c o hc => ?_, ?_⟩
          · rw [List.length_map, List.length_take, fbits_len]
            exact small1000 (by omega)
          · rw [upd_ne (ne_of_none hc hR')]
            exact s6 _ _ (sm _ _ hc)
          · rw [upd_same, List.take_add_one, ef, Option.toList_some, List.map_append]
            exact congrArg (fun z => some (HO.lst ((List.take i (fbits n)).map vN ++ [z]))) (congrArg V.int (bx a0 b0))
        · rintro H6 ⟨sm, out⟩
          have hR' : H5 R = none := by
            rw [← ht]
            exact hR
          rw [List.take_of_length_le (by rw [fbits_len]; exact Nat.le_refl _)] at out
          exact q R H6 (sB.trans sm) (Same.free sB hR') out
/-! CUT -/
theorem RwI.ext {p : Addr} {H H' H2 : Hp} {D : Addr} {M : List Addr} {g : Grid} {n : Nat} {o : HO} (F : RwI p H H' D M g n) (hp : H p = some o) (s : Kp p H' H2) : RwI p H H2 D M g n where
  kp := F.kp.trans s
  out := s _ _ F.out fun e => by rw [← e, F.newD] at hp; cases hp
  len := F.len
  row j l r e1 e2 := ⟨s _ _ (F.row j l r e1 e2).1 (fun e => by rw [← e, F.new j l e1] at hp; cases hp), (F.row j l r e1 e2).2⟩
  sq := F.sq
  nod := F.nod
  new := F.new
  newD := F.newD
theorem RwI.put {p : Addr} {H H' : Hp} {D l : Addr} {M : List Addr} {g : Grid} {n x y : Nat} {o : Option Nat} (F : RwI p H H' D M g n) (lg : g.length = n) (hx : x < n) (hl : M[x]? = some l) (ho : DotOk o) :
    RwI p H (upd H' l (.lst (((g.getD x []).set y o).map vG))) D M (putG g x y o) n where
  kp b u hb nb := by
    rw [upd_ne (ne_of_none hb (F.new x l hl))]
    exact F.kp _ _ hb nb
  out := by
    rw [upd_ne (F.row x l (g.getD x []) hl (by rw [getD_in (by omega)]; exact List.getElem?_eq_getElem _)).2.symm]
    exact F.out
  len := by
    unfold putG
    rw [List.length_set]
    exact F.len
  row j l' r e1 e2 := by
    by_cases c : j = x
    · subst c
      cases hl.symm.trans e1
      unfold putG at e2
      rw [List.getElem?_set_self (by omega)] at e2
      cases e2
      exact ⟨upd_same, (F.row j l (g.getD j []) hl (by rw [getD_in (by omega)]; exact List.getElem?_eq_getElem _)).2⟩
    · unfold putG at e2
      rw [List.getElem?_set_ne (fun z => c z.symm)] at e2
      obtain ⟨a1, a2⟩ := F.row j l' r e1 e2
      have ne : l' ≠ l := fun e => c (by
        subst e
        exact (List.getElem?_inj (List.getElem?_eq_some_iff.mp e1).1 F.nod).mp (e1.trans hl.symm))
      exact ⟨by rw [upd_ne ne]; exact a1, a2⟩
  sq r hr := by
    unfold putG at hr
    rcases List.mem_or_eq_of_mem_set hr with h | rfl
    · exact F.sq r h
    · have q := F.sq (g.getD x []) (getD_mem (by omega))
      refine ⟨by rw [List.length_set]; exact q.1, fun o' ho' => ?_⟩
      rcases List.mem_or_eq_of_mem_set ho' with h | rfl
      · exact q.2 o' h
      · exact ho
  nod := F.nod
  new := F.new
  newD := F.newD
theorem RwI.Sq {p : Addr} {H H' : Hp} {D : Addr} {M : List Addr} {g : Grid} {n : Nat} (F : RwI p H H' D M g n) (lg : g.length = n) : My.Sq n g := ⟨lg, fun r hr => (F.sq r hr).1, fun r hr o ho => (F.sq r hr).2 o ho⟩
theorem RwI.gr {K : PySem.W.Frag} {p : Addr} {H H' : Hp} {D : Addr} {M : List Addr} {g : Grid} {n : Nat} (F : RwI p H H' D M g n) : GrB true K H' D g :=
  ⟨M, .lst F.out, F.len, fun j l r e1 e2 => .lst (F.row j l r e1 e2).1⟩
theorem putG_len (g : Grid) (x y : Nat) (o : Option Nat) : (putG g x y o).length = g.length := by
  unfold putG
  rw [List.length_set]
def sptU (u : List (Nat × Nat)) (i : Nat) : Nat × Nat := u.getD i (0, 0)
def layG (u : List (Nat × Nat)) (b : List Nat) (g : Grid) : Nat → Grid
  | 0 => g
  | i + 1 => putG (layG u b g i) (sptU u i).1 (sptU u i).2 (some (b.getD i 0))
theorem used_nodup {s : Nat} (hs : s < 5) : (usedF (sdF s)).Nodup := by
  rw [used_at hs]
  exact of_decide_eq_true (all5 (P := fun s => decide (usedL.getD s []).Nodup) (by decide +kernel) hs)
theorem used_len {s : Nat} (hs : s < 5) : (usedF (sdF s)).length = 20 := by
  have := cells_len hs []
  unfold cellsF at this
  rw [List.length_map] at this
  exact this
theorem sptU_at {u : List (Nat × Nat)} {i : Nat} (h : i < u.length) : u[i]? = some (sptU u i) := by
  unfold sptU
  rw [List.getD_eq_getElem?_getD, List.getElem?_eq_getElem h]
  rfl
theorem sptU_in {s i : Nat} (hs : s < 5) (hi : i < 20) : (sptU (usedF (sdF s)) i).1 < sdF s ∧ (sptU (usedF (sdF s)) i).2 < sdF s :=
  used_in hs (List.mem_iff_getElem?.mpr ⟨i, sptU_at (by rw [used_len hs]; exact hi)⟩)
theorem sptU_inj {s i j : Nat} (hs : s < 5) (hi : i < 20) (hj : j < 20) (h : sptU (usedF (sdF s)) i = sptU (usedF (sdF s)) j) : i = j :=
  (List.getElem?_inj (by rw [used_len hs]; exact hi) (used_nodup hs)).mp (by rw [sptU_at (by rw [used_len hs]; exact hi), sptU_at (by rw [used_len hs]; exact hj), h])
theorem dot_bit {b : List Nat} (h : ∀ x ∈ b, x < 2) (i : Nat) : DotOk (some (b.getD i 0)) ∧ DotOk (some (1 - b.getD i 0)) := by
  have : b.getD i 0 < 2 := by
    by_cases c : i < b.length
    · exact h _ (getD_mem c)
    · rw [List.getD_eq_getElem?_getD, List.getElem?_eq_none (by omega)]
      decide
  have : b.getD i 0 = 0 ∨ b.getD i 0 = 1 := by omega
  rcases this with e | e <;> rw [e]
  · exact ⟨.inr (.inl rfl), .inr (.inr rfl)⟩
  · exact ⟨.inr (.inr rfl), .inr (.inl rfl)⟩
theorem lay_sq {s : Nat} (hs : s < 5) {b : List Nat} (hb : ∀ x ∈ b, x < 2) {g : Grid} (sq : Sq (sdF s) g) : ∀ i, i ≤ 20 → Sq (sdF s) (layG (usedF (sdF s)) b g i)
  | 0, _ => sq
  | i + 1, h => putG_sq (lay_sq hs hb sq i (by omega)) (sptU_in hs (by omega)).1 (dot_bit hb i).1
theorem lay_cell {s : Nat} (hs : s < 5) {b : List Nat} (hb : ∀ x ∈ b, x < 2) {g : Grid} (sq : Sq (sdF s) g) : ∀ i j, i ≤ 20 → j < i → cell (layG (usedF (sdF s)) b g i) (sptU (usedF (sdF s)) j).1 (sptU (usedF (sdF s)) j).2 = some (b.getD j 0)
  | 0, j, _, h => absurd h (by omega)
  | i + 1, j, h, hj => by
    have a := sptU_in hs (show i < 20 by omega)
    have c := sptU_in hs (show j < 20 by omega)
    show cell (putG _ _ _ _) _ _ = _
    rw [cell_put (lay_sq hs hb sq i (by omega)) a.1 a.2 c.1 c.2]
    by_cases e : j = i
    · subst e
      rw [if_pos ⟨rfl, rfl⟩]
    · rw [if_neg (fun z => e (sptU_inj hs (by omega) (by omega) (Prod.ext z.1 z.2)))]
      exact lay_cell hs hb sq i j (by omega) (by omega)
/-- the dots of the list are as the bits say, the other dots of the strips are lies -/
def ToldI (s : Nat) (b : List Nat) (w : List (Nat × Nat)) (g : Grid) : Prop :=
  ∀ j, j < 20 → cell g (sptU (usedF (sdF s)) j).1 (sptU (usedF (sdF s)) j).2 = if sptU (usedF (sdF s)) j ∈ w then some (b.getD j 0) else some (1 - b.getD j 0)
theorem told_start {s : Nat} (hs : s < 5) {b : List Nat} (hb : ∀ x ∈ b, x < 2) {g : Grid} (sq : Sq (sdF s) g) : ToldI s b (usedF (sdF s)) (layG (usedF (sdF s)) b g 20) := fun j hj => by
  rw [if_pos (List.mem_iff_getElem?.mpr ⟨j, sptU_at (by rw [used_len hs]; exact hj)⟩)]
  exact lay_cell hs hb sq 20 j (Nat.le_refl _) hj
theorem told_step {s k : Nat} (hs : s < 5) {b : List Nat} {w : List (Nat × Nat)} {g : Grid} {q : Nat × Nat} (sq : Sq (sdF s) g) (hw : w.Sublist (usedF (sdF s))) (T : ToldI s b w g) (hq : w[k]? = some q) :
    ∃ x, cell g q.1 q.2 = some x ∧ (∃ j, x = b.getD j 0) ∧ ToldI s b (w.eraseIdx k) (putG g q.1 q.2 (some (1 - x))) := by
  have hin : q ∈ usedF (sdF s) := hw.subset (List.mem_of_getElem? hq)
  obtain ⟨i, hi⟩ := List.mem_iff_getElem?.mp hin
  have i20 : i < 20 := by
    have := (List.getElem?_eq_some_iff.mp hi).1
    rw [used_len hs] at this
    exact this
  have eq : sptU (usedF (sdF s)) i = q := by
    have := sptU_at (u := usedF (sdF s)) (i := i) (by rw [used_len hs]; exact i20)
    rw [hi] at this
    exact (Option.some.inj this).symm
  have wn : w.Nodup := hw.nodup (used_nodup hs)
  have cq := T i i20
  rw [eq, if_pos (List.mem_of_getElem? hq)] at cq
  refine ⟨_, cq, ⟨i, rfl⟩, fun j hj => ?_⟩
  have a := used_in hs hin
  have c := sptU_in hs hj
  rw [cell_put sq a.1 a.2 c.1 c.2]
  by_cases e : sptU (usedF (sdF s)) j = q
  · have ej : j = i := sptU_inj hs hj i20 (e.trans eq.symm)
    subst ej
    rw [if_pos ⟨by rw [e], by rw [e]⟩, if_neg]
    intro h
    obtain ⟨m, m1, m2⟩ := List.mem_eraseIdx_iff_getElem?.mp h
    rw [e] at m2
    exact m1 ((List.getElem?_inj (List.getElem?_eq_some_iff.mp m2).1 wn).mp (m2.trans hq.symm))
  · rw [if_neg (fun z => e (Prod.ext z.1 z.2)), T j hj]
    have iff : sptU (usedF (sdF s)) j ∈ w.eraseIdx k ↔ sptU (usedF (sdF s)) j ∈ w := by
      refine ⟨fun h => (List.eraseIdx_sublist w k).subset h, fun h => ?_⟩
      obtain ⟨m, hm⟩ := List.mem_iff_getElem?.mp h
      exact List.mem_eraseIdx_iff_getElem?.mpr ⟨m, fun z => e (by rw [z, hq] at hm; exact (Option.some.inj hm).symm), hm⟩
    by_cases h : sptU (usedF (sdF s)) j ∈ w
    · rw [if_pos h, if_pos (iff.mpr h)]
    · rw [if_neg h, if_neg (fun z => h (iff.mp z))]
theorem rest_len : ∀ {w u : List (Nat × Nat)}, w.Sublist u → u.Nodup → (u.filter fun q => !decide (q ∈ w)).length + w.length = u.length
  | _, _, .slnil, _ => rfl
  | w, _ :: u, .cons a h, n => by
    have na := (List.nodup_cons.mp n).1
    have ih := rest_len h (List.nodup_cons.mp n).2
    rw [List.filter_cons, if_pos (by simp; exact fun z => na (h.subset z)), List.length_cons, List.length_cons]
    omega
  | _ :: w, _ :: u, .cons₂ a h, n => by
    have na := (List.nodup_cons.mp n).1
    have ih := rest_len h (List.nodup_cons.mp n).2
    rw [List.filter_cons, if_neg (by simp), List.length_cons, List.length_cons]
    have e : (u.filter fun q => !decide (q ∈ a :: w)) = u.filter fun q => !decide (q ∈ w) := List.filter_congr fun q hq => by
      have : q ≠ a := fun z => na (by rw [← z]; exact hq)
      simp [this]
    rw [e]
    omega
theorem wrong_rest {w : List (Nat × Nat)} {c : Nat × Nat → Option Nat} : ∀ (b : List Nat) (u : List (Nat × Nat)), b.length = u.length → (∀ x ∈ b, x < 2) → (∀ i, i < u.length → c (sptU u i) = if sptU u i ∈ w then some (b.getD i 0) else some (1 - b.getD i 0)) →
    wrongF b (u.map c) = (u.filter fun q => !decide (q ∈ w)).length
  | [], [], _, _, _ => rfl
  | [], _ :: _, h, _, _ => by simp at h
  | _ :: _, [], h, _, _ => by simp at h
  | x :: b, q :: u, h, hb, hc => by
    have hx := hb x (List.mem_cons_self ..)
    have c0 := hc 0 (by simp)
    have c0 : c q = if q ∈ w then some x else some (1 - x) := c0
    have ih := wrong_rest b u (by simpa using h) (fun y hy => hb y (List.mem_cons_of_mem _ hy)) (fun i hi => hc (i + 1) (by simp; exact hi))
    unfold wrongF at ih ⊢
    rw [List.map_cons, List.zip_cons_cons, List.filter_cons, List.filter_cons]
    by_cases e : q ∈ w
    · rw [if_pos e] at c0
      rw [if_neg (by rw [c0]; simp; omega), if_neg (by simp [e])]
      exact ih
    · rw [if_neg e] at c0
      rw [if_pos (by rw [c0]; simp), if_pos (by simp [e]), List.length_cons, List.length_cons, ih]
theorem told_wrong {s : Nat} (hs : s < 5) {b : List Nat} {w : List (Nat × Nat)} {g : Grid} (lb : b.length = 20) (hb : ∀ x ∈ b, x < 2) (hw : w.Sublist (usedF (sdF s))) (T : ToldI s b w g) : wrongF b (cellsF s g) + w.length = 20 := by
  unfold cellsF
  rw [wrong_rest (w := w) b (usedF (sdF s)) (by rw [lb, used_len hs]) hb (fun i hi => T i (by rw [used_len hs] at hi; exact hi)), rest_len hw (used_nodup hs), used_len hs]
theorem told_bits {s : Nat} (hs : s < 5) {b : List Nat} {w : List (Nat × Nat)} {g : Grid} (hb : ∀ x ∈ b, x < 2) (T : ToldI s b w g) : ∀ o ∈ cellsF s g, o = some 0 ∨ o = some 1 := by
  intro o ho
  obtain ⟨q, hq, rfl⟩ := List.mem_map.mp ho
  obtain ⟨i, hi⟩ := List.mem_iff_getElem?.mp hq
  have i20 : i < 20 := by
    have := (List.getElem?_eq_some_iff.mp hi).1
    rw [used_len hs] at this
    exact this
  have := sptU_at (u := usedF (sdF s)) (i := i) (by rw [used_len hs]; exact i20)
  rw [hi] at this
  rw [Option.some.inj this]
  have d := dot_bit hb i
  show cell g _ _ = _ ∨ cell g _ _ = _
  rw [T i i20]
  split
  · rcases d.1 with h | h | h
    · cases h
    · exact .inl h
    · exact .inr h
  · rcases d.2 with h | h | h
    · cases h
    · exact .inl h
    · exact .inr h
theorem RwI.back {p : Addr} {H0 H H' : Hp} {D : Addr} {M : List Addr} {g : Grid} {n : Nat} (F : RwI p H H' D M g n) (s : Same H0 H) : RwI p H0 H' D M g n where
  kp := (Same.kp s).trans F.kp
  out := F.out
  len := F.len
  row := F.row
  sq := F.sq
  nod := F.nod
  new j l e := Same.free s (F.new j l e)
  newD := Same.free s F.newD
theorem ref_ne {r : List (Option Nat)} {D : List Addr} (h : 8 ≤ r.length) : r.map vG ≠ D.map V.ref := fun e => by
  cases r with
  | nil => simp at h
  | cons o r =>
    cases D with
    | nil => cases e
    | cons d D =>
      have := (List.cons.inj e).1
      cases o <;> cases this
/-- the heap while the strips are laid -/
structure AskI (p : Addr) (H H' : Hp) (G : Addr) (M : List Addr) (g : Grid) (s : Nat) (Dt F A B W : Addr) (L D : List Addr) (bs : List Nat) : Prop where
  rw' : RwI p H H' G M g (sdF s)
  lg : g.length = sdF s
  sd : SideOk (sdF s)
  gD : H' Dt = some (.lst (D.map V.ref))
  gF : H' F = some (.lst ([A, B].map V.ref))
  gA : H' A = some (.lst ((L.take 10).map V.ref))
  gB : H' B = some (.lst ((L.drop 10).map V.ref))
  gW : H' W = some (.lst (bs.map vN))
  lW : bs.length = 10
  sp : Spots H' L (usedF (sdF s))
  gp : ∃ x y z, H' p = some (WellL x y z)
  new : H Dt = none
  nF : F ≠ Dt
  nA : A ≠ Dt
  nB : B ≠ Dt
  nG : G ≠ Dt
  nW : W ≠ Dt
theorem AskI.put {p : Addr} {H H' : Hp} {G : Addr} {M : List Addr} {g : Grid} {s : Nat} {Dt F A B W : Addr} {L D : List Addr} {bs : List Nat} {x y : Nat} {l : Addr} {o : Option Nat} (h : AskI p H H' G M g s Dt F A B W L D bs)
    (hx : x < sdF s) (hl : M[x]? = some l) (ho : DotOk o) : AskI p H (upd H' l (.lst (((g.getD x []).set y o).map vG))) G M (putG g x y o) s Dt F A B W L D bs := by
  have hrow := h.rw'.row x l (g.getD x []) hl (by rw [getD_in (by rw [h.lg]; exact hx)]; exact List.getElem?_eq_getElem _)
  have len : (g.getD x []).length = sdF s := (h.rw'.sq _ (getD_mem (by rw [h.lg]; exact hx))).1
  have s8 := side_le h.sd
  have refs : ∀ (z : Addr) (E : List Addr), H' z = some (.lst (E.map V.ref)) → z ≠ l := fun z E hz e => by
    rw [e, hrow.1] at hz
    exact ref_ne (by omega) (HO.lst.inj (Option.some.inj hz))
  have keep : ∀ z o', H' z = some o' → z ≠ l → (upd H' l (.lst (((g.getD x []).set y o).map vG))) z = some o' := fun z o' hz n => by
    rw [upd_ne n]
    exact hz
  obtain ⟨a1, a2, a3, gp⟩ := h.gp
  refine ⟨h.rw'.put h.lg hx hl ho, by rw [putG_len]; exact h.lg, h.sd, keep _ _ h.gD (refs _ _ h.gD), keep _ _ h.gF (refs _ _ h.gF), keep _ _ h.gA (refs _ _ h.gA), keep _ _ h.gB (refs _ _ h.gB), keep _ _ h.gW fun e => ?_, h.lW,
    (h.sp.keep fun b xs hb => keep _ _ hb (fun e => by rw [e, hrow.1] at hb; cases hb)), ⟨a1, a2, a3, keep _ _ gp fun e => ?_⟩, h.new, h.nF, h.nA, h.nB, h.nG, h.nW⟩
  · have hz := h.gW
    rw [e, hrow.1] at hz
    have q := congrArg List.length (HO.lst.inj (Option.some.inj hz))
    rw [List.length_map, List.length_map, h.lW, len] at q
    rcases h.sd with z | z | z | z | z <;> omega
  · rw [e, hrow.1] at gp
    have q := congrArg List.length (HO.lst.inj (Option.some.inj gp))
    rw [List.length_map, len] at q
    have : sdF s = 3 := q
    omega
theorem AskI.dots {p : Addr} {H H' : Hp} {G : Addr} {M : List Addr} {g : Grid} {s : Nat} {Dt F A B W : Addr} {L D : List Addr} {bs : List Nat} {E : List Addr} {o : HO} (h : AskI p H H' G M g s Dt F A B W L D bs) (hp : H p = some o) :
    AskI p H (upd H' Dt (.lst (E.map V.ref))) G M g s Dt F A B W L E bs := by
  have keep : ∀ z o', H' z = some o' → z ≠ Dt → (upd H' Dt (.lst (E.map V.ref))) z = some o' := fun z o' hz n => by
    rw [upd_ne n]
    exact hz
  have s8 := side_le h.sd
  obtain ⟨a1, a2, a3, gp⟩ := h.gp
  have npD : p ≠ Dt := fun e => by rw [e, h.new] at hp; cases hp
  refine ⟨⟨fun b u hb nb => ?_, keep _ _ h.rw'.out h.nG, h.rw'.len, fun j l r e1 e2 => ?_, h.rw'.sq, h.rw'.nod, h.rw'.new, h.rw'.newD⟩, h.lg, h.sd, upd_same, keep _ _ h.gF h.nF, keep _ _ h.gA h.nA, keep _ _ h.gB h.nB, keep _ _ h.gW h.nW, h.lW,
    (h.sp.keep fun b xs hb => keep _ _ hb (fun e => by rw [e, h.gD] at hb; cases hb)), ⟨a1, a2, a3, keep _ _ gp npD⟩, h.new, h.nF, h.nA, h.nB, h.nG, h.nW⟩
  · rw [upd_ne (ne_of_none hb h.new)]
    exact h.rw'.kp _ _ hb nb
  · obtain ⟨q1, q2⟩ := h.rw'.row j l r e1 e2
    refine ⟨keep _ _ q1 fun e => ?_, q2⟩
    rw [e, h.gD] at q1
    exact ref_ne (by rw [(h.rw'.sq r (List.mem_of_getElem? e2)).1]; exact s8.1) (HO.lst.inj (Option.some.inj q1)).symm
theorem AskI.well {p : Addr} {H H' : Hp} {G : Addr} {M : List Addr} {g : Grid} {s : Nat} {Dt F A B W : Addr} {L D : List Addr} {bs : List Nat} {x y z : Int} {o : HO} (h : AskI p H H' G M g s Dt F A B W L D bs) (hp : H p = some o) (n : ∀ q ∈ [F, A, B, W], q ≠ p) :
    AskI p H (upd H' p (WellL x y z)) G M g s Dt F A B W L D bs := by
  have keep : ∀ zz o', H' zz = some o' → zz ≠ p → (upd H' p (WellL x y z)) zz = some o' := fun zz o' hz n => by
    rw [upd_ne n]
    exact hz
  have npD : Dt ≠ p := fun e => by rw [← e, h.new] at hp; cases hp
  obtain ⟨a1, a2, a3, gp⟩ := h.gp
  exact ⟨h.rw'.ext hp Kp.upd, h.lg, h.sd, keep _ _ h.gD npD, keep _ _ h.gF (n F (by simp)), keep _ _ h.gA (n A (by simp)), keep _ _ h.gB (n B (by simp)), keep _ _ h.gW (n W (by simp)), h.lW,
    (h.sp.keep fun b xs hb => keep _ _ hb (fun e => by rw [e, gp] at hb; cases hb)), ⟨x, y, z, upd_same⟩, h.new, h.nF, h.nA, h.nB, h.nG, h.nW⟩
theorem AskI.ext {p : Addr} {H H' H2 : Hp} {G : Addr} {M : List Addr} {g : Grid} {s : Nat} {Dt F A B W : Addr} {L D : List Addr} {bs : List Nat} {o : HO} (h : AskI p H H' G M g s Dt F A B W L D bs) (hp : H p = some o) (k : Same H' H2) :
    AskI p H H2 G M g s Dt F A B W L D bs :=
  ⟨h.rw'.ext hp (Same.kp k), h.lg, h.sd, k _ _ h.gD, k _ _ h.gF, k _ _ h.gA, k _ _ h.gB, k _ _ h.gW, h.lW, h.sp.same k, let ⟨a, b, c, q⟩ := h.gp; ⟨a, b, c, k _ _ q⟩, h.new, h.nF, h.nA, h.nB, h.nG, h.nW⟩
theorem Spots.erase {H : Hp} {L : List Addr} {w : List (Nat × Nat)} (h : Spots H L w) (k : Nat) : Spots H (L.eraseIdx k) (w.eraseIdx k) where
  len := by rw [List.length_eraseIdx, List.length_eraseIdx, h.len]
  at' j l q e1 e2 := by
    rw [List.getElem?_eraseIdx] at e1 e2
    by_cases c : j < k
    · rw [if_pos c] at e1 e2
      exact h.at' j l q e1 e2
    · rw [if_neg c] at e1 e2
      exact h.at' (j + 1) l q e1 e2
theorem erase_map (L : List Addr) : ∀ k, (L.map V.ref).eraseIdx k = (L.eraseIdx k).map V.ref := fun k => by
  refine List.ext_getElem? fun i => ?_
  rw [List.getElem?_eraseIdx, List.getElem?_map, List.getElem?_map, List.getElem?_map, List.getElem?_eraseIdx]
  split <;> rfl
/-! CUT -/
theorem rib_len {s : Nat} (hs : s < 5) : (ribA (sdF s) ((sdF s - 2) * (sdF s - 2))).length = 10 ∧ (ribB (sdF s) ((sdF s - 2) * (sdF s - 2))).length = 10 :=
  of_decide_eq_true (all5 (P := fun s => decide ((ribA (sdF s) ((sdF s - 2) * (sdF s - 2))).length = 10 ∧ (ribB (sdF s) ((sdF s - 2) * (sdF s - 2))).length = 10)) (by decide +kernel) hs)
def sp_asked : Sp := fun vs H Q _ => ∃ (p : Addr) (a b c : Int) (s l m : Nat), vs = [.ref p, .int ((s : Int) + 1), vN l, vN m] ∧ s < 5 ∧ l < 4 ∧ m < 8 ∧ H p = some (WellL a b c) ∧
  ∀ (t G : Addr) (M : List Addr) (g : Grid) (k z : Nat) (a' b' c' : Int) (H' : Hp), RwI p H H' G M g (sdF s) → g.length = sdF s → H' p = some (WellL a' b' c') → H' t = some (.tup [.ref G, vN k, vN z]) →
    (z = 0 → (∀ o ∈ cellsF s g, o = some 0 ∨ o = some 1) ∧ wrongF (fbits (8 * l + m) ++ fbits (8 * l + m)) (cellsF s g) = k) → Q (.ref t) H'
theorem ok__law_asked (T : Txt K mg) : FnOk P w K mg base CX0 4 T.f__law_asked T.d__law_asked ["_law_source", "_law_size_so", "_law_level_so", "_law_mask_so"] sp_asked := by
  refine T.F__law_asked.ok sc__law_asked (fun vs H Q E h => ?_) (fun cdv A outer s H vs Q E hr h => ?_)
  · obtain ⟨p, a, b, c, s, l, m, rfl, _⟩ := h
    rfl
  · obtain ⟨p, a, b0, c, s0, l, m, rfl, hs, hl, hm, hp, q⟩ := h
    refine ⟨_, (pss_cons (ps_set (i := 4) sc__law_asked.nd rfl (.inl rfl) (pe_ix ix_rowB (pe_call (ok__law_table T) (hr.mono (by decide)) (by rfl) T.g__law_table T.F__law_table.kp T.b__law_table .nil pass0 (pa_cons (pv 1) pa_nil)) pe_int (fun _ _ => rfl)))
      (pss_cons (ps_par3 (i := 5) (j := 6) (l := 7) (by rfl) sc__law_asked.nd rfl rfl rfl (by decide) (by decide) (by decide) rfl rfl rfl (pa_cons (pe_call (ok__law_grid T) (hr.mono (by decide)) (by rfl) T.g__law_grid T.F__law_grid.kp T.b__law_grid .nil pass0 (pa_cons (pv 0) (pa_cons (pv 4) pa_nil))) (pa_cons (pe_call (ok__law_ribbons T) (hr.mono (by decide)) (by rfl) T.g__law_ribbons T.F__law_ribbons.kp T.b__law_ribbons .nil pass0 (pa_cons (pv 4) pa_nil)) (pa_cons (pe_lst pa_nil) pa_nil))) (by rfl))
      (pss_cons (ps_set (i := 8) sc__law_asked.nd rfl (.inl rfl) (pe_call (ok__law_written T) (hr.mono (by decide)) (by rfl) T.g__law_written T.F__law_written.kp T.b__law_written .nil pass0 (pa_cons (pv 2) (pa_cons (pv 3) pa_nil))))
      (Evl.pss_cut (ps_for PassesOwn.never rfl (pi_list (pv 6)) (pg_name (i := 9) sc__law_asked.nd rfl (.inl rfl)) (pss_one (ps_for PassesOwn.never rfl (pi_zip (by rfl) T.n_zip (pa_cons (pv 9) (pa_cons (pv 8) pa_nil))) (pg_tup rfl (pgs_cons (pg_name (i := 10) sc__law_asked.nd rfl (.inl rfl)) (pgs_cons (pg_name (i := 11) sc__law_asked.nd rfl (.inl rfl)) pgs_nil))) (pss_cons (ps_asg (pv 11) (pg_sub (pe_ix ix_list (pv 5) (pe_ix ix_rowB (pv 10) pe_int (fun _ _ => rfl)) (fun _ _ => rfl)) (pe_ix ix_rowB (pv 10) pe_int (fun _ _ => rfl)) set_list))
      (pss_one (ps_expr (pe_bm PySem.F.plainAttrs_list PySem.F.slot_list_append PySem.F.type_list_append mt_append (pv 7) (pa_cons (pv 10) pa_nil))))))))
      (pss_cons (ps_par (i := 12) (j := 13) (by rfl) sc__law_asked.nd rfl rfl (by decide) rfl rfl (pa_cons (pe_call (ok__law_next T) (hr.mono (by decide)) (by rfl) T.g__law_next T.F__law_next.kp T.b__law_next .nil pass0 (pa_cons (pv 0) (pa_cons (pe_call (ok__law_pick T) (hr.mono (by decide)) (by rfl) T.g__law_pick T.F__law_pick.kp T.b__law_pick .nil pass0 (pa_cons (pv 0) (pa_cons (pe_lst (pa_cons pe_int (pa_cons pe_int (pa_cons pe_int pa_nil)))) pa_nil))) pa_nil))) (pa_cons (pe_call (ok__law_next T) (hr.mono (by decide)) (by rfl) T.g__law_next T.F__law_next.kp T.b__law_next .nil pass0 (pa_cons (pv 0) (pa_cons (pe_call (ok__law_pick T) (hr.mono (by decide)) (by rfl) T.g__law_pick T.F__law_pick.kp T.b__law_pick .nil pass0 (pa_cons (pv 0) (pa_cons (pe_lst (pa_cons pe_int (pa_cons pe_int (pa_cons pe_int pa_nil)))) pa_nil))) pa_nil))) pa_nil)) (by rfl))
      (Evl.pss_cut (ps_for PassesOwn.never rfl (pi_range1 (by rfl) T.n_range (pa_cons (pv 12) pa_nil)) (pg_name (i := 14) sc__law_asked.nd rfl (.inl rfl)) (pss_cons (ps_asg (pe_bm PySem.F.plainAttrs_list PySem.F.slot_list_pop PySem.F.type_list_pop mt_popAt (pv 7) (pa_cons (pe_call (ok__law_next T) (hr.mono (by decide)) (by rfl) T.g__law_next T.F__law_next.kp T.b__law_next .nil pass0 (pa_cons (pv 0) (pa_cons (pe_callB call_len_seq (by rfl) T.n_len (by decide +kernel) (pa_cons (pv 7) pa_nil)) pa_nil))) pa_nil)) (pg_tup rfl (pgs_cons (pg_name (i := 15) sc__law_asked.nd rfl (.inl rfl)) (pgs_cons (pg_name (i := 16) sc__law_asked.nd rfl (.inl rfl)) pgs_nil))))
      (pss_one (ps_asg (pe_op op_sub pe_int (pe_ix ix_list (pe_ix ix_list (pv 5) (pv 15) (fun _ _ => rfl)) (pv 16) (fun _ _ => rfl))) (pg_sub (pe_ix ix_list (pv 5) (pv 15) (fun _ _ => rfl)) (pv 16) set_list)))))
      (pss_cons (ps_for PassesOwn.never rfl (pi_range1 (by rfl) T.n_range (pa_cons (pe_callB (call_min2 rfl) (by rfl) T.n_min (by decide +kernel) (pa_cons (pv 13) (pa_cons (pe_callB call_len_seq (by rfl) T.n_len (by decide +kernel) (pa_cons (pv 7) pa_nil)) pa_nil))) pa_nil)) (pg_name (i := 14) sc__law_asked.nd rfl (.inl rfl)) (pss_cons (ps_asg (pe_bm PySem.F.plainAttrs_list PySem.F.slot_list_pop PySem.F.type_list_pop mt_popAt (pv 7) (pa_cons (pe_call (ok__law_next T) (hr.mono (by decide)) (by rfl) T.g__law_next T.F__law_next.kp T.b__law_next .nil pass0 (pa_cons (pv 0) (pa_cons (pe_callB call_len_seq (by rfl) T.n_len (by decide +kernel) (pa_cons (pv 7) pa_nil)) pa_nil))) pa_nil)) (pg_tup rfl (pgs_cons (pg_name (i := 15) sc__law_asked.nd rfl (.inl rfl)) (pgs_cons (pg_name (i := 16) sc__law_asked.nd rfl (.inl rfl)) pgs_nil))))
      (pss_one (ps_asg pe_non (pg_sub (pe_ix ix_list (pv 5) (pv 15) (fun _ _ => rfl)) (pv 16) set_list)))))
      (pss_one (ps_ret (pe_tup (pa_cons (pv 5) (pa_cons (pv 12) (pa_cons (pe_callB (call_min2 rfl) (by rfl) T.n_min (by decide +kernel) (pa_cons (pv 13) (pa_cons (pe_op op_sub pe_int (pv 12)) pa_nil))) pa_nil))))))))))))), ?_⟩
    obtain ⟨hm1, hm2⟩ := side_le (sd_ok hs)
    refine ⟨_, rfl, s0, rfl, hs, fun t0 c1 c2 c3 H1 s1 n0 n1 g0 g1 g2 => ?_⟩
    refine ⟨t0, _, 0, vN (sdF s0), false, rfl, rfl, .inl (.inl g0), rfl, ?_⟩
    refine ⟨_, rfl, _, rfl, p, a, b0, c, sdF s0, rfl, sd_ok hs, s1 _ _ hp, fun G M g a1 cc1 H2 R lg w2 => ?_⟩
    refine ⟨_, rfl, sdF s0, rfl, hm1, hm2, fun F A B LA LB H3 s3 gF gA gB spA spB => ?_⟩
    refine ⟨(by show 0 ≤ sizeLine; decide), fun Dt hDt => ⟨_, _, _, rfl, ?_⟩⟩
    have s4 := same_upd (o := .lst []) hDt
    refine ⟨_, rfl, _, rfl, l, m, rfl, hl, hm, fun W H5 s5 nW gW => ?_⟩
    have hn : 8 * l + m < 32 := by omega
    have R5 : RwI p H H5 G M g (sdF s0) := ((R.ext (s1 _ _ hp) (Same.kp ((s3.trans s4).trans s5))).back s1)
    have sA : Same H1 H2 → True := fun _ => trivial
    have lu : (usedF (sdF s0)).length = 20 := used_len hs
    have hAB : ribA (sdF s0) ((sdF s0 - 2) * (sdF s0 - 2)) ++ ribB (sdF s0) ((sdF s0 - 2) * (sdF s0 - 2)) = usedF (sdF s0) := rfl
    have lA : (ribA (sdF s0) ((sdF s0 - 2) * (sdF s0 - 2))).length = 10 ∧ (ribB (sdF s0) ((sdF s0 - 2) * (sdF s0 - 2))).length = 10 := rib_len hs
    have lLA : LA.length = 10 := by rw [spA.len]; exact lA.1
    have lLB : LB.length = 10 := by rw [spB.len]; exact lA.2
    have npDt : Dt ≠ p := fun e => by
      have := s3 _ _ w2
      rw [← e, hDt] at this
      cases this
    have old : ∀ z o', H3 z = some o' → H5 z = some o' ∧ z ≠ Dt := fun z o' hz => ⟨s5 _ _ (s4 _ _ hz), fun e => by rw [e, hDt] at hz; cases hz⟩
    have nWDt : W ≠ Dt := fun e => by
      rw [e, upd_same] at nW
      cases nW
    have newDt : H Dt = none := by
      cases e : H Dt with
      | none => rfl
      | some o =>
        have := s3 _ _ (R.kp _ _ (s1 _ _ e) npDt)
        rw [hDt] at this
        cases this
    have st : AskI p H H5 G M g s0 Dt F A B W (LA ++ LB) ((LA ++ LB).take 0) (fbits (8 * l + m)) :=
      ⟨R5, lg, sd_ok hs, s5 _ _ upd_same, (old _ _ gF).1, by rw [List.take_left' lLA]; exact (old _ _ gA).1, by rw [List.drop_left' lLA]; exact (old _ _ gB).1, gW, fbits_len _, ((spA.append spB).same (s4.trans s5)), ⟨_, _, _, (old _ _ (s3 _ _ w2)).1⟩, newDt, (old _ _ gF).2, (old _ _ gA).2, (old _ _ gB).2, (old _ _ (s3 _ _ R.out)).2, nWDt⟩
    have n4 : ∀ q ∈ [F, A, B, W], q ≠ p := fun q hq e => by
      have w3 := (old _ _ (s3 _ _ w2)).1
      rw [← e] at w3
      simp at hq
      rcases hq with rfl | rfl | rfl | rfl
      · rw [st.gF] at w3; cases w3
      · rw [st.gA] at w3
        have := congrArg List.length (HO.lst.inj (Option.some.inj w3))
        rw [List.length_map, List.take_left' lLA, lLA] at this
        cases this
      · rw [st.gB] at w3
        have := congrArg List.length (HO.lst.inj (Option.some.inj w3))
        rw [List.length_map, List.drop_left' lLA, lLB] at this
        cases this
      · rw [st.gW] at w3
        have := congrArg List.length (HO.lst.inj (Option.some.inj w3))
        rw [List.length_map, st.lW] at this
        cases this
    have hb : ∀ x ∈ fbits (8 * l + m) ++ fbits (8 * l + m), x < 2 := fun x hx => by
      rcases List.mem_append.mp hx with h | h
      · exact fbits_lt x h
      · exact fbits_lt x h
    have sq0 : Sq (sdF s0) g := R5.Sq lg
    clear sA R5 gW s5 s4 gF gA gB spA spB s3 R w2 g0 g1 g2 n0 n1 c1 c2 c3 t0 nW hDt old
    refine ⟨fun σ' H' => ∃ z9 z10 z11 : Option V, σ' = [some (.ref p), some (.int ((s0 : Int) + 1)), some (vN l), some (vN m), some (vN (sdF s0)), some (.ref G), some (.ref F), some (.ref Dt), some (.ref W), z9, z10, z11, none, none, none, none, none] ∧
      AskI p H H' G M (layG (usedF (sdF s0)) (fbits (8 * l + m) ++ fbits (8 * l + m)) g 20) s0 Dt F A B W (LA ++ LB) ((LA ++ LB).take 20) (fbits (8 * l + m)), ?_, ?_⟩
    · refine ⟨_, rfl, F, rfl, ⟨_, .inl (.inl st.gF)⟩, ?_⟩
      refine for_it (walk_list (K := K) (a := F) (xs := [A, B].map V.ref)) (fun r σ' H' => ∃ z9 z10 z11 : Option V, σ' = [some (.ref p), some (.int ((s0 : Int) + 1)), some (vN l), some (vN m), some (vN (sdF s0)), some (.ref G), some (.ref F), some (.ref Dt), some (.ref W), z9, z10, z11, none, none, none, none, none] ∧
        AskI p H H' G M (layG (usedF (sdF s0)) (fbits (8 * l + m) ++ fbits (8 * l + m)) g (10 * r)) s0 Dt F A B W (LA ++ LB) ((LA ++ LB).take (10 * r)) (fbits (8 * l + m))) ⟨_, _, _, rfl, st⟩ (fun r σ H' _ ⟨_, _, _, _, h⟩ => .inl (.inl h.gF)) ?_ ?_
      · rintro r v σ H6 H7 hr2 ⟨z9, z10, z11, rfl, st6⟩ ⟨rfl, e2⟩
        have hr2 : r < 2 := hr2
        obtain ⟨X, LX, rfl, gX, lX, hX⟩ : ∃ (X : Addr) (LX : List Addr), v = .ref X ∧ (∀ {H' gg D}, AskI p H H' G M gg s0 Dt F A B W (LA ++ LB) D (fbits (8 * l + m)) → H' X = some (.lst (LX.map V.ref))) ∧ LX.length = 10 ∧ ∀ j, j < 10 → LX[j]? = (LA ++ LB)[10 * r + j]? := by
          have : r = 0 ∨ r = 1 := by omega
          rcases this with rfl | rfl
          · cases e2
            refine ⟨A, (LA ++ LB).take 10, rfl, fun h => h.gA, by rw [List.length_take, List.length_append, lLA, lLB]; rfl, fun j hj => ?_⟩
            rw [List.getElem?_take_of_lt hj]
            simp
          · cases e2
            refine ⟨B, (LA ++ LB).drop 10, rfl, fun h => h.gB, by rw [List.length_drop, List.length_append, lLA, lLB], fun j hj => ?_⟩
            rw [List.getElem?_drop]
        refine ⟨_, rfl, _, rfl, X, W, _, _, rfl, .inl (.inl (gX st6)), .inl (.inl st6.gW), ?_⟩
        refine for_it (walk_zip (K := K) (a := X) (b := W) (xs := LX.map V.ref) (ys := (fbits (8 * l + m)).map vN) (n := 10) (by rw [List.length_map, List.length_map, lX, fbits_len]; rfl)) (fun j σ' H' => ∃ z10 z11 : Option V, σ' = [some (.ref p), some (.int ((s0 : Int) + 1)), some (vN l), some (vN m), some (vN (sdF s0)), some (.ref G), some (.ref F), some (.ref Dt), some (.ref W), some (.ref X), z10, z11, none, none, none, none, none] ∧
          AskI p H H' G M (layG (usedF (sdF s0)) (fbits (8 * l + m) ++ fbits (8 * l + m)) g (10 * r + j)) s0 Dt F A B W (LA ++ LB) ((LA ++ LB).take (10 * r + j)) (fbits (8 * l + m))) ⟨_, _, rfl, st6⟩ (fun j σ H' _ ⟨_, _, _, h⟩ => ⟨.inl (.inl (gX h)), .inl (.inl h.gW)⟩) ?_ ?_
        · rintro j v σ H8 H9 hj ⟨z10, z11, rfl, st8⟩ ⟨T1, x, y, rfl, hT, rfl, hx, hy⟩
          have hx : (LX.map V.ref)[j]? = some x := hx
          have hy : ((fbits (8 * l + m)).map vN)[j]? = some y := hy
          rw [List.getElem?_map] at hx hy
          obtain ⟨t, ht, rfl⟩ := Option.map_eq_some_iff.mp hx
          obtain ⟨bt, hbt, rfl⟩ := Option.map_eq_some_iff.mp hy
          rw [hX j hj] at ht
          have i20 : 10 * r + j < 20 := by omega
          have eb : (fbits (8 * l + m) ++ fbits (8 * l + m)).getD (10 * r + j) 0 = bt := by
            have l10 := fbits_len (8 * l + m)
            have : r = 0 ∨ r = 1 := by omega
            rcases this with rfl | rfl
            · rw [List.getD_eq_getElem?_getD, List.getElem?_append_left (by omega), show 10 * 0 + j = j by omega, hbt]
              rfl
            · rw [List.getD_eq_getElem?_getD, List.getElem?_append_right (by omega), l10, show 10 * 1 + j - 10 = j by omega, hbt]
              rfl
          have dk := (dot_bit hb (10 * r + j)).1
          rw [eb] at dk
          have st9 := st8.ext hp (same_upd (o := .tup [V.ref t, vN bt]) hT)
          obtain ⟨q1, q2⟩ := sptU_in hs i20
          have tq := st9.sp.at' _ t _ ht (sptU_at (u := usedF (sdF s0)) (by rw [lu]; exact i20))
          have el : M[(sptU (usedF (sdF s0)) (10 * r + j)).1]? = some (M[(sptU (usedF (sdF s0)) (10 * r + j)).1]'(by rw [st9.rw'.len, st9.lg]; exact q1)) := List.getElem?_eq_getElem _
          generalize M[(sptU (usedF (sdF s0)) (10 * r + j)).1]'(by rw [st9.rw'.len, st9.lg]; exact q1) = l0 at el
          have st10 := st9.put (y := (sptU (usedF (sdF s0)) (10 * r + j)).2) q1 el dk
          have gl := (st9.rw'.row _ l0 (List.getD _ (sptU (usedF (sdF s0)) (10 * r + j)).1 []) el (by rw [getD_in (by rw [st9.lg]; exact q1)]; exact List.getElem?_eq_getElem _)).1
          have ll := (st9.rw'.sq _ (getD_mem (d := []) (by rw [st9.lg]; exact q1))).1
          rw [List.map_set] at st10
          refine ⟨T1, _, rfl, .inl (.inl upd_same), rfl, _, _, rfl, _, _, rfl, rfl, ?_⟩
          refine ⟨_, rfl, _, rfl, _, rfl, t, _, 0, vN (sptU (usedF (sdF s0)) (10 * r + j)).1, false, rfl, rfl, .inl (.inl tq), rfl, G, _, _, .ref l0, rfl, rfl, .inl (.inl st9.rw'.out), atI_nat (by rw [List.getElem?_map, el]; rfl), ?_⟩
          refine ⟨_, rfl, t, _, 1, vN (sptU (usedF (sdF s0)) (10 * r + j)).2, false, rfl, rfl, .inl (.inl tq), rfl, l0, _, _, (sptU (usedF (sdF s0)) (10 * r + j)).2, rfl, rfl, gl, ixN_nat (by rw [List.length_map, ll]; exact q2), ?_⟩
          refine ⟨_, rfl, .inl ⟨rfl, _, .inl (.inl st10.gD)⟩, _, rfl, Dt, _, _, rfl, rfl, st10.gD, ?_, ?_⟩
          · rw [List.length_map, List.length_take]
            exact small1000 (by omega)
          have st11 := st10.dots (E := (LA ++ LB).take (10 * r + (j + 1))) hp
          have eD : (((LA ++ LB).take (10 * r + j)).map V.ref ++ [V.ref t]) = ((LA ++ LB).take (10 * r + (j + 1))).map V.ref := by
            rw [← Nat.add_assoc, List.take_add_one, ht, Option.toList_some, List.map_append]
            rfl
          rw [← eD] at st11
          refine ⟨_, _, rfl, ?_⟩
          have eL : putG (layG (usedF (sdF s0)) (fbits (8 * l + m) ++ fbits (8 * l + m)) g (10 * r + j)) (sptU (usedF (sdF s0)) (10 * r + j)).1 (sptU (usedF (sdF s0)) (10 * r + j)).2 (some bt) = layG (usedF (sdF s0)) (fbits (8 * l + m) ++ fbits (8 * l + m)) g (10 * r + (j + 1)) := by
            rw [← eb]
            rfl
          rw [eL] at st11
          exact st11
        · rintro σ H8 ⟨z10, z11, rfl, st8⟩
          exact ⟨_, _, _, rfl, st8⟩
      · rintro σ H6 ⟨z9, z10, z11, rfl, st6⟩
        exact ⟨_, _, _, rfl, st6⟩
    · rintro σ H6 ⟨z9, z10, z11, rfl, st6⟩
      obtain ⟨x, y, z, gp⟩ := st6.gp
      refine ⟨_, rfl, _, rfl, (by show 3 ≤ sizeLine; decide), fun l1 hl1 => ?_⟩
      have sa := st6.ext hp (same_upd (o := .lst [.int 1, .int 4, .int 10]) hl1)
      refine ⟨p, l1, x, y, z, _, rfl, ne_of_none gp hl1, same_upd hl1 _ _ gp, upd_same, (by show 0 < 3; decide), (by show 3 ≤ 1000; decide), fun i v x1 z1 hv => ?_⟩
      obtain ⟨m1, rfl, h0, h1⟩ : ∃ m1 : Int, v = .int m1 ∧ 0 < m1 ∧ m1 ≤ 10 := by
        have hm := List.mem_of_getElem? hv
        simp at hm
        rcases hm with rfl | rfl | rfl
        · exact ⟨1, rfl, by decide, by decide⟩
        · exact ⟨4, rfl, by decide, by decide⟩
        · exact ⟨10, rfl, by decide, by decide⟩
      have sb := sa.well (x := x1) (y := y) (z := z1) hp n4
      refine ⟨p, x1, y, z1, m1, rfl, upd_same, h0, by omega, fun k' x2 z2 k0 k1 => ?_⟩
      obtain ⟨k, rfl⟩ := Int.eq_ofNat_of_zero_le k0
      have sc := sb.well (x := x2) (y := y) (z := z2) hp n4
      have gp2 : (upd (upd (upd H6 l1 (.lst [.int 1, .int 4, .int 10])) p (WellL x1 y z1)) p (WellL x2 y z2)) p = some (WellL x2 y z2) := upd_same
      generalize (upd (upd (upd H6 l1 (.lst [.int 1, .int 4, .int 10])) p (WellL x1 y z1)) p (WellL x2 y z2)) = H7 at sc gp2
      clear sa sb st6 gp hl1 hv H6
      refine ⟨_, rfl, _, rfl, (by show 3 ≤ sizeLine; decide), fun l2 hl2 => ?_⟩
      have sa := sc.ext hp (same_upd (o := .lst [.int 1, .int 7, .int 21]) hl2)
      refine ⟨p, l2, x2, y, z2, _, rfl, ne_of_none gp2 hl2, same_upd hl2 _ _ gp2, upd_same, (by show 0 < 3; decide), (by show 3 ≤ 1000; decide), fun i2 v x3 z3 hv => ?_⟩
      obtain ⟨m2, rfl, h2, h3⟩ : ∃ m2 : Int, v = .int m2 ∧ 0 < m2 ∧ m2 ≤ 21 := by
        have hm := List.mem_of_getElem? hv
        simp at hm
        rcases hm with rfl | rfl | rfl
        · exact ⟨1, rfl, by decide, by decide⟩
        · exact ⟨7, rfl, by decide, by decide⟩
        · exact ⟨21, rfl, by decide, by decide⟩
      have sb := sa.well (x := x3) (y := y) (z := z3) hp n4
      refine ⟨p, x3, y, z3, m2, rfl, upd_same, h2, by omega, fun e' x4 z4 e0 e1 => ?_⟩
      obtain ⟨e, rfl⟩ := Int.eq_ofNat_of_zero_le e0
      have sd := sb.well (x := x4) (y := y) (z := z4) hp n4
      refine ⟨_, _, rfl, ?_⟩
      generalize (upd (upd (upd H7 l2 (.lst [.int 1, .int 7, .int 21])) p (WellL x3 y z3)) p (WellL x4 y z4)) = H8 at sd ⊢
      clear sa sb sc gp2 hl2 hv H7
      have lb20 : (fbits (8 * l + m) ++ fbits (8 * l + m)).length = 20 := by rw [List.length_append, fbits_len]
      have k9 : k < 10 := by omega
      have tk : (LA ++ LB).take 20 = LA ++ LB := List.take_of_length_le (by rw [List.length_append, lLA, lLB]; decide)
      rw [tk] at sd
      have spL : Spots H8 (LA ++ LB) (usedF (sdF s0)) := sd.sp
      refine ⟨fun σ' H' => ∃ (z9 z10 z11 z14 z15 z16 : Option V) (g' : Grid) (L' : List Addr) (w : List (Nat × Nat)), σ' = [some (.ref p), some (.int ((s0 : Int) + 1)), some (vN l), some (vN m), some (vN (sdF s0)), some (.ref G), some (.ref F), some (.ref Dt), some (.ref W), z9, z10, z11, some (vN k), some (vN e), z14, z15, z16] ∧
        AskI p H H' G M g' s0 Dt F A B W (LA ++ LB) L' (fbits (8 * l + m)) ∧ Spots H' L' w ∧ w.Sublist (usedF (sdF s0)) ∧ w.length + k = 20 ∧ ToldI s0 (fbits (8 * l + m) ++ fbits (8 * l + m)) w g', ?_, ?_⟩
      · refine ⟨_, rfl, (k : Int), rfl, by omega, by omega, ?_⟩
        refine for_range (lo := 0) (n := k) (fun t σ' H' => ∃ (z14 z15 z16 : Option V) (g' : Grid) (L' : List Addr) (w : List (Nat × Nat)), σ' = [some (.ref p), some (.int ((s0 : Int) + 1)), some (vN l), some (vN m), some (vN (sdF s0)), some (.ref G), some (.ref F), some (.ref Dt), some (.ref W), z9, z10, z11, some (vN k), some (vN e), z14, z15, z16] ∧
          AskI p H H' G M g' s0 Dt F A B W (LA ++ LB) L' (fbits (8 * l + m)) ∧ Spots H' L' w ∧ w.Sublist (usedF (sdF s0)) ∧ w.length + t = 20 ∧ ToldI s0 (fbits (8 * l + m) ++ fbits (8 * l + m)) w g') ⟨_, _, _, _, _, _, rfl, sd, spL, List.Sublist.refl _, by rw [lu], told_start hs hb sq0⟩ ?_ ?_
        · clear sd spL H8
          rintro t σ H8 ht ⟨z14, z15, z16, g', L', w, rfl, sd, spL, wS, wl, tI⟩
          obtain ⟨x1, x2, x3, gp⟩ := sd.gp
          have lL : L'.length = w.length := spL.len
          refine ⟨_, rfl, .inl ⟨rfl, _, .inl (.inl sd.gD)⟩, _, rfl, _, rfl, Dt, _, rfl, .inl (.inl (.inl sd.gD)), p, x1, x2, x3, _, rfl, gp, by rw [List.length_map]; omega, by rw [List.length_map]; omega, fun kk' a' c' h0 h1 => ?_⟩
          obtain ⟨kk, rfl⟩ := Int.eq_ofNat_of_zero_le h0
          rw [List.length_map] at h1
          have kl : kk < L'.length := by omega
          have kw : kk < w.length := by omega
          have et : L'[kk]? = some L'[kk] := List.getElem?_eq_getElem kl
          have ew : w[kk]? = some w[kk] := List.getElem?_eq_getElem kw
          generalize L'[kk] = ta at et
          generalize w[kk] = qq at ew
          have sb := sd.well (x := a') (y := x2) (z := c') hp n4
          have sb2 : Spots (upd H8 p (WellL a' x2 c')) L' w := spL.keep fun b xs hb => by
            rw [upd_ne (fun e => by rw [e, gp] at hb; cases hb)]
            exact hb
          have sc := sb.dots (E := L'.eraseIdx kk) hp
          have sc2 : Spots (upd (upd H8 p (WellL a' x2 c')) Dt (.lst ((L'.eraseIdx kk).map V.ref))) L' w := sb2.keep fun b xs hb => by
            rw [upd_ne (fun e => by rw [e, sb.gD] at hb; cases hb)]
            exact hb
          refine ⟨Dt, _, (kk : Int), kk, .ref ta, rfl, rfl, sb.gD, by omega, by omega, (ixN_seq (ixN_nat (by rw [List.length_map]; exact kl))).1, (by rw [List.getElem?_map, et]; rfl), ?_⟩
          rw [← erase_map] at sc sc2
          have tq := sc2.at' kk ta qq et ew
          obtain ⟨v, cv, ⟨jv, ejv⟩, tI2⟩ := told_step (k := kk) (q := qq) hs (sc.rw'.Sq sc.lg) wS tI ew
          obtain ⟨qi1, qi2⟩ := used_in hs (wS.subset (List.mem_of_getElem? ew))
          have el : M[qq.1]? = some (M[qq.1]'(by rw [sc.rw'.len, sc.lg]; exact qi1)) := List.getElem?_eq_getElem _
          generalize M[qq.1]'(by rw [sc.rw'.len, sc.lg]; exact qi1) = l0 at el
          have er : g'[qq.1]? = some (g'.getD qq.1 []) := by
            rw [getD_in (by rw [sc.lg]; exact qi1)]
            exact List.getElem?_eq_getElem _
          have gl := (sc.rw'.row qq.1 l0 _ el er).1
          have ll := (sc.rw'.sq _ (List.mem_of_getElem? er)).1
          have ec : (g'.getD qq.1 [])[qq.2]? = some (some v) := by
            rw [← cv]
            unfold cell
            rw [List.getD_eq_getElem?_getD (l := g'.getD qq.1 []), List.getElem?_eq_getElem (by rw [ll]; exact qi2)]
            rfl
          have dv := dot_bit hb jv
          rw [← ejv] at dv
          have v2 : v < 2 := by
            rcases dv.1 with h | h | h
            · cases h
            · cases h; decide
            · cases h; decide
          have sd2 := sc.put (y := qq.2) (o := some (1 - v)) qi1 el dv.2
          have sp2 : Spots _ (L'.eraseIdx kk) (w.eraseIdx kk) := (sc2.erase kk).keep (H2 := upd (upd (upd H8 p (WellL a' x2 c')) Dt (.lst ((L'.map V.ref).eraseIdx kk))) l0 (.lst (((g'.getD qq.1 []).set qq.2 (some (1 - v))).map vG))) fun b xs hb => by
            rw [upd_ne (fun e => by rw [e, gl] at hb; cases hb)]
            exact hb
          have ev : V.int (1 - (v : Int)) = vG (some (1 - v)) := congrArg V.int (by omega)
          rw [List.map_set, ← ev] at sd2 sp2
          refine ⟨ta, _, rfl, .inl (.inl tq), rfl, _, _, rfl, _, _, rfl, rfl, ?_⟩
          have gG : SqL K _ G (M.map V.ref) := .inl (.inl sc.rw'.out)
          have aG : atI (M.map V.ref) (qq.1 : Int) = some (.ref l0) := atI_nat (by rw [List.getElem?_map, el]; rfl)
          refine ⟨_, rfl, _, rfl, G, _, _, .ref l0, rfl, rfl, gG, aG, _, rfl, l0, _, _, vN v, rfl, rfl, .inl (.inl gl), atI_nat (by rw [List.getElem?_map, ec]; rfl), _, _, rfl, rfl, ?_⟩
          refine ⟨_, rfl, _, rfl, G, _, _, .ref l0, rfl, rfl, gG, aG, _, rfl, l0, _, _, qq.2, rfl, rfl, gl, ixN_nat (by rw [List.length_map, ll]; exact qi2), ?_⟩
          exact ⟨_, _, _, _, _, w.eraseIdx kk, rfl, sd2, sp2, (List.eraseIdx_sublist w kk).trans wS, by rw [List.length_eraseIdx_of_lt kw]; omega, tI2⟩
        · rintro σ H9 ⟨z14, z15, z16, g', L', w, rfl, st9, spL9, wS, wl, tI⟩
          exact ⟨_, _, _, _, _, _, g', L', w, rfl, st9, spL9, wS, wl, tI⟩
      · rintro σ H9 ⟨z9, z10, z11, z14, z15, z16, g', L', w, rfl, st9, spL9, wS, wl, tI⟩
        have lL : L'.length = w.length := spL9.len
        obtain ⟨nn, hnn, nn1, nn2⟩ : ∃ nn : Nat, (if (((L'.map V.ref).length : Nat) : Int) < (e : Int) then (((L'.map V.ref).length : Nat) : Int) else (e : Int)) = (nn : Int) ∧ nn ≤ w.length ∧ (e = 0 → nn = 0) := by
          refine ⟨min e w.length, ?_, by omega, by omega⟩
          rw [List.length_map, lL]
          split <;> omega
        refine ⟨_, rfl, _, rfl, Dt, _, rfl, .inl (.inl (.inl st9.gD)), _, _, rfl, (nn : Int), congrArg (fun z => [V.int z]) hnn, by omega, by omega, ?_⟩
        refine for_range (lo := 0) (n := nn) (fun t σ' H' => ∃ (z14 z15 z16 : Option V) (g2 : Grid) (L2 : List Addr) (w2 : List (Nat × Nat)), σ' = [some (.ref p), some (.int ((s0 : Int) + 1)), some (vN l), some (vN m), some (vN (sdF s0)), some (.ref G), some (.ref F), some (.ref Dt), some (.ref W), z9, z10, z11, some (vN k), some (vN e), z14, z15, z16] ∧
          AskI p H H' G M g2 s0 Dt F A B W (LA ++ LB) L2 (fbits (8 * l + m)) ∧ Spots H' L2 w2 ∧ w2.Sublist (usedF (sdF s0)) ∧ w2.length + t = w.length ∧ (t = 0 → g2 = g')) ⟨_, _, _, g', L', w, rfl, st9, spL9, wS, rfl, fun _ => rfl⟩ ?_ ?_
        · clear sd spL lL hnn z14 z15 z16
          rintro t σ H10 ht ⟨z14, z15, z16, g2, L2, w2, rfl, sd, spL, wS2, wl2, _⟩
          obtain ⟨x1, x2, x3, gp⟩ := sd.gp
          have lL : L2.length = w2.length := spL.len
          refine ⟨_, rfl, .inl ⟨rfl, _, .inl (.inl sd.gD)⟩, _, rfl, _, rfl, Dt, _, rfl, .inl (.inl (.inl sd.gD)), p, x1, x2, x3, _, rfl, gp, by rw [List.length_map]; omega, by rw [List.length_map]; omega, fun kk' a' c' h0 h1 => ?_⟩
          obtain ⟨kk, rfl⟩ := Int.eq_ofNat_of_zero_le h0
          rw [List.length_map] at h1
          have kl : kk < L2.length := by omega
          have kw : kk < w2.length := by omega
          have et : L2[kk]? = some L2[kk] := List.getElem?_eq_getElem kl
          have ew : w2[kk]? = some w2[kk] := List.getElem?_eq_getElem kw
          generalize L2[kk] = ta at et
          generalize w2[kk] = qq at ew
          have sb := sd.well (x := a') (y := x2) (z := c') hp n4
          have sb2 : Spots (upd H10 p (WellL a' x2 c')) L2 w2 := spL.keep fun b xs hb => by
            rw [upd_ne (fun e => by rw [e, gp] at hb; cases hb)]
            exact hb
          have sc := sb.dots (E := L2.eraseIdx kk) hp
          have sc2 : Spots (upd (upd H10 p (WellL a' x2 c')) Dt (.lst ((L2.eraseIdx kk).map V.ref))) L2 w2 := sb2.keep fun b xs hb => by
            rw [upd_ne (fun e => by rw [e, sb.gD] at hb; cases hb)]
            exact hb
          refine ⟨Dt, _, (kk : Int), kk, .ref ta, rfl, rfl, sb.gD, by omega, by omega, (ixN_seq (ixN_nat (by rw [List.length_map]; exact kl))).1, (by rw [List.getElem?_map, et]; rfl), ?_⟩
          rw [← erase_map] at sc sc2
          have tq := sc2.at' kk ta qq et ew
          obtain ⟨qi1, qi2⟩ := used_in hs (wS2.subset (List.mem_of_getElem? ew))
          have el : M[qq.1]? = some (M[qq.1]'(by rw [sc.rw'.len, sc.lg]; exact qi1)) := List.getElem?_eq_getElem _
          generalize M[qq.1]'(by rw [sc.rw'.len, sc.lg]; exact qi1) = l0 at el
          have er : g2[qq.1]? = some (g2.getD qq.1 []) := by
            rw [getD_in (by rw [sc.lg]; exact qi1)]
            exact List.getElem?_eq_getElem _
          have gl := (sc.rw'.row qq.1 l0 _ el er).1
          have ll := (sc.rw'.sq _ (List.mem_of_getElem? er)).1
          have sd2 := sc.put (y := qq.2) (o := none) qi1 el (.inl rfl)
          have sp2 : Spots _ (L2.eraseIdx kk) (w2.eraseIdx kk) := (sc2.erase kk).keep (H2 := upd (upd (upd H10 p (WellL a' x2 c')) Dt (.lst ((L2.map V.ref).eraseIdx kk))) l0 (.lst (((g2.getD qq.1 []).set qq.2 none).map vG))) fun b xs hb => by
            rw [upd_ne (fun e => by rw [e, gl] at hb; cases hb)]
            exact hb
          rw [List.map_set] at sd2 sp2
          refine ⟨ta, _, rfl, .inl (.inl tq), rfl, _, _, rfl, _, _, rfl, rfl, ?_⟩
          have gG : SqL K _ G (M.map V.ref) := .inl (.inl sc.rw'.out)
          have aG : atI (M.map V.ref) (qq.1 : Int) = some (.ref l0) := atI_nat (by rw [List.getElem?_map, el]; rfl)
          refine ⟨_, rfl, _, rfl, G, _, _, .ref l0, rfl, rfl, gG, aG, _, rfl, l0, _, _, qq.2, rfl, rfl, gl, ixN_nat (by rw [List.length_map, ll]; exact qi2), ?_⟩
          exact ⟨_, _, _, _, _, w2.eraseIdx kk, rfl, sd2, sp2, (List.eraseIdx_sublist w2 kk).trans wS2, by rw [List.length_eraseIdx_of_lt kw]; omega, fun z => by omega⟩
        · rintro σ H10 ⟨z14, z15, z16, g2, L2, w2, rfl, st10, _, _, _, same⟩
          obtain ⟨zz, hzz, zz0⟩ : ∃ zz : Nat, (if (20 : Int) - (k : Int) < (e : Int) then (20 : Int) - (k : Int) else (e : Int)) = (zz : Int) ∧ (zz = 0 → e = 0) := by
            refine ⟨min e (20 - k), ?_, by omega⟩
            split <;> omega
          obtain ⟨x1, x2, x3, gp⟩ := st10.gp
          refine ⟨_, rfl, _, rfl, _, rfl, _, rfl, _, _, rfl, rfl, _, _, rfl, (by show 3 ≤ sizeLine; decide), fun t3 ht3 => ?_⟩
          have s3 := same_upd (o := .tup [.ref G, vN k, .int (if (20 : Int) - (k : Int) < (e : Int) then (20 : Int) - (k : Int) else (e : Int))]) ht3
          refine q t3 G M g2 k zz x1 x2 x3 _ (st10.rw'.ext hp (Same.kp s3)) st10.lg (s3 _ _ gp) (by rw [upd_same]; exact congrArg (fun z => some (HO.tup [.ref G, vN k, .int z])) hzz) fun z => ?_
          have eg : g2 = g' := same (nn2 (zz0 z))
          rw [eg]
          refine ⟨told_bits hs hb tI, ?_⟩
          have := told_wrong hs lb20 hb wS tI
          omega
/-! CUT -/
/-- the table of the law: how many dots are not as each format says -/
def tabK (s : Nat) (g : Grid) (n : Nat) : List (List Key × V) := (List.range n).map fun i => ([.inl ((i / 8 : Nat) : Int), .inl ((i % 8 : Nat) : Int)], vN (wrongF (fbits i ++ fbits i) (cellsF s g)))
theorem tabK_len (s : Nat) (g : Grid) (n : Nat) : (tabK s g n).length = n := by
  unfold tabK
  rw [List.length_map, List.length_range]
theorem tabK_new (s : Nat) (g : Grid) {n : Nat} : valV (tabK s g n) [.inl ((n / 8 : Nat) : Int), .inl ((n % 8 : Nat) : Int)] = none := by
  unfold valV
  rw [Option.map_eq_none_iff, List.find?_eq_none]
  intro p hp
  unfold tabK at hp
  obtain ⟨i, hi, rfl⟩ := List.mem_map.mp hp
  have hi := List.mem_range.mp hi
  simp
  omega
theorem tabK_put (s : Nat) (g : Grid) (n : Nat) : putK (tabK s g n) [.inl ((n / 8 : Nat) : Int), .inl ((n % 8 : Nat) : Int)] (vN (wrongF (fbits n ++ fbits n) (cellsF s g))) = tabK s g (n + 1) := by
  rw [putK_new _ (tabK_new s g)]
  unfold tabK
  rw [List.range_succ, List.map_append]
  rfl
theorem wrong_step {b : List Nat} {cs : List (Option Nat)} {n x : Nat} {o : Option Nat} (hb : b[n]? = some x) (hc : cs[n]? = some o) : wrongF (b.take (n + 1)) (cs.take (n + 1)) = wrongF (b.take n) (cs.take n) + if o = some (1 - x) then 1 else 0 := by
  have l1 := (List.getElem?_eq_some_iff.mp hb).1
  have l2 := (List.getElem?_eq_some_iff.mp hc).1
  unfold wrongF
  rw [List.take_add_one, List.take_add_one, hb, hc, Option.toList_some, Option.toList_some, List.zip_append (by rw [List.length_take, List.length_take]; omega), List.filter_append, List.length_append]
  congr 1
  show (List.filter _ [(x, o)]).length = _
  rw [List.filter_cons]
  by_cases e : o = some (1 - x)
  · rw [if_pos (decide_eq_true e), if_pos e]
    rfl
  · rw [if_neg (by simp [e]), if_neg e]
    rfl
theorem vG_dpK {K : PySem.W.Frag} {H : Hp} (o : Option Nat) : Dp K H (vG o) (dG o) := by
  cases o with
  | none => exact .non
  | some n => exact .int _
theorem dG_shapedK (o : Option Nat) : SeqAt.shaped (dG o) = true := by cases o <;> rfl
theorem dG_int (o : Option Nat) (x : Nat) : PyData.eqv (dG o) (dI x) = decide (o = some x) := by
  cases o with
  | none => rfl
  | some n =>
    show PyData.eqv (dI n) (dI x) = _
    rw [dI_eqv]
    by_cases h : n = x
    · rw [h, decide_eq_true rfl, decide_eq_true rfl]
    · rw [decide_eq_false h, decide_eq_false (fun e => h (Option.some.inj e))]
theorem tabK_at (s : Nat) (g : Grid) {n i : Nat} (h : i < n) : (tabK s g n)[i]? = some ([.inl ((i / 8 : Nat) : Int), .inl ((i % 8 : Nat) : Int)], vN (wrongF (fbits i ++ fbits i) (cellsF s g))) := by
  unfold tabK
  rw [List.getElem?_map, List.getElem?_range h]
  rfl
theorem filter_snoc {i : Nat} {p : Nat → Bool} : (List.range (i + 1)).filter p = (List.range i).filter p ++ if p i = true then [i] else [] := by
  rw [List.range_succ, List.filter_append, List.filter_cons]
  rfl
theorem nf_most {d s k0 : Nat} (hm : (farsF d s).min? = some k0) :
    (((List.range 32).filter fun x => decide (farF d s x = k0)).length ≠ 1 → toldF (farsF d s) = none) ∧ ∀ i, ((List.range 32).filter fun x => decide (farF d s x = k0)) = [i] → i < 32 ∧ toldF (farsF d s) = some (i, k0) := by
  have hc : (farsF d s).count k0 = ((List.range 32).filter fun x => decide (farF d s x = k0)).length := by
    unfold farsF
    rw [List.count, List.countP_map, List.countP_eq_length_filter]
    congr 1
  refine ⟨fun h => ?_, fun i h => ?_⟩
  · unfold toldF
    rw [hm]
    exact if_neg (by rw [hc]; exact h)
  · have hi : i ∈ (List.range 32).filter fun x => decide (farF d s x = k0) := by rw [h]; exact List.mem_singleton.mpr rfl
    have hi2 := List.mem_filter.mp hi
    have i32 : i < 32 := List.mem_range.mp hi2.1
    have ef : farF d s i = k0 := of_decide_eq_true hi2.2
    refine ⟨i32, ?_⟩
    unfold toldF
    rw [hm]
    show (if _ then _ else _) = _
    rw [if_pos (by rw [hc, h]; rfl)]
    have e : (farsF d s).idxOf k0 = i := idx_of (by rw [fars_at i32, ef]) fun j hj e => by
      rw [fars_at (by omega)] at e
      have : j ∈ (List.range 32).filter fun x => decide (farF d s x = k0) := List.mem_filter.mpr ⟨List.mem_range.mpr (by omega), decide_eq_true (Option.some.inj e)⟩
      rw [h] at this
      have := List.mem_singleton.mp this
      omega
    rw [e]
/-- what is due of a strip -/
def DueOk (H : Hp) (s : Nat) (g : Grid) (k : Nat) (v : V) : Prop := (Nf s g = none ∧ v = .non) ∨ ∃ (i : Nat) (t : Addr), i < 32 ∧ Nf s g = some (i, k) ∧ v = .ref t ∧ H t = some (.tup [vN (i / 8), vN (i % 8), vN k])
theorem DueOk.same {H H' : Hp} {s : Nat} {g : Grid} {k : Nat} {v : V} (h : DueOk H s g k v) (q : Same H H') : DueOk H' s g k v := by
  rcases h with h | ⟨i, t, a, b, c, d⟩
  · exact .inl h
  · exact .inr ⟨i, t, a, b, c, q _ _ d⟩
theorem tabK_get (s : Nat) (g : Grid) {i : Nat} : ∀ {n : Nat}, i < n → valV (tabK s g n) [.inl ((i / 8 : Nat) : Int), .inl ((i % 8 : Nat) : Int)] = some (vN (wrongF (fbits i ++ fbits i) (cellsF s g)))
  | 0, h => by omega
  | n + 1, h => by
    have e : tabK s g (n + 1) = tabK s g n ++ [([.inl ((n / 8 : Nat) : Int), .inl ((n % 8 : Nat) : Int)], vN (wrongF (fbits n ++ fbits n) (cellsF s g)))] := by
      unfold tabK
      rw [List.range_succ, List.map_append]
      rfl
    rw [e]
    by_cases c : i < n
    · have ih := tabK_get s g c
      unfold valV at ih ⊢
      rw [List.find?_append]
      obtain ⟨pp, e1, e2⟩ := Option.map_eq_some_iff.mp ih
      rw [e1]
      exact congrArg some e2
    · have ei : i = n := by omega
      subst ei
      have nn := tabK_new s g (n := i)
      unfold valV at nn ⊢
      rw [Option.map_eq_none_iff] at nn
      rw [List.find?_append, nn]
      simp
structure MostI (H : Hp) (L : List Addr) (l : List Nat) (k : Nat) : Prop where
  len : L.length = l.length
  at' : ∀ (j : Nat) (t : Addr) (x : Nat), L[j]? = some t → l[j]? = some x → H t = some (.tup [vN (x / 8), vN (x % 8), vN k])
theorem MostI.same {H H' : Hp} {L : List Addr} {l : List Nat} {k : Nat} (h : MostI H L l k) (s : Same H H') : MostI H' L l k := ⟨h.len, fun j t x e1 e2 => s _ _ (h.at' j t x e1 e2)⟩
theorem MostI.keep {H H' : Hp} {L : List Addr} {l : List Nat} {k : Nat} (h : MostI H L l k) (s : ∀ b xs, H b = some (.tup xs) → H' b = some (.tup xs)) : MostI H' L l k := ⟨h.len, fun j t x e1 e2 => s _ _ (h.at' j t x e1 e2)⟩
theorem MostI.snoc {H : Hp} {L : List Addr} {l : List Nat} {k x : Nat} {t : Addr} (h : MostI H L l k) (e : H t = some (.tup [vN (x / 8), vN (x % 8), vN k])) : MostI H (L ++ [t]) (l ++ [x]) k := by
  refine ⟨by rw [List.length_append, List.length_append, h.len]; rfl, fun j t' x' e1 e2 => ?_⟩
  have hl := h.len
  by_cases c : j < L.length
  · rw [List.getElem?_append_left c] at e1
    rw [List.getElem?_append_left (by omega)] at e2
    exact h.at' j t' x' e1 e2
  · have hj := (List.getElem?_eq_some_iff.mp e1).1
    rw [List.length_append, List.length_singleton] at hj
    have e0 : j = L.length := by omega
    subst e0
    rw [List.getElem?_append_right (Nat.le_refl _), Nat.sub_self] at e1
    rw [List.getElem?_append_right (by omega), hl, Nat.sub_self] at e2
    cases e1
    cases e2
    exact e
theorem DueOk.dp {K : PySem.W.Frag} {H : Hp} {s : Nat} {g : Grid} {k : Nat} {v : V} (h : DueOk H s g k v) : Dp K H v (dDue (Nf s g)) := by
  rcases h with ⟨e, rfl⟩ | ⟨i, t, _, e, rfl, ht⟩
  · rw [e]
    exact .non
  · rw [e]
    exact dT3_dp ht
def sp_right : Sp := fun vs H Q _ => ∃ (p : Addr) (a b c : Int), vs = [.ref p] ∧ H p = some (WellL a b c) ∧ ∀ (a' b' c' : Int) (H' : Hp), Kp p H H' → H' p = some (WellL a' b' c') → Q (.bl true) H'
theorem ok__law_right (T : Txt K mg) : FnG P w K mg base CX0 6 T.f__law_right T.d__law_right ["_law_source"] sp_right := by
  refine okStill T.F__law_right sc__law_right (fun vs H Q E h => ?_) (fun cdv A outer s H vs Q E sg hr h => ?_)
  · obtain ⟨p, a, b, c, rfl, _⟩ := h
    rfl
  · obtain ⟨p, a, b0, c, rfl, hp, q⟩ := h
    refine ⟨_, (Evl.pss_cut (ps_par3 (i := 1) (j := 2) (l := 3) (by rfl) sc__law_right.nd rfl rfl rfl (by decide) (by decide) (by decide) rfl rfl rfl (pa_cons (pe_op op_add pe_int (pe_call (ok__law_next T) (hr.mono (by decide)) (by rfl) T.g__law_next T.F__law_next.kp T.b__law_next .nil pass0 (pa_cons (pv 0) (pa_cons pe_int pa_nil)))) (pa_cons (pe_call (ok__law_next T) (hr.mono (by decide)) (by rfl) T.g__law_next T.F__law_next.kp T.b__law_next .nil pass0 (pa_cons (pv 0) (pa_cons pe_int pa_nil))) (pa_cons (pe_call (ok__law_next T) (hr.mono (by decide)) (by rfl) T.g__law_next T.F__law_next.kp T.b__law_next .nil pass0 (pa_cons (pv 0) (pa_cons pe_int pa_nil))) pa_nil))) (by rfl))
      (pss_cons (ps_asg (pe_call (ok__law_asked T) (hr.mono (by decide)) (by rfl) T.g__law_asked T.F__law_asked.kp T.b__law_asked .nil pass0 (pa_cons (pv 0) (pa_cons (pv 1) (pa_cons (pv 2) (pa_cons (pv 3) pa_nil))))) (pg_tup rfl (pgs_cons (pg_name (i := 4) sc__law_right.nd rfl (.inl rfl)) (pgs_cons (pg_name (i := 5) sc__law_right.nd rfl (.inl rfl)) (pgs_cons (pg_name (i := 6) sc__law_right.nd rfl (.inl rfl)) pgs_nil)))))
      (Evl.pss_cut (ps_par3 (i := 7) (j := 8) (l := 9) (by rfl) sc__law_right.nd rfl rfl rfl (by decide) (by decide) (by decide) rfl rfl rfl (pa_cons (pe_call (ok__law_ribbons T) (hr.mono (by decide)) (by rfl) T.g__law_ribbons T.F__law_ribbons.kp T.b__law_ribbons .nil pass0 (pa_cons (pe_ix ix_rowB (pe_call (ok__law_table T) (hr.mono (by decide)) (by rfl) T.g__law_table T.F__law_table.kp T.b__law_table .nil pass0 (pa_cons (pv 1) pa_nil)) pe_int (fun _ _ => rfl)) pa_nil)) (pa_cons pe_dnewT (pa_cons (pe_callB (call_reprD sg hr.units) (by rfl) T.n_repr (by decide +kernel) (pa_cons (pv 4) pa_nil)) pa_nil))) (by rfl))
      (Evl.pss_cut (ps_for PassesOwn.never rfl (pi_range1 (by rfl) T.n_range (pa_cons pe_int pa_nil)) (pg_name (i := 10) sc__law_right.nd rfl (.inl rfl)) (pss_one (ps_for PassesOwn.never rfl (pi_range1 (by rfl) T.n_range (pa_cons pe_int pa_nil)) (pg_name (i := 11) sc__law_right.nd rfl (.inl rfl)) (pss_cons (ps_set (i := 12) sc__law_right.nd rfl (.inl rfl) pe_int)
      (pss_cons (ps_for PassesOwn.never rfl (pi_list (pv 7)) (pg_name (i := 13) sc__law_right.nd rfl (.inl rfl)) (pss_one (ps_for PassesOwn.never rfl (pi_zip (by rfl) T.n_zip (pa_cons (pv 13) (pa_cons (pe_call (ok__law_written T) (hr.mono (by decide)) (by rfl) T.g__law_written T.F__law_written.kp T.b__law_written .nil pass0 (pa_cons (pv 10) (pa_cons (pv 11) pa_nil))) pa_nil))) (pg_tup rfl (pgs_cons (pg_tup rfl (pgs_cons (pg_name (i := 14) sc__law_right.nd rfl (.inl rfl)) (pgs_cons (pg_name (i := 15) sc__law_right.nd rfl (.inl rfl)) pgs_nil))) (pgs_cons (pg_name (i := 16) sc__law_right.nd rfl (.inl rfl)) pgs_nil))) (pss_one (ps_set (i := 12) sc__law_right.nd rfl (.inl rfl) (pe_op op_add (pv 12) (pe_callTy call_int1 (by rfl) T.n_int (by decide +kernel) (pa_cons (pe_cmpR (op_eqD hr.units) (pe_ix ix_list (pe_ix ix_list (pv 4) (pv 14) (fun _ _ => rfl)) (pv 15) (fun _ _ => rfl)) (pe_op op_sub pe_int (pv 16)) (nomark _)) pa_nil))))))))
      (pss_cons (ps_dput (Nat.lt_of_le_of_lt (Nat.add_le_add_left (by decide : 1 ≤ 64) _) hr.units) (pv 8) (pe_tup (pa_cons (pv 10) (pa_cons (pv 11) pa_nil))) (pv 12) (by rfl))
      (pss_one (ps_if (pt_cmpR op_ne (pe_call (ok_unlike_format T) (hr.mono (by decide)) (by rfl) T.g_unlike_format T.F_unlike_format.kp T.b_unlike_format .nil pass0 (pa_cons (pv 1) (pa_cons (pv 4) (pa_cons (pv 10) (pa_cons (pv 11) pa_nil))))) (pv 12) (nomark _)) (pss_one (ps_ret pe_bl)) pss_nil))))))))
      (pss_cons (ps_set (i := 17) sc__law_right.nd rfl (.inr rfl) (pe_minValsT rfl (by rfl) T.n_min (pv 8)))
      (pss_cons (ps_setLc (i := 18) (own := [("_law_key", 21), ("_law_many", 12)]) (g := gTup K 2 (gCons (gName 21) (gCons (gName 12) gNil))) rfl sc__law_right.nd rfl rfl (sw_true rfl rfl rfl (by decide +kernel)) (pi_itemsT (pv 8)) (blkOk_by (N := ["_law_source", "_law_size_so", "_law_level_so", "_law_mask_so", "_law_rows", "_law_lies", "_law_gone", "_law_ribbons_here", "_law_table_here", "_law_shown", "_law_one", "_law_other", "_law_many", "_law_ribbon", "_law_row", "_law_column", "_law_bit", "_law_least", "_law_some", "_law_due", "_law_as_rows", "_law_key"]) (sc := defScope s__law_right) (by decide +kernel)) (fun _ _ _ _ _ => by (refine pg_tup ?_ ?_); (exact rfl); (refine pgs_cons ?_ ?_); (exact (pg_name (i := 21) sc__law_right.nd rfl (.inl rfl))); (refine pgs_cons ?_ ?_); (exact (pg_name (i := 12) sc__law_right.nd rfl (.inl rfl))); (exact pgs_nil)) (fun _ _ _ _ _ => by exact (pts_one (pt_cmpR op_eq (pv 12) (pv 17) (nomark _)))) (fun _ _ _ _ _ => by exact (pe_op (op_catTK (K := K) rfl) (pv 21) (pe_tup (pa_cons (pv 17) pa_nil)))))
      (Evl.pss_cut (ps_set (i := 19) sc__law_right.nd rfl (.inl rfl) (pe_ifExp (pt_cmpR (op_eqD hr.units) (pe_callB call_len_seq (by rfl) T.n_len (by decide +kernel) (pa_cons (pv 18) pa_nil)) pe_int (nomark _)) (pe_ix ix_list (pv 18) pe_int (fun _ _ => rfl)) pe_non))
      (pss_cons (ps_if (PW.pt (pw_or (pt_cmpR (op_neD hr.units) (pe_call (ok_nearest_format T) (hr.mono (by decide)) (by rfl) T.g_nearest_format T.F_nearest_format.kp T.b_nearest_format .nil pass0 (pa_cons (pv 1) (pa_cons (pv 4) pa_nil))) (pv 19) (nomark _)) (pw_or1 (pt_cmpR op_ne (pe_callB (call_reprD sg hr.units) (by rfl) T.n_repr (by decide +kernel) (pa_cons (pv 4) pa_nil)) (pv 9) (nomark _))))) (pss_one (ps_ret pe_bl)) pss_nil)
      (Evl.pss_cut (ps_if (PW.pt (pw_and (pt_cmpR (op_eqD hr.units) (pv 6) pe_int (nomark _)) (pw_and (pt_cmpR op_lt (pv 5) pe_int (nomark _)) (pw_and1 (pt_cmpR (op_neD hr.units) (pv 19) (pe_tup (pa_cons (pv 2) (pa_cons (pv 3) (pa_cons (pv 5) pa_nil)))) (nomark _)))))) (pss_one (ps_ret pe_bl)) pss_nil)
      (pss_cons (ps_set (i := 20) sc__law_right.nd rfl (.inl rfl) (pe_tupleOf (by rfl) T.n_tuple (pe_lc (own := [("_law_row", 14)]) rfl sc__law_right.nd (pi_seq (pv 4)) (blkOk_by (N := ["_law_source", "_law_size_so", "_law_level_so", "_law_mask_so", "_law_rows", "_law_lies", "_law_gone", "_law_ribbons_here", "_law_table_here", "_law_shown", "_law_one", "_law_other", "_law_many", "_law_ribbon", "_law_row", "_law_column", "_law_bit", "_law_least", "_law_some", "_law_due", "_law_as_rows", "_law_key"]) (sc := defScope s__law_right) (by decide +kernel)) (fun _ _ _ _ _ => by exact (pg_name (i := 14) sc__law_right.nd rfl (.inl rfl))) (fun _ _ _ _ _ => by exact pts_nil) (fun _ _ _ _ _ => by exact (pe_tupleOfK (K := K) rfl (by rfl) T.n_tuple (pv 14))))))
      (pss_cons (ps_if (pt_cmpR op_ne (pe_callZ (ok_unlike_format T) (hr.mono (by decide)) (by rfl) T.g_unlike_format T.F_unlike_format.kp (kb0 (ks := ["mask", "level", "grid", "size"]) T.F_unlike_format rev4 rev4_rel (fun _ _ _ _ _ _ ws hl => match ws, hl with | [_, _, _, _], _ => rfl)) pass0 (pk_cons (pv 3) (pk_cons (pv 2) (pk_cons (pv 20) (pk_cons (pv 1) pk_nil))))) (pe_dget (Nat.lt_of_le_of_lt (Nat.add_le_add_left (by decide : 1 ≤ 64) _) hr.units) (pv 8) (pe_tup (pa_cons (pv 2) (pa_cons (pv 3) pa_nil))) (fun _ _ => rfl)) (nomark _)) (pss_one (ps_ret pe_bl)) pss_nil)
      (pss_one (ps_ret (pe_cmpR (op_eqD hr.units) (pe_callZ (ok_nearest_format T) (hr.mono (by decide)) (by rfl) T.g_nearest_format T.F_nearest_format.kp (kb0 (ks := ["grid", "size"]) T.F_nearest_format rev2 rev2_rel (fun _ _ _ _ _ _ ws hl => match ws, hl with | [_, _], _ => rfl)) pass0 (pk_cons (pv 20) (pk_cons (pv 1) pk_nil))) (pv 19) (nomark _))))))))))))))), ?_⟩
    refine ⟨fun σ' H' => ∃ (s l m : Nat) (x y z : Int), σ' = [some (.ref p), some (.int ((s : Int) + 1)), some (vN l), some (vN m), none, none, none, none, none, none, none, none, none, none, none, none, none, none, none, none, none, none] ∧ s < 5 ∧ l < 4 ∧ m < 8 ∧ Kp p H H' ∧ H' p = some (WellL x y z), ?_, ?_⟩
    · refine ⟨_, rfl, p, a, b0, c, 5, rfl, hp, by decide, by decide, fun s' a1 c1 s0 s1 => ⟨_, _, rfl, rfl, ?_⟩⟩
      obtain ⟨s, rfl⟩ := Int.eq_ofNat_of_zero_le s0
      refine ⟨_, rfl, p, a1, b0, c1, 4, rfl, upd_same, by decide, by decide, fun l' a2 c2 l0 l1 => ?_⟩
      obtain ⟨l, rfl⟩ := Int.eq_ofNat_of_zero_le l0
      refine ⟨_, rfl, p, a2, b0, c2, 8, rfl, upd_same, by decide, by decide, fun m' a3 c3 m0 m1 => ?_⟩
      obtain ⟨m, rfl⟩ := Int.eq_ofNat_of_zero_le m0
      refine ⟨_, _, _, rfl, s, l, m, _, _, _, ?_, by omega, by omega, by omega, (Kp.upd.trans Kp.upd).trans Kp.upd, upd_same⟩
      rw [Int.add_comm (s : Int) 1]
      rfl
    rintro σ H1 ⟨s0, l, m, x, y, z, rfl, hs, hl, hm, k1, w1⟩
    have hm24 := side_le (sd_ok hs)
    refine ⟨_, rfl, _, rfl, _, rfl, _, rfl, p, x, y, z, s0, l, m, rfl, hs, hl, hm, w1, fun t G M g k zz x2 y2 z2 H2 R lg w2 gt fact => ?_⟩
    refine ⟨t, _, rfl, .inl (.inl gt), rfl, _, _, rfl, _, _, rfl, _, _, rfl, rfl, ?_⟩
    have kp2 : Kp p H H2 := k1.trans R.kp
    have gr := R.gr (K := K)
    have sq := R.Sq lg
    clear gt t
    refine ⟨fun σ' H' => ∃ (F A B Dd : Addr) (LA LB : List Addr), σ' = [some (.ref p), some (.int ((s0 : Int) + 1)), some (vN l), some (vN m), some (.ref G), some (vN k), some (vN zz), some (.ref F), some (.ref Dd), some (.str (PyData.shown (dGr g))), none, none, none, none, none, none, none, none, none, none, none, none] ∧ Same H2 H' ∧ H' F = some (.lst ([A, B].map V.ref)) ∧ H' A = some (.lst (LA.map V.ref)) ∧ H' B = some (.lst (LB.map V.ref)) ∧
      Spots H' (LA ++ LB) (usedF (sdF s0)) ∧ LA.length = 10 ∧ H2 Dd = none ∧ H' Dd = some (.dT []), ?_, ?_⟩
    · refine ⟨_, rfl, s0, rfl, hs, fun t0 c1 c2 c3 H3 s3 n0 n1 g0 g1 g2 => ?_⟩
      refine ⟨t0, _, 0, vN (sdF s0), false, rfl, rfl, .inl (.inl g0), rfl, ?_⟩
      refine ⟨sdF s0, rfl, hm24.1, hm24.2, fun F A B LA LB H4 s4 gF gA gB spA spB => ?_⟩
      have lA := rib_len hs
      refine fun Dd hDd => ?_
      have s5 := same_upd (o := .dT []) hDd
      have sA := (s3.trans s4).trans s5
      have rp := dots_reprs (gr.same sA) sq hm24.2
      refine ⟨_, rfl, G, dGr g, rfl, rp.1, rp.2.1, rp.2.2.1, rp.2.2.2.1, rp.2.2.2.2, ?_⟩
      refine ⟨_, _, _, rfl, F, A, B, Dd, LA, LB, rfl, sA, s5 _ _ gF, s5 _ _ gA, s5 _ _ gB, (spA.append spB).same s5, by rw [spA.len]; exact lA.1, Same.free (s3.trans s4) hDd, upd_same⟩
    · rintro σ H3 ⟨F, A, B, Dd, LA, LB, rfl, s3, gF, gA, gB, sp, lA, nD, gD⟩
      have gr3 := gr.same s3
      refine ⟨fun σ' H' => ∃ z10 z11 z12 z13 z14 z15 z16 : Option V, σ' = [some (.ref p), some (.int ((s0 : Int) + 1)), some (vN l), some (vN m), some (.ref G), some (vN k), some (vN zz), some (.ref F), some (.ref Dd), some (.str (PyData.shown (dGr g))), z10, z11, z12, z13, z14, z15, z16, none, none, none, none, none] ∧ Same H2 H' ∧ H' Dd = some (.dT (tabK s0 g 32)), ?_, ?_⟩
      · have nFD : F ≠ Dd := fun e => by rw [e, gD] at gF; cases gF
        have nAD : A ≠ Dd := fun e => by rw [e, gD] at gA; cases gA
        have nBD : B ≠ Dd := fun e => by rw [e, gD] at gB; cases gB
        have lB : LB.length = 10 := by
          have := sp.len
          rw [List.length_append, used_len hs, lA] at this
          omega
        refine ⟨4, rfl, by decide, by decide, ?_⟩
        refine for_range (lo := 0) (n := 4) (fun o σ' H' => ∃ z10 z11 z12 z13 z14 z15 z16 : Option V, σ' = [some (.ref p), some (.int ((s0 : Int) + 1)), some (vN l), some (vN m), some (.ref G), some (vN k), some (vN zz), some (.ref F), some (.ref Dd), some (.str (PyData.shown (dGr g))), z10, z11, z12, z13, z14, z15, z16, none, none, none, none, none] ∧ Kp Dd H3 H' ∧ H' Dd = some (.dT (tabK s0 g (8 * o)))) ⟨_, _, _, _, _, _, _, rfl, fun _ _ e _ => e, gD⟩ ?_ ?_
        · rintro o σ H4 ho ⟨z10, z11, z12, z13, z14, z15, z16, rfl, k4, d4⟩
          refine ⟨8, rfl, by decide, by decide, ?_⟩
          refine for_range (lo := 0) (n := 8) (fun u σ' H' => ∃ z11 z12 z13 z14 z15 z16 : Option V, σ' = [some (.ref p), some (.int ((s0 : Int) + 1)), some (vN l), some (vN m), some (.ref G), some (vN k), some (vN zz), some (.ref F), some (.ref Dd), some (.str (PyData.shown (dGr g))), some (.int (0 + (o : Int))), z11, z12, z13, z14, z15, z16, none, none, none, none, none] ∧ Kp Dd H3 H' ∧ H' Dd = some (.dT (tabK s0 g (8 * o + u)))) ⟨_, _, _, _, _, _, rfl, k4, d4⟩ ?_ ?_
          · clear k4 d4 H4 z10 z11 z12 z13 z14 z15 z16
            rintro u σ H4 hu ⟨z11, z12, z13, z14, z15, z16, rfl, k4, d4⟩
            have hn : 8 * o + u < 32 := by omega
            have lu := used_len hs
            have lc := cells_len hs g
            have lbb : (fbits (8 * o + u) ++ fbits (8 * o + u)).length = 20 := by rw [List.length_append, fbits_len]
            refine ⟨_, rfl, F, rfl, ⟨_, .inl (.inl (k4 _ _ gF nFD))⟩, ?_⟩
            refine for_it (walk_list (K := K) (a := F) (xs := [A, B].map V.ref)) (fun r σ' H' => ∃ z13 z14 z15 z16 : Option V, σ' = [some (.ref p), some (.int ((s0 : Int) + 1)), some (vN l), some (vN m), some (.ref G), some (vN k), some (vN zz), some (.ref F), some (.ref Dd), some (.str (PyData.shown (dGr g))), some (.int (0 + (o : Int))), some (.int (0 + (u : Int))), some (vN (wrongF ((fbits (8 * o + u) ++ fbits (8 * o + u)).take (10 * r)) ((cellsF s0 g).take (10 * r)))), z13, z14, z15, z16, none, none, none, none, none] ∧ Same H4 H') ⟨_, _, _, _, rfl, Same.refl _⟩ (fun r σ H' _ ⟨_, _, _, _, _, h⟩ => .inl (.inl (h _ _ (k4 _ _ gF nFD)))) ?_ ?_
            · rintro r v σ H5 H6 hr2 ⟨z13, z14, z15, z16, rfl, s5⟩ ⟨rfl, e2⟩
              have hr2 : r < 2 := hr2
              obtain ⟨X, LX, rfl, gX, lX, hX⟩ : ∃ (X : Addr) (LX : List Addr), v = .ref X ∧ H4 X = some (.lst (LX.map V.ref)) ∧ LX.length = 10 ∧ ∀ j, j < 10 → LX[j]? = (LA ++ LB)[10 * r + j]? := by
                have : r = 0 ∨ r = 1 := by omega
                rcases this with rfl | rfl
                · cases e2
                  refine ⟨A, LA, rfl, k4 _ _ gA nAD, lA, fun j hj => ?_⟩
                  rw [List.getElem?_append_left (by omega)]
                  simp
                · cases e2
                  refine ⟨B, LB, rfl, k4 _ _ gB nBD, lB, fun j hj => ?_⟩
                  rw [List.getElem?_append_right (by omega), lA]
                  congr 1
                  omega
              refine ⟨_, rfl, _, rfl, _, rfl, o, u, (by rw [Int.zero_add, Int.zero_add]; rfl), ho, hu, fun W H7 s7 nW gW => ?_⟩
              have sX := s5.trans s7
              refine ⟨X, W, _, _, rfl, .inl (.inl (sX _ _ gX)), .inl (.inl gW), ?_⟩
              refine for_it (walk_zip (K := K) (a := X) (b := W) (xs := LX.map V.ref) (ys := (fbits (8 * o + u)).map vN) (n := 10) (by rw [List.length_map, List.length_map, lX, fbits_len]; rfl)) (fun j σ' H' => ∃ z14 z15 z16 : Option V, σ' = [some (.ref p), some (.int ((s0 : Int) + 1)), some (vN l), some (vN m), some (.ref G), some (vN k), some (vN zz), some (.ref F), some (.ref Dd), some (.str (PyData.shown (dGr g))), some (.int (0 + (o : Int))), some (.int (0 + (u : Int))), some (vN (wrongF ((fbits (8 * o + u) ++ fbits (8 * o + u)).take (10 * r + j)) ((cellsF s0 g).take (10 * r + j)))), some (.ref X), z14, z15, z16, none, none, none, none, none] ∧ Same H7 H') ⟨_, _, _, rfl, Same.refl _⟩ (fun j σ H' _ ⟨_, _, _, _, h⟩ => ⟨.inl (.inl (h _ _ (sX _ _ gX))), .inl (.inl (h _ _ gW))⟩) ?_ ?_
              · rintro j v σ H8 H9 hj ⟨z14, z15, z16, rfl, s8⟩ ⟨T1, x, y, rfl, hT, rfl, hx, hy⟩
                have hx : (LX.map V.ref)[j]? = some x := hx
                have hy : ((fbits (8 * o + u)).map vN)[j]? = some y := hy
                rw [List.getElem?_map] at hx hy
                obtain ⟨ta, hta, rfl⟩ := Option.map_eq_some_iff.mp hx
                obtain ⟨bt, hbt, rfl⟩ := Option.map_eq_some_iff.mp hy
                rw [hX j hj] at hta
                have i20 : 10 * r + j < 20 := by omega
                have eb : (fbits (8 * o + u) ++ fbits (8 * o + u))[10 * r + j]? = some bt := by
                  have l10 := fbits_len (8 * o + u)
                  have : r = 0 ∨ r = 1 := by omega
                  rcases this with rfl | rfl
                  · rw [List.getElem?_append_left (by omega), show 10 * 0 + j = j by omega, hbt]
                  · rw [List.getElem?_append_right (by omega), l10, show 10 * 1 + j - 10 = j by omega, hbt]
                have b2 : bt < 2 := fbits_lt bt (List.mem_of_getElem? hbt)
                have sT := same_upd (o := .tup [V.ref ta, vN bt]) hT
                have s49 : Same H4 (upd H8 T1 (.tup [V.ref ta, vN bt])) := (sX.trans s8).trans sT
                have s29 : Same H2 (upd H8 T1 (.tup [V.ref ta, vN bt])) := fun c o' hc => s49 _ _ (k4 _ _ (s3 _ _ hc) (ne_of_none hc nD))
                obtain ⟨q1, q2⟩ := sptU_in hs i20
                have su := sptU_at (u := usedF (sdF s0)) (i := 10 * r + j) (by rw [lu]; exact i20)
                have tq0 := sp.at' _ ta _ hta su
                have tq := s49 _ _ (k4 _ _ tq0 fun e => by rw [e, gD] at tq0; cases tq0)
                have ecs : (cellsF s0 g)[10 * r + j]? = some (cell g (sptU (usedF (sdF s0)) (10 * r + j)).1 (sptU (usedF (sdF s0)) (10 * r + j)).2) := by
                  unfold cellsF
                  rw [List.getElem?_map, su]
                  rfl
                generalize sptU (usedF (sdF s0)) (10 * r + j) = qq at q1 q2 tq ecs
                have gr9 := gr.same s29
                obtain ⟨L9, h1, h2, h3⟩ := gr9.ex
                have el : L9[qq.1]? = some (L9[qq.1]'(by rw [h2, sq.len]; exact q1)) := List.getElem?_eq_getElem _
                generalize L9[qq.1]'(by rw [h2, sq.len]; exact q1) = l0 at el
                have er : g[qq.1]? = some (g.getD qq.1 []) := by
                  rw [getD_in (by rw [sq.len]; exact q1)]
                  exact List.getElem?_eq_getElem _
                have hr3 := h3 qq.1 l0 _ el er
                have ll := sq.row _ (List.mem_of_getElem? er)
                have ec : (g.getD qq.1 [])[qq.2]? = some (cell g qq.1 qq.2) := by
                  unfold cell
                  rw [List.getD_eq_getElem?_getD (l := g.getD qq.1 []), List.getElem?_eq_getElem (by rw [ll]; exact q2)]
                  rfl
                have wst := wrong_step eb ecs
                refine ⟨T1, _, rfl, .inl (.inl upd_same), rfl, _, _, rfl, ta, _, rfl, .inl (.inl tq), rfl, _, _, rfl, _, _, rfl, rfl, _, _, rfl, rfl, ?_⟩
                have aG : atI (L9.map V.ref) (qq.1 : Int) = some (.ref l0) := atI_nat (by rw [List.getElem?_map, el]; rfl)
                have aR : atI ((g.getD qq.1 []).map vG) (qq.2 : Int) = some (vG (cell g qq.1 qq.2)) := atI_nat (by rw [List.getElem?_map, ec]; rfl)
                have e1 : V.int (1 - (bt : Int)) = vN (1 - bt) := congrArg V.int (by omega)
                have dp2 : ∀ H, Dp K H (V.int (1 - (bt : Int))) (dI (1 - bt)) := fun H => by
                  rw [e1]
                  exact .int _
                have ev : V.int (((wrongF ((fbits (8 * o + u) ++ fbits (8 * o + u)).take (10 * r + j)) ((cellsF s0 g).take (10 * r + j)) : Nat) : Int) + (if PyData.eqv (dG (cell g qq.1 qq.2)) (dI (1 - bt)) = true then 1 else 0)) = vN (wrongF ((fbits (8 * o + u) ++ fbits (8 * o + u)).take (10 * r + (j + 1))) ((cellsF s0 g).take (10 * r + (j + 1)))) := congrArg V.int (by
                  rw [dG_int, ← Nat.add_assoc, wst]
                  by_cases c : cell g qq.1 qq.2 = some (1 - bt)
                  · rw [if_pos c, decide_eq_true c]
                    rfl
                  · rw [if_neg c, decide_eq_false c]
                    rfl)
                refine ⟨_, rfl, _, rfl, _, rfl, G, _, _, .ref l0, rfl, rfl, h1, aG, _, rfl, l0, _, _, vG (cell g qq.1 qq.2), rfl, rfl, hr3, aR, _, rfl, _, _, rfl, rfl, dG (cell g qq.1 qq.2), dI (1 - bt), vG_dpK _, dp2 _, dG_shapedK _, rfl, .inr ⟨_, rfl, _, _, rfl, rfl, ?_⟩⟩
                refine ⟨some (vN qq.1), some (vN qq.2), some (vN bt), ?_, s8.trans sT⟩
                rw [← ev]
                rfl
              · rintro σ H8 ⟨z14, z15, z16, rfl, s8⟩
                exact ⟨_, _, _, _, rfl, sX.trans s8⟩
            · rintro σ H5 ⟨z13, z14, z15, z16, rfl, s5⟩
              have full : wrongF ((fbits (8 * o + u) ++ fbits (8 * o + u)).take 20) ((cellsF s0 g).take 20) = wrongF (fbits (8 * o + u) ++ fbits (8 * o + u)) (cellsF s0 g) := by
                rw [List.take_of_length_le (by rw [lbb]; exact Nat.le_refl _), List.take_of_length_le (by rw [lc]; exact Nat.le_refl _)]
              have d5 := s5 _ _ d4
              have tl : (tabK s0 g (8 * o + u)).length < sizeLine := by rw [tabK_len]; exact small1000 (by omega)
              refine ⟨_, rfl, _, rfl, _, rfl, _, rfl, (by show 2 ≤ sizeLine; decide), fun kt hkt => ?_⟩
              have sk := same_upd (o := .tup [.int (0 + (o : Int)), .int (0 + (u : Int))]) hkt
              have e8 : (8 * o + u) / 8 = o ∧ (8 * o + u) % 8 = u := by omega
              have ek : (upd H5 kt (.tup [.int (0 + (o : Int)), .int (0 + (u : Int))])) kt = some (.tup ([Sum.inl (((8 * o + u) / 8 : Nat) : Int), Sum.inl (((8 * o + u) % 8 : Nat) : Int)].map kV)) := by
                rw [upd_same, e8.1, e8.2, Int.zero_add, Int.zero_add]
                rfl
              refine ⟨Dd, _, rfl, DPut.t (sk _ _ d5) ek tl, ?_⟩
              have s45 := s5.trans sk
              have tab := tabK_put s0 g (8 * o + u)
              rw [← full] at tab
              have k6 : Kp Dd H3 (upd (upd H5 kt (.tup [.int (0 + (o : Int)), .int (0 + (u : Int))])) Dd (.dT (tabK s0 g (8 * o + u + 1)))) := fun c o' hc nc => by
                rw [upd_ne nc]
                exact s45 _ _ (k4 _ _ hc nc)
              have d6 : (upd (upd H5 kt (.tup [.int (0 + (o : Int)), .int (0 + (u : Int))])) Dd (.dT (tabK s0 g (8 * o + u + 1)))) Dd = some (.dT (tabK s0 g (8 * o + u + 1))) := upd_same
              rw [← tab] at k6 d6
              have gr6 := gr.same (fun c o' hc => k6 _ _ (s3 _ _ hc) (ne_of_none hc nD) : Same H2 _)
              have far := far_wrong lc (cells_ok hs sq) hn
              rw [← full] at far
              refine ⟨_, rfl, _, rfl, _, rfl, _, rfl, s0, G, true, g, o, u, (by rw [Int.zero_add, Int.zero_add]; rfl), hs, ho, hu, gr6, sq, fun H9 s9 => ⟨_, rfl, rfl, _, rfl, ?_⟩⟩
              refine ite2 (fun c => absurd c (by rw [far]; simp)) (fun _ => ?_)
              exact ⟨_, _, _, _, _, _, rfl, fun c o' hc nc => s9 _ _ (k6 _ _ hc nc), (s9 _ _ d6).trans (by rw [tab]; rfl)⟩
          · rintro σ H5 ⟨z11, z12, z13, z14, z15, z16, rfl, k5, d5⟩
            exact ⟨_, _, _, _, _, _, _, rfl, k5, d5⟩
        · rintro σ H4 ⟨z10, z11, z12, z13, z14, z15, z16, rfl, k4, d4⟩
          exact ⟨_, _, _, _, _, _, _, rfl, fun b o hb => k4 _ _ (s3 _ _ hb) (ne_of_none hb nD), d4⟩
      · rintro σ H4 ⟨z10, z11, z12, z13, z14, z15, z16, rfl, s4, gD4⟩
        have cok := cells_ok hs sq
        have lc := cells_len hs g
        have vals : (tabK s0 g 32).map (·.2) = ((farsF (darkF (cellsF s0 g)) (seenF (cellsF s0 g))).map fun x : Nat => (x : Int)).map V.int := by
          unfold tabK farsF
          rw [List.map_map, List.map_map, List.map_map]
          refine List.map_congr_left fun x hx => ?_
          exact congrArg vN (far_wrong lc cok (List.mem_range.mp hx)).symm
        obtain ⟨k0, hk1, hk2, hk3⟩ := fars_min (darkF (cellsF s0 g)) (seenF (cellsF s0 g))
        refine ⟨_, rfl, Dd, tabK s0 g 32, _, rfl, gD4, vals, (fun e => by have := congrArg List.length e; rw [List.length_map, fars_len] at this; cases this), fun mm hmm hle => ?_⟩
        have em : mm = (k0 : Int) := by
          obtain ⟨y, hy, rfl⟩ := List.mem_map.mp hmm
          have h1 := hle _ (List.mem_map_of_mem (f := fun x : Nat => (x : Int)) hk2)
          have h2 := hk3 y hy
          omega
        subst em
        refine ⟨_, rfl, Dd, tabK s0 g 32, rfl, gD4, fun ob D hD => ?_⟩
        have sD := same_upd (o := .lst []) hD
        refine lc_it (walk_itemsT (d := Dd) (o := ob) (kvs := tabK s0 g 32)) (fun i H' => ∃ L : List Addr, Same (upd H4 Dd (.frz ob (.dT (tabK s0 g 32)))) H' ∧ H' D = some (.lst (L.map V.ref)) ∧ MostI H' L ((List.range i).filter fun x => decide (wrongF (fbits x ++ fbits x) (cellsF s0 g) = k0)) k0) ⟨[], sD, upd_same, rfl, fun j t x e => by cases e⟩ (fun i H' _ ⟨_, h, _⟩ => h _ _ upd_same) ?_ ?_
        · rintro i Y H5 H6 hi ⟨L, s5, g5, m5⟩ ⟨T1, qa, kk, vv, ek, rfl, hT, hq, rfl⟩
          rw [tabK_len] at hi
          rw [tabK_at s0 g hi] at ek
          cases ek
          have sT := same_upd (o := .tup [V.ref qa, vN (wrongF (fbits i ++ fbits i) (cellsF s0 g))]) hT
          refine ⟨T1, _, rfl, .inl (.inl upd_same), rfl, _, _, rfl, _, _, rfl, rfl, rfl, ?_⟩
          refine ⟨_, rfl, _, rfl, rfl, _, rfl, ?_⟩
          have s6 := s5.trans sT
          have g6 := sT _ _ g5
          have m6 := m5.same sT
          rw [filter_snoc (i := i)]
          refine ite2 (fun c => ?_) (fun c => ?_)
          · have c' : wrongF (fbits i ++ fbits i) (cellsF s0 g) = k0 := Int.ofNat.inj (V.int.inj (of_decide_eq_true c))
            rw [decide_eq_true c', if_pos rfl]
            refine ⟨_, rfl, _, rfl, (by show 1 ≤ sizeLine; decide), fun t1 h1 => ?_⟩
            have s7 := same_upd (o := .tup [V.int (k0 : Int)]) h1
            refine ⟨qa, t1, _, _, rfl, rfl, .inl (.inl (s7 _ _ (sT _ _ hq))), .inl (.inl upd_same), ?_⟩
            refine ⟨(fun e => by cases e), (by show 3 ≤ sizeLine; decide), (fun e => by cases e), fun _ t3 h3 => ?_⟩
            have s8 := same_upd (o := .tup ([Sum.inl ((i / 8 : Nat) : Int), Sum.inl ((i % 8 : Nat) : Int)].map kV ++ [V.int (k0 : Int)])) h3
            have g8 := s8 _ _ (s7 _ _ g6)
            refine ⟨_, g8, ?_, L ++ [t3], fun c o' hc => ?_, ?_, ?_⟩
            · have := List.length_filter_le (fun x => decide (wrongF (fbits x ++ fbits x) (cellsF s0 g) = k0)) (List.range i)
              rw [List.length_range] at this
              rw [List.length_map, m5.len]
              exact small1000 (by omega)
            · rw [upd_ne (ne_of_none hc hD)]
              exact s8 _ _ (s7 _ _ (s6 _ _ hc))
            · rw [upd_same, List.map_append]
              rfl
            · refine MostI.keep (MostI.snoc (x := i) ((m6.same s7).same s8) upd_same) fun b xs hb => ?_
              rw [upd_ne (fun e => by rw [e, g8] at hb; cases hb)]
              exact hb
          · have c' : wrongF (fbits i ++ fbits i) (cellsF s0 g) ≠ k0 := fun e => absurd c (by simp [vN, e])
            rw [decide_eq_false c', if_neg (by decide), List.append_nil]
            exact ⟨L, s6, g6, m6⟩
        · rintro H5 ⟨L, s5, g5, m5⟩
          have s25 : Same H2 H5 := fun c o' hc => s5 _ _ ((upd_ne (ne_of_none hc nD)).trans (s4 _ _ hc))
          have d5 := s5 _ _ (upd_same (a := Dd))
          rw [tabK_len] at m5
          refine ⟨fun σ' H' => ∃ (z10 z11 z12 z13 z14 z15 z16 z18 : Option V) (v : V) (ob : Obj), σ' = [some (.ref p), some (.int ((s0 : Int) + 1)), some (vN l), some (vN m), some (.ref G), some (vN k), some (vN zz), some (.ref F), some (.ref Dd), some (.str (PyData.shown (dGr g))), z10, z11, z12, z13, z14, z15, z16, some (vN k0), z18, some v, none, none] ∧ Same H2 H' ∧ H' Dd = some (.frz ob (.dT (tabK s0 g 32))) ∧ DueOk H' s0 g k0 v, ?_, ?_⟩
          · have flt : ((List.range 32).filter fun x => decide (wrongF (fbits x ++ fbits x) (cellsF s0 g) = k0)) = (List.range 32).filter fun x => decide (farF (darkF (cellsF s0 g)) (seenF (cellsF s0 g)) x = k0) := List.filter_congr fun x hx => by rw [far_wrong lc cok (List.mem_range.mp hx)]
            rw [flt] at m5
            obtain ⟨n1, n2⟩ := nf_most hk1
            generalize ((List.range 32).filter fun x => decide (farF (darkF (cellsF s0 g)) (seenF (cellsF s0 g)) x = k0)) = ls at m5 n1 n2
            have lL : L.length = ls.length := m5.len
            refine ⟨_, rfl, D, _, rfl, .inl (.inl (.inl g5)), dI (L.map V.ref).length, dI 1, .int _, .int _, rfl, rfl, _, rfl, ?_⟩
            rw [dI_eqv, List.length_map]
            refine ite2 (fun c => ?_) (fun c => ?_)
            · have c' : L.length = 1 := of_decide_eq_true c
              obtain ⟨t, rfl⟩ := List.length_eq_one_iff.mp c'
              obtain ⟨i, rfl⟩ := List.length_eq_one_iff.mp (lL.symm.trans c')
              obtain ⟨i32, e⟩ := n2 i rfl
              refine ⟨_, rfl, D, _, _, .ref t, rfl, rfl, .inl (.inl g5), rfl, ?_⟩
              exact ⟨_, _, _, _, _, _, _, _, _, _, rfl, s25, d5, .inr ⟨i, t, i32, e, rfl, m5.at' 0 t i rfl rfl⟩⟩
            · have c' : L.length ≠ 1 := fun e => absurd c (by simp [e])
              exact ⟨_, _, _, _, _, _, _, _, _, _, rfl, s25, d5, .inl ⟨n1 (by omega), rfl⟩⟩
          · clear g5 m5 d5 s25 s5 H5 L sD hD D z10 z11 z12 z13 z14 z15 z16 ob
            rintro σ H5 ⟨z10, z11, z12, z13, z14, z15, z16, z18, v, ob, rfl, s5, gD5, due⟩
            have gr5 := gr.same s5
            refine ⟨_, rfl, _, rfl, s0, G, true, g, rfl, hs, gr5, sq, fun v2 H6 s6 dv => ?_⟩
            have due6 := due.same s6
            have gr6 := gr5.same s6
            have rp := dots_reprs gr6 sq hm24.2
            refine ⟨_, rfl, dDue (Nf s0 g), dDue (Nf s0 g), dv, due6.dp, dDue_shaped _, dDue_shaped _, _, rfl, ?_⟩
            rw [dDue_refl]
            refine ⟨_, rfl, G, dGr g, rfl, rp.1, rp.2.1, rp.2.2.1, rp.2.2.2.1, rp.2.2.2.2, ?_⟩
            refine ⟨_, rfl, rfl, _, rfl, ite2 (fun c => absurd c (by simp)) (fun _ => ?_)⟩
            refine ⟨fun σ' H' => σ' = [some (.ref p), some (.int ((s0 : Int) + 1)), some (vN l), some (vN m), some (.ref G), some (vN k), some (vN zz), some (.ref F), some (.ref Dd), some (.str (PyData.shown (dGr g))), z10, z11, z12, z13, z14, z15, z16, some (vN k0), z18, some v, none, none] ∧ Same H6 H', ?_, ?_⟩
            · refine ⟨_, rfl, dI zz, dI 0, .int _, .int _, rfl, rfl, _, rfl, ?_⟩
              rw [dI_eqv]
              refine ite2 (fun c => ?_) (fun c => ⟨rfl, Same.refl _⟩)
              refine ⟨_, rfl, _, _, rfl, rfl, _, rfl, ?_⟩
              refine ite2 (fun c2 => ?_) (fun c2 => ⟨rfl, Same.refl _⟩)
              have z0 : zz = 0 := of_decide_eq_true c
              have k4 : k < 4 := by
                have := of_decide_eq_true c2
                omega
              obtain ⟨f1, f2⟩ := fact z0
              have e := told_lies lc f1 (show 8 * l + m < 32 by omega) f2 k4
              have e : Nf s0 g = some (8 * l + m, k) := e
              refine ⟨_, rfl, _, rfl, _, rfl, _, rfl, (by show 3 ≤ sizeLine; decide), fun t ht => ?_⟩
              have st := same_upd (o := .tup [vN l, vN m, vN k]) ht
              refine ⟨dDue (Nf s0 g), dT3 l m k, (due6.same st).dp, dT3_dp upd_same, dDue_shaped _, rfl, _, rfl, ?_⟩
              rw [e, show dDue (some (8 * l + m, k)) = dT3 l m k from by
                show dT3 ((8 * l + m) / 8) ((8 * l + m) % 8) k = _
                rw [show (8 * l + m) / 8 = l by omega, show (8 * l + m) % 8 = m by omega], dT3_eqv, decide_eq_true rfl, decide_eq_true rfl, decide_eq_true rfl]
              exact ⟨rfl, st⟩
            · rintro σ H7 ⟨rfl, s7⟩
              have due7 := due6.same s7
              have gD7 := s7 _ _ (s6 _ _ gD5)
              have gr7 := gr6.same s7
              have s27 : Same H2 H7 := (s5.trans s6).trans s7
              clear rp dv s6 s5 due gD5 gr5 due6 gr6
              obtain ⟨LG, h1, h2, h3⟩ := gr7.ex
              refine ⟨_, rfl, G, _, true, rfl, h1, fun D3 hD3 => ?_⟩
              refine lc_it (walk_seq (b := true) (K := K) (a := G) (xs := LG.map V.ref)) (fun i H' => ∃ M : List Addr, Same H7 H' ∧ H' D3 = some (.lst (M.map V.ref)) ∧ M.length = i ∧ ∀ (j : Nat) (l : Addr) (r : List (Option Nat)), M[j]? = some l → g[j]? = some r → H' l = some (.tup (r.map vG))) ⟨[], same_upd hD3, upd_same, rfl, fun j l r e => by cases e⟩ (fun i H' _ ⟨_, sm, _⟩ => Same.sqb sm h1) ?_ ?_
              · rintro i v9 H9 H10 hi ⟨N, sm, out, lN, rw0⟩ ⟨rfl, e2⟩
                rw [List.length_map] at hi
                have eL : LG[i]? = some LG[i] := List.getElem?_eq_getElem hi
                have eg : g[i]? = some (g[i]'(by omega)) := List.getElem?_eq_getElem _
                rw [List.getElem?_map, eL] at e2
                obtain rfl := (Option.some.inj e2).symm
                have hq := Same.sqb sm (h3 i _ _ eL eg)
                refine ⟨rfl, ?_⟩
                refine ⟨_, rfl, .inl ⟨LG[i], _, rfl, hq, fun c hc => ?_⟩⟩
                have s4 := same_upd (o := .tup ((g[i]'(by omega)).map vG)) hc
                have ncD : c ≠ D3 := fun e => by rw [e, out] at hc; cases hc
                refine ⟨_, s4 _ _ out, ?_, N ++ [c], ?_, ?_, by rw [List.length_append, lN]; rfl, ?_⟩
                · rw [List.length_map, lN]
                  exact small1000 (by omega)
                · intro c0 o0 h0
                  rw [upd_ne (ne_of_none h0 hD3)]
                  exact s4 _ _ (sm _ _ h0)
                · rw [upd_same, List.map_append]
                  rfl
                · intro j l1 r1 e1 e3
                  by_cases cj : j < i
                  · rw [List.getElem?_append_left (by rw [lN]; exact cj)] at e1
                    have q1 := rw0 j l1 r1 e1 e3
                    rw [upd_ne (fun e => by rw [e, out] at q1; cases q1)]
                    exact s4 _ _ q1
                  · have hl := (List.getElem?_eq_some_iff.mp e1).1
                    rw [List.length_append, lN] at hl
                    have ej : j = i := by simp at hl; omega
                    subst ej
                    rw [List.getElem?_append_right (by rw [lN]; exact Nat.le_refl _), lN, Nat.sub_self] at e1
                    cases e1
                    rw [eg] at e3
                    cases e3
                    rw [upd_ne ncD]
                    exact upd_same
              · rintro H9 ⟨N, sm, out, lN, rw0⟩
                refine .inl ⟨D3, _, rfl, .inl (.inl out), fun S hS => ?_⟩
                have s4 := same_upd (o := .tup (N.map V.ref)) hS
                have G9 : GrB false K (upd H9 S (.tup (N.map V.ref))) S g := ⟨N, .tup upd_same, by rw [lN, List.length_map, h2], fun j l r e1 e3 => .tup (s4 _ _ (rw0 j l r e1 e3))⟩
                have s79 := sm.trans s4
                generalize (upd H9 S (.tup (N.map V.ref))) = H10 at G9 s79 ⊢
                refine ⟨_, rfl, _, rfl, _, rfl, _, rfl, rfl, s0, S, false, g, l, m, rfl, hs, hl, hm, G9, sq, fun H11 s11 => ?_⟩
                have d11 := s11 _ _ (s79 _ _ gD7)
                refine ⟨_, rfl, _, rfl, _, rfl, (by show 2 ≤ sizeLine; decide), fun kt hkt => ?_⟩
                have sk := same_upd (o := .tup [vN l, vN m]) hkt
                have tg := tabK_get s0 g (show 8 * l + m < 32 by omega)
                rw [show (8 * l + m) / 8 = l by omega, show (8 * l + m) % 8 = m by omega, ← far_wrong lc cok (show 8 * l + m < 32 by omega)] at tg
                refine ⟨Dd, _, rfl, .inr ⟨_, _, kt, .inr ⟨_, sk _ _ d11⟩, rfl, upd_same, tg.symm⟩, ?_⟩
                refine ⟨rfl, _, rfl, ite2 (fun c => absurd c (by simp)) (fun _ => ?_)⟩
                have s7b := (s79.trans s11).trans sk
                have G12 := (G9.same s11).same sk
                generalize (upd H11 kt (.tup [vN l, vN m])) = H12 at s7b G12 ⊢
                refine ⟨_, rfl, _, rfl, rfl, s0, S, false, g, rfl, hs, G12, sq, fun v3 H13 s13 dv => ?_⟩
                have s713 := s7b.trans s13
                have wf := s713 _ _ (s27 _ _ w2)
                refine ⟨_, rfl, dDue (Nf s0 g), dDue (Nf s0 g), dv, (due7.same s713).dp, dDue_shaped _, dDue_shaped _, ?_⟩
                rw [dDue_refl]
                exact q _ _ _ _ (kp2.trans (Same.kp (s27.trans s713))) wf
/-! CUT -/
def voidG : Grid := List.replicate 8 (List.replicate 8 none)
theorem void_sq : Sq (sdF 0) voidG := ⟨rfl, fun r hr => by rw [List.eq_of_mem_replicate hr]; rfl, fun r hr o ho => by
  rw [List.eq_of_mem_replicate hr] at ho
  exact .inl (List.eq_of_mem_replicate ho)⟩
theorem void_nf : Nf 0 voidG = none := by
  have e1 : darkF (cellsF 0 voidG) = 0 := by decide +kernel
  have e2 : seenF (cellsF 0 voidG) = 0 := by decide +kernel
  unfold Nf
  rw [e1, e2, fars_K (by decide)]
  decide +kernel
def sp_law (K : PySem.W.Frag) : Sp := fun vs H Q _ => ∃ (a : Addr) (ns : List Int), vs = [.ref a] ∧ SqL K H a (ns.map V.int) ∧ ns.length ≤ 63 ∧ ∀ H', Q (.bl true) H'
theorem ok_law (T : Txt K mg) : FnG P w K mg base CX0 7 T.f_law T.d_law ["_law_script"] (sp_law K) := by
  refine okStill T.F_law sc_law (fun vs H Q E h => ?_) (fun cdv A outer s H vs Q E sg hr h => ?_)
  · obtain ⟨a, ns, rfl, _⟩ := h
    rfl
  · obtain ⟨a, ns, rfl, hS, hlen, q⟩ := h
    refine ⟨_, (pss_cons (ps_for PassesOwn.never rfl (pi_range1 (by rfl) T.n_range (pa_cons (pe_callB (call_max2 rfl) (by rfl) T.n_max (by decide +kernel) (pa_cons pe_int (pa_cons (pe_callB (call_min2 rfl) (by rfl) T.n_min (by decide +kernel) (pa_cons pe_int (pa_cons (pe_callB call_len_seq (by rfl) T.n_len (by decide +kernel) (pa_cons (pv 0) pa_nil)) pa_nil))) pa_nil))) pa_nil)) (pg_name (i := 1) sc_law.nd rfl (.inl rfl)) (pss_cons (ps_set (i := 2) sc_law.nd rfl (.inl rfl) (pe_call (ok__law_source_of T) (hr.mono (by decide)) (by rfl) T.g__law_source_of T.F__law_source_of.kp T.b__law_source_of .nil pass0 (pa_cons (pe_call (ok__law_cell_at T) (hr.mono (by decide)) (by rfl) T.g__law_cell_at T.F__law_cell_at.kp T.b__law_cell_at .nil pass0 (pa_cons (pv 0) (pa_cons (pv 1) pa_nil))) pa_nil)))
      (pss_one (ps_for PassesOwn.never rfl (pi_range1 (by rfl) T.n_range (pa_cons pe_int pa_nil)) (pg_name (i := 3) sc_law.nd rfl (.inl rfl)) (pss_one (ps_if (pt_not (pt_val (pe_callG (ok__law_right T) sg (hr.mono (by decide)) (by rfl) T.g__law_right T.F__law_right.kp T.b__law_right .nil pass0 (pa_cons (pv 2) pa_nil)))) (pss_one (ps_ret pe_bl)) pss_nil))))))
      (pss_one (ps_ret (pe_cmpR op_isN (pe_call (ok_nearest_format T) (hr.mono (by decide)) (by rfl) T.g_nearest_format T.F_nearest_format.kp T.b_nearest_format .nil pass0 (pa_cons pe_int (pa_cons (pe_op op_rep (pe_lst (pa_cons (pe_op op_rep (pe_lst (pa_cons pe_non pa_nil)) pe_int) pa_nil)) pe_int) pa_nil))) pe_non (nomark _))))), ?_⟩
    refine ⟨_, rfl, a, _, rfl, .inl hS, ?_⟩
    rw [List.length_map]
    refine ⟨_, _, rfl, _, _, rfl, ?_⟩
    obtain ⟨m, hm⟩ : ∃ m : Nat, (if (if ((ns.length : Nat) : Int) < 3 then ((ns.length : Nat) : Int) else 3) > 1 then (if ((ns.length : Nat) : Int) < 3 then ((ns.length : Nat) : Int) else 3) else 1) = (m : Int) ∧ m ≤ 3 := by
      refine ⟨max 1 (min 3 ns.length), ?_, by omega⟩
      split <;> split at * <;> omega
    obtain ⟨hm1, hm2⟩ := hm
    refine ⟨(m : Int), congrArg (fun z => [V.int z]) hm1, by omega, by omega, ?_⟩
    refine for_range (lo := 0) (n := m) (fun i σ H' => ∃ z1 z2 z3 : Option V, σ = [some (.ref a), z1, z2, z3] ∧ Same H H') ⟨_, _, _, rfl, Same.refl _⟩ ?_ ?_
    · rintro i σ H1 hi ⟨z1, z2, z3, rfl, s1⟩
      refine ⟨_, rfl, _, rfl, a, ns, i, congrArg (fun z => [V.ref a, V.int z]) (Int.zero_add _), s1.seq hS, fun n => ⟨n, rfl, fun p x y z np => ?_⟩⟩
      have np0 : H p = none := Same.free s1 np
      refine ⟨4, rfl, by decide, by decide, ?_⟩
      refine for_range (lo := 0) (n := 4) (fun i' σ H' => ∃ z3 : Option V, σ = [some (.ref a), some (.int (0 + (i : Int))), some (.ref p), z3] ∧ Same H H' ∧ ∃ x y z, H' p = some (WellL x y z)) ⟨_, rfl, s1.trans (same_upd np), _, _, _, upd_same⟩ ?_ ?_
      · clear s1 z1 z2 z3 np H1
        rintro m σ H2 hm ⟨z3, rfl, s2, x, y, z, w2⟩
        refine ⟨_, rfl, p, x, y, z, rfl, w2, fun a' b' c' H3 k3 w3 => ⟨_, rfl, iteF ?_⟩⟩
        exact ⟨_, rfl, fun c o hc => k3 _ _ (s2 _ _ hc) (ne_of_none hc np0), _, _, _, w3⟩
      · rintro σ H2 ⟨z3, rfl, s2, _⟩
        exact ⟨_, _, _, rfl, s2⟩
    · rintro σ H2 ⟨z1, z2, z3, rfl, s2⟩
      refine ⟨(by show 1 ≤ sizeLine; decide), fun l1 h1 => ?_⟩
      refine ⟨l1, 8, _, rfl, rfl, upd_same, (by decide), (by decide), (by show 8 ≤ sizeLine; decide), fun l2 h2 => ?_⟩
      refine ⟨(by show 1 ≤ sizeLine; decide), fun l3 h3 => ?_⟩
      refine ⟨l3, 8, _, rfl, rfl, upd_same, (by decide), (by decide), (by show 8 ≤ sizeLine; decide), fun l4 h4 => ?_⟩
      have g2 := same_upd (o := .lst (List.replicate (8 : Int).toNat [V.ref l2]).flatten) h4 _ _ (same_upd (o := .lst [V.ref l2]) h3 _ _ (upd_same (a := l2)))
      refine ⟨0, l4, true, voidG, rfl, by decide, ⟨List.replicate 8 l2, .lst upd_same, rfl, fun j l r e1 e2 => ?_⟩, void_sq, fun v H' sm dv => ?_⟩
      · obtain rfl := List.eq_of_mem_replicate (List.mem_of_getElem? e1)
        obtain rfl := List.eq_of_mem_replicate (List.mem_of_getElem? e2)
        exact .lst g2
      · rw [void_nf] at dv
        cases dv
        exact ⟨rfl, q _⟩
/-! CUT -/
end
theorem all_mk {P : Program} {w : World} {K : PySem.W.Frag} {h : Heap} {mg : Str → Option Value} {fa : Addr} (X : K.In h) (G : h.Ns mainGlobals mg) (hfa : mg "law" = some (.ref fa))
    {f0 : Addr} {od0 an0 : Option Addr} {sl0 : Array (Option Value)} {oc0 kV0 dc0 pm0 cd0 ct0 : Value}
    (a0 : PySem.W.nsIn K mainGlobals "is_number_to" = some (some (.ref f0)))
    (l0 : K.lookup f0 = some ⟨oc0, od0, .func (PySem.W.fnOf "is_number_to" "is_number_to" (defArgs s_is_number_to) (defBody s_is_number_to) (defScope s_is_number_to) .none kV0 dc0 pm0 an0 cd0 ct0), sl0⟩) (c0 : PySem.W.codeIn K cd0 "is_number_to" = true) (k0 : PySem.W.keepIn K (.ref f0) = true)
    {f1 : Addr} {od1 an1 : Option Addr} {sl1 : Array (Option Value)} {oc1 kV1 dc1 pm1 cd1 ct1 : Value}
    (a1 : PySem.W.nsIn K mainGlobals "need_mask" = some (some (.ref f1)))
    (l1 : K.lookup f1 = some ⟨oc1, od1, .func (PySem.W.fnOf "need_mask" "need_mask" (defArgs s_need_mask) (defBody s_need_mask) (defScope s_need_mask) .none kV1 dc1 pm1 an1 cd1 ct1), sl1⟩) (c1 : PySem.W.codeIn K cd1 "need_mask" = true) (k1 : PySem.W.keepIn K (.ref f1) = true)
    {f2 : Addr} {od2 an2 : Option Addr} {sl2 : Array (Option Value)} {oc2 kV2 dc2 pm2 cd2 ct2 : Value}
    (a2 : PySem.W.nsIn K mainGlobals "need_level" = some (some (.ref f2)))
    (l2 : K.lookup f2 = some ⟨oc2, od2, .func (PySem.W.fnOf "need_level" "need_level" (defArgs s_need_level) (defBody s_need_level) (defScope s_need_level) .none kV2 dc2 pm2 an2 cd2 ct2), sl2⟩) (c2 : PySem.W.codeIn K cd2 "need_level" = true) (k2 : PySem.W.keepIn K (.ref f2) = true)
    {f3 : Addr} {od3 an3 : Option Addr} {sl3 : Array (Option Value)} {oc3 kV3 dc3 pm3 cd3 ct3 : Value}
    (a3 : PySem.W.nsIn K mainGlobals "is_row" = some (some (.ref f3)))
    (l3 : K.lookup f3 = some ⟨oc3, od3, .func (PySem.W.fnOf "is_row" "is_row" (defArgs s_is_row) (defBody s_is_row) (defScope s_is_row) .none kV3 dc3 pm3 an3 cd3 ct3), sl3⟩) (c3 : PySem.W.codeIn K cd3 "is_row" = true) (k3 : PySem.W.keepIn K (.ref f3) = true)
    {f4 : Addr} {od4 an4 : Option Addr} {sl4 : Array (Option Value)} {oc4 kV4 dc4 pm4 cd4 ct4 : Value}
    (a4 : PySem.W.nsIn K mainGlobals "is_plain_grid" = some (some (.ref f4)))
    (l4 : K.lookup f4 = some ⟨oc4, od4, .func (PySem.W.fnOf "is_plain_grid" "is_plain_grid" (defArgs s_is_plain_grid) (defBody s_is_plain_grid) (defScope s_is_plain_grid) .none kV4 dc4 pm4 an4 cd4 ct4), sl4⟩) (c4 : PySem.W.codeIn K cd4 "is_plain_grid" = true) (k4 : PySem.W.keepIn K (.ref f4) = true)
    {f5 : Addr} {od5 an5 : Option Addr} {sl5 : Array (Option Value)} {oc5 kV5 dc5 pm5 cd5 ct5 : Value}
    (a5 : PySem.W.nsIn K mainGlobals "need_dot_rows" = some (some (.ref f5)))
    (l5 : K.lookup f5 = some ⟨oc5, od5, .func (PySem.W.fnOf "need_dot_rows" "need_dot_rows" (defArgs s_need_dot_rows) (defBody s_need_dot_rows) (defScope s_need_dot_rows) .none kV5 dc5 pm5 an5 cd5 ct5), sl5⟩) (c5 : PySem.W.codeIn K cd5 "need_dot_rows" = true) (k5 : PySem.W.keepIn K (.ref f5) = true)
    {f6 : Addr} {od6 an6 : Option Addr} {sl6 : Array (Option Value)} {oc6 kV6 dc6 pm6 cd6 ct6 : Value}
    (a6 : PySem.W.nsIn K mainGlobals "need_grid" = some (some (.ref f6)))
    (l6 : K.lookup f6 = some ⟨oc6, od6, .func (PySem.W.fnOf "need_grid" "need_grid" (defArgs s_need_grid) (defBody s_need_grid) (defScope s_need_grid) .none kV6 dc6 pm6 an6 cd6 ct6), sl6⟩) (c6 : PySem.W.codeIn K cd6 "need_grid" = true) (k6 : PySem.W.keepIn K (.ref f6) = true)
    {f7 : Addr} {od7 an7 : Option Addr} {sl7 : Array (Option Value)} {oc7 kV7 dc7 pm7 cd7 ct7 : Value}
    (a7 : PySem.W.nsIn K mainGlobals "need_size" = some (some (.ref f7)))
    (l7 : K.lookup f7 = some ⟨oc7, od7, .func (PySem.W.fnOf "need_size" "need_size" (defArgs s_need_size) (defBody s_need_size) (defScope s_need_size) .none kV7 dc7 pm7 an7 cd7 ct7), sl7⟩) (c7 : PySem.W.codeIn K cd7 "need_size" = true) (k7 : PySem.W.keepIn K (.ref f7) = true)
    {f8 : Addr} {od8 an8 : Option Addr} {sl8 : Array (Option Value)} {oc8 kV8 dc8 pm8 cd8 ct8 : Value}
    (a8 : PySem.W.nsIn K mainGlobals "_law_cell_at" = some (some (.ref f8)))
    (l8 : K.lookup f8 = some ⟨oc8, od8, .func (PySem.W.fnOf "_law_cell_at" "_law_cell_at" (defArgs s__law_cell_at) (defBody s__law_cell_at) (defScope s__law_cell_at) .none kV8 dc8 pm8 an8 cd8 ct8), sl8⟩) (c8 : PySem.W.codeIn K cd8 "_law_cell_at" = true) (k8 : PySem.W.keepIn K (.ref f8) = true)
    {f9 : Addr} {od9 an9 : Option Addr} {sl9 : Array (Option Value)} {oc9 kV9 dc9 pm9 cd9 ct9 : Value}
    (a9 : PySem.W.nsIn K mainGlobals "_law_source_of" = some (some (.ref f9)))
    (l9 : K.lookup f9 = some ⟨oc9, od9, .func (PySem.W.fnOf "_law_source_of" "_law_source_of" (defArgs s__law_source_of) (defBody s__law_source_of) (defScope s__law_source_of) .none kV9 dc9 pm9 an9 cd9 ct9), sl9⟩) (c9 : PySem.W.codeIn K cd9 "_law_source_of" = true) (k9 : PySem.W.keepIn K (.ref f9) = true)
    {f10 : Addr} {od10 an10 : Option Addr} {sl10 : Array (Option Value)} {oc10 kV10 dc10 pm10 cd10 ct10 : Value}
    (a10 : PySem.W.nsIn K mainGlobals "_law_next" = some (some (.ref f10)))
    (l10 : K.lookup f10 = some ⟨oc10, od10, .func (PySem.W.fnOf "_law_next" "_law_next" (defArgs s__law_next) (defBody s__law_next) (defScope s__law_next) .none kV10 dc10 pm10 an10 cd10 ct10), sl10⟩) (c10 : PySem.W.codeIn K cd10 "_law_next" = true) (k10 : PySem.W.keepIn K (.ref f10) = true)
    {f11 : Addr} {od11 an11 : Option Addr} {sl11 : Array (Option Value)} {oc11 kV11 dc11 pm11 cd11 ct11 : Value}
    (a11 : PySem.W.nsIn K mainGlobals "_law_table" = some (some (.ref f11)))
    (l11 : K.lookup f11 = some ⟨oc11, od11, .func (PySem.W.fnOf "_law_table" "_law_table" (defArgs s__law_table) (defBody s__law_table) (defScope s__law_table) .none kV11 dc11 pm11 an11 cd11 ct11), sl11⟩) (c11 : PySem.W.codeIn K cd11 "_law_table" = true) (k11 : PySem.W.keepIn K (.ref f11) = true)
    {f12 : Addr} {od12 an12 : Option Addr} {sl12 : Array (Option Value)} {oc12 kV12 dc12 pm12 cd12 ct12 : Value}
    (a12 : PySem.W.nsIn K mainGlobals "_law_pick" = some (some (.ref f12)))
    (l12 : K.lookup f12 = some ⟨oc12, od12, .func (PySem.W.fnOf "_law_pick" "_law_pick" (defArgs s__law_pick) (defBody s__law_pick) (defScope s__law_pick) .none kV12 dc12 pm12 an12 cd12 ct12), sl12⟩) (c12 : PySem.W.codeIn K cd12 "_law_pick" = true) (k12 : PySem.W.keepIn K (.ref f12) = true)
    {f13 : Addr} {od13 an13 : Option Addr} {sl13 : Array (Option Value)} {oc13 kV13 dc13 pm13 cd13 ct13 : Value}
    (a13 : PySem.W.nsIn K mainGlobals "_law_ribbons" = some (some (.ref f13)))
    (l13 : K.lookup f13 = some ⟨oc13, od13, .func (PySem.W.fnOf "_law_ribbons" "_law_ribbons" (defArgs s__law_ribbons) (defBody s__law_ribbons) (defScope s__law_ribbons) .none kV13 dc13 pm13 an13 cd13 ct13), sl13⟩) (c13 : PySem.W.codeIn K cd13 "_law_ribbons" = true) (k13 : PySem.W.keepIn K (.ref f13) = true)
    {f14 : Addr} {od14 an14 : Option Addr} {sl14 : Array (Option Value)} {oc14 kV14 dc14 pm14 cd14 ct14 : Value}
    (a14 : PySem.W.nsIn K mainGlobals "_law_grid" = some (some (.ref f14)))
    (l14 : K.lookup f14 = some ⟨oc14, od14, .func (PySem.W.fnOf "_law_grid" "_law_grid" (defArgs s__law_grid) (defBody s__law_grid) (defScope s__law_grid) .none kV14 dc14 pm14 an14 cd14 ct14), sl14⟩) (c14 : PySem.W.codeIn K cd14 "_law_grid" = true) (k14 : PySem.W.keepIn K (.ref f14) = true)
    {f15 : Addr} {od15 an15 : Option Addr} {sl15 : Array (Option Value)} {oc15 kV15 dc15 pm15 cd15 ct15 : Value}
    (a15 : PySem.W.nsIn K mainGlobals "word_of_format" = some (some (.ref f15)))
    (l15 : K.lookup f15 = some ⟨oc15, od15, .func (PySem.W.fnOf "word_of_format" "word_of_format" (defArgs s_word_of_format) (defBody s_word_of_format) (defScope s_word_of_format) .none kV15 dc15 pm15 an15 cd15 ct15), sl15⟩) (c15 : PySem.W.codeIn K cd15 "word_of_format" = true) (k15 : PySem.W.keepIn K (.ref f15) = true)
    {f16 : Addr} {od16 an16 : Option Addr} {sl16 : Array (Option Value)} {oc16 kV16 dc16 pm16 cd16 ct16 : Value}
    (a16 : PySem.W.nsIn K mainGlobals "ones" = some (some (.ref f16)))
    (l16 : K.lookup f16 = some ⟨oc16, od16, .func (PySem.W.fnOf "ones" "ones" (defArgs s_ones) (defBody s_ones) (defScope s_ones) .none kV16 dc16 pm16 an16 cd16 ct16), sl16⟩) (c16 : PySem.W.codeIn K cd16 "ones" = true) (k16 : PySem.W.keepIn K (.ref f16) = true)
    {f17 : Addr} {od17 an17 : Option Addr} {sl17 : Array (Option Value)} {oc17 kV17 dc17 pm17 cd17 ct17 : Value}
    (a17 : PySem.W.nsIn K mainGlobals "unlike_dots" = some (some (.ref f17)))
    (l17 : K.lookup f17 = some ⟨oc17, od17, .func (PySem.W.fnOf "unlike_dots" "unlike_dots" (defArgs s_unlike_dots) (defBody s_unlike_dots) (defScope s_unlike_dots) .none kV17 dc17 pm17 an17 cd17 ct17), sl17⟩) (c17 : PySem.W.codeIn K cd17 "unlike_dots" = true) (k17 : PySem.W.keepIn K (.ref f17) = true)
    {f18 : Addr} {od18 an18 : Option Addr} {sl18 : Array (Option Value)} {oc18 kV18 dc18 pm18 cd18 ct18 : Value}
    (a18 : PySem.W.nsIn K mainGlobals "seen_strips" = some (some (.ref f18)))
    (l18 : K.lookup f18 = some ⟨oc18, od18, .func (PySem.W.fnOf "seen_strips" "seen_strips" (defArgs s_seen_strips) (defBody s_seen_strips) (defScope s_seen_strips) .none kV18 dc18 pm18 an18 cd18 ct18), sl18⟩) (c18 : PySem.W.codeIn K cd18 "seen_strips" = true) (k18 : PySem.W.keepIn K (.ref f18) = true)
    {f19 : Addr} {od19 an19 : Option Addr} {sl19 : Array (Option Value)} {oc19 kV19 dc19 pm19 cd19 ct19 : Value}
    (a19 : PySem.W.nsIn K mainGlobals "nearest_told" = some (some (.ref f19)))
    (l19 : K.lookup f19 = some ⟨oc19, od19, .func (PySem.W.fnOf "nearest_told" "nearest_told" (defArgs s_nearest_told) (defBody s_nearest_told) (defScope s_nearest_told) .none kV19 dc19 pm19 an19 cd19 ct19), sl19⟩) (c19 : PySem.W.codeIn K cd19 "nearest_told" = true) (k19 : PySem.W.keepIn K (.ref f19) = true)
    {f20 : Addr} {od20 an20 : Option Addr} {sl20 : Array (Option Value)} {oc20 kV20 dc20 pm20 cd20 ct20 : Value}
    (a20 : PySem.W.nsIn K mainGlobals "nearest_format" = some (some (.ref f20)))
    (l20 : K.lookup f20 = some ⟨oc20, od20, .func (PySem.W.fnOf "nearest_format" "nearest_format" (defArgs s_nearest_format) (defBody s_nearest_format) (defScope s_nearest_format) .none kV20 dc20 pm20 an20 cd20 ct20), sl20⟩) (c20 : PySem.W.codeIn K cd20 "nearest_format" = true) (k20 : PySem.W.keepIn K (.ref f20) = true)
    {f21 : Addr} {od21 an21 : Option Addr} {sl21 : Array (Option Value)} {oc21 kV21 dc21 pm21 cd21 ct21 : Value}
    (a21 : PySem.W.nsIn K mainGlobals "unlike_format" = some (some (.ref f21)))
    (l21 : K.lookup f21 = some ⟨oc21, od21, .func (PySem.W.fnOf "unlike_format" "unlike_format" (defArgs s_unlike_format) (defBody s_unlike_format) (defScope s_unlike_format) .none kV21 dc21 pm21 an21 cd21 ct21), sl21⟩) (c21 : PySem.W.codeIn K cd21 "unlike_format" = true) (k21 : PySem.W.keepIn K (.ref f21) = true)
    {f22 : Addr} {od22 an22 : Option Addr} {sl22 : Array (Option Value)} {oc22 kV22 dc22 pm22 cd22 ct22 : Value}
    (a22 : PySem.W.nsIn K mainGlobals "_law_written" = some (some (.ref f22)))
    (l22 : K.lookup f22 = some ⟨oc22, od22, .func (PySem.W.fnOf "_law_written" "_law_written" (defArgs s__law_written) (defBody s__law_written) (defScope s__law_written) .none kV22 dc22 pm22 an22 cd22 ct22), sl22⟩) (c22 : PySem.W.codeIn K cd22 "_law_written" = true) (k22 : PySem.W.keepIn K (.ref f22) = true)
    {f23 : Addr} {od23 an23 : Option Addr} {sl23 : Array (Option Value)} {oc23 kV23 dc23 pm23 cd23 ct23 : Value}
    (a23 : PySem.W.nsIn K mainGlobals "_law_asked" = some (some (.ref f23)))
    (l23 : K.lookup f23 = some ⟨oc23, od23, .func (PySem.W.fnOf "_law_asked" "_law_asked" (defArgs s__law_asked) (defBody s__law_asked) (defScope s__law_asked) .none kV23 dc23 pm23 an23 cd23 ct23), sl23⟩) (c23 : PySem.W.codeIn K cd23 "_law_asked" = true) (k23 : PySem.W.keepIn K (.ref f23) = true)
    {f24 : Addr} {od24 an24 : Option Addr} {sl24 : Array (Option Value)} {oc24 kV24 dc24 pm24 cd24 ct24 : Value}
    (a24 : PySem.W.nsIn K mainGlobals "_law_right" = some (some (.ref f24)))
    (l24 : K.lookup f24 = some ⟨oc24, od24, .func (PySem.W.fnOf "_law_right" "_law_right" (defArgs s__law_right) (defBody s__law_right) (defScope s__law_right) .none kV24 dc24 pm24 an24 cd24 ct24), sl24⟩) (c24 : PySem.W.codeIn K cd24 "_law_right" = true) (k24 : PySem.W.keepIn K (.ref f24) = true)
    {f25 : Addr} {od25 an25 : Option Addr} {sl25 : Array (Option Value)} {oc25 kV25 dc25 pm25 cd25 ct25 : Value}
    (a25 : PySem.W.nsIn K mainGlobals "law" = some (some (.ref f25)))
    (l25 : K.lookup f25 = some ⟨oc25, od25, .func (PySem.W.fnOf "law" "law" (defArgs s_law) (defBody s_law) (defScope s_law) .none kV25 dc25 pm25 an25 cd25 ct25), sl25⟩) (c25 : PySem.W.codeIn K cd25 "law" = true) (k25 : PySem.W.keepIn K (.ref f25) = true)
    (z_bool : PySem.W.nsIn K mainGlobals "bool" = some none)
    (z_divmod : PySem.W.nsIn K mainGlobals "divmod" = some none)
    (z_enumerate : PySem.W.nsIn K mainGlobals "enumerate" = some none)
    (z_int : PySem.W.nsIn K mainGlobals "int" = some none)
    (z_isinstance : PySem.W.nsIn K mainGlobals "isinstance" = some none)
    (z_len : PySem.W.nsIn K mainGlobals "len" = some none)
    (z_list : PySem.W.nsIn K mainGlobals "list" = some none)
    (z_max : PySem.W.nsIn K mainGlobals "max" = some none)
    (z_min : PySem.W.nsIn K mainGlobals "min" = some none)
    (z_range : PySem.W.nsIn K mainGlobals "range" = some none)
    (z_repr : PySem.W.nsIn K mainGlobals "repr" = some none)
    (z_tuple : PySem.W.nsIn K mainGlobals "tuple" = some none)
    (z_type : PySem.W.nsIn K mainGlobals "type" = some none)
    (z_zip : PySem.W.nsIn K mainGlobals "zip" = some none)
    {t_ALL_SEEN : Tok} (a_ALL_SEEN : PySem.W.nsIn K mainGlobals "ALL_SEEN" = some (some (.int 1048575 t_ALL_SEEN)))
    {d_FORMAT_WORDS : Addr} (a_FORMAT_WORDS : PySem.W.nsIn K mainGlobals "FORMAT_WORDS" = some (some (.ref d_FORMAT_WORDS))) (t_FORMAT_WORDS : tupB K d_FORMAT_WORDS [709, 752, 666, 687, 590, 635, 529, 548, 979, 998, 908, 953, 856, 877, 775, 818, 220, 233, 131, 182, 87, 98, 8, 61, 458, 511, 405, 416, 321, 372, 286, 299] = true)
    {t_LEVELS : Tok} (a_LEVELS : PySem.W.nsIn K mainGlobals "LEVELS" = some (some (.int 4 t_LEVELS)))
    {t_MASKS : Tok} (a_MASKS : PySem.W.nsIn K mainGlobals "MASKS" = some (some (.int 8 t_MASKS)))
    {d_SIDES : Addr} (a_SIDES : PySem.W.nsIn K mainGlobals "SIDES" = some (some (.ref d_SIDES))) (t_SIDES : tupB K d_SIDES [8, 12, 16, 20, 24] = true)
    {t_STRIP : Tok} (a_STRIP : PySem.W.nsIn K mainGlobals "STRIP" = some (some (.int 10 t_STRIP)))
    {d_STRIPS : Addr} {n_STRIPS : Nat} {s_STRIPS : Array (Option Value)} {c_STRIPS0 : Addr} {c_STRIPS1 : Addr} {c_STRIPS2 : Addr} {c_STRIPS3 : Addr} {c_STRIPS4 : Addr}
    (a_STRIPS : PySem.W.nsIn K mainGlobals "STRIPS" = some (some (.ref d_STRIPS)))
    (l_STRIPS : K.lookup d_STRIPS = some ⟨.type "tuple", none, .seq #[.ref c_STRIPS0, .ref c_STRIPS1, .ref c_STRIPS2, .ref c_STRIPS3, .ref c_STRIPS4] n_STRIPS, s_STRIPS⟩)
    (t_STRIPS0 : tupB K c_STRIPS0 [9, 10, 11, 12, 13, 14, 17, 18, 19, 20, 49, 41, 33, 25, 50, 42, 34, 26, 51, 43] = true)
    (t_STRIPS1 : tupB K c_STRIPS1 [13, 14, 15, 16, 17, 18, 19, 20, 21, 22, 121, 109, 97, 85, 73, 61, 49, 37, 25, 122] = true)
    (t_STRIPS2 : tupB K c_STRIPS2 [17, 18, 19, 20, 21, 22, 23, 24, 25, 26, 225, 209, 193, 177, 161, 145, 129, 113, 97, 81] = true)
    (t_STRIPS3 : tupB K c_STRIPS3 [21, 22, 23, 24, 25, 26, 27, 28, 29, 30, 361, 341, 321, 301, 281, 261, 241, 221, 201, 181] = true)
    (t_STRIPS4 : tupB K c_STRIPS4 [25, 26, 27, 28, 29, 30, 31, 32, 33, 34, 529, 505, 481, 457, 433, 409, 385, 361, 337, 313] = true)
    : ∃ fd : FuncData, (∀ (s : Shared) (v : Value), BindsTo s fd ⟨[v], []⟩ [("_law_script", v)]) ∧ ∀ base : Heap, K.In base → base.Ns mainGlobals mg → FnG P w K mg base CX0 7 fa fd ["_law_script"] (sp_law K) := by
  have e := hfa.symm.trans (PySem.W.mg_of X G a25)
  cases e
  let T : Txt K mg := {
    f_is_number_to := _
    d_is_number_to := _
    F_is_number_to := fun_mk (st := s_is_number_to) l0 c0 k0
    g_is_number_to := PySem.W.mg_of X G a0
    b_is_number_to := (fun_mk (st := s_is_number_to) l0 c0 k0).binds (ps := ["thing", "least", "most"]) (fun _ _ _ _ _ _ us hl => match us, hl with | [_, _, _], _ => rfl)
    f_need_mask := _
    d_need_mask := _
    F_need_mask := fun_mk (st := s_need_mask) l1 c1 k1
    g_need_mask := PySem.W.mg_of X G a1
    b_need_mask := (fun_mk (st := s_need_mask) l1 c1 k1).binds (ps := ["mask"]) (fun _ _ _ _ _ _ us hl => match us, hl with | [_], _ => rfl)
    f_need_level := _
    d_need_level := _
    F_need_level := fun_mk (st := s_need_level) l2 c2 k2
    g_need_level := PySem.W.mg_of X G a2
    b_need_level := (fun_mk (st := s_need_level) l2 c2 k2).binds (ps := ["level"]) (fun _ _ _ _ _ _ us hl => match us, hl with | [_], _ => rfl)
    f_is_row := _
    d_is_row := _
    F_is_row := fun_mk (st := s_is_row) l3 c3 k3
    g_is_row := PySem.W.mg_of X G a3
    b_is_row := (fun_mk (st := s_is_row) l3 c3 k3).binds (ps := ["thing"]) (fun _ _ _ _ _ _ us hl => match us, hl with | [_], _ => rfl)
    f_is_plain_grid := _
    d_is_plain_grid := _
    F_is_plain_grid := fun_mk (st := s_is_plain_grid) l4 c4 k4
    g_is_plain_grid := PySem.W.mg_of X G a4
    b_is_plain_grid := (fun_mk (st := s_is_plain_grid) l4 c4 k4).binds (ps := ["many", "grid"]) (fun _ _ _ _ _ _ us hl => match us, hl with | [_, _], _ => rfl)
    f_need_dot_rows := _
    d_need_dot_rows := _
    F_need_dot_rows := fun_mk (st := s_need_dot_rows) l5 c5 k5
    g_need_dot_rows := PySem.W.mg_of X G a5
    b_need_dot_rows := (fun_mk (st := s_need_dot_rows) l5 c5 k5).binds (ps := ["many", "grid", "gapped"]) (fun _ _ _ _ _ _ us hl => match us, hl with | [_, _, _], _ => rfl)
    f_need_grid := _
    d_need_grid := _
    F_need_grid := fun_mk (st := s_need_grid) l6 c6 k6
    g_need_grid := PySem.W.mg_of X G a6
    b_need_grid := (fun_mk (st := s_need_grid) l6 c6 k6).binds (ps := ["size", "grid"]) (fun _ _ _ _ _ _ us hl => match us, hl with | [_, _], _ => rfl)
    f_need_size := _
    d_need_size := _
    F_need_size := fun_mk (st := s_need_size) l7 c7 k7
    g_need_size := PySem.W.mg_of X G a7
    b_need_size := (fun_mk (st := s_need_size) l7 c7 k7).binds (ps := ["size"]) (fun _ _ _ _ _ _ us hl => match us, hl with | [_], _ => rfl)
    f__law_cell_at := _
    d__law_cell_at := _
    F__law_cell_at := fun_mk (st := s__law_cell_at) l8 c8 k8
    g__law_cell_at := PySem.W.mg_of X G a8
    b__law_cell_at := (fun_mk (st := s__law_cell_at) l8 c8 k8).binds (ps := ["_law_script", "_law_k"]) (fun _ _ _ _ _ _ us hl => match us, hl with | [_, _], _ => rfl)
    f__law_source_of := _
    d__law_source_of := _
    F__law_source_of := fun_mk (st := s__law_source_of) l9 c9 k9
    g__law_source_of := PySem.W.mg_of X G a9
    b__law_source_of := (fun_mk (st := s__law_source_of) l9 c9 k9).binds (ps := ["_law_cell"]) (fun _ _ _ _ _ _ us hl => match us, hl with | [_], _ => rfl)
    f__law_next := _
    d__law_next := _
    F__law_next := fun_mk (st := s__law_next) l10 c10 k10
    g__law_next := PySem.W.mg_of X G a10
    b__law_next := (fun_mk (st := s__law_next) l10 c10 k10).binds (ps := ["_law_source", "_law_bound"]) (fun _ _ _ _ _ _ us hl => match us, hl with | [_, _], _ => rfl)
    f__law_table := _
    d__law_table := _
    F__law_table := fun_mk (st := s__law_table) l11 c11 k11
    g__law_table := PySem.W.mg_of X G a11
    b__law_table := (fun_mk (st := s__law_table) l11 c11 k11).binds (ps := ["_law_size_so"]) (fun _ _ _ _ _ _ us hl => match us, hl with | [_], _ => rfl)
    f__law_pick := _
    d__law_pick := _
    F__law_pick := fun_mk (st := s__law_pick) l12 c12 k12
    g__law_pick := PySem.W.mg_of X G a12
    b__law_pick := (fun_mk (st := s__law_pick) l12 c12 k12).binds (ps := ["_law_source", "_law_some"]) (fun _ _ _ _ _ _ us hl => match us, hl with | [_, _], _ => rfl)
    f__law_ribbons := _
    d__law_ribbons := _
    F__law_ribbons := fun_mk (st := s__law_ribbons) l13 c13 k13
    g__law_ribbons := PySem.W.mg_of X G a13
    b__law_ribbons := (fun_mk (st := s__law_ribbons) l13 c13 k13).binds (ps := ["_law_many"]) (fun _ _ _ _ _ _ us hl => match us, hl with | [_], _ => rfl)
    f__law_grid := _
    d__law_grid := _
    F__law_grid := fun_mk (st := s__law_grid) l14 c14 k14
    g__law_grid := PySem.W.mg_of X G a14
    b__law_grid := (fun_mk (st := s__law_grid) l14 c14 k14).binds (ps := ["_law_source", "_law_many"]) (fun _ _ _ _ _ _ us hl => match us, hl with | [_, _], _ => rfl)
    f_word_of_format := _
    d_word_of_format := _
    F_word_of_format := fun_mk (st := s_word_of_format) l15 c15 k15
    g_word_of_format := PySem.W.mg_of X G a15
    b_word_of_format := (fun_mk (st := s_word_of_format) l15 c15 k15).binds (ps := ["level", "mask"]) (fun _ _ _ _ _ _ us hl => match us, hl with | [_, _], _ => rfl)
    f_ones := _
    d_ones := _
    F_ones := fun_mk (st := s_ones) l16 c16 k16
    g_ones := PySem.W.mg_of X G a16
    b_ones := (fun_mk (st := s_ones) l16 c16 k16).binds (ps := ["number"]) (fun _ _ _ _ _ _ us hl => match us, hl with | [_], _ => rfl)
    f_unlike_dots := _
    d_unlike_dots := _
    F_unlike_dots := fun_mk (st := s_unlike_dots) l17 c17 k17
    g_unlike_dots := PySem.W.mg_of X G a17
    b_unlike_dots := (fun_mk (st := s_unlike_dots) l17 c17 k17).binds (ps := ["dark", "seen", "word"]) (fun _ _ _ _ _ _ us hl => match us, hl with | [_, _, _], _ => rfl)
    f_seen_strips := _
    d_seen_strips := _
    F_seen_strips := fun_mk (st := s_seen_strips) l18 c18 k18
    g_seen_strips := PySem.W.mg_of X G a18
    b_seen_strips := (fun_mk (st := s_seen_strips) l18 c18 k18).binds (ps := ["size", "grid"]) (fun _ _ _ _ _ _ us hl => match us, hl with | [_, _], _ => rfl)
    f_nearest_told := _
    d_nearest_told := _
    F_nearest_told := fun_mk (st := s_nearest_told) l19 c19 k19
    g_nearest_told := PySem.W.mg_of X G a19
    b_nearest_told := (fun_mk (st := s_nearest_told) l19 c19 k19).binds (ps := ["dark", "seen"]) (fun _ _ _ _ _ _ us hl => match us, hl with | [_, _], _ => rfl)
    f_nearest_format := _
    d_nearest_format := _
    F_nearest_format := fun_mk (st := s_nearest_format) l20 c20 k20
    g_nearest_format := PySem.W.mg_of X G a20
    b_nearest_format := (fun_mk (st := s_nearest_format) l20 c20 k20).binds (ps := ["size", "grid"]) (fun _ _ _ _ _ _ us hl => match us, hl with | [_, _], _ => rfl)
    f_unlike_format := _
    d_unlike_format := _
    F_unlike_format := fun_mk (st := s_unlike_format) l21 c21 k21
    g_unlike_format := PySem.W.mg_of X G a21
    b_unlike_format := (fun_mk (st := s_unlike_format) l21 c21 k21).binds (ps := ["size", "grid", "level", "mask"]) (fun _ _ _ _ _ _ us hl => match us, hl with | [_, _, _, _], _ => rfl)
    f__law_written := _
    d__law_written := _
    F__law_written := fun_mk (st := s__law_written) l22 c22 k22
    g__law_written := PySem.W.mg_of X G a22
    b__law_written := (fun_mk (st := s__law_written) l22 c22 k22).binds (ps := ["_law_level_so", "_law_mask_so"]) (fun _ _ _ _ _ _ us hl => match us, hl with | [_, _], _ => rfl)
    f__law_asked := _
    d__law_asked := _
    F__law_asked := fun_mk (st := s__law_asked) l23 c23 k23
    g__law_asked := PySem.W.mg_of X G a23
    b__law_asked := (fun_mk (st := s__law_asked) l23 c23 k23).binds (ps := ["_law_source", "_law_size_so", "_law_level_so", "_law_mask_so"]) (fun _ _ _ _ _ _ us hl => match us, hl with | [_, _, _, _], _ => rfl)
    f__law_right := _
    d__law_right := _
    F__law_right := fun_mk (st := s__law_right) l24 c24 k24
    g__law_right := PySem.W.mg_of X G a24
    b__law_right := (fun_mk (st := s__law_right) l24 c24 k24).binds (ps := ["_law_source"]) (fun _ _ _ _ _ _ us hl => match us, hl with | [_], _ => rfl)
    f_law := _
    d_law := _
    F_law := fun_mk (st := s_law) l25 c25 k25
    g_law := PySem.W.mg_of X G a25
    b_law := (fun_mk (st := s_law) l25 c25 k25).binds (ps := ["_law_script"]) (fun _ _ _ _ _ _ us hl => match us, hl with | [_], _ => rfl)
    n_bool := PySem.W.mg_none_of X G z_bool
    n_divmod := PySem.W.mg_none_of X G z_divmod
    n_enumerate := PySem.W.mg_none_of X G z_enumerate
    n_int := PySem.W.mg_none_of X G z_int
    n_isinstance := PySem.W.mg_none_of X G z_isinstance
    n_len := PySem.W.mg_none_of X G z_len
    n_list := PySem.W.mg_none_of X G z_list
    n_max := PySem.W.mg_none_of X G z_max
    n_min := PySem.W.mg_none_of X G z_min
    n_range := PySem.W.mg_none_of X G z_range
    n_repr := PySem.W.mg_none_of X G z_repr
    n_tuple := PySem.W.mg_none_of X G z_tuple
    n_type := PySem.W.mg_none_of X G z_type
    n_zip := PySem.W.mg_none_of X G z_zip
    g_ALL_SEEN := ⟨_, PySem.W.mg_of X G a_ALL_SEEN⟩
    a_FORMAT_WORDS := d_FORMAT_WORDS
    g_FORMAT_WORDS := PySem.W.mg_of X G a_FORMAT_WORDS
    l_FORMAT_WORDS := t_FORMAT_WORDS
    g_LEVELS := ⟨_, PySem.W.mg_of X G a_LEVELS⟩
    g_MASKS := ⟨_, PySem.W.mg_of X G a_MASKS⟩
    a_SIDES := d_SIDES
    g_SIDES := PySem.W.mg_of X G a_SIDES
    l_SIDES := t_SIDES
    g_STRIP := ⟨_, PySem.W.mg_of X G a_STRIP⟩
    c_STRIPS0 := c_STRIPS0
    t_STRIPS0 := t_STRIPS0
    c_STRIPS1 := c_STRIPS1
    t_STRIPS1 := t_STRIPS1
    c_STRIPS2 := c_STRIPS2
    t_STRIPS2 := t_STRIPS2
    c_STRIPS3 := c_STRIPS3
    t_STRIPS3 := t_STRIPS3
    c_STRIPS4 := c_STRIPS4
    t_STRIPS4 := t_STRIPS4
    a_STRIPS := d_STRIPS
    g_STRIPS := PySem.W.mg_of X G a_STRIPS
    l_STRIPS := ⟨_, _, l_STRIPS⟩ }
  exact ⟨T.d_law, fun s v => .of_eq rfl, fun base _ _ => ok_law T⟩
end My
open PySem PySem.W PyProof.Rows
set_option maxHeartbeats 0 in
theorem PySem.Challenge.cw_dotquilts_k34_whole_formats_read_holds : PySem.Challenge.rw_dotquilts_k34_whole_formats_read.Holds := by
  w_on; o_law; k_head; (case hw => w_witness2)
  k_fill
  refine My.walkG (l := PySem.Challenge.rw_dotquilts_k34_whole_formats_read) (n := 63) (k := 7) (x := "_law_script") (CX := fun _ => L2.CX0) (sp := fun w => My.sp_law _) rfl (by decide) rfl ⟨rfl, by decide, by decide⟩ (fun w h Y => PySem.W.kIn_of Y) ?F (fun _ _ a ns hl _ hS => ⟨a, ns, rfl, hS, hl, fun _ => rfl⟩) (fun _ _ _ _ _ h => h)
  case F =>
    intro w mg fa h KX G hmg
    refine' My.all_mk KX G hmg ?a0 ?l0 ?c0 ?k0 ?a1 ?l1 ?c1 ?k1 ?a2 ?l2 ?c2 ?k2 ?a3 ?l3 ?c3 ?k3 ?a4 ?l4 ?c4 ?k4 ?a5 ?l5 ?c5 ?k5 ?a6 ?l6 ?c6 ?k6 ?a7 ?l7 ?c7 ?k7 ?a8 ?l8 ?c8 ?k8 ?a9 ?l9 ?c9 ?k9 ?a10 ?l10 ?c10 ?k10 ?a11 ?l11 ?c11 ?k11 ?a12 ?l12 ?c12 ?k12 ?a13 ?l13 ?c13 ?k13 ?a14 ?l14 ?c14 ?k14 ?a15 ?l15 ?c15 ?k15 ?a16 ?l16 ?c16 ?k16 ?a17 ?l17 ?c17 ?k17 ?a18 ?l18 ?c18 ?k18 ?a19 ?l19 ?c19 ?k19 ?a20 ?l20 ?c20 ?k20 ?a21 ?l21 ?c21 ?k21 ?a22 ?l22 ?c22 ?k22 ?a23 ?l23 ?c23 ?k23 ?a24 ?l24 ?c24 ?k24 ?a25 ?l25 ?c25 ?k25 ?z_bool ?z_divmod ?z_enumerate ?z_int ?z_isinstance ?z_len ?z_list ?z_max ?z_min ?z_range ?z_repr ?z_tuple ?z_type ?z_zip ?a_ALL_SEEN ?a_FORMAT_WORDS ?t_FORMAT_WORDS ?a_LEVELS ?a_MASKS ?a_SIDES ?t_SIDES ?a_STRIP ?a_STRIPS ?l_STRIPS ?t_STRIPS0 ?t_STRIPS1 ?t_STRIPS2 ?t_STRIPS3 ?t_STRIPS4
    (case a0 => k_is)
    (case l0 => k_is)
    (case c0 => k_is)
    (case k0 => k_is)
    (case a1 => k_is)
    (case l1 => k_is)
    (case c1 => k_is)
    (case k1 => k_is)
    (case a2 => k_is)
    (case l2 => k_is)
    (case c2 => k_is)
    (case k2 => k_is)
    (case a3 => k_is)
    (case l3 => k_is)
    (case c3 => k_is)
    (case k3 => k_is)
    (case a4 => k_is)
    (case l4 => k_is)
    (case c4 => k_is)
    (case k4 => k_is)
    (case a5 => k_is)
    (case l5 => k_is)
    (case c5 => k_is)
    (case k5 => k_is)
    (case a6 => k_is)
    (case l6 => k_is)
    (case c6 => k_is)
    (case k6 => k_is)
    (case a7 => k_is)
    (case l7 => k_is)
    (case c7 => k_is)
    (case k7 => k_is)
    (case a8 => k_is)
    (case l8 => k_is)
    (case c8 => k_is)
    (case k8 => k_is)
    (case a9 => k_is)
    (case l9 => k_is)
    (case c9 => k_is)
    (case k9 => k_is)
    (case a10 => k_is)
    (case l10 => k_is)
    (case c10 => k_is)
    (case k10 => k_is)
    (case a11 => k_is)
    (case l11 => k_is)
    (case c11 => k_is)
    (case k11 => k_is)
    (case a12 => k_is)
    (case l12 => k_is)
    (case c12 => k_is)
    (case k12 => k_is)
    (case a13 => k_is)
    (case l13 => k_is)
    (case c13 => k_is)
    (case k13 => k_is)
    (case a14 => k_is)
    (case l14 => k_is)
    (case c14 => k_is)
    (case k14 => k_is)
    (case a15 => k_is)
    (case l15 => k_is)
    (case c15 => k_is)
    (case k15 => k_is)
    (case a16 => k_is)
    (case l16 => k_is)
    (case c16 => k_is)
    (case k16 => k_is)
    (case a17 => k_is)
    (case l17 => k_is)
    (case c17 => k_is)
    (case k17 => k_is)
    (case a18 => k_is)
    (case l18 => k_is)
    (case c18 => k_is)
    (case k18 => k_is)
    (case a19 => k_is)
    (case l19 => k_is)
    (case c19 => k_is)
    (case k19 => k_is)
    (case a20 => k_is)
    (case l20 => k_is)
    (case c20 => k_is)
    (case k20 => k_is)
    (case a21 => k_is)
    (case l21 => k_is)
    (case c21 => k_is)
    (case k21 => k_is)
    (case a22 => k_is)
    (case l22 => k_is)
    (case c22 => k_is)
    (case k22 => k_is)
    (case a23 => k_is)
    (case l23 => k_is)
    (case c23 => k_is)
    (case k23 => k_is)
    (case a24 => k_is)
    (case l24 => k_is)
    (case c24 => k_is)
    (case k24 => k_is)
    (case a25 => k_is)
    (case l25 => k_is)
    (case c25 => k_is)
    (case k25 => k_is)
    (case z_bool => k_is)
    (case z_divmod => k_is)
    (case z_enumerate => k_is)
    (case z_int => k_is)
    (case z_isinstance => k_is)
    (case z_len => k_is)
    (case z_list => k_is)
    (case z_max => k_is)
    (case z_min => k_is)
    (case z_range => k_is)
    (case z_repr => k_is)
    (case z_tuple => k_is)
    (case z_type => k_is)
    (case z_zip => k_is)
    (case a_ALL_SEEN => k_is)
    (case a_FORMAT_WORDS => k_is)
    (case t_FORMAT_WORDS => first | rfl | decide +kernel | k_is)
    (case a_LEVELS => k_is)
    (case a_MASKS => k_is)
    (case a_SIDES => k_is)
    (case t_SIDES => first | rfl | decide +kernel | k_is)
    (case a_STRIP => k_is)
    (case a_STRIPS => k_is)
    (case l_STRIPS => k_is)
    (case t_STRIPS0 => first | rfl | decide +kernel | k_is)
    (case t_STRIPS1 => first | rfl | decide +kernel | k_is)
    (case t_STRIPS2 => first | rfl | decide +kernel | k_is)
    (case t_STRIPS3 => first | rfl | decide +kernel | k_is)
    (case t_STRIPS4 => first | rfl | decide +kernel | k_is)
